/- The contract of hull (the specification of layer 2); the error of an inverse. No conditions. -/
import Derived.Test.YtbcefdaflnlhoaaGreatQ19
import Derived.Test.YtbcefdaflnlhoaaGreatQ25
import Derived.Test.YtbcefdaflnlhoaaGreatQ28
import Derived.Test.YtbcefdaflnlhoaaGreatQ26
set_option linter.unusedVariables false
set_option linter.unusedSimpArgs false
set_option linter.constructorNameAsVariable false
namespace Go.Proofs.YtbcefdaflnlhoaaGreat

section
open Go.RowKit

theorem over_ok {ps : List P3} {a b : Int} (ht : tabOk ps = true) (h : inB a b (firstX ps) (lastX ps) = true) : (overS ps a b).2.2 = 0 := by
  obtain ⟨p1, p2⟩ := places_in ht
  have hb : a ≤ b ∧ firstX ps ≤ a ∧ b ≤ lastX ps := by simpa [inB] using h
  have hv : vR a b = true := (vR_iff a b).2 (by omega)
  have he : overE ps a b = 0 := by unfold overE placesS; rw [if_pos ht, if_pos hv, if_pos ht, if_pos h]
  unfold overS; rw [if_pos he]
/-- what Pour returns -/
def pourS (h : HoldD) (f : FillD) (a b e0 e1 : Int) : FillD × Int :=
  if fillErr h f = 0 then
    (if massErr a b e0 e1 = 0 then
      (if a < 0 then (noFill, 1) else
        (if f.st = 4 ∨ f.st = 5 then (noFill, 22) else if f.st = 1 ∨ f.st = 2 then (noFill, 24) else
          movedS h.vol h.id ((volS h f).1 + (litresS a b e0 e1).1) ((volS h f).2 + (litresS a b e0 e1).2) (firstX h.vol) (if f.st = 0 then lastX h.vol else f.x1) (mixS f.d0 f.d1 e0 e1).1 (mixS f.d0 f.d1 e0 e1).2))
    else (noFill, massErr a b e0 e1))
  else (noFill, fillErr h f)
theorem litres_small' {a b c d : Int} (h1 : -1000000000000000 ≤ a ∧ a ≤ b ∧ b ≤ 1000000000000000) (h2 : 100 ≤ c ∧ c ≤ d ∧ d ≤ 2000) :
    -1000000000000000000 ≤ (litresS a b c d).1 ∧ (litresS a b c d).1 ≤ 1000000000000000000 ∧ -1000000000000000000 ≤ (litresS a b c d).2 ∧ (litresS a b c d).2 ≤ 1000000000000000000 := by
  unfold litresS
  dsimp only
  have e1 : 1 ≤ (if a < 0 then c else d) := by split <;> omega
  have e2 : 1 ≤ (if b < 0 then d else c) := by split <;> omega
  have q1 := ediv_between (1000 * a) (if a < 0 then c else d) 1000000000000000000 e1 (by omega) (by omega) (by omega)
  have q2 := ediv_between (-1000 * b) (if b < 0 then d else c) 1000000000000000000 e2 (by omega) (by omega) (by omega)
  omega
theorem fill_dens' {h : HoldD} {f : FillD} (e : fillErr h f = 0) (s : f.st ≠ 0) : densS f.d0 f.d1 = true := by
  have g := (fill_zero e).2
  unfold fillS stateS at g
  simp only [Bool.and_eq_true, Bool.or_eq_true, decide_eq_true_eq, beq_iff_eq] at g
  rcases g.2 with q | q | q
  · exact absurd q.1 s
  · exact q.2.2
  · exact q.2.2
/-- what Draw returns -/
def drawS (h : HoldD) (f : FillD) (a b : Int) : FillD × Int :=
  if fillErr h f = 0 then
    (if errR a b = 0 then
      (if a < 0 then (noFill, 1) else
        (if f.st = 0 ∨ f.st = 4 ∨ f.st = 5 then (noFill, 22) else
          movedS h.vol h.id (max ((volS h f).1 - (litresS a b f.d0 f.d1).2) 0) ((volS h f).2 - (litresS a b f.d0 f.d1).1) (if f.st = 3 then f.x0 else firstX h.vol) (lastX h.vol) f.d0 f.d1))
    else (noFill, errR a b))
  else (noFill, fillErr h f)
end

section
open Go.RowKit

theorem ull_facts {h : HoldD} (e : holdS h = true) (x y : Int) :
    (ullS h.vol x y = (0, 0, 24)) ∨ ((ullS h.vol x y).2.2 = 0 ∧ (x ≤ y → firstX h.vol ≤ (ullS h.vol x y).1 ∧ (ullS h.vol x y).1 ≤ (ullS h.vol x y).2.1 ∧ (ullS h.vol x y).2.1 ≤ lastX h.vol)) := by
  have ht := hold_tab e
  have hle := first_le_last ht
  obtain ⟨f1, f2⟩ := hold_falls e
  have hT := turns_falls (x := x) (y := y) ht f2 f1
  obtain ⟨a, b, q, ha, p1, p2, hb, p3, p4⟩ := inv_facts hle hT.1 hT.2
  have q' : ullS h.vol x y = (if lastX h.vol < a ∨ b = firstX h.vol then (0, 0, 24) else (max (a - 1) (firstX h.vol), min b (lastX h.vol), 0)) := q
  rw [q']
  by_cases g : lastX h.vol < a ∨ b = firstX h.vol
  · rw [if_pos g]; exact .inl rfl
  · rw [if_neg g]
    refine .inr ⟨rfl, fun hxy => ?_⟩
    dsimp only
    have hab : a ≤ b := by
      by_cases g2 : a ≤ b
      · exact g2
      · exfalso
        have h1 := p1 b (by omega) (by omega)
        have h2 := p4 b (by omega) (by omega)
        have h3 := atS_in ht (show firstX h.vol ≤ b by omega) (show b ≤ lastX h.vol by omega)
        simp only [inB, decide_eq_true_eq] at h3
        simp only [besideS, moreF, lessF, if_true, Bool.not_true, Bool.false_eq_true, if_false, decide_eq_true_eq] at h1 h2
        omega
    omega
theorem ull_below {h : HoldD} (e : holdS h = true) {x y : Int} (hy : y < 0) : ullS h.vol x y = (0, 0, 24) := by
  obtain ⟨_, ⟨m1, _, _⟩, _⟩ := hold_parts e
  have ht := hold_tab e
  have hle := first_le_last ht
  obtain ⟨f1, f2⟩ := hold_falls e
  have hT := turns_falls (x := x) (y := y) ht f2 f1
  obtain ⟨a, b, q, ha, p1, p2, hb, p3, p4⟩ := inv_facts hle hT.1 hT.2
  have q' : ullS h.vol x y = (if lastX h.vol < a ∨ b = firstX h.vol then (0, 0, 24) else (max (a - 1) (firstX h.vol), min b (lastX h.vol), 0)) := q
  rw [q', if_pos]
  left
  by_cases g : lastX h.vol < a
  · exact g
  · exfalso
    have h1 := p2 (lastX h.vol) (by omega) (by omega)
    have h2 := atS_nonneg m1 hle (Int.le_refl _)
    simp only [besideS, moreF, if_true, decide_eq_false_iff_not] at h1
    omega
theorem meet_in {a b c d : Int} (h1 : a ≤ b) (h2 : c ≤ d) (h3 : 0 ≤ a) (h4 : 0 ≤ c) (h5 : b ≤ 1000000) (h6 : d ≤ 1000000) : meetS a b c d = (if max a c ≤ min b d then (max a c, min b d, 0) else (0, 0, 3)) := by
  have v1 : vR a b = true := (vR_iff a b).2 (by omega)
  have v2 : vR c d = true := (vR_iff c d).2 (by omega)
  unfold meetS
  exact twoS_yes (by rw [v1, v2]; rfl)
theorem mix_none (a b : Int) : mixS 0 0 a b = (a, b) := by unfold mixS; rfl
theorem mix_both {a b c d : Int} (h1 : densS a b = true) (h2 : densS c d = true) : mixS a b c d = (min a c, max b d) := by
  obtain ⟨p1, p2, p3⟩ := dens_in h1
  obtain ⟨q1, q2, q3⟩ := dens_in h2
  have v1 : vR a b = true := (vR_iff a b).2 (by omega)
  have v2 : vR c d = true := (vR_iff c d).2 (by omega)
  unfold mixS
  rw [if_neg (by simp; omega), if_neg (by simp; omega)]
  unfold hulS hullS
  rw [twoS_yes (by rw [v1, v2]; rfl)]
/-- what Pour of the specification returns -/
def pourR (h : HoldD) (f : FillD) (a b e0 e1 : Int) : FillD × Int :=
  if fillErr h f = 0 then
    (if massErr a b e0 e1 = 0 then
      (if a < 0 then (noFill, 1) else
        (if f.st = 4 ∨ f.st = 5 then (noFill, 22) else if f.st = 1 ∨ f.st = 2 then (noFill, 24) else
          (if (ullS h.vol ((volS h f).1 + (litresS a b e0 e1).1) ((volS h f).2 + (litresS a b e0 e1).2)).2.2 = 0 then
            (if f.st = 3 then
              (if f.x1 < (ullS h.vol ((volS h f).1 + (litresS a b e0 e1).1) ((volS h f).2 + (litresS a b e0 e1).2)).1 then (noFill, 24)
                else (⟨h.id, 3, (ullS h.vol ((volS h f).1 + (litresS a b e0 e1).1) ((volS h f).2 + (litresS a b e0 e1).2)).1, min (ullS h.vol ((volS h f).1 + (litresS a b e0 e1).1) ((volS h f).2 + (litresS a b e0 e1).2)).2.1 f.x1, min e0 f.d0, max e1 f.d1⟩, 0))
              else (⟨h.id, 3, (ullS h.vol ((volS h f).1 + (litresS a b e0 e1).1) ((volS h f).2 + (litresS a b e0 e1).2)).1, (ullS h.vol ((volS h f).1 + (litresS a b e0 e1).1) ((volS h f).2 + (litresS a b e0 e1).2)).2.1, e0, e1⟩, 0))
            else (noFill, 24))))
    else (noFill, massErr a b e0 e1))
  else (noFill, fillErr h f)
theorem litres_order {a b c d : Int} (h0 : 0 ≤ a) (h1 : a ≤ b) (h2 : 100 ≤ c ∧ c ≤ d ∧ d ≤ 2000) : (litresS a b c d).1 ≤ (litresS a b c d).2 := by
  rw [litres_minmax a b c d (by omega) h2.2.1]
  dsimp only
  have q1 : 1000 * a / c ≤ 1000 * b / c := Int.ediv_le_ediv (by omega) (by omega)
  have q2 : 1000 * b / c ≤ -(-1000 * b / c) := by
    have r1 := Int.ediv_mul_le (1000 * b) (show c ≠ 0 by omega)
    have r2 := Int.ediv_mul_le (-1000 * b) (show c ≠ 0 by omega)
    have r3 : (1000 * b / c + -1000 * b / c) * c ≤ 0 := by rw [Int.add_mul]; omega
    have r4 : 1000 * b / c + -1000 * b / c ≤ 0 := by
      by_cases g : 1000 * b / c + -1000 * b / c ≤ 0
      · exact g
      · have := Int.mul_le_mul (show (1 : Int) ≤ 1000 * b / c + -1000 * b / c by omega) (show (1 : Int) ≤ c by omega) (by omega) (by omega)
        omega
    omega
  omega
theorem fill_empty {h : HoldD} {f : FillD} (e : fillErr h f = 0) (s : f.st = 0) : f.d0 = 0 ∧ f.d1 = 0 := by
  have g := (fill_zero e).2
  unfold fillS stateS at g
  simp only [Bool.and_eq_true, Bool.or_eq_true, decide_eq_true_eq, beq_iff_eq] at g
  omega
theorem pour_same (h : HoldD) (f : FillD) (a b e0 e1 : Int) : pourR h f a b e0 e1 = pourS h f a b e0 e1 := by
  unfold pourR pourS
  by_cases g1 : fillErr h f = 0
  rotate_left
  · rw [if_neg g1, if_neg g1]
  rw [if_pos g1, if_pos g1]
  by_cases g2 : massErr a b e0 e1 = 0
  rotate_left
  · rw [if_neg g2, if_neg g2]
  rw [if_pos g2, if_pos g2]
  by_cases g3 : a < 0
  · rw [if_pos g3, if_pos g3]
  rw [if_neg g3, if_neg g3]
  by_cases g4 : f.st = 4 ∨ f.st = 5
  · rw [if_pos g4, if_pos g4]
  rw [if_neg g4, if_neg g4]
  by_cases g5 : f.st = 1 ∨ f.st = 2
  · rw [if_pos g5, if_pos g5]
  rw [if_neg g5, if_neg g5]
  obtain ⟨q0, q5⟩ := fill_state g1
  obtain ⟨z1, z2⟩ := massErr_zero g2
  have z3 := (vR_iff a b).1 z1
  have hl := litres_order (show 0 ≤ a by omega) z3.1 (dens_in z2)
  obtain ⟨b1, b2, b3⟩ := vol_amt g1
  have hv := (fill_zero g1).1
  have ht := hold_tab hv
  obtain ⟨pl1, pl2⟩ := places_in ht
  have hle := first_le_last ht
  obtain ⟨x, hx⟩ : ∃ x, (volS h f).1 + (litresS a b e0 e1).1 = x := ⟨_, rfl⟩
  obtain ⟨y, hy⟩ : ∃ y, (volS h f).2 + (litresS a b e0 e1).2 = y := ⟨_, rfl⟩
  have hxy : x ≤ y := by omega
  rw [hx, hy]
  unfold movedS
  rcases ull_facts hv x y with hU | ⟨hU, hin⟩
  · rw [hU]; rw [if_neg (show ¬ ((0 : Int), (0 : Int), (24 : Int)).2.2 = 0 by decide), if_neg (show ¬ ((0 : Int), (0 : Int), (24 : Int)).2.2 = 0 by decide)]
  rw [if_pos hU, if_pos hU]
  obtain ⟨i1, i2, i3⟩ := hin hxy
  by_cases s3 : f.st = 3
  · have hp := fill_place g1 (by omega)
    simp only [inB, decide_eq_true_eq] at hp
    rw [if_pos s3, if_neg (show ¬ f.st = 0 by omega), meet_in i2 (show firstX h.vol ≤ f.x1 by omega) (by omega) pl1 (by omega) (by omega), mix_both (fill_dens' g1 (by omega)) z2]
    by_cases g6 : f.x1 < (ullS h.vol x y).1
    · rw [if_pos g6, if_neg (show ¬ max (ullS h.vol x y).1 (firstX h.vol) ≤ min (ullS h.vol x y).2.1 f.x1 by omega)]
      rw [if_neg (show ¬ ((0 : Int), (0 : Int), (3 : Int)).2.2 = 0 by decide)]
    · rw [if_neg g6, if_pos (show max (ullS h.vol x y).1 (firstX h.vol) ≤ min (ullS h.vol x y).2.1 f.x1 by omega)]
      rw [if_pos rfl]
      have e1' : max (ullS h.vol x y).1 (firstX h.vol) = (ullS h.vol x y).1 := by omega
      dsimp only
      rw [e1', Int.min_comm e0, Int.max_comm e1]
  · have s0 : f.st = 0 := by omega
    obtain ⟨d1, d2⟩ := fill_empty g1 s0
    rw [if_neg s3, if_pos s0, d1, d2, mix_none, meet_in i2 hle (by omega) pl1 (by omega) pl2]
    rw [if_pos (show max (ullS h.vol x y).1 (firstX h.vol) ≤ min (ullS h.vol x y).2.1 (lastX h.vol) by omega)]
    rw [if_pos rfl]
    have e1' : max (ullS h.vol x y).1 (firstX h.vol) = (ullS h.vol x y).1 := by omega
    have e2' : min (ullS h.vol x y).2.1 (lastX h.vol) = (ullS h.vol x y).2.1 := by omega
    dsimp only
    rw [e1', e2']
/-- what Draw of the specification returns -/
def drawR (h : HoldD) (f : FillD) (a b : Int) : FillD × Int :=
  if fillErr h f = 0 then
    (if errR a b = 0 then
      (if a < 0 then (noFill, 1) else
        (if f.st = 0 ∨ f.st = 4 ∨ f.st = 5 then (noFill, 22) else
          (if (ullS h.vol (max ((volS h f).1 - (litresS a b f.d0 f.d1).2) 0) ((volS h f).2 - (litresS a b f.d0 f.d1).1)).2.2 = 0 then
            (if f.st = 3 then
              (if (ullS h.vol (max ((volS h f).1 - (litresS a b f.d0 f.d1).2) 0) ((volS h f).2 - (litresS a b f.d0 f.d1).1)).2.1 < f.x0 then (noFill, 24)
                else (⟨h.id, 3, max (ullS h.vol (max ((volS h f).1 - (litresS a b f.d0 f.d1).2) 0) ((volS h f).2 - (litresS a b f.d0 f.d1).1)).1 f.x0, (ullS h.vol (max ((volS h f).1 - (litresS a b f.d0 f.d1).2) 0) ((volS h f).2 - (litresS a b f.d0 f.d1).1)).2.1, f.d0, f.d1⟩, 0))
              else (⟨h.id, 3, (ullS h.vol (max ((volS h f).1 - (litresS a b f.d0 f.d1).2) 0) ((volS h f).2 - (litresS a b f.d0 f.d1).1)).1, (ullS h.vol (max ((volS h f).1 - (litresS a b f.d0 f.d1).2) 0) ((volS h f).2 - (litresS a b f.d0 f.d1).1)).2.1, f.d0, f.d1⟩, 0))
            else (noFill, 24))))
    else (noFill, errR a b))
  else (noFill, fillErr h f)
theorem errR_zero {a b : Int} (h : errR a b = 0) : vR a b = true := by
  unfold errR at h
  split at h
  · assumption
  · omega
theorem draw_same (h : HoldD) (f : FillD) (a b : Int) : drawR h f a b = drawS h f a b := by
  unfold drawR drawS
  by_cases g1 : fillErr h f = 0
  rotate_left
  · rw [if_neg g1, if_neg g1]
  rw [if_pos g1, if_pos g1]
  by_cases g2 : errR a b = 0
  rotate_left
  · rw [if_neg g2, if_neg g2]
  rw [if_pos g2, if_pos g2]
  by_cases g3 : a < 0
  · rw [if_pos g3, if_pos g3]
  rw [if_neg g3, if_neg g3]
  by_cases g4 : f.st = 0 ∨ f.st = 4 ∨ f.st = 5
  · rw [if_pos g4, if_pos g4]
  rw [if_neg g4, if_neg g4]
  obtain ⟨q0, q5⟩ := fill_state g1
  have z1 := errR_zero g2
  have z2 := fill_dens' g1 (show f.st ≠ 0 by omega)
  have z3 := (vR_iff a b).1 z1
  have hl := litres_order (show 0 ≤ a by omega) z3.1 (dens_in z2)
  obtain ⟨b1, b2, b3⟩ := vol_amt g1
  have hv := (fill_zero g1).1
  have ht := hold_tab hv
  obtain ⟨pl1, pl2⟩ := places_in ht
  have hle := first_le_last ht
  obtain ⟨x, hx⟩ : ∃ x, max ((volS h f).1 - (litresS a b f.d0 f.d1).2) 0 = x := ⟨_, rfl⟩
  obtain ⟨y, hy⟩ : ∃ y, (volS h f).2 - (litresS a b f.d0 f.d1).1 = y := ⟨_, rfl⟩
  rw [hx, hy]
  unfold movedS
  rcases ull_facts hv x y with hU | ⟨hU, hin⟩
  · rw [hU]; rw [if_neg (show ¬ ((0 : Int), (0 : Int), (24 : Int)).2.2 = 0 by decide), if_neg (show ¬ ((0 : Int), (0 : Int), (24 : Int)).2.2 = 0 by decide)]
  have hxy : x ≤ y := by
    by_cases g : y < 0
    · have := ull_below hv (x := x) g
      rw [this] at hU
      exact absurd hU (by decide)
    · omega
  rw [if_pos hU, if_pos hU]
  obtain ⟨i1, i2, i3⟩ := hin hxy
  by_cases s3 : f.st = 3
  · have hp := fill_place g1 (by omega)
    simp only [inB, decide_eq_true_eq] at hp
    rw [if_pos s3, if_pos s3, meet_in i2 (show f.x0 ≤ lastX h.vol by omega) (by omega) (by omega) (by omega) pl2]
    by_cases g6 : (ullS h.vol x y).2.1 < f.x0
    · rw [if_pos g6, if_neg (show ¬ max (ullS h.vol x y).1 f.x0 ≤ min (ullS h.vol x y).2.1 (lastX h.vol) by omega)]
      rw [if_neg (show ¬ ((0 : Int), (0 : Int), (3 : Int)).2.2 = 0 by decide)]
    · rw [if_neg g6, if_pos (show max (ullS h.vol x y).1 f.x0 ≤ min (ullS h.vol x y).2.1 (lastX h.vol) by omega)]
      rw [if_pos rfl]
      have e1' : min (ullS h.vol x y).2.1 (lastX h.vol) = (ullS h.vol x y).2.1 := by omega
      dsimp only
      rw [e1']
  · rw [if_neg s3, if_neg s3, meet_in i2 hle (by omega) pl1 (by omega) pl2]
    rw [if_pos (show max (ullS h.vol x y).1 (firstX h.vol) ≤ min (ullS h.vol x y).2.1 (lastX h.vol) by omega)]
    rw [if_pos rfl]
    have e1' : max (ullS h.vol x y).1 (firstX h.vol) = (ullS h.vol x y).1 := by omega
    have e2' : min (ullS h.vol x y).2.1 (lastX h.vol) = (ullS h.vol x y).2.1 := by omega
    dsimp only
    rw [e1', e2']
end

section
open Go.RowKit
attribute [local go_sem ↓] run_minI run_maxI
/-- The error of an inverse is 24 or none. -/
theorem invS_err24' (f g : Int → Bool) (lo hi : Int) : (invS f g lo hi).2.2 = 0 ∨ (invS f g lo hi).2.2 = 24 := by
  unfold invS
  split
  · exact .inr rfl
  · exact .inl rfl
set_option maxRecDepth 100000 in
set_option maxHeartbeats 4000000 in
theorem shull_any (a b c d : Int) (w : World) : Calls Tryz.prog 73 #[rv a b, rv c d] w fun e w' => e = .returned (rv (min a c) (max b d)) ∧ Below w.heap.size w w' := by
  have HE := Lib.hid (show Below w.heap.size w (((w.alloc (.cells #[.int .i64 a, .int .i64 b] 23)).alloc (.cells #[.int .i64 c, .int .i64 d] 23)).alloc (.cells #[.int .i64 (min a c), .int .i64 (max b d)] 23)) from below_a3 (Below.refl _ _))
  go_enter Tryz.func73, Tryz.ntmps73
  go_wp2
  exact bodyPost_ret (v := rv (min a c) (max b d)) (by simp [results, Tryz.results73, go_sem]) rfl ⟨rfl, HE.out⟩
end

end Go.Proofs.YtbcefdaflnlhoaaGreat
