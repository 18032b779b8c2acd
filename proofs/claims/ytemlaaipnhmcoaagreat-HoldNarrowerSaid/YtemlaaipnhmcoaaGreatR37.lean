/- Plain: the hold that numbers describe is valid; a value of a curve lies within Over. -/
import Derived.Test.YtemlaaipnhmcoaaGreatR22
import Derived.Test.YtemlaaipnhmcoaaGreatR10
import Derived.Test.YtemlaaipnhmcoaaGreatR11
import Derived.Test.YtemlaaipnhmcoaaGreatR30
import Derived.Deep.RegionHeld3
import Derived.Deep.DeepCutAuto
import Derived.Test.YtemlaaipnhmcoaaGreatR33
import Derived.Test.YtemlaaipnhmcoaaGreatR36
import Derived.Test.YtemlaaipnhmcoaaGreatR08
import Derived.Test.YtemlaaipnhmcoaaGreatR18
import Derived.Test.YtemlaaipnhmcoaaGreatR35
set_option linter.unusedVariables false
set_option linter.unusedSimpArgs false
set_option linter.constructorNameAsVariable false
namespace Go.Proofs.YtemlaaipnhmcoaaGreat

section
open Go.RowKit
attribute [local go_sem ↓] run_minI run_maxI
def mm (s r : Int × Int) : Int × Int := (min s.1 r.1, max s.2 r.2)
end

section
open Go.RowKit

theorem pAt_low_down {p q : P3} (h : q.2.1 ≤ p.2.1) : ∀ x y, x ≤ y → (pAt p q y).1 ≤ (pAt p q x).1 :=
  fun x y k => by have := riseS_down (D := q.1 - p.1) (show x - p.1 ≤ y - p.1 by omega) (show q.2.1 - p.2.1 ≤ 0 by omega); simp only [pAt]; omega
theorem pAt_low_up {p q : P3} (h : p.2.1 ≤ q.2.1) : ∀ x y, x ≤ y → (pAt p q x).1 ≤ (pAt p q y).1 :=
  fun x y k => by have := riseS_up (D := q.1 - p.1) (show x - p.1 ≤ y - p.1 by omega) (show 0 ≤ q.2.1 - p.2.1 by omega); simp only [pAt]; omega
theorem pAt_high_down {p q : P3} (h : q.2.2 ≤ p.2.2) : ∀ x y, x ≤ y → (pAt p q y).2 ≤ (pAt p q x).2 :=
  fun x y k => by have := riseS_up (D := q.1 - p.1) (show x - p.1 ≤ y - p.1 by omega) (show 0 ≤ p.2.2 - q.2.2 by omega); simp only [pAt]; omega
theorem pAt_high_up {p q : P3} (h : p.2.2 ≤ q.2.2) : ∀ x y, x ≤ y → (pAt p q x).2 ≤ (pAt p q y).2 :=
  fun x y k => by have := riseS_down (D := q.1 - p.1) (show x - p.1 ≤ y - p.1 by omega) (show p.2.2 - q.2.2 ≤ 0 by omega); simp only [pAt]; omega

theorem falls_next {ps : List P3} (h : fallsS ps = true) : ∀ (i : Nat) (p q : P3), ps[i]? = some p → ps[i + 1]? = some q → q.2.1 ≤ p.2.1 ∧ q.2.2 ≤ p.2.2 := by
  induction ps with
  | nil => intro i p q hp; simp at hp
  | cons a r ih =>
    cases r with
    | nil => intro i p q hp hq; simp at hq
    | cons b r =>
      simp only [fallsS, Bool.and_eq_true, decide_eq_true_eq] at h
      intro i p q hp hq
      cases i with
      | zero => simp at hp hq; subst hp; subst hq; exact h.1
      | succ i => exact ih h.2 i p q (by simpa using hp) (by simpa using hq)
theorem falls_le {ps : List P3} (h : fallsS ps = true) : ∀ (k i : Nat) (p q : P3), ps[i]? = some p → ps[i + k]? = some q → q.2.1 ≤ p.2.1 ∧ q.2.2 ≤ p.2.2
  | 0, i, p, q, hp, hq => by rw [Nat.add_zero, hp] at hq; injection hq with hq; subst hq; exact ⟨Int.le_refl _, Int.le_refl _⟩
  | k + 1, i, p, q, hp, hq => by
    have hl : i + k < ps.length := by have := (List.getElem?_eq_some_iff.1 hq).1; omega
    have h1 := falls_le h k i p _ hp (List.getElem?_eq_getElem hl)
    have h2 := falls_next h (i + k) _ q (List.getElem?_eq_getElem hl) hq
    omega
theorem at_falls {ps : List P3} (ht : tabOk ps = true) (h2 : 2 ≤ ps.length) (hf : fallsS ps = true) {x y : Int} (h0 : firstX ps ≤ x) (h : x ≤ y) (h1 : y ≤ lastX ps) : (atS ps y).1 ≤ (atS ps x).1 ∧ (atS ps y).2 ≤ (atS ps x).2 := by
  by_cases hxy : x = y
  · subst hxy; exact ⟨Int.le_refl _, Int.le_refl _⟩
  obtain ⟨i, pq, hi, b1, b2, _⟩ := piece_at ht h0 (show x ≤ lastX ps by omega)
  obtain ⟨j, rs, hj, c1, c2, _⟩ := piece_at ht (show firstX ps ≤ y by omega) h1
  have i1 : ps[i]? = some pq.1 := by have h3 := hi; rw [pcs_two h2, List.getElem?_zip_eq_some] at h3; exact h3.1
  have i2 := pcs_before h2 hi
  have j1 : ps[j]? = some rs.1 := by have h3 := hj; rw [pcs_two h2, List.getElem?_zip_eq_some] at h3; exact h3.1
  have j2 := pcs_before h2 hj
  have s1 := falls_next hf i _ _ i1 i2
  have s2 := falls_next hf j _ _ j1 j2
  rcases Nat.lt_trichotomy i j with c | c | c
  · obtain ⟨k, rfl⟩ : ∃ k, j = i + 1 + k := ⟨j - (i + 1), by omega⟩
    have s3 := falls_le hf k (i + 1) _ _ i2 j1
    have e1 := atS_any ht hi b1 b2
    have e2 := atS_any ht hj c1 c2
    have m1 := piece_mem ht hi
    have m2 := piece_mem ht hj
    have e3 := atS_any ht hi m1.2.2 (Int.le_refl _)
    rw [atS_point ht m1.2.1] at e3
    have e4 := pAt_start rs.1 rs.2
    have w1 := pAt_low_down s1.1 _ _ b2
    have w2 := pAt_high_down s1.2 _ _ b2
    have w3 := pAt_low_down s2.1 _ _ c1
    have w4 := pAt_high_down s2.2 _ _ c1
    rw [← e3] at w1 w2
    rw [e4] at w3 w4
    rw [e1, e2]
    dsimp only at w1 w2 w3 w4
    omega
  · subst c
    rw [hi] at hj; injection hj with hj; subst hj
    rw [atS_any ht hi b1 b2, atS_any ht hi c1 c2]
    exact ⟨pAt_low_down s1.1 _ _ h, pAt_high_down s1.2 _ _ h⟩
  · have := piece_start ht hi hj c
    omega

theorem rises_next {ps : List P3} (h : risesS ps = true) : ∀ (i : Nat) (p q : P3), ps[i]? = some p → ps[i + 1]? = some q → p.2.1 ≤ q.2.1 ∧ p.2.2 ≤ q.2.2 := by
  induction ps with
  | nil => intro i p q hp; simp at hp
  | cons a r ih =>
    cases r with
    | nil => intro i p q hp hq; simp at hq
    | cons b r =>
      simp only [risesS, Bool.and_eq_true, decide_eq_true_eq] at h
      intro i p q hp hq
      cases i with
      | zero => simp at hp hq; subst hp; subst hq; exact h.1
      | succ i => exact ih h.2 i p q (by simpa using hp) (by simpa using hq)
theorem rises_le {ps : List P3} (h : risesS ps = true) : ∀ (k i : Nat) (p q : P3), ps[i]? = some p → ps[i + k]? = some q → p.2.1 ≤ q.2.1 ∧ p.2.2 ≤ q.2.2
  | 0, i, p, q, hp, hq => by rw [Nat.add_zero, hp] at hq; injection hq with hq; subst hq; exact ⟨Int.le_refl _, Int.le_refl _⟩
  | k + 1, i, p, q, hp, hq => by
    have hl : i + k < ps.length := by have := (List.getElem?_eq_some_iff.1 hq).1; omega
    have h1 := rises_le h k i p _ hp (List.getElem?_eq_getElem hl)
    have h2 := rises_next h (i + k) _ q (List.getElem?_eq_getElem hl) hq
    omega
theorem at_rises {ps : List P3} (ht : tabOk ps = true) (h2 : 2 ≤ ps.length) (hf : risesS ps = true) {x y : Int} (h0 : firstX ps ≤ x) (h : x ≤ y) (h1 : y ≤ lastX ps) : (atS ps x).1 ≤ (atS ps y).1 ∧ (atS ps x).2 ≤ (atS ps y).2 := by
  by_cases hxy : x = y
  · subst hxy; exact ⟨Int.le_refl _, Int.le_refl _⟩
  obtain ⟨i, pq, hi, b1, b2, _⟩ := piece_at ht h0 (show x ≤ lastX ps by omega)
  obtain ⟨j, rs, hj, c1, c2, _⟩ := piece_at ht (show firstX ps ≤ y by omega) h1
  have i1 : ps[i]? = some pq.1 := by have h3 := hi; rw [pcs_two h2, List.getElem?_zip_eq_some] at h3; exact h3.1
  have i2 := pcs_before h2 hi
  have j1 : ps[j]? = some rs.1 := by have h3 := hj; rw [pcs_two h2, List.getElem?_zip_eq_some] at h3; exact h3.1
  have j2 := pcs_before h2 hj
  have s1 := rises_next hf i _ _ i1 i2
  have s2 := rises_next hf j _ _ j1 j2
  rcases Nat.lt_trichotomy i j with c | c | c
  · obtain ⟨k, rfl⟩ : ∃ k, j = i + 1 + k := ⟨j - (i + 1), by omega⟩
    have s3 := rises_le hf k (i + 1) _ _ i2 j1
    have e1 := atS_any ht hi b1 b2
    have e2 := atS_any ht hj c1 c2
    have m1 := piece_mem ht hi
    have m2 := piece_mem ht hj
    have e3 := atS_any ht hi m1.2.2 (Int.le_refl _)
    rw [atS_point ht m1.2.1] at e3
    have e4 := pAt_start rs.1 rs.2
    have w1 := pAt_low_up s1.1 _ _ b2
    have w2 := pAt_high_up s1.2 _ _ b2
    have w3 := pAt_low_up s2.1 _ _ c1
    have w4 := pAt_high_up s2.2 _ _ c1
    rw [← e3] at w1 w2
    rw [e4] at w3 w4
    rw [e1, e2]
    dsimp only at w1 w2 w3 w4
    omega
  · subst c
    rw [hi] at hj; injection hj with hj; subst hj
    rw [atS_any ht hi b1 b2, atS_any ht hi c1 c2]
    exact ⟨pAt_low_up s1.1 _ _ h, pAt_high_up s1.2 _ _ h⟩
  · have := piece_start ht hi hj c
    omega
end

section
open Go.RowKit

def heavyS (a b c d : Int) : Int × Int := ((a * c) / 1000, (b * d + 999) / 1000)
end

section
open Go.RowKit

theorem dense_heavy (a b c d : Int) (h1 : 0 ≤ a) (h2 : a ≤ b) (h3 : b ≤ 1000000000) (h4 : 0 ≤ c) (h5 : c ≤ d) (h6 : d ≤ 2000) :
    (denseS a b c d).1 = (heavyS a b c d).1 ∧ (denseS a b c d).2.1 = (heavyS a b c d).2 := by
  have e1 : a * c ≤ a * d := Int.mul_le_mul_of_nonneg_left h5 h1
  have e2 : b * c ≤ b * d := Int.mul_le_mul_of_nonneg_left h5 (by omega)
  have e3 : a * c ≤ b * c := Int.mul_le_mul_of_nonneg_right h2 h4
  have e4 : a * d ≤ b * d := Int.mul_le_mul_of_nonneg_right h2 (by omega)
  have e5 : 0 ≤ a * c := Int.mul_nonneg h1 h4
  have e6 : b * d ≤ 1000000000 * 2000 := Int.mul_le_mul h3 h6 (by omega) (by omega)
  have v1 : vR a b = true := (vR_iff a b).2 (by omega)
  have v2 : vR c d = true := (vR_iff c d).2 (by omega)
  have m1 : min (min (min (a * c) (a * d)) (b * c)) (b * d) = a * c := by omega
  have m2 : max (max (max (a * c) (a * d)) (b * c)) (b * d) = b * d := by omega
  have v3 : vR (a * c) (b * d) = true := (vR_iff _ _).2 (by omega)
  have em : mulS a b c d = (a * c, b * d, 0) := by
    unfold mulS twoS
    rw [m1, m2]
    unfold bigS
    simp [v1, v2, v3]
  have v4 : vR (a * c * 1 / 1000) (-(-(b * d) * 1 / 1000)) = true := (vR_iff _ _).2 (by omega)
  have es : denseS a b c d = (a * c * 1 / 1000, -(-(b * d) * 1 / 1000), 0) := by
    unfold denseS
    rw [em]
    unfold scaleS
    dsimp only
    rw [if_pos v3, if_pos (by omega), if_neg (by omega)]
    unfold bigS
    rw [if_pos v4]
  rw [es]
  unfold heavyS
  dsimp only
  constructor <;> omega
end

section
open Go.RowKit

theorem foldG_all {lo hi : Int} : ∀ (l : List (Int × Int)) (s : Int × Int × Bool), s.2.2 = true → lo ≤ s.1 → s.1 ≤ s.2.1 → s.2.1 ≤ hi → (∀ r ∈ l, lo ≤ r.1 ∧ r.1 ≤ r.2 ∧ r.2 ≤ hi) →
    lo ≤ (l.foldl stepG s).1 ∧ (l.foldl stepG s).1 ≤ (l.foldl stepG s).2.1 ∧ (l.foldl stepG s).2.1 ≤ hi
  | [], s, _, h1, h2, h3, _ => ⟨h1, h2, h3⟩
  | z :: l, s, h, h1, h2, h3, hl => by
    rw [List.foldl_cons]
    have e : stepG s z = (min s.1 z.1, max s.2.1 z.2, true) := by unfold stepG; rw [if_pos h]
    rw [e]
    have hz := hl z (by simp)
    exact foldG_all l _ rfl (by dsimp only; omega) (by dsimp only; omega) (by dsimp only; omega) (fun r hr => hl r (by simp [hr]))
theorem foldG_in {lo hi : Int} {l : List (Int × Int)} (hne : l ≠ []) (hl : ∀ r ∈ l, lo ≤ r.1 ∧ r.1 ≤ r.2 ∧ r.2 ≤ hi) : lo ≤ (foldG l).1 ∧ (foldG l).1 ≤ (foldG l).2.1 ∧ (foldG l).2.1 ≤ hi := by
  cases l with
  | nil => exact absurd rfl hne
  | cons z l =>
    unfold foldG
    rw [List.foldl_cons]
    have e : stepG (0, 0, false) z = (z.1, z.2, true) := rfl
    rw [e]
    have hz := hl z (by simp)
    exact foldG_all l _ rfl hz.1 hz.2.1 hz.2.2 (fun r hr => hl r (by simp [hr]))
theorem atS_nonneg {ps : List P3} {x : Int} (hm : measuresS ps = true) (h1 : firstX ps ≤ x) (h2 : x ≤ lastX ps) : 0 ≤ (atS ps x).1 := by
  have ht := measures_ok hm
  have hp : ∀ p ∈ ps, 0 ≤ p.2.1 := by
    unfold measuresS at hm
    simp only [Bool.and_eq_true, List.all_eq_true, decide_eq_true_eq] at hm
    exact hm.2
  obtain ⟨i, pq, hi, b1, b2, _⟩ := piece_at ht h1 h2
  obtain ⟨m1, m2, m3⟩ := piece_mem ht hi
  have e := atS_any ht hi b1 b2
  have e1 := pAt_start pq.1 pq.2
  have e2 := atS_any ht hi m3 (Int.le_refl _)
  rw [atS_point ht m2] at e2
  have q1 := hp _ m1
  have q2 := hp _ m2
  rw [e]
  rcases pAt_low_way pq.1 pq.2 with w | w
  · have := w _ _ b1; rw [e1] at this; dsimp only at this; omega
  · have := w _ _ b2; rw [← e2] at this; dsimp only at this; omega
theorem over_in {ps : List P3} {a b : Int} (hm : measuresS ps = true) (h : inB a b (firstX ps) (lastX ps) = true) : 0 ≤ (overS ps a b).1 ∧ (overS ps a b).1 ≤ (overS ps a b).2.1 ∧ (overS ps a b).2.1 ≤ 1000000000 := by
  have ht := measures_ok hm
  simp only [inB, decide_eq_true_eq] at h
  have hall : ∀ r ∈ (cornersS ps a b).map (atS ps), (0 : Int) ≤ r.1 ∧ r.1 ≤ r.2 ∧ r.2 ≤ 1000000000 := by
    intro r hr
    obtain ⟨c, hc, rfl⟩ := List.mem_map.1 hr
    have hcb : a ≤ c ∧ c ≤ b := by
      rcases corners_mem hc with q | q <;> omega
    have q1 := atS_in ht (show firstX ps ≤ c by omega) (show c ≤ lastX ps by omega)
    have q2 := atS_nonneg hm (show firstX ps ≤ c by omega) (show c ≤ lastX ps by omega)
    simp only [inB, decide_eq_true_eq] at q1
    omega
  have hg := foldG_in (by simpa using corners_ne ps a b) hall
  unfold overS
  split
  · exact hg
  · dsimp only; omega
theorem hold_parts {h : HoldD} (e : holdS h = true) : (amountS h.t0 h.t1 = true ∧ amountS h.u0 h.u1 = true ∧ amountS h.v0 h.v1 = true ∧ amountS h.h0 h.h1 = true) ∧ (measuresS h.vol = true ∧ measuresS h.mom = true ∧ measuresS h.hei = true) ∧ (alongS h.vol h.mom = true ∧ alongS h.vol h.hei = true) ∧ (fallsS h.vol = true ∧ fallsS h.hei = true) := by
  unfold holdS amtRest ctRest at e
  simp only [Bool.and_eq_true] at e
  exact ⟨⟨e.2.1, e.2.2.1, e.2.2.2.1, e.2.2.2.2.1⟩, ⟨e.2.2.2.2.2.1, e.2.2.2.2.2.2.1.1, e.2.2.2.2.2.2.2.1.1⟩, ⟨e.2.2.2.2.2.2.1.2, e.2.2.2.2.2.2.2.1.2⟩, ⟨e.2.2.2.2.2.2.2.2.1, e.2.2.2.2.2.2.2.2.2⟩⟩
theorem fill_zero {h : HoldD} {f : FillD} (e : fillErr h f = 0) : holdS h = true ∧ fillS h f = true := by
  unfold fillErr at e
  split at e
  · rename_i g
    split at e
    · rename_i k
      exact ⟨g, k⟩
    · omega
  · omega
theorem fill_dens {h : HoldD} {f : FillD} (e : fillErr h f = 0) : 0 ≤ f.d0 ∧ f.d0 ≤ f.d1 ∧ f.d1 ≤ 2000 := by
  have g := (fill_zero e).2
  unfold fillS stateS densS at g
  simp only [Bool.and_eq_true, Bool.or_eq_true, decide_eq_true_eq, beq_iff_eq, inB] at g
  omega
theorem fill_place {h : HoldD} {f : FillD} (e : fillErr h f = 0) (s : 3 ≤ f.st) : inB f.x0 f.x1 (firstX h.vol) (lastX h.vol) = true := by
  have g := (fill_zero e).2
  unfold fillS stateS at g
  simp only [Bool.and_eq_true, Bool.or_eq_true, decide_eq_true_eq] at g
  rcases g.2 with q | q | q
  · omega
  · omega
  · exact q.2.1
def Amt (p : Int × Int) : Prop := 0 ≤ p.1 ∧ p.1 ≤ p.2 ∧ p.2 ≤ 1000000000
theorem amt_of {a b : Int} (h : amountS a b = true) : Amt (a, b) := by
  unfold amountS at h
  simp only [inB, decide_eq_true_eq] at h
  exact ⟨by dsimp only; omega, by dsimp only; omega, by dsimp only; omega⟩
theorem amt_zero : Amt (0, 0) := ⟨by decide, by decide, by decide⟩
theorem along_in {ps qs : List P3} {a b : Int} (h : alongS ps qs = true) (g : inB a b (firstX ps) (lastX ps) = true) : inB a b (firstX qs) (lastX qs) = true := by
  unfold alongS at h
  simp only [Bool.and_eq_true, decide_eq_true_eq] at h
  rw [← h.1, ← h.2]; exact g
theorem vol_amt {h : HoldD} {f : FillD} (e : fillErr h f = 0) : Amt (volS h f) := by
  obtain ⟨⟨a1, a2, a3, a4⟩, ⟨m1, m2, m3⟩, _, _⟩ := hold_parts (fill_zero e).1
  unfold volS
  split
  · exact amt_zero
  · split
    · exact amt_of a3
    · exact over_in m1 (fill_place e (by omega))
theorem mom_amt {h : HoldD} {f : FillD} (e : fillErr h f = 0) : Amt (momS h f) := by
  obtain ⟨⟨a1, a2, a3, a4⟩, ⟨m1, m2, m3⟩, ⟨l1, l2⟩, _⟩ := hold_parts (fill_zero e).1
  unfold momS
  split
  · exact amt_zero
  · split
    · exact amt_of a1
    · split
      · exact amt_of a2
      · split
        · exact over_in m2 (along_in l1 (fill_place e (by omega)))
        · exact amt_zero
theorem den_heavy {h : HoldD} {f : FillD} (e : fillErr h f = 0) {v : Int × Int} (hv : Amt v) : heavyS v.1 v.2 f.d0 f.d1 = denS h f v := by
  obtain ⟨d1, d2, d3⟩ := fill_dens e
  obtain ⟨q1, q2⟩ := dense_heavy v.1 v.2 f.d0 f.d1 hv.1 hv.2.1 hv.2.2 d1 d2 d3
  unfold denS
  rw [q1, q2]
end

section
open Go.RowKit

theorem xsTo_get (fi : Int) (st : List Int) : ∀ k : Nat, k ≤ st.length → ∀ j, j ≤ k → (xsTo fi st k).1[j]? = some (xsTo fi st j).2
  | 0, _, j, hj => by
    obtain rfl : j = 0 := by omega
    rfl
  | k + 1, hk, j, hj => by
    have hl := xsTo_len fi st k (by omega)
    obtain ⟨s, hs⟩ : ∃ s, st[k]? = some s := ⟨_, List.getElem?_eq_getElem (show k < st.length by omega)⟩
    rw [xsTo_succ hs]
    rcases Nat.lt_or_ge j (k + 1) with c | c
    · rw [List.getElem?_append_left (by omega)]
      exact xsTo_get fi st k (by omega) j (by omega)
    · obtain rfl : j = k + 1 := by omega
      rw [List.getElem?_append_right (by omega), hl]
      rw [xsTo_succ hs]
      simp
def xAt (fi : Int) (st : List Int) (j : Nat) : Int := if st.length = 0 then fi % 50 + 10 * j else (xsTo fi st j).2
theorem xsS_n (fi : Int) (st : List Int) : (xsS fi st).length = if st.length = 0 then 2 else min st.length 7 + 1 := by
  unfold xsS
  split
  · rfl
  · rw [xsTo_len fi st _ (by omega)]
theorem xsS_get (fi : Int) (st : List Int) {j : Nat} (hj : j < (xsS fi st).length) : (xsS fi st)[j]? = some (xAt fi st j) := by
  have hn := xsS_n fi st
  unfold xAt
  by_cases h : st.length = 0
  · rw [if_pos h] at hn ⊢
    unfold xsS
    rw [if_pos h]
    rcases (show j = 0 ∨ j = 1 by omega) with rfl | rfl
    · simp [xsTo]
    · simp [xsTo]
  · rw [if_neg h] at hn ⊢
    unfold xsS
    rw [if_neg h]
    exact xsTo_get fi st _ (by omega) j (by omega)
theorem xAt_in (fi : Int) (st : List Int) {j : Nat} (hj : j < (xsS fi st).length) : 0 ≤ xAt fi st j ∧ xAt fi st j ≤ 1000 := by
  have hn := xsS_n fi st
  have h8 := xsS_len fi st
  unfold xAt
  split
  · obtain ⟨h1, h2⟩ := emod_in fi (show (0 : Int) < 50 by omega)
    omega
  · have := xsTo_in fi st j
    omega
theorem xAt_up (fi : Int) (st : List Int) {j : Nat} (hj : j + 1 < (xsS fi st).length) : xAt fi st j < xAt fi st (j + 1) := by
  have hn := xsS_n fi st
  unfold xAt
  by_cases h : st.length = 0
  · rw [if_pos h, if_pos h]; push_cast; omega
  · rw [if_neg h, if_neg h]
    rw [if_neg h] at hn
    obtain ⟨s, hs⟩ : ∃ s, st[j]? = some s := ⟨_, List.getElem?_eq_getElem (show j < st.length by omega)⟩
    rw [xsTo_succ hs]
    obtain ⟨h1, h2⟩ := emod_in s (show (0 : Int) < 40 by omega)
    dsimp only
    omega
theorem ptsOk_snoc : ∀ (ps : List P3) (last : Int) (p : P3), ptsOk last (ps ++ [p]) = (ptsOk last ps && ptOk ((ps.getLast?.map (·.1)).getD last) p)
  | [], last, p => by simp [ptsOk]
  | [a], last, p => by simp [ptsOk]
  | a :: b :: r, last, p => by
    have h := ptsOk_snoc (b :: r) a.1 p
    have e : ((a :: b :: r).getLast?.map (·.1)).getD last = ((b :: r).getLast?.map (·.1)).getD a.1 := by
      rw [List.getLast?_cons_cons]
      obtain ⟨z, hz⟩ : ∃ z, (b :: r).getLast? = some z := ⟨_, List.getLast?_eq_some_getLast (by simp)⟩
      rw [hz]; rfl
    show (ptOk last a && ptsOk a.1 ((b :: r) ++ [p])) = ((ptOk last a && ptsOk a.1 (b :: r)) && _)
    rw [h, e, Bool.and_assoc]
theorem rows_ok {xs : List Int} {f : Nat → Int × Int} {X : Nat → Int} {n : Nat} (hn : n = xs.length) (hx : ∀ j, j < n → xs[j]? = some (X j)) (h0 : ∀ j, j < n → 0 ≤ X j ∧ X j ≤ 1000) (hup : ∀ j, j + 1 < n → X j < X (j + 1))
    (hf : ∀ j, j < n → (f j).1 ≤ (f j).2 ∧ -1000000000 ≤ (f j).1 ∧ (f j).2 ≤ 1000000000) : ∀ k, k ≤ n → ptsOk (-1) (rowsTo xs f k) = true ∧ (∀ j, k = j + 1 → ((rowsTo xs f k).getLast?.map (·.1)) = some (X j))
  | 0, _ => ⟨rfl, fun j h => by omega⟩
  | k + 1, hk => by
    obtain ⟨h1, h2⟩ := rows_ok hn hx h0 hup hf k (by omega)
    have hs := rowsTo_succ (f := f) (hx k (by omega))
    rw [hs]
    refine ⟨?_, fun j hj => by
      have : j = k := by omega
      subst this
      rw [List.getLast?_append]; simp⟩
    rw [ptsOk_snoc, h1, Bool.true_and]
    obtain ⟨g1, g2⟩ := h0 k (by omega)
    obtain ⟨g3, g4, g5⟩ := hf k (by omega)
    have hlast : ((rowsTo xs f k).getLast?.map (·.1)).getD (-1) < X k := by
      cases k with
      | zero => simp [rowsTo]; omega
      | succ j =>
        rw [h2 j rfl]
        have := hup j (by omega)
        simpa using this
    unfold ptOk inB
    simp only [Bool.and_eq_true, decide_eq_true_eq]
    exact ⟨hlast, by omega, by omega⟩
theorem falls_of : ∀ (ps : List P3), (∀ k p q, ps[k]? = some p → ps[k + 1]? = some q → q.2.1 ≤ p.2.1 ∧ q.2.2 ≤ p.2.2) → fallsS ps = true
  | [], _ => rfl
  | [_], _ => rfl
  | p :: q :: r, h => by
    have h1 := h 0 p q rfl rfl
    have h2 := falls_of (q :: r) fun k a b ha hb => h (k + 1) a b ha hb
    rw [fallsS, h2]
    simp [h1.1, h1.2]
structure Rows3 (xs : List Int) (f : Nat → Int × Int) (n : Nat) : Prop where
  ok : tabOk (rowsTo xs f n) = true
  len : (rowsTo xs f n).length = n
  mem : ∀ p ∈ rowsTo xs f n, ∃ k x, k < n ∧ p = (x, f k)
  at_ : ∀ k p, (rowsTo xs f n)[k]? = some p → k < n ∧ p.2 = f k
theorem rows3 {fi : Int} {st : List Int} {f : Nat → Int × Int} {n : Nat} (hn : n = (xsS fi st).length) (hf : ∀ j, j < n → (f j).1 ≤ (f j).2 ∧ -1000000000 ≤ (f j).1 ∧ (f j).2 ≤ 1000000000) : Rows3 (xsS fi st) f n := by
  have h8 := xsS_len fi st
  have hl := rowsTo_len (xsS fi st) f n (by omega)
  have hat : ∀ k p, (rowsTo (xsS fi st) f n)[k]? = some p → k < n ∧ p.2 = f k := fun k p hp => by
    have hk : k < n := by have := (List.getElem?_eq_some_iff.1 hp).1; omega
    have q := rowsTo_get (f := f) n k _ (by omega) hk (xsS_get fi st (by omega))
    rw [q] at hp
    injection hp with hp
    subst hp
    exact ⟨hk, rfl⟩
  refine ⟨?_, hl, fun p hp => ?_, hat⟩
  · have h := (rows_ok (f := f) hn (X := xAt fi st) (fun j hj => xsS_get fi st (by omega)) (fun j hj => xAt_in fi st (by omega)) (fun j hj => xAt_up fi st (by omega)) hf n (Nat.le_refl _)).1
    unfold tabOk
    rw [h, hl]
    simp
    omega
  · obtain ⟨k, hk⟩ := List.getElem?_of_mem hp
    obtain ⟨h1, h2⟩ := hat k p hk
    exact ⟨k, p.1, h1, by rw [← h2]⟩
theorem rows_first {fi : Int} {st : List Int} {f : Nat → Int × Int} {n : Nat} (hn : n = (xsS fi st).length) : firstX (rowsTo (xsS fi st) f n) = xAt fi st 0 ∧ lastX (rowsTo (xsS fi st) f n) = xAt fi st (n - 1) := by
  have h8 := xsS_len fi st
  have hl := rowsTo_len (xsS fi st) f n (by omega)
  have g : ∀ j, j < n → (rowsTo (xsS fi st) f n)[j]? = some (xAt fi st j, f j) := fun j hj => rowsTo_get n j _ (by omega) hj (xsS_get fi st (by omega))
  constructor
  · unfold firstX; rw [List.head?_eq_getElem?, g 0 (by omega)]; rfl
  · unfold lastX; rw [List.getLast?_eq_getElem?, hl, g (n - 1) (by omega)]; rfl
theorem slope_up (vs : List Int) (fr : Int) {mo : Int} (g0 : 0 < mo) : ∀ (i k : Nat), (slopeF vs fr mo k).1 ≤ (slopeF vs fr mo (k + i)).1 ∧ (slopeF vs fr mo k).2 ≤ (slopeF vs fr mo (k + i)).2
  | 0, k => ⟨Int.le_refl _, Int.le_refl _⟩
  | i + 1, k => by
    obtain ⟨h1, h2⟩ := slope_up vs fr g0 i k
    obtain ⟨h5, h6⟩ := emod_in (pickS vs (fr + 2 + 2 * (k + i : Nat))) g0
    obtain ⟨h7, h8⟩ := emod_in (pickS vs (fr + 3 + 2 * (k + i : Nat))) g0
    rw [show k + (i + 1) = (k + i) + 1 by omega, slopeF]
    dsimp only
    constructor
    · omega
    · omega
theorem measures_rows {fi : Int} {st : List Int} {f : Nat → Int × Int} {n : Nat} (hn : n = (xsS fi st).length) (hf : ∀ j, j < n → 0 ≤ (f j).1 ∧ (f j).1 ≤ (f j).2 ∧ (f j).2 ≤ 1000000000) : measuresS (rowsTo (xsS fi st) f n) = true := by
  have h8 := xsS_len fi st
  have r := rows3 (f := f) hn (fun j hj => by have := hf j hj; omega)
  unfold measuresS
  rw [r.ok, r.len]
  simp only [Bool.true_and, Bool.and_eq_true, decide_eq_true_eq, List.all_eq_true]
  refine ⟨by omega, fun p hp => ?_⟩
  obtain ⟨k, x, hk, rfl⟩ := r.mem p hp
  exact (hf k hk).1
theorem free_in (vs : List Int) (fr : Int) {mo : Int} (g0 : 0 < mo) (g1 : mo ≤ 1000000) (k : Nat) : 0 ≤ (freeF vs fr mo k).1 ∧ (freeF vs fr mo k).1 ≤ (freeF vs fr mo k).2 ∧ (freeF vs fr mo k).2 ≤ 1000000000 := by
  obtain ⟨h1, h2⟩ := emod_in (pickS vs (fr + 2 * k)) g0
  obtain ⟨h3, h4⟩ := emod_in (pickS vs (fr + 2 * k + 1)) (show (0 : Int) < mo / 4 + 1 by omega)
  unfold freeF
  dsimp only
  omega
theorem slope_turn_in (vs : List Int) (fr : Int) {mo : Int} (g0 : 0 < mo) (g1 : mo ≤ 1000000) (n : Nat) (h8 : n ≤ 8) (j : Nat) (hj : j < n) : 0 ≤ (slopeF vs fr mo (n - 1 - j)).1 ∧ (slopeF vs fr mo (n - 1 - j)).1 ≤ (slopeF vs fr mo (n - 1 - j)).2 ∧ (slopeF vs fr mo (n - 1 - j)).2 ≤ 1000000000 := by
  obtain ⟨h1, h2, h3⟩ := slopeF_in vs fr g0 g1 (n - 1 - j) (by omega)
  omega
theorem some_in (vs : List Int) (fr : Int) {mo : Int} (g0 : 0 < mo) (g1 : mo ≤ 1000000) : 0 ≤ (someS vs fr mo).1 ∧ (someS vs fr mo).1 ≤ (someS vs fr mo).2 ∧ (someS vs fr mo).2 ≤ 1000000000 := by
  obtain ⟨h1, h2⟩ := emod_in (pickS vs fr) g0
  obtain ⟨h3, h4⟩ := emod_in (pickS vs (fr + 1)) (show (0 : Int) < 9 by omega)
  unfold someS
  dsimp only
  omega
theorem falls_turn (vs : List Int) (fr : Int) {mo : Int} (g0 : 0 < mo) {fi : Int} {st : List Int} {n : Nat} (hn : n = (xsS fi st).length) (g1 : mo ≤ 1000000) : fallsS (rowsTo (xsS fi st) (fun k => slopeF vs fr mo (n - 1 - k)) n) = true := by
  have h8 := xsS_len fi st
  have r := rows3 (f := fun k => slopeF vs fr mo (n - 1 - k)) hn (fun j hj => by have := slope_turn_in vs fr g0 g1 n (by omega) j hj; omega)
  refine falls_of _ fun k p q hp hq => ?_
  obtain ⟨k1, e1⟩ := r.at_ k p hp
  obtain ⟨k2, e2⟩ := r.at_ (k + 1) q hq
  rw [e1, e2]
  have := slope_up vs fr g0 1 (n - 1 - (k + 1))
  rw [show n - 1 - (k + 1) + 1 = n - 1 - k by omega] at this
  exact this
theorem made_valid (r : RawD) : holdS (madeH r) = true := by
  have h8 := xsS_len r.fi r.st
  obtain ⟨a1, a2⟩ := emod_in r.id (show (0 : Int) < 9 by omega)
  obtain ⟨b1, b2⟩ := emod_in (pickS r.vs 1) (show (0 : Int) < 2001 by omega)
  obtain ⟨c1, c2⟩ := emod_in (pickS r.vs 2) (show (0 : Int) < 30 by omega)
  obtain ⟨d1, d2⟩ := emod_in (pickS r.vs 6) (show (0 : Int) < 9 by omega)
  obtain ⟨e1, e2⟩ := emod_in (pickS r.vs 7) (show (0 : Int) < 9 by omega)
  obtain ⟨f1, f2, f3⟩ := slopeF_in r.vs 0 (mo := 300) (by omega) (by omega) ((xsS r.fi r.st).length - 1) (by omega)
  have s1 := some_in r.vs 3 (mo := 200) (by omega) (by omega)
  have s2 := some_in r.vs 4 (mo := 400) (by omega) (by omega)
  have s3 := some_in r.vs 8 (mo := 900) (by omega) (by omega)
  have mv : measuresS (rowsTo (xsS r.fi r.st) (fun k => slopeF r.vs 0 300 ((xsS r.fi r.st).length - 1 - k)) (xsS r.fi r.st).length) = true := measures_rows rfl fun j hj => slope_turn_in r.vs 0 (by omega) (by omega) _ (by omega) j hj
  have mh : measuresS (rowsTo (xsS r.fi r.st) (fun k => slopeF r.vs 11 90 ((xsS r.fi r.st).length - 1 - k)) (xsS r.fi r.st).length) = true := measures_rows rfl fun j hj => slope_turn_in r.vs 11 (by omega) (by omega) _ (by omega) j hj
  have mm : measuresS (rowsTo (xsS r.fi r.st) (freeF r.vs 5 800) (xsS r.fi r.st).length) = true := measures_rows rfl fun j hj => free_in r.vs 5 (by omega) (by omega) j
  have fv := falls_turn r.vs 0 (mo := 300) (fi := r.fi) (st := r.st) (by omega) rfl (by omega)
  have fh := falls_turn r.vs 11 (mo := 90) (fi := r.fi) (st := r.st) (by omega) rfl (by omega)
  obtain ⟨x1, y1⟩ := rows_first (fi := r.fi) (st := r.st) (f := fun k => slopeF r.vs 0 300 ((xsS r.fi r.st).length - 1 - k)) rfl
  obtain ⟨x2, y2⟩ := rows_first (fi := r.fi) (st := r.st) (f := fun k => slopeF r.vs 11 90 ((xsS r.fi r.st).length - 1 - k)) rfl
  obtain ⟨x3, y3⟩ := rows_first (fi := r.fi) (st := r.st) (f := freeF r.vs 5 800) rfl
  unfold holdS madeH amtRest ctRest alongS amountS inB slopedL
  dsimp only
  rw [if_pos rfl, if_pos rfl, mv, mh, mm, fv, fh, x1, x2, x3, y1, y2, y3]
  simp only [Bool.and_eq_true, decide_eq_true_eq, and_true, true_and]
  refine ⟨⟨?_, ?_⟩, ?_⟩
  all_goals omega
theorem val_over {ps : List P3} {cs : List Int} {a x b num den : Int} (ht : tabOk ps = true) (hi : InTab ps cs) (h : ValOf ps cs x num den) (h0 : firstX ps ≤ a) (h1 : a ≤ x) (h2 : x ≤ b) (h3 : b ≤ lastX ps) :
    0 < den ∧ (overGood ps a b).1 * den ≤ num ∧ num ≤ (overGood ps a b).2.1 * den := by
  obtain ⟨i, p, q, y, z, hp, hq, g1, g2, hy, hz, rfl, rfl⟩ := h
  obtain ⟨hpq, okp, okq⟩ := pts_rise ht hp hq
  have h2l : 2 ≤ ps.length := by have := (List.getElem?_eq_some_iff.1 hq).1; omega
  have hpc := pcs_at h2l hp hq
  obtain ⟨y1, y2⟩ := hi.2 i p y hp hy
  obtain ⟨z1, z2⟩ := hi.2 (i + 1) q z hq hz
  have hat := atS_any ht hpc g1 g2
  have hov := over_has ht h0 h1 h2 h3
  rw [hat, pAt_lo, pAt_hi] at hov
  dsimp only at hov
  rw [show max (q.1 - p.1) 1 = q.1 - p.1 by omega] at hov
  obtain ⟨D, hD⟩ : ∃ D, q.1 - p.1 = D := ⟨_, rfl⟩
  obtain ⟨u, hu⟩ : ∃ u, x - p.1 = u := ⟨_, rfl⟩
  have hv : q.1 - x = D - u := by omega
  rw [hD, hu] at hov
  rw [hD, hu, hv]
  have hD0 : 0 < D := by omega
  have hu0 : 0 ≤ u := by omega
  have hu1 : 0 ≤ D - u := by omega
  have m1 := Int.mul_le_mul_of_nonneg_right y1 hu1
  have m2 := Int.mul_le_mul_of_nonneg_right y2 hu1
  have m3 := Int.mul_le_mul_of_nonneg_right z1 hu0
  have m4 := Int.mul_le_mul_of_nonneg_right z2 hu0
  have lo := Int.ediv_mul_le (p.2.1 * (D - u) + q.2.1 * u) (show D ≠ 0 by omega)
  have hi' := Int.ediv_mul_le (-p.2.2 * (D - u) + -q.2.2 * u) (show D ≠ 0 by omega)
  have o1 := Int.mul_le_mul_of_nonneg_right hov.1 (Int.le_of_lt hD0)
  have o2 := Int.mul_le_mul_of_nonneg_right hov.2 (Int.le_of_lt hD0)
  simp only [Int.neg_mul] at o2 hi'
  exact ⟨hD0, by omega, by omega⟩
end

end Go.Proofs.YtemlaaipnhmcoaaGreat
