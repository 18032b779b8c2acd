/- Plain: of a valid fill the volume, moment and height are ranges from 0 on, as is the density. No conditions. -/
import Derived.Test.YtekkiedlajhaiaaGreatR15
import Derived.Test.YtekkiedlajhaiaaGreatR09
import Derived.Test.YtekkiedlajhaiaaGreatR07
import Derived.Test.YtekkiedlajhaiaaGreatR20
import Derived.Deep.RegionHeld3
import Derived.Deep.DeepCutAuto
import Derived.Test.YtekkiedlajhaiaaGreatR23
import Derived.Test.YtekkiedlajhaiaaGreatR13
set_option linter.unusedVariables false
set_option linter.unusedSimpArgs false
set_option linter.constructorNameAsVariable false
namespace Go.Proofs.YtekkiedlajhaiaaGreat

section
open Go.RowKit

abbrev bt (r : Int × Int × Bool) : Value := .tuple #[.int .i64 r.1, .int .i64 r.2.1, .bool r.2.2]
end

section
open Go.RowKit
attribute [local go_sem ↓] run_minI run_maxI
theorem OwnRuns.slice {base : Nat} {X : World} {v : Value} {L : List (Int × Int)} (ho : OwnRuns base X v L) : ∃ p c, v = .slice p L.length c := by
  obtain ⟨A, c, h, _⟩ := ho.runsP
  exact ⟨A, c, h⟩
end

section
open Go.RowKit
attribute [local go_sem ↓] run_minI run_maxI
def mm (s r : Int × Int) : Int × Int := (min s.1 r.1, max s.2 r.2)
end

section
open Go.RowKit

def heavyS (a b c d : Int) : Int × Int := ((a * c) / 1000, (b * d + 999) / 1000)
end

section
open Go.RowKit

theorem dense_heavy (a b c d : Int) (h1 : 0 ≤ a) (h2 : a ≤ b) (h3 : b ≤ 1000000000) (h4 : 0 ≤ c) (h5 : c ≤ d) (h6 : d ≤ 2000) :
    (denseS a b c d).1 = (heavyS a b c d).1 ∧ (denseS a b c d).2.1 = (heavyS a b c d).2 := by
  have e1 : a * c ≤ a * d := Int.mul_le_mul_of_nonneg_left h5 h1
  have e2 : b * c ≤ b * d := Int.mul_le_mul_of_nonneg_left h5 (by omega)
  have e3 : a * c ≤ b * c := Int.mul_le_mul_of_nonneg_right h2 h4
  have e4 : a * d ≤ b * d := Int.mul_le_mul_of_nonneg_right h2 (by omega)
  have e5 : 0 ≤ a * c := Int.mul_nonneg h1 h4
  have e6 : b * d ≤ 1000000000 * 2000 := Int.mul_le_mul h3 h6 (by omega) (by omega)
  have v1 : vR a b = true := (vR_iff a b).2 (by omega)
  have v2 : vR c d = true := (vR_iff c d).2 (by omega)
  have m1 : min (min (min (a * c) (a * d)) (b * c)) (b * d) = a * c := by omega
  have m2 : max (max (max (a * c) (a * d)) (b * c)) (b * d) = b * d := by omega
  have v3 : vR (a * c) (b * d) = true := (vR_iff _ _).2 (by omega)
  have em : mulS a b c d = (a * c, b * d, 0) := by
    unfold mulS twoS
    rw [m1, m2]
    unfold bigS
    simp [v1, v2, v3]
  have v4 : vR (a * c * 1 / 1000) (-(-(b * d) * 1 / 1000)) = true := (vR_iff _ _).2 (by omega)
  have es : denseS a b c d = (a * c * 1 / 1000, -(-(b * d) * 1 / 1000), 0) := by
    unfold denseS
    rw [em]
    unfold scaleS
    dsimp only
    rw [if_pos v3, if_pos (by omega), if_neg (by omega)]
    unfold bigS
    rw [if_pos v4]
  rw [es]
  unfold heavyS
  dsimp only
  constructor <;> omega
end

section
open Go.RowKit

theorem foldG_all {lo hi : Int} : ∀ (l : List (Int × Int)) (s : Int × Int × Bool), s.2.2 = true → lo ≤ s.1 → s.1 ≤ s.2.1 → s.2.1 ≤ hi → (∀ r ∈ l, lo ≤ r.1 ∧ r.1 ≤ r.2 ∧ r.2 ≤ hi) →
    lo ≤ (l.foldl stepG s).1 ∧ (l.foldl stepG s).1 ≤ (l.foldl stepG s).2.1 ∧ (l.foldl stepG s).2.1 ≤ hi
  | [], s, _, h1, h2, h3, _ => ⟨h1, h2, h3⟩
  | z :: l, s, h, h1, h2, h3, hl => by
    rw [List.foldl_cons]
    have e : stepG s z = (min s.1 z.1, max s.2.1 z.2, true) := by unfold stepG; rw [if_pos h]
    rw [e]
    have hz := hl z (by simp)
    exact foldG_all l _ rfl (by dsimp only; omega) (by dsimp only; omega) (by dsimp only; omega) (fun r hr => hl r (by simp [hr]))
theorem foldG_in {lo hi : Int} {l : List (Int × Int)} (hne : l ≠ []) (hl : ∀ r ∈ l, lo ≤ r.1 ∧ r.1 ≤ r.2 ∧ r.2 ≤ hi) : lo ≤ (foldG l).1 ∧ (foldG l).1 ≤ (foldG l).2.1 ∧ (foldG l).2.1 ≤ hi := by
  cases l with
  | nil => exact absurd rfl hne
  | cons z l =>
    unfold foldG
    rw [List.foldl_cons]
    have e : stepG (0, 0, false) z = (z.1, z.2, true) := rfl
    rw [e]
    have hz := hl z (by simp)
    exact foldG_all l _ rfl hz.1 hz.2.1 hz.2.2 (fun r hr => hl r (by simp [hr]))
theorem atS_nonneg {ps : List P3} {x : Int} (hm : measuresS ps = true) (h1 : firstX ps ≤ x) (h2 : x ≤ lastX ps) : 0 ≤ (atS ps x).1 := by
  have ht := measures_ok hm
  have hp : ∀ p ∈ ps, 0 ≤ p.2.1 := by
    unfold measuresS at hm
    simp only [Bool.and_eq_true, List.all_eq_true, decide_eq_true_eq] at hm
    exact hm.2
  obtain ⟨i, pq, hi, b1, b2, _⟩ := piece_at ht h1 h2
  obtain ⟨m1, m2, m3⟩ := piece_mem ht hi
  have e := atS_any ht hi b1 b2
  have e1 := pAt_start pq.1 pq.2
  have e2 := atS_any ht hi m3 (Int.le_refl _)
  rw [atS_point ht m2] at e2
  have q1 := hp _ m1
  have q2 := hp _ m2
  rw [e]
  rcases pAt_low_way pq.1 pq.2 with w | w
  · have := w _ _ b1; rw [e1] at this; dsimp only at this; omega
  · have := w _ _ b2; rw [← e2] at this; dsimp only at this; omega
theorem over_in {ps : List P3} {a b : Int} (hm : measuresS ps = true) (h : inB a b (firstX ps) (lastX ps) = true) : 0 ≤ (overS ps a b).1 ∧ (overS ps a b).1 ≤ (overS ps a b).2.1 ∧ (overS ps a b).2.1 ≤ 1000000000 := by
  have ht := measures_ok hm
  simp only [inB, decide_eq_true_eq] at h
  have hall : ∀ r ∈ (cornersS ps a b).map (atS ps), (0 : Int) ≤ r.1 ∧ r.1 ≤ r.2 ∧ r.2 ≤ 1000000000 := by
    intro r hr
    obtain ⟨c, hc, rfl⟩ := List.mem_map.1 hr
    have hcb : a ≤ c ∧ c ≤ b := by
      rcases corners_mem hc with q | q <;> omega
    have q1 := atS_in ht (show firstX ps ≤ c by omega) (show c ≤ lastX ps by omega)
    have q2 := atS_nonneg hm (show firstX ps ≤ c by omega) (show c ≤ lastX ps by omega)
    simp only [inB, decide_eq_true_eq] at q1
    omega
  have hg := foldG_in (by simpa using corners_ne ps a b) hall
  unfold overS
  split
  · exact hg
  · dsimp only; omega
def Amt (p : Int × Int) : Prop := 0 ≤ p.1 ∧ p.1 ≤ p.2 ∧ p.2 ≤ 1000000000
theorem along_in {ps qs : List P3} {a b : Int} (h : alongS ps qs = true) (g : inB a b (firstX ps) (lastX ps) = true) : inB a b (firstX qs) (lastX qs) = true := by
  unfold alongS at h
  simp only [Bool.and_eq_true, decide_eq_true_eq] at h
  rw [← h.1, ← h.2]; exact g
end

end Go.Proofs.YtekkiedlajhaiaaGreat
