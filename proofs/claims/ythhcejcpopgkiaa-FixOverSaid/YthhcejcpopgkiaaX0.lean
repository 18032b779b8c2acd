/- What the numbers of FixAreas keep: the area of a curve within a table lies within Area, and neighbouring areas add up. Plain numbers. -/
import Derived.Test.YthhcejcpopgkiaaR3
import Derived.Test.YthhcejcpopgkiaaR4
import Derived.Test.YthhcejcpopgkiaaQ2
set_option linter.unusedVariables false
set_option linter.unusedSimpArgs false
set_option linter.constructorNameAsVariable false
namespace Go.Proofs.Ythhcejcpopgkiaa
open Go.RowKit

theorem areaLo_in {ps : List P3} {a b : Int} (hpl : placesS ps a b = 0) : -4000000000000000 ≤ areaLo ps a b ∧ areaLo ps a b ≤ 4000000000000000 := by
  obtain ⟨ht, hab, hf, hl⟩ := places_ok hpl
  obtain ⟨L1, L2, L3, L4, L5, L6⟩ := tab_lines ht
  have s := arXY_summed L6 hf hab L1 L2 L3
  have f := s.floor
  obtain ⟨_, _, _, _, _, a4, a5, _⟩ := s
  unfold areaLo exN exD
  omega
theorem areaHi_in {ps : List P3} {a b : Int} (hpl : placesS ps a b = 0) : -4000000000000000 ≤ areaHi ps a b ∧ areaHi ps a b ≤ 4000000000000000 := by
  obtain ⟨ht, hab, hf, hl⟩ := places_ok hpl
  obtain ⟨L1, L2, L3, L4, L5, L6⟩ := tab_lines ht
  have s := arXY_summed L6 hf hab L1 L2 L5
  have f := s.floor
  obtain ⟨_, _, _, _, _, a4, a5, _⟩ := s
  unfold areaHi exN exD
  omega
theorem exD_pos (a b : Int) (xs ys : List Int) : 1 ≤ exD a b xs ys := exXY_pos a b xs ys (0, 1) (Int.le_refl _)
theorem area_parts {ps : List P3} {a b c : Int} (ht : tabOk ps = true) (h1 : a ≤ b) (h2 : b ≤ c) :
    (0 ≤ areaLo ps a c - areaLo ps a b - areaLo ps b c ∧ areaLo ps a c - areaLo ps a b - areaLo ps b c ≤ 1) ∧
    (0 ≤ areaHi ps a b + areaHi ps b c - areaHi ps a c ∧ areaHi ps a b + areaHi ps b c - areaHi ps a c ≤ 1) := by
  obtain ⟨L1, _⟩ := tab_lines ht
  have hp : (xsOf ps).Pairwise (· ≤ ·) := L1.imp Int.le_of_lt
  constructor
  · obtain ⟨e1, e2, e3⟩ := exXY_split h1 h2 (xsOf ps) (ps.map (·.2.1)) (0, 1) (0, 1) (0, 1) hp rfl rfl rfl
    have := floors_add (exD_pos a c (xsOf ps) (ps.map (·.2.1))) e1
    unfold areaLo exN exD
    unfold exD at this
    rw [← e2, ← e3]
    exact this
  · obtain ⟨e1, e2, e3⟩ := exXY_split h1 h2 (xsOf ps) (ps.map fun p => -p.2.2) (0, 1) (0, 1) (0, 1) hp rfl rfl rfl
    have := floors_add (exD_pos a c (xsOf ps) (ps.map fun p => -p.2.2)) e1
    unfold areaHi exN exD
    unfold exD at this
    rw [← e2, ← e3]
    omega
theorem area_between {ps : List P3} {ys : List Int} {a b : Int} (hl : ys.length = ps.length) (hy : ∀ (k : Nat) (p : P3) (y : Int), ps[k]? = some p → ys[k]? = some y → p.2.1 ≤ y ∧ y ≤ p.2.2) :
    areaLo ps a b ≤ exN a b (xsOf ps) ys / exD a b (xsOf ps) ys ∧ exN a b (xsOf ps) ys / exD a b (xsOf ps) ys ≤ areaHi ps a b ∧
    (0 < exN a b (xsOf ps) ys % exD a b (xsOf ps) ys → exN a b (xsOf ps) ys / exD a b (xsOf ps) ys ≠ areaHi ps a b) := by
  have m1 := exXY_mono a b (xsOf ps) (ps.map (·.2.1)) ys (0, 1) (0, 1) (by rw [List.length_map, hl]) (fun k y z h1 h2 => by
    rw [List.getElem?_map, Option.map_eq_some_iff] at h1
    obtain ⟨p, hp, rfl⟩ := h1
    exact (hy k p z hp h2).1) (Int.le_refl _) rfl (Int.le_refl _)
  have m2 := exXY_mono a b (xsOf ps) ys (ps.map (·.2.2)) (0, 1) (0, 1) (by rw [List.length_map, hl]) (fun k y z h1 h2 => by
    rw [List.getElem?_map, Option.map_eq_some_iff] at h2
    obtain ⟨p, hp, rfl⟩ := h2
    exact (hy k p y hp h1).2) (Int.le_refl _) rfl (Int.le_refl _)
  have m3 := exXY_neg a b (xsOf ps) (ps.map (·.2.2)) (0, 1) (0, 1) rfl rfl
  rw [List.map_map] at m3
  have h := area_lies (exD_pos a b (xsOf ps) ys) m1.1 m2.1
  unfold areaLo areaHi exN exD
  unfold exD at h
  rw [m1.2]
  rw [show ps.map (fun p => -p.2.2) = ps.map ((- ·) ∘ (·.2.2)) from rfl, m3.1, m3.2, ← m2.2]
  exact h
theorem curve_within {ps : List P3} {cs : List Int} (ht : tabOk ps = true) (k : Nat) (p : P3) (y : Int) (hp : ps[k]? = some p) (hy : (curveFrom cs 0 ps)[k]? = some y) : p.2.1 ≤ y ∧ y ≤ p.2.2 := by
  obtain ⟨q, h1, h2⟩ := curveFrom_get cs 0 ps k y hy
  rw [hp] at h1; injection h1 with h1; subst h1
  rw [h2]
  exact curveAt_in cs p _ (pts_ordered ps (-1) (tabOk_pts ht) p (List.mem_of_getElem? hp))
theorem curve_inY {ps : List P3} {cs : List Int} (ht : tabOk ps = true) : InY (curveFrom cs 0 ps) := fun y hy => by
  obtain ⟨k, hk⟩ := List.mem_iff_getElem?.1 hy
  obtain ⟨q, h1, _⟩ := curveFrom_get cs 0 ps k y hk
  have hw := curve_within ht k q y h1 hk
  have ho := ((okp_of ps (-1) (tabOk_pts ht) (by omega)) q (List.mem_of_getElem? h1)).1
  obtain ⟨_, _, o1, _, _, o4⟩ := ho
  omega
end Go.Proofs.Ythhcejcpopgkiaa
