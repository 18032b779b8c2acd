/- Plain, for HoldPoured and HoldDrawn: the numbers of a made hold are small; the fill in part that HoldPoured makes is one of the hold. No conditions. -/
import Derived.Test.YtemlaaipnhmcoaaGreatR44
set_option linter.unusedVariables false
set_option linter.unusedSimpArgs false
set_option linter.constructorNameAsVariable false
namespace Go.Proofs.YtemlaaipnhmcoaaGreat

section
open Go.RowKit

theorem made_vol (r : RawD) : (madeH r).vol = rowsTo (xsS r.fi r.st) (fun k => slopeF r.vs 0 300 ((xsS r.fi r.st).length - 1 - k)) (xsS r.fi r.st).length := by
  unfold madeH slopedL
  dsimp only
  rw [if_pos rfl]
theorem made_pt {r : RawD} {k : Nat} {p : P3} (hp : (madeH r).vol[k]? = some p) : 0 ≤ p.1 ∧ p.1 ≤ 1000 ∧ 0 ≤ p.2.1 ∧ p.2.2 ≤ 20000000 := by
  rw [made_vol] at hp
  have h8 := xsS_len r.fi r.st
  have hl := rowsTo_len (xsS r.fi r.st) (fun k => slopeF r.vs 0 300 ((xsS r.fi r.st).length - 1 - k)) (xsS r.fi r.st).length (Nat.le_refl _)
  have hk : k < (xsS r.fi r.st).length := by have := (List.getElem?_eq_some_iff.1 hp).1; omega
  rw [rowsTo_get _ k _ (Nat.le_refl _) hk (xsS_get r.fi r.st hk)] at hp
  injection hp with hp
  subst hp
  obtain ⟨x1, x2⟩ := xAt_in r.fi r.st hk
  obtain ⟨s1, s2, s3⟩ := slopeF_in r.vs 0 (mo := 300) (by omega) (by omega) ((xsS r.fi r.st).length - 1 - k) (by omega)
  dsimp only
  omega
theorem made_val {r : RawD} {cs : List Int} {x num den : Int} (hi : InTab (madeH r).vol cs) (h : ValOf (madeH r).vol cs x num den) : 0 < den ∧ den ≤ 1000 ∧ 0 ≤ num ∧ num ≤ 20000000000 := by
  have ht := hold_tab (made_valid r)
  have v0 := val_pos (hold_parts (made_valid r)).2.1.1 hi h
  obtain ⟨i, p, q, y, z, hp, hq, g1, g2, hy, hz, rfl, rfl⟩ := h
  obtain ⟨hpq, _, _⟩ := pts_rise ht hp hq
  have a := made_pt hp
  have b := made_pt hq
  obtain ⟨y1, y2⟩ := hi.2 i p y hp hy
  obtain ⟨z1, z2⟩ := hi.2 (i + 1) q z hq hz
  have m1 := Int.mul_le_mul_of_nonneg_right (show y ≤ 20000000 by omega) (show 0 ≤ q.1 - x by omega)
  have m2 := Int.mul_le_mul_of_nonneg_right (show z ≤ 20000000 by omega) (show 0 ≤ x - p.1 by omega)
  exact ⟨by omega, by omega, v0, by omega⟩
theorem made_more {a b i j : Int} (h1 : 0 < b ∧ b ≤ 1000 ∧ 0 ≤ a ∧ a ≤ 20000000000) (h2 : 0 < j ∧ j ≤ 1000 ∧ 0 ≤ i ∧ i ≤ 20000000000) : 0 ≤ i * b ∧ i * b ≤ 20000000000000 ∧ 0 ≤ a * j ∧ a * j ≤ 20000000000000 ∧ 0 < b * j ∧ b * j ≤ 1000000 := by
  have m1 := Int.mul_le_mul h2.2.2.2 h1.2.1 (show 0 ≤ b by omega) (by omega)
  have m2 := Int.mul_le_mul h1.2.2.2 h2.2.1 (show 0 ≤ j by omega) (by omega)
  have m3 := Int.mul_le_mul h1.2.1 h2.2.1 (show 0 ≤ j by omega) (by omega)
  have m4 := Int.mul_nonneg h2.2.2.1 (show 0 ≤ b by omega)
  have m5 := Int.mul_nonneg h1.2.2.1 (show 0 ≤ j by omega)
  have m6 := Int.mul_pos h1.1 h2.1
  omega
def partF (h : HoldD) (f : FillD) (x3 x4 : Int) : FillD :=
  ⟨f.hold, 3, if (f.x0 == 0 && f.x1 == 0) = true then lastX h.vol else f.x0, if (f.x0 == 0 && f.x1 == 0) = true then lastX h.vol else f.x1, if (f.d0 == 0 && f.d1 == 0) = true then (densityS x3 x4).1 else f.d0, if (f.d0 == 0 && f.d1 == 0) = true then (densityS x3 x4).2 else f.d1⟩
theorem part_ok {h : HoldD} {f : FillD} (e : fillErr h f = 0) (x3 x4 : Int) : fillErr h (partF h f x3 x4) = 0 := by
  obtain ⟨hS, hF⟩ := fill_zero e
  have hle := hold_first hS
  obtain ⟨b1, b2⟩ := emod_in x3 (show (0 : Int) < 900 by omega)
  obtain ⟨b3, b4⟩ := emod_in x4 (show (0 : Int) < 200 by omega)
  have hd : 100 ≤ (densityS x3 x4).1 ∧ (densityS x3 x4).1 ≤ (densityS x3 x4).2 ∧ (densityS x3 x4).2 ≤ 2000 := by unfold densityS; dsimp only; omega
  unfold fillErr
  rw [if_pos hS]
  have : fillS h (partF h f x3 x4) = true := by
    unfold fillS stateS densS at hF
    simp only [Bool.and_eq_true, Bool.or_eq_true, decide_eq_true_eq, beq_iff_eq, inB] at hF
    unfold fillS stateS densS partF
    simp only [Bool.and_eq_true, Bool.or_eq_true, decide_eq_true_eq, beq_iff_eq, inB]
    refine ⟨hF.1, .inr (.inr ⟨by omega, ?_, ?_⟩)⟩
    · split <;> omega
    · split <;> omega
  rw [if_pos this]
end

end Go.Proofs.YtemlaaipnhmcoaaGreat
