/- Plain laws on whole numbers for FixContains: sums, products and fractions of numbers of two ranges lie within what is told. Their conditions: the numbers' bounds that each theorem names. -/
import Derived.Test.YthhcejcpopgkiaaA10
import Derived.Test.YthhcejcpopgkiaaA7
import Derived.Test.YthhcejcpopgkiaaB2
set_option linter.unusedVariables false
set_option linter.unusedSimpArgs false
set_option linter.constructorNameAsVariable false
namespace Go.Proofs.Ythhcejcpopgkiaa
open Go.RowKit

theorem has_yes {a b n : Int} (h1 : a ≤ n) (h2 : n ≤ b) (ha : -1000000000000000 ≤ a) (hb : b ≤ 1000000000000000) : hasS a b n = true := by
  simp [hasS, (vR_iff a b).2 ⟨by omega, ha, hb⟩, h1, h2]
theorem has_no {a b n : Int} (h : ¬ (a ≤ n ∧ n ≤ b)) : hasS a b n = false := by
  simp [hasS]; omega
theorem bigS_yes {lo hi : Int} (h : lo ≤ hi) (h1 : -1000000000000000 ≤ lo) (h2 : hi ≤ 1000000000000000) : bigS lo hi = (lo, hi, 0) := by
  rw [bigS, if_pos ((vR_iff lo hi).2 ⟨h, h1, h2⟩)]
theorem both_yes {a b c d : Int} (h1 : a ≤ b) (h2 : -1000000 ≤ a) (h3 : b ≤ 1000000) (g1 : c ≤ d) (g2 : -1000000 ≤ c) (g3 : d ≤ 1000000) : (vR a b && vR c d) = true := by
  rw [(vR_iff a b).2 ⟨h1, by omega, by omega⟩, (vR_iff c d).2 ⟨g1, by omega, by omega⟩]; rfl
theorem lin_bounds {l x h c : Int} (h1 : l ≤ x) (h2 : x ≤ h) : min (l * c) (h * c) ≤ x * c ∧ x * c ≤ max (l * c) (h * c) := by
  rcases Int.le_total 0 c with hc | hc
  · have a1 := Int.mul_le_mul_of_nonneg_right h1 hc
    have a2 := Int.mul_le_mul_of_nonneg_right h2 hc
    omega
  · have a1 := Int.mul_le_mul_of_nonpos_right h1 hc
    have a2 := Int.mul_le_mul_of_nonpos_right h2 hc
    omega
theorem mul_ranges {a b c d u v : Int} (h1 : a ≤ u) (h2 : u ≤ b) (g1 : c ≤ v) (g2 : v ≤ d) (h3 : -1000000 ≤ a) (h4 : b ≤ 1000000) (g3 : -1000000 ≤ c) (g4 : d ≤ 1000000) :
    ∃ lo hi, mulS a b c d = (lo, hi, 0) ∧ hasS lo hi (u * v) = true := by
  have p1 := mul_between2 a c 1000000 1000000 (by omega) (by omega) (by omega) (by omega)
  have p2 := mul_between2 a d 1000000 1000000 (by omega) (by omega) (by omega) (by omega)
  have p3 := mul_between2 b c 1000000 1000000 (by omega) (by omega) (by omega) (by omega)
  have p4 := mul_between2 b d 1000000 1000000 (by omega) (by omega) (by omega) (by omega)
  have q1 := lin_bounds (c := v) h1 h2
  have q2 := lin_bounds (c := a) g1 g2
  have q3 := lin_bounds (c := b) g1 g2
  rw [Int.mul_comm c a, Int.mul_comm d a, Int.mul_comm v a] at q2
  rw [Int.mul_comm c b, Int.mul_comm d b, Int.mul_comm v b] at q3
  refine ⟨min (min (min (a * c) (a * d)) (b * c)) (b * d), max (max (max (a * c) (a * d)) (b * c)) (b * d), ?_, ?_⟩
  · unfold mulS
    rw [twoS_yes (both_yes (by omega) h3 (by omega) (by omega) g3 (by omega)), bigS_yes (by omega) (by omega) (by omega)]
  · exact has_yes (by omega) (by omega) (by omega) (by omega)
theorem ediv_in {n d B : Int} (hd : 1 ≤ d) (hB : 0 ≤ B) (h1 : -B ≤ n) (h2 : n ≤ B) : -B ≤ n / d ∧ n / d ≤ B := by
  have hd0 : 0 < d := by omega
  constructor
  · rw [Int.le_ediv_iff_mul_le hd0]
    have : B * 1 ≤ B * d := Int.mul_le_mul_of_nonneg_left hd hB
    rw [Int.neg_mul]; omega
  · have : n / d < B + 1 := by
      rw [Int.ediv_lt_iff_lt_mul hd0]
      have : (B + 1) * 1 ≤ (B + 1) * d := Int.mul_le_mul_of_nonneg_left hd (by omega)
      omega
    omega
theorem scale_ranges {a b u n d : Int} (h1 : a ≤ u) (h2 : u ≤ b) (h3 : -1000000 ≤ a) (h4 : b ≤ 1000000) (hn : -1000 ≤ n) (hn' : n ≤ 1000) (hd : 1 ≤ d) (hd' : d ≤ 1000) :
    ∃ lo hi, scaleS a b n d = (lo, hi, 0) ∧ lo * d ≤ u * n ∧ u * n ≤ hi * d ∧ -2000000000000 ≤ lo * d ∧ lo * d ≤ 2000000000000 ∧ -2000000000000 ≤ hi * d ∧ hi * d ≤ 2000000000000 := by
  have hd0 : 0 < d := by omega
  have pa := mul_between2 a n 1000000 1000 (by omega) (by omega) (by omega) (by omega)
  have pb := mul_between2 b n 1000000 1000 (by omega) (by omega) (by omega) (by omega)
  have key : ∀ x y : Int, x ≤ u * n → u * n ≤ y → -1000000000 ≤ x → x ≤ 1000000000 → -1000000000 ≤ y → y ≤ 1000000000 → ∃ lo hi, bigS (x / d) (-(-y / d)) = (lo, hi, 0) ∧ lo * d ≤ u * n ∧ u * n ≤ hi * d ∧ -2000000000000 ≤ lo * d ∧ lo * d ≤ 2000000000000 ∧ -2000000000000 ≤ hi * d ∧ hi * d ≤ 2000000000000 := by
    intro x y hx hy x1 x2 y1 y2
    obtain ⟨e1, e2⟩ := ediv_in (B := 1000000000) hd (by omega) x1 x2
    obtain ⟨e3, e4⟩ := ediv_in (n := -y) (B := 1000000000) hd (by omega) (by omega) (by omega)
    have f1 := Int.ediv_mul_le x (show d ≠ 0 by omega)
    have f2 := Int.ediv_mul_le (-y) (show d ≠ 0 by omega)
    have f3 : -(-y / d) * d = -((-y / d) * d) := Int.neg_mul _ _
    have g1 := mul_between2 (x / d) d 1000000000 1000 (by omega) (by omega) (by omega) (by omega)
    have g2 := mul_between2 (-y / d) d 1000000000 1000 (by omega) (by omega) (by omega) (by omega)
    have hle : x / d ≤ -(-y / d) := by
      refine Int.le_of_mul_le_mul_right ?_ hd0
      omega
    exact ⟨_, _, bigS_yes hle (by omega) (by omega), by omega, by omega, by omega, by omega, by omega, by omega⟩
  unfold scaleS
  rw [if_pos ((vR_iff a b).2 ⟨by omega, by omega, by omega⟩), if_pos ⟨by omega, by omega, by omega, by omega⟩]
  by_cases hneg : n < 0
  · rw [if_pos hneg]
    have a1 := Int.mul_le_mul_of_nonpos_right h2 (show n ≤ 0 by omega)
    have a2 := Int.mul_le_mul_of_nonpos_right h1 (show n ≤ 0 by omega)
    rw [show -a * n = -(a * n) from Int.neg_mul _ _]
    exact key (b * n) (a * n) a1 a2 (by omega) (by omega) (by omega) (by omega)
  · rw [if_neg hneg]
    have a1 := Int.mul_le_mul_of_nonneg_right h1 (show 0 ≤ n by omega)
    have a2 := Int.mul_le_mul_of_nonneg_right h2 (show 0 ≤ n by omega)
    rw [show -b * n = -(b * n) from Int.neg_mul _ _]
    exact key (a * n) (b * n) a1 a2 (by omega) (by omega) (by omega) (by omega)
/-- What Meet gives, and whether it has a number of the one range. -/
theorem meet_ranges {a b c d u : Int} (h1 : a ≤ u) (h2 : u ≤ b) (g1 : c ≤ d) (h3 : -1000000 ≤ a) (h4 : b ≤ 1000000) (g3 : -1000000 ≤ c) (g4 : d ≤ 1000000) :
    (∃ lo hi, meetS a b c d = (lo, hi, 0) ∧ hasS c d u = true ∧ hasS lo hi u = true) ∨ (∃ lo hi, meetS a b c d = (lo, hi, 0) ∧ hasS c d u = false ∧ hasS lo hi u = false) ∨ (meetS a b c d = (0, 0, 3) ∧ hasS c d u = false) := by
  have hb := both_yes (a := a) (b := b) (by omega) h3 h4 g1 g3 g4
  unfold meetS
  rw [twoS_yes hb]
  by_cases hov : max a c ≤ min b d
  · rw [if_pos hov]
    by_cases hu : c ≤ u ∧ u ≤ d
    · exact .inl ⟨_, _, rfl, has_yes hu.1 hu.2 (by omega) (by omega), has_yes (by omega) (by omega) (by omega) (by omega)⟩
    · exact .inr (.inl ⟨_, _, rfl, has_no hu, has_no (by omega)⟩)
  · rw [if_neg hov]
    exact .inr (.inr ⟨rfl, has_no (by omega)⟩)
end Go.Proofs.Ythhcejcpopgkiaa
