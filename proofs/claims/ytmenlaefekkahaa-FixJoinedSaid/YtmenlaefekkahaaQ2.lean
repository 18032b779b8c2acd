/- The specification's sum over pieces: a whole number, and a fraction below 1: pure numbers. -/
import Derived.Test.YtmenlaefekkahaaQ1
set_option linter.unusedVariables false
set_option linter.unusedSimpArgs false
set_option linter.constructorNameAsVariable false
namespace Go.Proofs.Ytmenlaefekkahaa
/-- a whole number, and a fraction under way: a whole number, n / d -/
def rtStep (a b : Int) (s : Int × Int × Int × Int) (x0 x1 l0 l1 : Int) : Int × Int × Int × Int :=
  if min b x1 ≤ max a x0 then s else
    if arE x0 x1 l0 l1 (max a x0) (min b x1) % (x1 - x0) = 0 then (s.1 + arE x0 x1 l0 l1 (max a x0) (min b x1) / (x1 - x0), s.2.1, s.2.2.1, s.2.2.2)
    else (s.1, s.2.1 + arE x0 x1 l0 l1 (max a x0) (min b x1) / (x1 - x0) + (s.2.2.1 * (x1 - x0) + arE x0 x1 l0 l1 (max a x0) (min b x1) % (x1 - x0) * s.2.2.2) / (s.2.2.2 * (x1 - x0)), (s.2.2.1 * (x1 - x0) + arE x0 x1 l0 l1 (max a x0) (min b x1) % (x1 - x0) * s.2.2.2) % (s.2.2.2 * (x1 - x0)), s.2.2.2 * (x1 - x0))
def rtXY (a b : Int) : Int × Int × Int × Int → List Int → List Int → Int × Int × Int × Int
  | s, x0 :: x1 :: xs, y0 :: y1 :: ys => rtXY a b (rtStep a b s x0 x1 y0 y1) (x1 :: xs) (y1 :: ys)
  | s, _, _ => s
def Under4 (a b x : Int) (s : Int × Int × Int × Int) (N D : Int) : Prop :=
  ((s.1 + s.2.1) * s.2.2.2 + s.2.2.1) * D = N * s.2.2.2 ∧ 1 ≤ s.2.2.2 ∧ 1 ≤ D ∧ 0 ≤ s.2.2.1 ∧ s.2.2.1 < s.2.2.2 ∧ (arK a b x = 0 → s.2.2.2 = 1) ∧ (arK a b x = 1 → s.2.2.2 ≤ 1000000) ∧ s.2.2.2 ≤ 1000000000000 ∧ -(3000000000 * x) ≤ s.1 ∧ s.1 ≤ 3000000000 * x ∧ -(3000000000 * x) ≤ s.2.1 ∧ s.2.1 ≤ 3000000000 * x
theorem under4_step {a b x0 x1 l0 l1 N D : Int} {s : Int × Int × Int × Int} (h : Under4 a b x0 s N D) (hab : a ≤ b) (h0 : 0 ≤ x0) (h1 : x0 < x1) (h2 : x1 ≤ 1000000) (a1 : -1000000000 ≤ l0) (a2 : l0 ≤ 1000000000) (b1 : -1000000000 ≤ l1) (b2 : l1 ≤ 1000000000) :
    Under4 a b x1 (rtStep a b s x0 x1 l0 l1) (exStep a b (N, D) x0 x1 l0 l1).1 (exStep a b (N, D) x0 x1 l0 l1).2 := by
  obtain ⟨V, W, n, d⟩ := s
  obtain ⟨e, hd, hD, hn, hnd, k0, k1, hdm, v1, v2, w1, w2⟩ := h
  have hm : max (x1 - x0) 1 = x1 - x0 := by omega
  have hup := arK_up (a := a) (b := b) (Int.le_of_lt h1)
  have r0 := arK_in a b x0
  have r1 := arK_in a b x1
  have hD' : 1 ≤ D * (x1 - x0) := by
    have : 1 * 1 ≤ D * (x1 - x0) := Int.mul_le_mul hD (by omega) (by omega) (by omega)
    omega
  unfold exStep rtStep arC Under4
  rw [hm]
  dsimp only at *
  by_cases hc : min b x1 ≤ max a x0
  · rw [if_pos hc, if_pos hc]
    dsimp only at *
    exact ⟨by grind, hd, hD', hn, hnd, by omega, by omega, hdm, by omega, by omega, by omega, by omega⟩
  · rw [if_neg hc, if_neg hc]
    have hb := arE_bound (x0 := x0) (x1 := x1) (u := max a x0) (v := min b x1) (by omega) (by omega) (by omega) a1 a2 b1 b2
    have hq := ediv_within (B := 2000000000 * (x1 - x0)) (show 1 ≤ x1 - x0 by omega) hb.1 hb.2
    have hwh := arE_whole x0 x1 l0 l1
    have hem := Int.mul_ediv_add_emod (arE x0 x1 l0 l1 (max a x0) (min b x1)) (x1 - x0)
    have hr0 := Int.emod_nonneg (arE x0 x1 l0 l1 (max a x0) (min b x1)) (show x1 - x0 ≠ 0 by omega)
    have hr1 := Int.emod_lt_of_pos (arE x0 x1 l0 l1 (max a x0) (min b x1)) (show 0 < x1 - x0 by omega)
    have hpart : ¬ arE x0 x1 l0 l1 (max a x0) (min b x1) % (x1 - x0) = 0 → arK a b x0 + 1 ≤ arK a b x1 := by
      intro hne
      have : x0 < a ∨ b < x1 := by
        rcases Int.lt_or_le x0 a with c | c
        · exact .inl c
        · rcases Int.lt_or_le b x1 with c' | c'
          · exact .inr c'
          · exact absurd (by rw [show max a x0 = x0 by omega, show min b x1 = x1 by omega]; exact hwh) hne
      unfold arK
      repeat' split <;> omega
    generalize arE x0 x1 l0 l1 (max a x0) (min b x1) = E at *
    generalize E / (x1 - x0) = q at *
    generalize E % (x1 - x0) = r at *
    clear hwh hb
    generalize hw : x1 - x0 = w at hq hem hr0 hr1 hD' ⊢
    have hw1 : 1 ≤ w := by omega
    by_cases hz : r = 0
    · rw [if_pos hz]
      subst hz
      dsimp only at *
      exact ⟨by grind, hd, hD', hn, hnd, by omega, by omega, hdm, by omega, by omega, by omega, by omega⟩
    · rw [if_neg hz]
      have hK := hpart hz
      dsimp only at *
      have hdw : 1 ≤ d * w := by
        have : 1 * 1 ≤ d * w := Int.mul_le_mul hd hw1 (by omega) (by omega)
        omega
      have nn : 0 ≤ n * w := Int.mul_nonneg hn (by omega)
      have rd : 0 ≤ r * d := Int.mul_nonneg (by omega) (by omega)
      have hd1 : arK a b x0 = 0 → d * w ≤ 1000000 := fun z => by rw [k0 z, Int.one_mul]; omega
      have hd2 : d * w ≤ 1000000000000 := by
        have hd6 : d ≤ 1000000 := by
          rcases (show arK a b x0 = 0 ∨ arK a b x0 = 1 by omega) with z | z
          · have := k0 z; omega
          · exact k1 z
        have := Int.mul_le_mul hd6 (show w ≤ 1000000 by omega) (by omega) (by omega)
        omega
      have t1 := Int.mul_le_mul_of_nonneg_right (show n ≤ d by omega) (show 0 ≤ w by omega)
      have t2 := Int.mul_le_mul_of_nonneg_right (show r ≤ w by omega) (show 0 ≤ d by omega)
      have t3 : w * d = d * w := Int.mul_comm _ _
      have u1 := Int.mul_ediv_add_emod (n * w + r * d) (d * w)
      have u2 := Int.emod_nonneg (n * w + r * d) (show d * w ≠ 0 by omega)
      have u3 := Int.emod_lt_of_pos (n * w + r * d) (show 0 < d * w by omega)
      have u4 : 0 ≤ (n * w + r * d) / (d * w) := Int.ediv_nonneg (by omega) (by omega)
      have u5 : (n * w + r * d) / (d * w) < 2 := Int.ediv_lt_of_lt_mul (by omega) (by
        have t4 := Int.mul_lt_mul_of_pos_right hnd (show 0 < w by omega)
        omega)
      generalize (n * w + r * d) / (d * w) = Q at *
      generalize (n * w + r * d) % (d * w) = R at *
      refine ⟨?_, hdw, hD', u2, u3, by omega, fun z => hd1 (by omega), hd2, by omega, by omega, by omega, by omega⟩
      have g1 : ((V + (W + q + Q)) * (d * w) + R) = w * ((V + W) * d + n) + d * E := by grind
      rw [g1]; grind
def Summed4 (s : Int × Int × Int × Int) (N D : Int) : Prop := 1 ≤ D ∧ 1 ≤ s.2.2.2 ∧ 0 ≤ s.2.2.1 ∧ s.2.2.1 < s.2.2.2 ∧ -3000000000000000 ≤ s.1 ∧ s.1 ≤ 3000000000000000 ∧ -3000000000000000 ≤ s.2.1 ∧ s.2.1 ≤ 3000000000000000 ∧ ((s.1 + s.2.1) * s.2.2.2 + s.2.2.1) * D = N * s.2.2.2
theorem Under4.summed {a b x N D : Int} {s : Int × Int × Int × Int} (h : Under4 a b x s N D) (hx : x ≤ 1000000) : Summed4 s N D := by
  obtain ⟨e, hd, hD, hn, hnd, k0, k1, hdm, v1, v2, w1, w2⟩ := h
  exact ⟨hD, hd, hn, hnd, by omega, by omega, by omega, by omega, e⟩
theorem rtXY_under {a b : Int} (hab : a ≤ b) : ∀ (xs ys : List Int) (x0 : Int) (s : Int × Int × Int × Int) (N D : Int), xs.head? = some x0 → Under4 a b x0 s N D → xs.Pairwise (· < ·) → (∀ x ∈ xs, 0 ≤ x ∧ x ≤ 1000000) → InY ys →
    Summed4 (rtXY a b s xs ys) (exXY a b (N, D) xs ys).1 (exXY a b (N, D) xs ys).2
  | [], _, _, _, _, _, hh, _, _, _, _ => by simp at hh
  | [x], ys, x0, s, N, D, hh, h, hp, hx, hy => by
    simp at hh; subst hh
    rw [rtXY, exXY]
    · exact h.summed (hx x (by simp)).2
    all_goals simp
  | x :: x1 :: xs, [], x0, s, N, D, hh, h, hp, hx, hy => by
    simp at hh; subst hh
    rw [rtXY, exXY]
    · exact h.summed (hx x (by simp)).2
    all_goals simp
  | x :: x1 :: xs, [y], x0, s, N, D, hh, h, hp, hx, hy => by
    simp at hh; subst hh
    rw [rtXY, exXY]
    · exact h.summed (hx x (by simp)).2
    all_goals simp
  | x :: x1 :: xs, y0 :: y1 :: ys, x0, s, N, D, hh, h, hp, hx, hy => by
    simp at hh; subst hh
    rw [rtXY, exXY]
    obtain ⟨hp1, hp2⟩ := List.pairwise_cons.1 hp
    have hlt := hp1 x1 (by simp)
    have b0 := hx x (by simp)
    have b1 := hx x1 (by simp)
    have c0 := hy y0 (by simp)
    have c1 := hy y1 (by simp)
    exact rtXY_under hab _ _ x1 _ _ _ rfl (under4_step h hab b0.1 hlt b1.2 c0.1 c0.2 c1.1 c1.2) hp2 (fun z hz => hx z (List.mem_cons_of_mem _ hz)) (fun z hz => hy z (List.mem_cons_of_mem _ hz))
theorem under4_start {a b x : Int} (h1 : x ≤ a) (hab : a ≤ b) (h0 : 0 ≤ x) : Under4 a b x (0, 0, 0, 1) 0 1 := by
  refine ⟨by simp, by simp, by simp, by simp, by simp, by simp, by simp, by simp, ?_, ?_, ?_, ?_⟩ <;> dsimp only <;> omega
theorem Summed4.floor {s : Int × Int × Int × Int} {N D : Int} (h : Summed4 s N D) : s.1 + s.2.1 = N / D ∧ (decide (0 < s.2.2.1) = decide (0 < N % D)) := by
  obtain ⟨hD, hd, hn, hnd, v1, v2, w1, w2, e⟩ := h
  have hz : s.2.2.1 / s.2.2.2 = 0 := Int.ediv_eq_zero_of_lt hn hnd
  have e1 : s.1 + s.2.1 = N / D := by
    rw [← floor_same hd hD e, Int.add_comm ((s.1 + s.2.1) * s.2.2.2), Int.add_mul_ediv_right _ _ (by omega), hz, Int.zero_add]
  refine ⟨e1, ?_⟩
  have e2 := Int.mul_ediv_add_emod N D
  rw [← e1] at e2
  generalize s.1 + s.2.1 = T at *
  have e3 : s.2.2.1 * D = N % D * s.2.2.2 := by
    have : N % D = N - D * T := by omega
    rw [this]; grind
  have hr := Int.emod_nonneg N (show D ≠ 0 by omega)
  by_cases c : 0 < s.2.2.1
  · rw [decide_eq_true c]
    have : 0 < s.2.2.1 * D := Int.mul_pos c (by omega)
    have : N % D ≠ 0 := fun z => by rw [z, Int.zero_mul] at e3; omega
    rw [decide_eq_true (by omega)]
  · rw [decide_eq_false c]
    have z : s.2.2.1 = 0 := by omega
    rw [z, Int.zero_mul] at e3
    have : N % D = 0 := by
      rcases Int.mul_eq_zero.1 e3.symm with k | k <;> omega
    rw [decide_eq_false (by omega)]

/-- What a curve between two lines has, against what they tell. -/
theorem area_lies {Nl Nc Nh D : Int} (hD : 1 ≤ D) (h1 : Nl ≤ Nc) (h2 : Nc ≤ Nh) : Nl / D ≤ Nc / D ∧ Nc / D ≤ -(-Nh / D) ∧ (0 < Nc % D → Nc / D ≠ -(-Nh / D)) := by
  have hd0 : 0 < D := by omega
  have a1 := Int.ediv_le_ediv hd0 h1
  have a2 : -Nh / D ≤ -(Nc / D) := by
    have b1 : -Nh / D ≤ -Nc / D := Int.ediv_le_ediv hd0 (by omega)
    have b2 := Int.mul_ediv_add_emod Nc D
    have b3 := Int.emod_nonneg Nc (show D ≠ 0 by omega)
    have b4 : -Nc / D ≤ -(Nc / D) := by
      refine Int.ediv_le_of_le_mul hd0 ?_
      rw [Int.neg_mul, Int.mul_comm]; omega
    omega
  refine ⟨a1, by omega, fun hp he => ?_⟩
  have b1 : -Nh / D ≤ -Nc / D := Int.ediv_le_ediv hd0 (by omega)
  have b2 := Int.mul_ediv_add_emod Nc D
  have b4 : -Nc / D < -(Nc / D) := by
    refine Int.ediv_lt_of_lt_mul hd0 ?_
    rw [Int.neg_mul, Int.mul_comm]; omega
  omega
/-- Neighbouring parts, but for 1. -/
theorem floors_add {N N1 N2 D : Int} (hD : 1 ≤ D) (h : N = N1 + N2) : 0 ≤ N / D - N1 / D - N2 / D ∧ N / D - N1 / D - N2 / D ≤ 1 := by
  subst h
  have e0 := Int.mul_ediv_add_emod (N1 + N2) D
  have e1 := Int.mul_ediv_add_emod N1 D
  have e2 := Int.mul_ediv_add_emod N2 D
  have r0 := Int.emod_nonneg (N1 + N2) (show D ≠ 0 by omega)
  have r1 := Int.emod_nonneg N1 (show D ≠ 0 by omega)
  have r2 := Int.emod_nonneg N2 (show D ≠ 0 by omega)
  have l0 := Int.emod_lt_of_pos (N1 + N2) (show 0 < D by omega)
  have l1 := Int.emod_lt_of_pos N1 (show 0 < D by omega)
  have l2 := Int.emod_lt_of_pos N2 (show 0 < D by omega)
  generalize (N1 + N2) / D = q at *
  generalize N1 / D = q1 at *
  generalize N2 / D = q2 at *
  have e : D * (q - q1 - q2) = N1 % D + N2 % D - (N1 + N2) % D := by grind
  constructor
  · rcases Int.lt_or_le (q - q1 - q2) 0 with c | c
    · have := Int.mul_le_mul_of_nonneg_left (show q - q1 - q2 ≤ -1 by omega) (show 0 ≤ D by omega)
      omega
    · exact c
  · rcases Int.lt_or_le 1 (q - q1 - q2) with c | c
    · have := Int.mul_le_mul_of_nonneg_left (show 2 ≤ q - q1 - q2 by omega) (show 0 ≤ D by omega)
      omega
    · exact c
end Go.Proofs.Ytmenlaefekkahaa
