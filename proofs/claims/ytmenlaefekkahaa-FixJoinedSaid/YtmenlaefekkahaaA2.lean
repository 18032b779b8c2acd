/- The contracts of scaled (fix and its specification): x times n / d, rounded down. Conditions: the numbers' bounds that each theorem names. -/
import Derived.Test.YtmenlaefekkahaaA1
set_option linter.unusedVariables false
set_option linter.unusedSimpArgs false
set_option linter.constructorNameAsVariable false
namespace Go.Proofs.Ytmenlaefekkahaa
open Go.RowKit

/-- The floor of x n / d, by q = floor of x / d. -/
theorem floor_split (x n d : Int) (hd : 1 ≤ d) : x / d * n + (x - x / d * d) * n / d = x * n / d := by
  have h : x * n = (x - x / d * d) * n + d * (x / d * n) := by
    rw [Int.sub_mul, Int.mul_comm d (x / d * n), Int.mul_assoc (x / d) n d, Int.mul_comm n d, ← Int.mul_assoc]; omega
  rw [h, Int.add_mul_ediv_left _ _ (by omega : d ≠ 0)]; omega
theorem rest_bounds (x d : Int) (hd : 1 ≤ d) : 0 ≤ x - x / d * d ∧ x - x / d * d ≤ d - 1 := by
  have h1 := Int.mul_ediv_add_emod x d
  have h2 := Int.emod_nonneg x (by omega : d ≠ 0)
  have h3 := Int.emod_lt_of_pos x (by omega : 0 < d)
  rw [Int.mul_comm] at h1
  omega
theorem part_bounds (m n d : Int) (hd : 1 ≤ d) (hm : 0 ≤ m) (hm' : m ≤ d - 1) (hn : 0 ≤ n) : 0 ≤ m * n / d ∧ m * n / d ≤ n := by
  refine ⟨Int.ediv_nonneg (Int.mul_nonneg hm hn) (by omega), Int.ediv_le_of_le_mul (by omega) ?_⟩
  have := Int.mul_le_mul_of_nonneg_right (show m ≤ d by omega) hn
  rw [Int.mul_comm n d]; exact this
theorem part_bounds' (m n d : Int) (hd : 1 ≤ d) (hm : 0 ≤ m) (hm' : m ≤ d - 1) : -absI n ≤ m * n / d ∧ m * n / d ≤ absI n := by
  rcases abs_cases n with ⟨hn, e⟩ | ⟨n, hn, rfl, e⟩ <;> rw [e]
  · have := part_bounds m n d hd hm hm' hn; omega
  · have h1 := Int.mul_le_mul_of_nonneg_right (show m ≤ d by omega) (show 0 ≤ n by omega)
    have h2 := Int.mul_nonneg hm (show 0 ≤ n by omega)
    refine ⟨Int.le_ediv_of_mul_le (by omega) ?_, Int.ediv_le_of_le_mul (by omega) ?_⟩
    · rw [Int.neg_mul, Int.mul_neg, Int.mul_comm n d]; omega
    · rw [Int.mul_neg, Int.mul_comm n d]; omega
theorem mul_between (m n A B : Int) (hm : 0 ≤ m) (hm' : m ≤ A) (hn : -B ≤ n) (hn' : n ≤ B) : -(A * B) ≤ m * n ∧ m * n ≤ A * B := by
  have hA : 0 ≤ A := by omega
  have h1 : absI n ≤ B := absI_le n B hn hn'
  have h2 : absI (m * n) ≤ A * B := by
    rw [absI_mul]
    have e : absI m = m := by unfold absI; rw [if_pos hm]
    rw [e]
    exact Int.mul_le_mul hm' h1 (absI_nn n) hA
  exact of_absI_le h2

/-- fix.scaled tells a number -/
theorem scaled_yes (x n d : Int) (w : World) (hx : -1000000000000000 ≤ x) (hx' : x ≤ 1000000000000000) (hn : 0 ≤ n) (hn' : n ≤ 1000000000) (hd : 1 ≤ d) (hd' : d ≤ 1000000000) (h : prodOk (x / d) n) :
    Calls Try.prog 83 #[.int .i64 x, .int .i64 n, .int .i64 d] w fun e w' => e = .returned (.tuple #[.int .i64 (x * n / d), .bool true]) ∧ w = w' := by
  have HS := Lib.hid (floor_split x n d hd)
  obtain ⟨r1, r2⟩ := rest_bounds x d hd
  obtain ⟨q1, q2⟩ := ediv_between x d 1000000000000000 hd (by omega) hx hx'
  obtain ⟨p1, p2⟩ := of_absI_le ((prodOk_iff _ _).1 h)
  generalize hq : x / d = q at *
  have HQ := Lib.hid hq; clear hq
  obtain ⟨s1, s2⟩ := mul_between (x - q * d) n 1000000000 1000000000 r1 (by omega) (by omega) hn'
  obtain ⟨t1, t2⟩ := part_bounds (x - q * d) n d hd r1 r2 hn
  have HP := Lib.hid h; clear h
  go_enter Try.func83, Try.ntmps83
  go_wp2_with fail
  refine (floor_any x d _ hd (by omega) (by omega)).mono ?_
  rintro e w' ⟨he, rfl⟩
  rw [HQ.out] at he
  subst he
  go_wp2_with fail
  refine (product_yes q n _ (by omega) (by omega) (by omega) (by omega) HP.out).mono ?_
  rintro e w' ⟨rfl, rfl⟩
  go_wp2_with fail
  refine (floor_any _ d _ hd (by omega) (by omega)).mono ?_
  rintro e w' ⟨rfl, rfl⟩
  go_wp2
  go_ret2
  exact ⟨by show Ending.returned (.tuple #[.int .i64 (q * n + (x - q * d) * n / d), .bool true]) = _; rw [HS.out], rfl⟩

/-- fix.scaled tells none -/
theorem scaled_no (x n d : Int) (w : World) (hx : -1000000000000000 ≤ x) (hx' : x ≤ 1000000000000000) (hn : 0 ≤ n) (hn' : n ≤ 1000000000) (hd : 1 ≤ d) (hd' : d ≤ 1000000000) (h : ¬ prodOk (x / d) n) :
    Calls Try.prog 83 #[.int .i64 x, .int .i64 n, .int .i64 d] w fun e w' => e = .returned (.tuple #[.int .i64 0, .bool false]) ∧ w = w' := by
  obtain ⟨q1, q2⟩ := ediv_between x d 1000000000000000 hd (by omega) hx hx'
  generalize hq : x / d = q at *
  have HQ := Lib.hid hq; clear hq
  have HP := Lib.hid h; clear h
  go_enter Try.func83, Try.ntmps83
  go_wp2_with fail
  refine (floor_any x d _ hd (by omega) (by omega)).mono ?_
  rintro e w' ⟨he, rfl⟩
  rw [HQ.out] at he
  subst he
  go_wp2_with fail
  refine (product_no q n _ (by omega) (by omega) (by omega) (by omega) HP.out).mono ?_
  rintro e w' ⟨rfl, rfl⟩
  go_wp2
  go_ret2
  exact ⟨rfl, rfl⟩
theorem far_of_no (x n d : Int) (hn : 0 ≤ n) (hn' : n ≤ 1000000000) (hd : 1 ≤ d) (h : ¬ prodOk (x / d) n) : ¬ absI (x * n / d) ≤ 1000000000000000 := by
  intro hc
  obtain ⟨c1, c2⟩ := of_absI_le hc
  obtain ⟨r1, r2⟩ := rest_bounds x d hd
  obtain ⟨t1, t2⟩ := part_bounds (x - x / d * d) n d hd r1 r2 hn
  have hs := floor_split x n d hd
  refine h ((prodOk_iff _ _).2 (absI_le _ _ ?_ ?_)) <;> omega

/-- the specification's test -/
def rScOk (q n : Int) : Prop := n = 0 ∨ absI q ≤ 1000000000000000 / absI n + 1
theorem rScOk_mul (q n : Int) (h : rScOk q n) : absI (q * n) ≤ 1000000000000000 + absI n := by
  rcases h with rfl | h
  · simp [absI]
  · rw [absI_mul]
    by_cases h0 : n = 0
    · subst h0; simp [absI]
    · have h1 := absI_pos n h0
      have h2 := Int.mul_le_mul_of_nonneg_right h (absI_nn n)
      have h3 := Int.ediv_mul_le 1000000000000000 (show absI n ≠ 0 by omega)
      rw [Int.add_mul, Int.one_mul] at h2
      omega
theorem rScOk_no (q n : Int) (h : ¬ rScOk q n) : 1000000000000000 + absI n < absI (q * n) := by
  have h0 : ¬ n = 0 := fun e => h (.inl e)
  have h1 := absI_pos n h0
  have h2 : 1000000000000000 / absI n + 1 < absI q := by
    rcases Int.lt_or_le (1000000000000000 / absI n + 1) (absI q) with h' | h'
    · exact h'
    · exact absurd (.inr h') h
  rw [absI_mul]
  have h3 := Int.mul_le_mul_of_nonneg_right (show 1000000000000000 / absI n + 2 ≤ absI q by omega) (absI_nn n)
  have h4 := Int.lt_ediv_add_one_mul_self 1000000000000000 (show 0 < absI n by omega)
  rw [Int.add_mul] at h3 h4
  omega
theorem rfar_of_no (x n d : Int) (hd : 1 ≤ d) (h : ¬ rScOk (x / d) n) : ¬ absI (x * n / d) ≤ 1000000000000000 := by
  intro hc
  obtain ⟨c1, c2⟩ := of_absI_le hc
  obtain ⟨r1, r2⟩ := rest_bounds x d hd
  obtain ⟨t1, t2⟩ := part_bounds' (x - x / d * d) n d hd r1 r2
  have hs := floor_split x n d hd
  have hf := rScOk_no _ _ h
  have := absI_le (x / d * n) (1000000000000000 + absI n) (by omega) (by omega)
  omega

/-- ullageref01.scaled tells a number -/
theorem rScaled_yes (x n d : Int) (w : World) (hx : -1000000000000000 ≤ x) (hx' : x ≤ 1000000000000000) (hn : -1000000000 ≤ n) (hn' : n ≤ 1000000000) (hd : 1 ≤ d) (hd' : d ≤ 1000000000) (h : rScOk (x / d) n) :
    Calls Try.prog 84 #[.int .i64 x, .int .i64 n, .int .i64 d] w fun e w' => e = .returned (.tuple #[.int .i64 (x * n / d), .bool true]) ∧ w = w' := by
  have HS := Lib.hid (floor_split x n d hd)
  obtain ⟨r1, r2⟩ := rest_bounds x d hd
  obtain ⟨q1, q2⟩ := ediv_between x d 1000000000000000 hd (by omega) hx hx'
  have hn9 := absI_le n 1000000000 hn hn'
  obtain ⟨p1, p2⟩ := of_absI_le (rScOk_mul _ _ h)
  obtain ⟨t1, t2⟩ := part_bounds' (x - x / d * d) n d hd r1 r2
  generalize hq : x / d = q at *
  have HQ := Lib.hid hq; clear hq
  obtain ⟨s1, s2⟩ := mul_between (x - q * d) n 1000000000 1000000000 r1 (by omega) hn hn'
  have h3 : n ≠ 0 → absI q ≤ 1000000000000000 / absI n + 1 := fun h0 => h.resolve_left h0
  clear h
  rcases abs_cases n with ⟨gn, en⟩ | ⟨n, gn, rfl, en⟩ <;> rcases abs_cases q with ⟨gq, eq⟩ | ⟨q, gq, rfl, eq⟩ <;> rw [en, eq] at h3 <;> rw [en] at p1 p2 t1 t2 hn9 <;> clear en eq
  all_goals
    by_cases h0 : n = 0
    · first
        | (exfalso; omega)
        | (subst h0
           clear h3
           go_enter Try.func84, Try.ntmps84
           go_wp2_with fail
           refine (rFloor_any x d _ hd (by omega) (by omega)).mono ?_
           rintro e w' ⟨he, rfl⟩
           rw [HQ.out] at he
           subst he
           go_wp2_with fail
           refine (rFloor_any _ d _ hd (by omega) (by omega)).mono ?_
           rintro e w' ⟨rfl, rfl⟩
           go_wp2
           go_ret2
           exact ⟨by simp, rfl⟩)
    · have hn0 : (n == 0) = false := beq_eq_false_iff_ne.2 h0
      have h3' := h3 (by omega)
      clear h3
      have hn1 : 1 ≤ n := by omega
      obtain ⟨k1, k2⟩ := ediv_between 1000000000000000 n 1000000000000000 hn1 (by omega) (by omega) (by omega)
      go_enter Try.func84, Try.ntmps84
      go_wp2_with fail
      refine (rFloor_any x d _ hd (by omega) (by omega)).mono ?_
      rintro e w' ⟨he, rfl⟩
      rw [HQ.out] at he
      subst he
      go_wp2_with fail
      refine (rFloor_any _ d _ hd (by omega) (by omega)).mono ?_
      rintro e w' ⟨rfl, rfl⟩
      go_wp2
      go_ret2
      exact ⟨by rw [← HS.out]; rfl, rfl⟩

theorem rScaled_no (x n d : Int) (w : World) (hx : -1000000000000000 ≤ x) (hx' : x ≤ 1000000000000000) (hn : -1000000000 ≤ n) (hn' : n ≤ 1000000000) (hd : 1 ≤ d) (hd' : d ≤ 1000000000) (h : ¬ rScOk (x / d) n) :
    Calls Try.prog 84 #[.int .i64 x, .int .i64 n, .int .i64 d] w fun e w' => e = .returned (.tuple #[.int .i64 0, .bool false]) ∧ w = w' := by
  obtain ⟨r1, r2⟩ := rest_bounds x d hd
  obtain ⟨q1, q2⟩ := ediv_between x d 1000000000000000 hd (by omega) hx hx'
  have hn9 := absI_le n 1000000000 hn hn'
  generalize hq : x / d = q at *
  have HQ := Lib.hid hq; clear hq
  have h0 : ¬ n = 0 := fun e => h (.inl e)
  have h3 : 1000000000000000 / absI n + 1 < absI q := by
    rcases Int.lt_or_le (1000000000000000 / absI n + 1) (absI q) with h' | h'
    · exact h'
    · exact absurd (.inr h') h
  clear h
  rcases abs_cases n with ⟨gn, en⟩ | ⟨n, gn, rfl, en⟩ <;> rcases abs_cases q with ⟨gq, eq⟩ | ⟨q, gq, rfl, eq⟩ <;> rw [en, eq] at h3 <;> rw [en] at hn9 <;> clear en eq
  all_goals
    have hn0 : (n == 0) = false := beq_eq_false_iff_ne.2 (by omega)
    have hn1 : 1 ≤ n := by omega
    obtain ⟨k1, k2⟩ := ediv_between 1000000000000000 n 1000000000000000 hn1 (by omega) (by omega) (by omega)
    go_enter Try.func84, Try.ntmps84
    go_wp2_with fail
    refine (rFloor_any x d _ hd (by omega) (by omega)).mono ?_
    rintro e w' ⟨he, rfl⟩
    rw [HQ.out] at he
    subst he
    go_wp2
    go_ret2
    exact ⟨rfl, rfl⟩
end Go.Proofs.Ytmenlaefekkahaa
