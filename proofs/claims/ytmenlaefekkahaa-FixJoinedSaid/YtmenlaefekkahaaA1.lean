/- The contracts of the whole-number functions of layer 1 (fix and its specification): floor, size, product, scaled. Conditions: the numbers' bounds that each theorem names. -/
import Derived.Test.YtmenlaefekkahaaRows
import Derived.WalkKit
import Derived.WalkSpells
import Derived.WalkLawsBesides
import Derived.Lib.Hide
import Derived.Deep.QuietTactic
import Derived.BigQuiet
set_option linter.unusedVariables false
set_option linter.unusedSimpArgs false
set_option linter.constructorNameAsVariable false
namespace Go.Proofs.Ytmenlaefekkahaa
open Go.RowKit

theorem ret_int {k : IntKind} {a b : Int} (h : a = b) : Ending.returned (.int k a) = .returned (.int k b) := by rw [h]

theorem tdiv_floor (n d : Int) (hd : 0 < d) : (n.tmod d < 0 → n.tdiv d - 1 = n / d) ∧ (0 ≤ n.tmod d → n.tdiv d = n / d) := by
  have h1 := Int.mul_tdiv_add_tmod n d
  have h5 := Int.tmod_lt_of_pos n hd
  have h6 : -d < n.tmod d := Int.lt_tmod_of_pos n hd
  refine ⟨fun h => ?_, fun h => ?_⟩
  · refine ((Int.ediv_emod_unique (r := n.tmod d + d) hd).2 ⟨?_, by omega, by omega⟩).1.symm
    rw [Int.mul_sub]; omega
  · exact ((Int.ediv_emod_unique (r := n.tmod d) hd).2 ⟨by omega, h, h5⟩).1.symm

theorem ediv_between (n d b : Int) (hd : 1 ≤ d) (hb : 0 ≤ b) (h1 : -b ≤ n) (h2 : n ≤ b) : -b ≤ n / d ∧ n / d ≤ b := by
  refine ⟨Int.le_ediv_of_mul_le (by omega) ?_, Int.ediv_le_of_le_mul (by omega) ?_⟩
  · have := Int.mul_le_mul_of_nonneg_left hd hb
    rw [Int.neg_mul]; omega
  · have := Int.mul_le_mul_of_nonneg_left hd hb
    omega

/-- fix.floor -/
theorem floor_any (n d : Int) (w : World) (hd : 1 ≤ d) (hn : -4000000000000000000 ≤ n) (hn' : n ≤ 4000000000000000000) :
    Calls Try.prog 124 #[.int .i64 n, .int .i64 d] w fun e w' => e = .returned (.int .i64 (n / d)) ∧ w = w' := by
  have hf := tdiv_floor n d (by omega)
  have hb := ediv_between n d 4000000000000000000 hd (by omega) hn hn'
  have H := Lib.hid (And.intro hf hb)
  clear hf hb
  go_enter Try.func124, Try.ntmps124
  go_wp2
  · have h : n.tmod d < 0 := by assumption
    go_ret
    obtain ⟨⟨h1, _⟩, h3, h4⟩ := H.out
    have h5 := h1 h
    exact ⟨ret_int (by rw [h5]; exact IntWalk.wrap64_in _ ⟨by omega, by omega⟩), rfl⟩
  · have h : 0 ≤ n.tmod d := by assumption
    go_ret
    obtain ⟨⟨_, h2⟩, _⟩ := H.out
    exact ⟨ret_int (h2 h), rfl⟩

/-- ullageref01.Floor -/
theorem rFloor_any (n d : Int) (w : World) (hd : 1 ≤ d) (hn : -4000000000000000000 ≤ n) (hn' : n ≤ 4000000000000000000) :
    Calls Try.prog 120 #[.int .i64 n, .int .i64 d] w fun e w' => e = .returned (.int .i64 (n / d)) ∧ w = w' := by
  have hf := tdiv_floor n d (by omega)
  have hb := ediv_between n d 4000000000000000000 hd (by omega) hn hn'
  have H := Lib.hid (And.intro hf hb)
  clear hf hb
  go_enter Try.func120, Try.ntmps120
  go_wp2
  · have h : n.tmod d < 0 := by assumption
    go_ret
    obtain ⟨⟨h1, _⟩, h3, h4⟩ := H.out
    have h5 := h1 h
    exact ⟨ret_int (by rw [h5]; exact IntWalk.wrap64_in _ ⟨by omega, by omega⟩), rfl⟩
  · have h : 0 ≤ n.tmod d := by assumption
    go_ret
    obtain ⟨⟨_, h2⟩, _⟩ := H.out
    exact ⟨ret_int (h2 h), rfl⟩

/-- fix.size: n without its sign -/
def absI (n : Int) : Int := if 0 ≤ n then n else -n
theorem size_any (n : Int) (w : World) (hn : -9223372036854775807 ≤ n) (hn' : n ≤ 9223372036854775807) :
    Calls Try.prog 123 #[.int .i64 n] w fun e w' => e = .returned (.int .i64 (absI n)) ∧ w = w' := by
  go_enter Try.func123, Try.ntmps123
  go_wp2
  all_goals (go_ret; refine ⟨ret_int ?_, rfl⟩; unfold absI; split <;> omega)

theorem absI_nn (n : Int) : 0 ≤ absI n := by unfold absI; split <;> omega
theorem absI_pos (n : Int) (h : n ≠ 0) : 1 ≤ absI n := by unfold absI; split <;> omega
theorem absI_le (n b : Int) (h1 : -b ≤ n) (h2 : n ≤ b) : absI n ≤ b := by unfold absI; split <;> omega
theorem absI_mul (a b : Int) : absI (a * b) = absI a * absI b := by
  unfold absI
  by_cases ha : 0 ≤ a <;> by_cases hb : 0 ≤ b
  · have := Int.mul_nonneg ha hb; simp [ha, hb, this]
  · simp only [ha, hb, if_true, if_false]
    by_cases h0 : a = 0
    · simp [h0]
    · have : a * b < 0 := Int.mul_neg_of_pos_of_neg (by omega) (by omega)
      rw [if_neg (by omega), Int.mul_neg]
  · simp only [ha, hb, if_true, if_false]
    by_cases h0 : b = 0
    · simp [h0]
    · have : a * b < 0 := Int.mul_neg_of_neg_of_pos (by omega) (by omega)
      rw [if_neg (by omega), Int.neg_mul]
  · have := Int.mul_pos_of_neg_of_neg (a := a) (b := b) (by omega) (by omega)
    simp only [ha, hb, if_false]
    rw [if_pos (by omega), Int.neg_mul_neg]
theorem of_absI_le {n b : Int} (h : absI n ≤ b) : -b ≤ n ∧ n ≤ b := by unfold absI at h; split at h <;> omega

/-- a product that fix.product tells -/
def prodOk (a b : Int) : Prop := a = 0 ∨ absI b ≤ 2000000000000000 / absI a
instance (a b : Int) : Decidable (prodOk a b) := by unfold prodOk; infer_instance
theorem prodOk_iff (a b : Int) : prodOk a b ↔ absI (a * b) ≤ 2000000000000000 := by
  unfold prodOk
  by_cases h : a = 0
  · simp [h, absI]
  · have h1 := absI_pos a h
    simp only [h, false_or]
    rw [absI_mul, Int.le_ediv_iff_mul_le (by omega), Int.mul_comm]

theorem product_yes (a b : Int) (w : World) (ha : -4000000000000000000 ≤ a) (ha' : a ≤ 4000000000000000000) (hb : -4000000000000000000 ≤ b) (hb' : b ≤ 4000000000000000000) (h : prodOk a b) :
    Calls Try.prog 79 #[.int .i64 a, .int .i64 b] w fun e w' => e = .returned (.tuple #[.int .i64 (a * b), .bool true]) ∧ w = w' := by
  have hp := of_absI_le ((prodOk_iff a b).1 h)
  obtain ⟨hp1, hp2⟩ := hp
  by_cases h0 : a = 0
  · subst h0
    go_enter Try.func79, Try.ntmps79
    go_wp2
    go_ret2
    exact ⟨by simp, rfl⟩
  · have hn : (a == 0) = false := by simpa using h0
    have h1 := absI_pos a h0
    have h2 := absI_nn b
    have h3 : absI b ≤ 2000000000000000 / absI a := h.resolve_left h0
    go_enter Try.func79, Try.ntmps79
    go_wp2_with (go_at_call 123; refine (size_any _ _ (by omega) (by omega)).mono ?_; rintro e w' ⟨rfl, rfl⟩)
    go_ret2
    exact ⟨rfl, rfl⟩

theorem product_no (a b : Int) (w : World) (ha : -4000000000000000000 ≤ a) (ha' : a ≤ 4000000000000000000) (hb : -4000000000000000000 ≤ b) (hb' : b ≤ 4000000000000000000) (h : ¬ prodOk a b) :
    Calls Try.prog 79 #[.int .i64 a, .int .i64 b] w fun e w' => e = .returned (.tuple #[.int .i64 0, .bool false]) ∧ w = w' := by
  have h0 : ¬ a = 0 := fun e => h (.inl e)
  have hn : (a == 0) = false := by simpa using h0
  have h1 := absI_pos a h0
  have h2 := absI_nn b
  have h3 : 2000000000000000 / absI a < absI b := by
    rcases Int.lt_or_le (2000000000000000 / absI a) (absI b) with h' | h'
    · exact h'
    · exact absurd (.inr h') h
  go_enter Try.func79, Try.ntmps79
  go_wp2_with (go_at_call 123; refine (size_any _ _ (by omega) (by omega)).mono ?_; rintro e w' ⟨rfl, rfl⟩)
  go_ret2
  exact ⟨rfl, rfl⟩

/-- a product that the specification tells -/
def prodOkR (x y : Int) : Prop := y = 0 ∨ absI x ≤ 1000000000000000 / absI y
theorem prodOkR_iff (x y : Int) : prodOkR x y ↔ absI (x * y) ≤ 1000000000000000 := by
  unfold prodOkR
  by_cases h : y = 0
  · simp [h, absI]
  · have h1 := absI_pos y h
    simp only [h, false_or]
    rw [absI_mul, Int.le_ediv_iff_mul_le (by omega)]

theorem abs_cases (n : Int) : (0 ≤ n ∧ absI n = n) ∨ (∃ c : Int, 1 ≤ c ∧ n = -c ∧ absI n = c) := by
  rcases Int.lt_or_le n 0 with h | h
  · exact .inr ⟨-n, by omega, by omega, by unfold absI; rw [if_neg (by omega)]⟩
  · exact .inl ⟨h, by unfold absI; rw [if_pos h]⟩

theorem rProduct_yes (a b : Int) (w : World) (ha : -4000000000000000000 ≤ a) (ha' : a ≤ 4000000000000000000) (hb : -4000000000000000000 ≤ b) (hb' : b ≤ 4000000000000000000) (h : absI (a * b) ≤ 1000000000000000) :
    Calls Try.prog 81 #[.int .i64 a, .int .i64 b] w fun e w' => e = .returned (.tuple #[.int .i64 (a * b), .bool true]) ∧ w = w' := by
  obtain ⟨hp1, hp2⟩ := of_absI_le h
  have h := (prodOkR_iff a b).2 h
  by_cases h0 : b = 0
  · subst h0
    go_enter Try.func81, Try.ntmps81
    go_wp2
    all_goals (go_ret2; exact ⟨by simp, rfl⟩)
  · have h3 : absI a ≤ 1000000000000000 / absI b := h.resolve_left h0
    clear h
    rcases abs_cases a with ⟨ga, ea⟩ | ⟨a, ga, rfl, ea⟩ <;> rcases abs_cases b with ⟨gb, eb⟩ | ⟨b, gb, rfl, eb⟩ <;> rw [ea, eb] at h3 <;> clear ea eb <;> have hn : (b == 0) = false := beq_eq_false_iff_ne.2 (by omega)
    all_goals
      have gb' : 1 ≤ b := by omega
      go_enter Try.func81, Try.ntmps81
      go_wp2
    all_goals (go_ret2; exact ⟨by first | rfl | simp, rfl⟩)

theorem rProduct_no (a b : Int) (w : World) (ha : -4000000000000000000 ≤ a) (ha' : a ≤ 4000000000000000000) (hb : -4000000000000000000 ≤ b) (hb' : b ≤ 4000000000000000000) (h : ¬ absI (a * b) ≤ 1000000000000000) :
    Calls Try.prog 81 #[.int .i64 a, .int .i64 b] w fun e w' => e = .returned (.tuple #[.int .i64 0, .bool false]) ∧ w = w' := by
  have h := fun k => h ((prodOkR_iff a b).1 k)
  have h0 : ¬ b = 0 := fun e => h (.inl e)
  have h3 : 1000000000000000 / absI b < absI a := by
    rcases Int.lt_or_le (1000000000000000 / absI b) (absI a) with h' | h'
    · exact h'
    · exact absurd (.inr h') h
  clear h
  rcases abs_cases a with ⟨ga, ea⟩ | ⟨a, ga, rfl, ea⟩ <;> rcases abs_cases b with ⟨gb, eb⟩ | ⟨b, gb, rfl, eb⟩ <;> rw [ea, eb] at h3 <;> clear ea eb <;> have hn : (b == 0) = false := beq_eq_false_iff_ne.2 (by omega)
  all_goals
    have gb' : 1 ≤ b := by omega
    go_enter Try.func81, Try.ntmps81
    go_wp2
  all_goals (go_ret2; exact ⟨rfl, rfl⟩)
end Go.Proofs.Ytmenlaefekkahaa
