/- The contracts of Add, Sub, Neg, Has, Before, Hull and Meet (fix and its specification). No conditions but that the numbers are those of ints. -/
import Derived.Test.YtemlaaipnhmcoaaGreatRows
import Derived.WalkKit
import Derived.WalkSpells
import Derived.WalkLawsBesides
import Derived.Lib.Hide
import Derived.Deep.QuietTactic
import Derived.BigQuiet
import Derived.Deep.RegionHeld3
import Derived.RowKit3
import Derived.Deep.DeepFit
import Derived.Deep.DeepMust
import Derived.Outline
import Derived.Laws.StructEq
import Derived.Laws.Small
import Derived.Laws.Tables
import Derived.KernelRfl
set_option linter.unusedVariables false
set_option linter.unusedSimpArgs false
set_option linter.constructorNameAsVariable false
namespace Go.Proofs.YtemlaaipnhmcoaaGreat

section
open Go.RowKit

theorem ret_int {k : IntKind} {a b : Int} (h : a = b) : Ending.returned (.int k a) = .returned (.int k b) := by rw [h]

theorem tdiv_floor (n d : Int) (hd : 0 < d) : (n.tmod d < 0 → n.tdiv d - 1 = n / d) ∧ (0 ≤ n.tmod d → n.tdiv d = n / d) := by
  have h1 := Int.mul_tdiv_add_tmod n d
  have h5 := Int.tmod_lt_of_pos n hd
  have h6 : -d < n.tmod d := Int.lt_tmod_of_pos n hd
  refine ⟨fun h => ?_, fun h => ?_⟩
  · refine ((Int.ediv_emod_unique (r := n.tmod d + d) hd).2 ⟨?_, by omega, by omega⟩).1.symm
    rw [Int.mul_sub]; omega
  · exact ((Int.ediv_emod_unique (r := n.tmod d) hd).2 ⟨by omega, h, h5⟩).1.symm

theorem ediv_between (n d b : Int) (hd : 1 ≤ d) (hb : 0 ≤ b) (h1 : -b ≤ n) (h2 : n ≤ b) : -b ≤ n / d ∧ n / d ≤ b := by
  refine ⟨Int.le_ediv_of_mul_le (by omega) ?_, Int.ediv_le_of_le_mul (by omega) ?_⟩
  · have := Int.mul_le_mul_of_nonneg_left hd hb
    rw [Int.neg_mul]; omega
  · have := Int.mul_le_mul_of_nonneg_left hd hb
    omega

theorem floor_any (n d : Int) (w : World) (hd : 1 ≤ d) (hn : -4000000000000000000 ≤ n) (hn' : n ≤ 4000000000000000000) :
  Calls Tryz.prog 210 #[.int .i64 n, .int .i64 d] w fun e w' => e = .returned (.int .i64 (n / d)) ∧ w = w' := by
 have hf := tdiv_floor n d (by omega)
 have hb := ediv_between n d 4000000000000000000 hd (by omega) hn hn'
 have H := Lib.hid (And.intro hf hb)
 clear hf hb
 go_enter Tryz.func210, Tryz.ntmps210
 go_wp2
 ·have h : n.tmod d < 0 := by assumption
  go_ret
  obtain ⟨⟨h1, _⟩, h3, h4⟩ := H.out
  have h5 := h1 h
  exact ⟨ret_int (by rw [h5]; exact IntWalk.wrap64_in _ ⟨by omega, by omega⟩), rfl⟩
 ·have h : 0 ≤ n.tmod d := by assumption
  go_ret
  obtain ⟨⟨_, h2⟩, _⟩ := H.out
  exact ⟨ret_int (h2 h), rfl⟩

def absI (n : Int) : Int := if 0 ≤ n then n else -n
theorem size_any (n : Int) (w : World) (hn : -9223372036854775807 ≤ n) (hn' : n ≤ 9223372036854775807) :
  Calls Tryz.prog 209 #[.int .i64 n] w fun e w' => e = .returned (.int .i64 (absI n)) ∧ w = w' := by
 go_enter Tryz.func209, Tryz.ntmps209
 go_wp2
 all_goals (go_ret; refine ⟨ret_int ?_, rfl⟩; unfold absI; split <;> omega)

theorem absI_nn (n : Int) : 0 ≤ absI n := by unfold absI; split <;> omega
theorem absI_pos (n : Int) (h : n ≠ 0) : 1 ≤ absI n := by unfold absI; split <;> omega
theorem absI_le (n b : Int) (h1 : -b ≤ n) (h2 : n ≤ b) : absI n ≤ b := by unfold absI; split <;> omega
theorem absI_mul (a b : Int) : absI (a * b) = absI a * absI b := by
  unfold absI
  by_cases ha : 0 ≤ a <;> by_cases hb : 0 ≤ b
  · have := Int.mul_nonneg ha hb; simp [ha, hb, this]
  · simp only [ha, hb, if_true, if_false]
    by_cases h0 : a = 0
    · simp [h0]
    · have : a * b < 0 := Int.mul_neg_of_pos_of_neg (by omega) (by omega)
      rw [if_neg (by omega), Int.mul_neg]
  · simp only [ha, hb, if_true, if_false]
    by_cases h0 : b = 0
    · simp [h0]
    · have : a * b < 0 := Int.mul_neg_of_neg_of_pos (by omega) (by omega)
      rw [if_neg (by omega), Int.neg_mul]
  · have := Int.mul_pos_of_neg_of_neg (a := a) (b := b) (by omega) (by omega)
    simp only [ha, hb, if_false]
    rw [if_pos (by omega), Int.neg_mul_neg]
theorem of_absI_le {n b : Int} (h : absI n ≤ b) : -b ≤ n ∧ n ≤ b := by unfold absI at h; split at h <;> omega

def prodOk (a b : Int) : Prop := a = 0 ∨ absI b ≤ 2000000000000000 / absI a
theorem prodOk_iff (a b : Int) : prodOk a b ↔ absI (a * b) ≤ 2000000000000000 := by
  unfold prodOk
  by_cases h : a = 0
  · simp [h, absI]
  · have h1 := absI_pos a h
    simp only [h, false_or]
    rw [absI_mul, Int.le_ediv_iff_mul_le (by omega), Int.mul_comm]

theorem product_yes (a b : Int) (w : World) (ha : -4000000000000000000 ≤ a) (ha' : a ≤ 4000000000000000000) (hb : -4000000000000000000 ≤ b) (hb' : b ≤ 4000000000000000000) (h : prodOk a b) :
  Calls Tryz.prog 174 #[.int .i64 a, .int .i64 b] w fun e w' => e = .returned (.tuple #[.int .i64 (a * b), .bool true]) ∧ w = w' := by
 have hp := of_absI_le ((prodOk_iff a b).1 h)
 obtain ⟨hp1, hp2⟩ := hp
 by_cases h0 : a = 0
 ·subst h0
  go_enter Tryz.func174, Tryz.ntmps174
  go_wp2
  go_ret2
  exact ⟨by simp, rfl⟩
 ·have hn : (a == 0) = false := by simpa using h0
  have h1 := absI_pos a h0
  have h2 := absI_nn b
  have h3 : absI b ≤ 2000000000000000 / absI a := h.resolve_left h0
  go_enter Tryz.func174, Tryz.ntmps174
  go_wp2_with (go_at_call 209; refine (size_any _ _ (by omega) (by omega)).mono ?_; rintro e w' ⟨rfl, rfl⟩)
  go_ret2
  exact ⟨rfl, rfl⟩

theorem product_no (a b : Int) (w : World) (ha : -4000000000000000000 ≤ a) (ha' : a ≤ 4000000000000000000) (hb : -4000000000000000000 ≤ b) (hb' : b ≤ 4000000000000000000) (h : ¬ prodOk a b) :
  Calls Tryz.prog 174 #[.int .i64 a, .int .i64 b] w fun e w' => e = .returned (.tuple #[.int .i64 0, .bool false]) ∧ w = w' := by
 have h0 : ¬ a = 0 := fun e => h (.inl e)
 have hn : (a == 0) = false := by simpa using h0
 have h1 := absI_pos a h0
 have h2 := absI_nn b
 have h3 : 2000000000000000 / absI a < absI b := by
  rcases Int.lt_or_le (2000000000000000 / absI a) (absI b) with h' | h'
  ·exact h'
  ·exact absurd (.inr h') h
 go_enter Tryz.func174, Tryz.ntmps174
 go_wp2_with (go_at_call 209; refine (size_any _ _ (by omega) (by omega)).mono ?_; rintro e w' ⟨rfl, rfl⟩)
 go_ret2
 exact ⟨rfl, rfl⟩
end

section
open Go.RowKit

theorem floor_split (x n d : Int) (hd : 1 ≤ d) : x / d * n + (x - x / d * d) * n / d = x * n / d := by
  have h : x * n = (x - x / d * d) * n + d * (x / d * n) := by
    rw [Int.sub_mul, Int.mul_comm d (x / d * n), Int.mul_assoc (x / d) n d, Int.mul_comm n d, ← Int.mul_assoc]; omega
  rw [h, Int.add_mul_ediv_left _ _ (by omega : d ≠ 0)]; omega
theorem rest_bounds (x d : Int) (hd : 1 ≤ d) : 0 ≤ x - x / d * d ∧ x - x / d * d ≤ d - 1 := by
  have h1 := Int.mul_ediv_add_emod x d
  have h2 := Int.emod_nonneg x (by omega : d ≠ 0)
  have h3 := Int.emod_lt_of_pos x (by omega : 0 < d)
  rw [Int.mul_comm] at h1
  omega
theorem part_bounds (m n d : Int) (hd : 1 ≤ d) (hm : 0 ≤ m) (hm' : m ≤ d - 1) (hn : 0 ≤ n) : 0 ≤ m * n / d ∧ m * n / d ≤ n := by
  refine ⟨Int.ediv_nonneg (Int.mul_nonneg hm hn) (by omega), Int.ediv_le_of_le_mul (by omega) ?_⟩
  have := Int.mul_le_mul_of_nonneg_right (show m ≤ d by omega) hn
  rw [Int.mul_comm n d]; exact this
theorem mul_between (m n A B : Int) (hm : 0 ≤ m) (hm' : m ≤ A) (hn : -B ≤ n) (hn' : n ≤ B) : -(A * B) ≤ m * n ∧ m * n ≤ A * B := by
  have hA : 0 ≤ A := by omega
  have h1 : absI n ≤ B := absI_le n B hn hn'
  have h2 : absI (m * n) ≤ A * B := by
    rw [absI_mul]
    have e : absI m = m := by unfold absI; rw [if_pos hm]
    rw [e]
    exact Int.mul_le_mul hm' h1 (absI_nn n) hA
  exact of_absI_le h2

theorem scaled_yes (x n d : Int) (w : World) (hx : -1000000000000000 ≤ x) (hx' : x ≤ 1000000000000000) (hn : 0 ≤ n) (hn' : n ≤ 1000000000) (hd : 1 ≤ d) (hd' : d ≤ 1000000000) (h : prodOk (x / d) n) :
  Calls Tryz.prog 178 #[.int .i64 x, .int .i64 n, .int .i64 d] w fun e w' => e = .returned (.tuple #[.int .i64 (x * n / d), .bool true]) ∧ w = w' := by
 have HS := Lib.hid (floor_split x n d hd)
 obtain ⟨r1, r2⟩ := rest_bounds x d hd
 obtain ⟨q1, q2⟩ := ediv_between x d 1000000000000000 hd (by omega) hx hx'
 obtain ⟨p1, p2⟩ := of_absI_le ((prodOk_iff _ _).1 h)
 generalize hq : x / d = q at *
 have HQ := Lib.hid hq; clear hq
 obtain ⟨s1, s2⟩ := mul_between (x - q * d) n 1000000000 1000000000 r1 (by omega) (by omega) hn'
 obtain ⟨t1, t2⟩ := part_bounds (x - q * d) n d hd r1 r2 hn
 have HP := Lib.hid h; clear h
 go_enter Tryz.func178, Tryz.ntmps178
 go_wp2_with fail
 refine (floor_any x d _ hd (by omega) (by omega)).mono ?_
 rintro e w' ⟨he, rfl⟩
 rw [HQ.out] at he
 subst he
 go_wp2_with fail
 refine (product_yes q n _ (by omega) (by omega) (by omega) (by omega) HP.out).mono ?_
 rintro e w' ⟨rfl, rfl⟩
 go_wp2_with fail
 refine (floor_any _ d _ hd (by omega) (by omega)).mono ?_
 rintro e w' ⟨rfl, rfl⟩
 go_wp2
 go_ret2
 exact ⟨by show Ending.returned (.tuple #[.int .i64 (q * n + (x - q * d) * n / d), .bool true]) = _; rw [HS.out], rfl⟩

theorem scaled_no (x n d : Int) (w : World) (hx : -1000000000000000 ≤ x) (hx' : x ≤ 1000000000000000) (hn : 0 ≤ n) (hn' : n ≤ 1000000000) (hd : 1 ≤ d) (hd' : d ≤ 1000000000) (h : ¬ prodOk (x / d) n) :
  Calls Tryz.prog 178 #[.int .i64 x, .int .i64 n, .int .i64 d] w fun e w' => e = .returned (.tuple #[.int .i64 0, .bool false]) ∧ w = w' := by
 obtain ⟨q1, q2⟩ := ediv_between x d 1000000000000000 hd (by omega) hx hx'
 generalize hq : x / d = q at *
 have HQ := Lib.hid hq; clear hq
 have HP := Lib.hid h; clear h
 go_enter Tryz.func178, Tryz.ntmps178
 go_wp2_with fail
 refine (floor_any x d _ hd (by omega) (by omega)).mono ?_
 rintro e w' ⟨he, rfl⟩
 rw [HQ.out] at he
 subst he
 go_wp2_with fail
 refine (product_no q n _ (by omega) (by omega) (by omega) (by omega) HP.out).mono ?_
 rintro e w' ⟨rfl, rfl⟩
 go_wp2
 go_ret2
 exact ⟨rfl, rfl⟩
theorem far_of_no (x n d : Int) (hn : 0 ≤ n) (hn' : n ≤ 1000000000) (hd : 1 ≤ d) (h : ¬ prodOk (x / d) n) : ¬ absI (x * n / d) ≤ 1000000000000000 := by
  intro hc
  obtain ⟨c1, c2⟩ := of_absI_le hc
  obtain ⟨r1, r2⟩ := rest_bounds x d hd
  obtain ⟨t1, t2⟩ := part_bounds (x - x / d * d) n d hd r1 r2 hn
  have hs := floor_split x n d hd
  refine h ((prodOk_iff _ _).2 (absI_le _ _ ?_ ?_)) <;> omega
end

section
open Go.RowKit

theorem bcell {W w1 : World} (hb : Below W.heap.size W w1) : (∀ b o, b < W.heap.size → w1.cell? ⟨b, o, none⟩ = W.cell? ⟨b, o, none⟩) ∧ (∀ b o, b < W.heap.size → w1.frozen? ⟨b, o, none⟩ = W.frozen? ⟨b, o, none⟩) :=
  ⟨fun b o h => hb.cell (p := ⟨b, o, none⟩) h, fun b o h => hb.frozen (p := ⟨b, o, none⟩) h⟩

abbrev rv (lo hi : Int) : Value := .agg #[.int .i64 lo, .int .i64 hi]

theorem eqRange (a b c d : Int) (w : World) : (Op.equalIn 10000 30 (.agg #[.int .i64 a, .int .i64 b]) (.agg #[.int .i64 c, .int .i64 d])).run Tryz.prog w = .ok (a == c && b == d) w := by
  have u3 := Tryz.underlying3
  have hS : Tryz.prog.underlying 30 = some (.struct (Tryz.prog.fieldsOf 30)) := by kernel_rfl
  have hp : Tryz.prog.stoodInHeld 30 = false := by kernel_rfl
  rw [show (10000 : Nat) = 9999 + 1 from rfl, run_equalIn_agg w 9999 30 _ _ hS hp]
  simp only [Program.fieldsOf, Tryz.underlying30]
  go_simp
  by_cases h1 : a = c <;> by_cases h2 : b = d <;> simp [h1, h2]

@[go_sem] theorem eqGuardRange (op : BinOp) (x y : Operand) (xs ys : Array Value) (w : World) : (eqGuard op 30 x y (.agg xs) (.agg ys)).run Tryz.prog w = .ok () w :=
  run_eqGuard_agg w op 30 x y xs ys (by kernel_rfl)

theorem eqlRange (a b c d : Int) (w : World) : (binOp .eql 30 (.agg #[.int .i64 a, .int .i64 b]) (.agg #[.int .i64 c, .int .i64 d])).run Tryz.prog w = .ok (.bool (a == c && b == d)) w := by
  rw [run_eql_struct, eqRange]; rfl
theorem neqRange (a b c d : Int) (w : World) : (binOp .neq 30 (.agg #[.int .i64 a, .int .i64 b]) (.agg #[.int .i64 c, .int .i64 d])).run Tryz.prog w = .ok (.bool (!(a == c && b == d))) w := by
  rw [run_neq_struct, eqRange]; rfl
attribute [local go_sem ↓] eqlRange neqRange
theorem below_a1 {w w1 : World} {o : Obj} (hb : Below (w.alloc o).heap.size (w.alloc o) w1) : Below w.heap.size w w1 :=
  ((Below.refl _ _).alloc (Nat.le_refl _) _).trans (hb.mono (by simp))
theorem below_a2 {w w1 : World} {o o' : Obj} (hb : Below ((w.alloc o).alloc o').heap.size ((w.alloc o).alloc o') w1) : Below w.heap.size w w1 := below_a1 (below_a1 hb)
theorem below_a3 {w w1 : World} {o o' o'' : Obj} (hb : Below (((w.alloc o).alloc o').alloc o'').heap.size (((w.alloc o).alloc o').alloc o'') w1) : Below w.heap.size w w1 := below_a1 (below_a2 hb)
theorem below_d {w w1 : World} (hb : Below w.drew.heap.size w.drew w1) : Below w.heap.size w w1 := (Below.refl _ _).drew.trans hb
theorem below_then {w w1 w2 : World} (h : Below w.heap.size w w1) (hb : Below w1.heap.size w1 w2) : Below w.heap.size w w2 := h.trans (hb.mono h.size)

theorem around_any (n : Int) (w : World) (h1 : -9223372036854775807 ≤ n) (h2 : n ≤ 9223372036854775807) :
  Calls Tryz.prog 132 #[.int .i64 n] w fun e w' => e = .returned (rv (-n) n) ∧ Below w.heap.size w w' := by
 go_enter Tryz.func132, Tryz.ntmps132
 go_wp2
 exact bodyPost_ret (v := rv (-n) n) (by simp [results, Tryz.results132, go_sem]) rfl ⟨rfl, ((Below.refl _ _).alloc (Nat.le_refl _) _)⟩

theorem common_any (a b c d : Int) (w : World) :
  Calls Tryz.prog 171 #[rv a b, rv c d] w fun e w' => e = .returned (rv (max a c) (min b d)) ∧ Below w.heap.size w w' := by
 go_enter Tryz.func171, Tryz.ntmps171
 go_wp2
 all_goals
  refine bodyPost_ret (v := rv (max a c) (min b d)) ?_ rfl ⟨rfl, ?_⟩
  ·simp [results, Tryz.results171, go_sem]
   omega
  ·exact (((Below.refl _ _).alloc (Nat.le_refl _) _).alloc (by simp) _).alloc (by simp; omega) _

def inB (a b c d : Int) : Bool := decide (a ≤ b ∧ c ≤ a ∧ b ≤ d)
theorem inB_yes {a b c d : Int} (h : a ≤ b) (h1 : c ≤ a) (h2 : b ≤ d) : inB a b c d = true := by simp [inB, h, h1, h2]
theorem inB_no {a b c d : Int} (h : ¬ (a ≤ b ∧ c ≤ a ∧ b ≤ d)) : inB a b c d = false := by simpa [inB] using h

theorem keep_two {w w1 : World} {a b c d : Value} {t t' : TypeId} (hb : Below ((w.alloc (.cells #[a, b] t)).alloc (.cells #[c, d] t')).drew.heap.size ((w.alloc (.cells #[a, b] t)).alloc (.cells #[c, d] t')).drew w1) :
    w1.cell? ⟨w.heap.size, 0, none⟩ = some a ∧ w1.cell? ⟨w.heap.size, 1, none⟩ = some b ∧ w1.cell? ⟨w.heap.size + 1, 0, none⟩ = some c ∧ w1.cell? ⟨w.heap.size + 1, 1, none⟩ = some d := by
  have h := (bcell hb).1
  refine ⟨?_, ?_, ?_, ?_⟩
  · rw [h _ _ (by simp; omega)]; simp
  · rw [h _ _ (by simp; omega)]; simp
  · rw [h _ _ (by simp)]; simp
  · rw [h _ _ (by simp)]; simp

theorem common_to (a b c d x y : Int) (w : World) (hx : max a c = x) (hy : min b d = y) :
    Calls Tryz.prog 171 #[rv a b, rv c d] w fun e w' => e = .returned (rv x y) ∧ Below w.heap.size w w' := by
  subst hx; subst hy; exact common_any a b c d w

theorem within_some (a b c d x y : Int) (t1 t2 : Bool) (w : World) (h : a ≤ b) (hx : max a c = x) (hy : min b d = y) (ht1 : (x == a) = t1) (ht2 : (y == b) = t2) :
  Calls Tryz.prog 131 #[rv a b, rv c d] w fun e w' => e = .returned (.bool (t1 && t2)) ∧ Below w.heap.size w w' := by
 have C := fun W => common_to a b c d x y W hx hy
 clear hx hy
 have HC := Lib.hid C; clear C
 go_enter Tryz.func131, Tryz.ntmps131
 go_wp2_with fail
 go_region_held3 (fun w' => w'.cell? ⟨w.heap.size, 0, none⟩ = some (.int .i64 a) ∧ w'.cell? ⟨w.heap.size, 1, none⟩ = some (.int .i64 b) ∧ w'.cell? ⟨w.heap.size + 1, 0, none⟩ = some (.int .i64 c) ∧ w'.cell? ⟨w.heap.size + 1, 1, none⟩ = some (.int .i64 d))
  (first | (go_keep; done) | exact keep_two hb1)
  (first | (go_at_call 171; refine (HC.out _).mono ?_; rintro e w1 ⟨rfl, hb1⟩))
 go_wp2
 go_ret
 exact ⟨rfl, below_a2 (below_d hb1)⟩

theorem within_any (a b c d : Int) (w : World) :
  Calls Tryz.prog 131 #[rv a b, rv c d] w fun e w' => e = .returned (.bool (inB a b c d)) ∧ Below w.heap.size w w' := by
 by_cases h : a ≤ b
 ·rcases Int.lt_or_le a c with h1 | h1 <;> rcases Int.lt_or_le d b with h2 | h2
  ·refine (within_some a b c d c d false false w h (by omega) (by omega) (beq_eq_false_iff_ne.2 (by omega)) (beq_eq_false_iff_ne.2 (by omega))).mono ?_
   rintro e w' ⟨rfl, hb⟩
   exact ⟨by rw [inB_no (by omega)]; rfl, hb⟩
  ·refine (within_some a b c d c b false true w h (by omega) (by omega) (beq_eq_false_iff_ne.2 (by omega)) (by simp)).mono ?_
   rintro e w' ⟨rfl, hb⟩
   exact ⟨by rw [inB_no (by omega)]; rfl, hb⟩
  ·refine (within_some a b c d a d true false w h (by omega) (by omega) (by simp) (beq_eq_false_iff_ne.2 (by omega))).mono ?_
   rintro e w' ⟨rfl, hb⟩
   exact ⟨by rw [inB_no (by omega)]; rfl, hb⟩
  ·refine (within_some a b c d a b true true w h (by omega) (by omega) (by simp) (by simp)).mono ?_
   rintro e w' ⟨rfl, hb⟩
   exact ⟨by rw [inB_yes h h1 h2]; rfl, hb⟩
 ·have hf : inB a b c d = false := inB_no (by omega)
  have hd : decide (a ≤ b) = false := by simpa using h
  rw [hf]
  clear hf
  go_enter Tryz.func131, Tryz.ntmps131
  go_wp2_with fail
  go_quiet (fail)
  go_wp2
  go_ret
  exact ⟨rfl, below_drewN (((Below.refl _ _).alloc (Nat.le_refl _) _).alloc (by simp) _) _⟩

def vR (a b : Int) : Bool := inB a b (-1000000000000000) 1000000000000000
def errR (a b : Int) : Int := if vR a b = true then 0 else 10
theorem vR_iff (a b : Int) : vR a b = true ↔ (a ≤ b ∧ -1000000000000000 ≤ a ∧ b ≤ 1000000000000000) := by simp [vR, inB]
theorem vR_no (a b : Int) (h : ¬ (a ≤ b ∧ -1000000000000000 ≤ a ∧ b ≤ 1000000000000000)) : vR a b = false := by simpa [vR, inB] using h

theorem keep_one {w w0 w1 : World} {a b : Value} (h0 : w0.cell? ⟨w.heap.size, 0, none⟩ = some a ∧ w0.cell? ⟨w.heap.size, 1, none⟩ = some b) (hl : w.heap.size < w0.heap.size) (hb : Below w0.heap.size w0 w1) :
    w1.cell? ⟨w.heap.size, 0, none⟩ = some a ∧ w1.cell? ⟨w.heap.size, 1, none⟩ = some b :=
  ⟨((bcell hb).1 _ _ hl).trans h0.1, ((bcell hb).1 _ _ hl).trans h0.2⟩

theorem checkRange_bool (a b : Int) (t : Bool) (x : Int) (w : World) (ht : inB a b (-1000000000000000) 1000000000000000 = t) (hx : (if t = true then 0 else 10) = x) :
  Calls Tryz.prog 80 #[rv a b] w fun e w' => e = .returned (.int .i64 x) ∧ Below w.heap.size w w' := by
 have C := fun W => within_any a b (-1000000000000000) 1000000000000000 W
 rw [ht] at C
 have HC := Lib.hid C; clear C ht
 go_enter Tryz.func80, Tryz.ntmps80
 go_wp2_with fail
 go_region_held3 (fun w' => w'.cell? ⟨w.heap.size, 0, none⟩ = some (.int .i64 a) ∧ w'.cell? ⟨w.heap.size, 1, none⟩ = some (.int .i64 b))
  (first | (go_keep; done) | exact keep_one ‹_› (by simp) hb1 | exact keep_one ‹_› (Nat.lt_of_lt_of_le (by simp) hb1.size) hb2)
  (first | (go_at_call 132; refine (around_any 1000000000000000 _ (by omega) (by omega)).mono ?_; rintro e w1 ⟨rfl, hb1⟩) | (go_at_call 131; refine (HC.out _).mono ?_; rintro e w2 ⟨rfl, hb2⟩))
 have hb := below_a1 (below_d (below_then hb1 hb2))
 cases t
 ·go_wp2
  go_ret
  exact ⟨by rw [← hx]; rfl, hb⟩
 ·go_wp2
  go_ret
  exact ⟨by rw [← hx]; rfl, hb⟩

theorem checkRange_any (a b : Int) (w : World) :
    Calls Tryz.prog 80 #[rv a b] w fun e w' => e = .returned (.int .i64 (errR a b)) ∧ Below w.heap.size w w' :=
  checkRange_bool a b _ _ w rfl rfl
end

section
open Go.RowKit
attribute [local go_sem ↓] eqlRange neqRange
abbrev rt (r : Int × Int × Int) : Value := .tuple #[rv r.1 r.2.1, .int .i64 r.2.2]
def bigS (lo hi : Int) : Int × Int × Int := if vR lo hi = true then (lo, hi, 0) else (0, 0, 5)

theorem checkRange_ok (a b : Int) (w : World) (h : vR a b = true) :
    Calls Tryz.prog 80 #[rv a b] w fun e w' => e = .returned (.int .i64 0) ∧ Below w.heap.size w w' :=
  checkRange_bool a b true _ w h rfl
theorem checkRange_bad (a b : Int) (w : World) (h : vR a b = false) :
    Calls Tryz.prog 80 #[rv a b] w fun e w' => e = .returned (.int .i64 10) ∧ Below w.heap.size w w' :=
  checkRange_bool a b false _ w h rfl

theorem unlessBig_any (a b : Int) (w : World) :
  Calls Tryz.prog 176 #[rv a b] w fun e w' => e = .returned (rt (bigS a b)) ∧ Below w.heap.size w w' := by
 cases h : vR a b
 ·have hs : bigS a b = (0, 0, 5) := by simp [bigS, h]
  rw [hs]; clear hs
  have H := Lib.hid h; clear h
  go_enter Tryz.func176, Tryz.ntmps176
  go_wp2_with fail
  refine (checkRange_bad a b _ H.out).mono ?_
  rintro e w1 ⟨rfl, hb⟩
  obtain ⟨hc, hf⟩ := bcell hb
  have hz := hb.size
  go_wp2
  exact bodyPost_ret (v := rt (0, 0, 5)) (by simp [results, Tryz.results176, go_sem, hc]) rfl ⟨rfl, ((below_a2 hb).setCell (by simp) _).setCell (by simp) _⟩
 ·have hs : bigS a b = (a, b, 0) := by simp [bigS, h]
  rw [hs]; clear hs
  have H := Lib.hid h; clear h
  go_enter Tryz.func176, Tryz.ntmps176
  go_wp2_with fail
  refine (checkRange_ok a b _ H.out).mono ?_
  rintro e w1 ⟨rfl, hb⟩
  obtain ⟨hc, hf⟩ := bcell hb
  have hz := hb.size
  go_wp2
  exact bodyPost_ret (v := rt (a, b, 0)) (by simp [results, Tryz.results176, go_sem, hc]) rfl ⟨rfl, ((below_a2 hb).setCell (by simp) _).setCell (by simp) _⟩

theorem bothValid_any (a b c d : Int) (w : World) :
  Calls Tryz.prog 172 #[rv a b, rv c d] w fun e w' => e = .returned (.bool (vR a b && vR c d)) ∧ Below w.heap.size w w' := by
 cases h : vR a b
 ·have H := Lib.hid h; clear h
  go_enter Tryz.func172, Tryz.ntmps172
  go_wp2_with fail
  refine (checkRange_bad a b _ H.out).mono ?_
  rintro e w1 ⟨rfl, hb⟩
  go_wp2
  go_ret
  exact ⟨rfl, below_a2 hb⟩
 ·have H := Lib.hid h; clear h
  cases h' : vR c d
  all_goals
   have H' := Lib.hid h'; clear h'
   go_enter Tryz.func172, Tryz.ntmps172
   go_wp2_with fail
   refine (checkRange_ok a b _ H.out).mono ?_
   rintro e w1 ⟨rfl, hb⟩
   obtain ⟨hc, hf⟩ := bcell hb
   go_wp2_with fail
   first | refine (checkRange_bad c d _ H'.out).mono ?_ | refine (checkRange_ok c d _ H'.out).mono ?_
   rintro e w2 ⟨rfl, hb2⟩
   go_wp2
   go_ret
   exact ⟨rfl, below_then (below_a2 hb) hb2⟩

def twoS (a b c d : Int) (r : Int × Int × Int) : Int × Int × Int := if (vR a b && vR c d) = true then r else (0, 0, 10)
def addS (a b c d : Int) : Int × Int × Int := twoS a b c d (bigS (a + c) (b + d))
theorem twoS_no {a b c d : Int} {r : Int × Int × Int} (h : (vR a b && vR c d) = false) : twoS a b c d r = (0, 0, 10) := by simp [twoS, h]
theorem twoS_yes {a b c d : Int} {r : Int × Int × Int} (h : (vR a b && vR c d) = true) : twoS a b c d r = r := by rw [twoS, if_pos h]
theorem both_iff {a b c d : Int} (h : (vR a b && vR c d) = true) : (a ≤ b ∧ -1000000000000000 ≤ a ∧ b ≤ 1000000000000000) ∧ (c ≤ d ∧ -1000000000000000 ≤ c ∧ d ≤ 1000000000000000) := by
  rw [Bool.and_eq_true] at h
  exact ⟨(vR_iff _ _).1 h.1, (vR_iff _ _).1 h.2⟩
theorem bothValid_to (a b c d : Int) (t : Bool) (w : World) (h : (vR a b && vR c d) = t) :
    Calls Tryz.prog 172 #[rv a b, rv c d] w fun e w' => e = .returned (.bool t) ∧ Below w.heap.size w w' := by
  subst h; exact bothValid_any a b c d w

theorem add_any (a b c d : Int) (w : World) :
  Calls Tryz.prog 141 #[rv a b, rv c d] w fun e w' => e = .returned (rt (addS a b c d)) ∧ Below w.heap.size w w' := by
 unfold addS
 cases h : (vR a b && vR c d)
 ·rw [twoS_no h]
  have H := Lib.hid h; clear h
  go_enter Tryz.func141, Tryz.ntmps141
  go_wp2_with fail
  refine (bothValid_to a b c d _ _ H.out).mono ?_
  rintro e w1 ⟨rfl, hb⟩
  obtain ⟨hc, hf⟩ := bcell hb
  go_wp2
  exact bodyPost_ret (v := rt (0, 0, 10)) (by simp [results, Tryz.results141, go_sem, hc]) rfl ⟨rfl, ((below_a3 hb).setCell (by simp; omega) _).setCell (by simp; omega) _⟩
 ·obtain ⟨⟨a1, a2, a3⟩, ⟨c1, c2, c3⟩⟩ := both_iff h
  rw [twoS_yes h]
  have H := Lib.hid h; clear h
  go_enter Tryz.func141, Tryz.ntmps141
  go_wp2_with fail
  refine (bothValid_to a b c d _ _ H.out).mono ?_
  rintro e w1 ⟨rfl, hb⟩
  obtain ⟨hc, hf⟩ := bcell hb
  have hz0 : w.heap.size + 1 + 1 < w1.heap.size := by have := hb.size; simp at this; omega
  go_wp2_with fail
  refine (unlessBig_any _ _ _).mono ?_
  rintro e w2 ⟨rfl, hb2⟩
  obtain ⟨hc2, hf2⟩ := bcell hb2
  go_wp2
  exact bodyPost_ret (v := rt (bigS (a + c) (b + d))) (by simp [results, Tryz.results141, go_sem, hc2, hc, hz0]) rfl ⟨rfl, ((below_then (below_a3 hb) hb2).setCell (by simp; omega) _).setCell (by simp; omega) _⟩

theorem hull0_any (a b c d : Int) (w : World) :
  Calls Tryz.prog 173 #[rv a b, rv c d] w fun e w' => e = .returned (rv (min a c) (max b d)) ∧ Below w.heap.size w w' := by
 go_enter Tryz.func173, Tryz.ntmps173
 go_wp2
 all_goals
  refine bodyPost_ret (v := rv (min a c) (max b d)) ?_ rfl ⟨rfl, ?_⟩
  ·simp [results, Tryz.results173, go_sem]
   omega
  ·exact (((Below.refl _ _).alloc (Nat.le_refl _) _).alloc (by simp) _).alloc (by simp; omega) _

def hullS (a b c d : Int) : Int × Int × Int := twoS a b c d (min a c, max b d, 0)
def meetS (a b c d : Int) : Int × Int × Int := twoS a b c d (if max a c ≤ min b d then (max a c, min b d, 0) else (0, 0, 3))

theorem hull_any (a b c d : Int) (w : World) :
  Calls Tryz.prog 133 #[rv a b, rv c d] w fun e w' => e = .returned (rt (hullS a b c d)) ∧ Below w.heap.size w w' := by
 unfold hullS
 cases h : (vR a b && vR c d)
 ·rw [twoS_no h]
  have H := Lib.hid h; clear h
  go_enter Tryz.func133, Tryz.ntmps133
  go_wp2_with fail
  refine (bothValid_to a b c d _ _ H.out).mono ?_
  rintro e w1 ⟨rfl, hb⟩
  obtain ⟨hc, hf⟩ := bcell hb
  go_wp2
  exact bodyPost_ret (v := rt (0, 0, 10)) (by simp [results, Tryz.results133, go_sem, hc]) rfl ⟨rfl, ((below_a3 hb).setCell (by simp; omega) _).setCell (by simp; omega) _⟩
 ·obtain ⟨⟨a1, a2, a3⟩, ⟨c1, c2, c3⟩⟩ := both_iff h
  rw [twoS_yes h]
  have H := Lib.hid h; clear h
  go_enter Tryz.func133, Tryz.ntmps133
  go_wp2_with fail
  refine (bothValid_to a b c d _ _ H.out).mono ?_
  rintro e w1 ⟨rfl, hb⟩
  obtain ⟨hc, hf⟩ := bcell hb
  have hz0 : w.heap.size + 1 + 1 < w1.heap.size := by have := hb.size; simp at this; omega
  go_wp2_with fail
  refine (hull0_any _ _ _ _ _).mono ?_
  rintro e w2 ⟨rfl, hb2⟩
  obtain ⟨hc2, hf2⟩ := bcell hb2
  go_wp2
  exact bodyPost_ret (v := rt (min a c, max b d, 0)) (by simp [results, Tryz.results133, go_sem, hc2, hc, hz0]) rfl ⟨rfl, ((below_then (below_a3 hb) hb2).setCell (by simp; omega) _).setCell (by simp; omega) _⟩

theorem meet_any (a b c d : Int) (w : World) :
  Calls Tryz.prog 130 #[rv a b, rv c d] w fun e w' => e = .returned (rt (meetS a b c d)) ∧ Below w.heap.size w w' := by
 unfold meetS
 cases h : (vR a b && vR c d)
 ·rw [twoS_no h]
  have H := Lib.hid h; clear h
  go_enter Tryz.func130, Tryz.ntmps130
  go_wp2_with fail
  refine (bothValid_to a b c d _ _ H.out).mono ?_
  rintro e w1 ⟨rfl, hb⟩
  obtain ⟨hc, hf⟩ := bcell hb
  go_wp2
  exact bodyPost_ret (v := rt (0, 0, 10)) (by simp [results, Tryz.results130, go_sem, hc]) rfl ⟨rfl, ((below_a3 hb).setCell (by simp; omega) _).setCell (by simp; omega) _⟩
 ·rw [twoS_yes h]
  have H := Lib.hid h; clear h
  have C := fun W => common_to a b c d _ _ W rfl rfl
  by_cases hxy : max a c ≤ min b d
  ·rw [if_pos hxy]
   generalize max a c = x at *
   generalize min b d = y at *
   have HC := Lib.hid C; clear C
   go_enter Tryz.func130, Tryz.ntmps130
   go_wp2_with fail
   refine (bothValid_to a b c d _ _ H.out).mono ?_
   rintro e w1 ⟨rfl, hb⟩
   obtain ⟨hc, hf⟩ := bcell hb
   have hz0 : w.heap.size + 1 + 1 < w1.heap.size := by have := hb.size; simp at this; omega
   go_wp2_with fail
   refine (HC.out _).mono ?_
   rintro e w2 ⟨rfl, hb2⟩
   obtain ⟨hc2, hf2⟩ := bcell hb2
   have hz2 : w.heap.size + 1 + 1 < w2.heap.size := by have := hb2.size; omega
   go_wp2
   exact bodyPost_ret (v := rt (x, y, 0)) (by simp [results, Tryz.results130, go_sem, hc2, hc, hz0, hz2]) rfl ⟨rfl, (((below_then (below_a3 hb) hb2).setCell (by simp; omega) _).setCell (by simp; omega) _).alloc (by simp; omega) _⟩
  ·rw [if_neg hxy]
   generalize max a c = x at *
   generalize min b d = y at *
   have HC := Lib.hid C; clear C
   go_enter Tryz.func130, Tryz.ntmps130
   go_wp2_with fail
   refine (bothValid_to a b c d _ _ H.out).mono ?_
   rintro e w1 ⟨rfl, hb⟩
   obtain ⟨hc, hf⟩ := bcell hb
   have hz0 : w.heap.size + 1 + 1 < w1.heap.size := by have := hb.size; simp at this; omega
   go_wp2_with fail
   refine (HC.out _).mono ?_
   rintro e w2 ⟨rfl, hb2⟩
   obtain ⟨hc2, hf2⟩ := bcell hb2
   have hz2 : w.heap.size + 1 + 1 < w2.heap.size := by have := hb2.size; omega
   go_wp2
   exact bodyPost_ret (v := rt (0, 0, 3)) (by simp [results, Tryz.results130, go_sem, hc2, hc, hz0, hz2]) rfl ⟨rfl, (((below_then (below_a3 hb) hb2).setCell (by simp; omega) _).setCell (by simp; omega) _).alloc (by simp; omega) _⟩

def hasS (a b n : Int) : Bool := vR a b && (decide (a ≤ n) && decide (n ≤ b))
theorem has_any (a b n : Int) (w : World) :
  Calls Tryz.prog 177 #[rv a b, .int .i64 n] w fun e w' => e = .returned (.bool (hasS a b n)) ∧ Below w.heap.size w w' := by
 cases h : vR a b
 ·have hs : hasS a b n = false := by simp [hasS, h]
  rw [hs]; clear hs
  have H := Lib.hid h; clear h
  go_enter Tryz.func177, Tryz.ntmps177
  go_wp2_with fail
  refine (checkRange_bad a b _ H.out).mono ?_
  rintro e w1 ⟨rfl, hb⟩
  go_wp2
  go_ret
  exact ⟨rfl, below_a1 hb⟩
 ·have hs : hasS a b n = (decide (a ≤ n) && decide (n ≤ b)) := by simp [hasS, h]
  rw [hs]; clear hs
  have H := Lib.hid h; clear h
  by_cases h1 : a ≤ n <;> by_cases h2 : n ≤ b
  all_goals
   go_enter Tryz.func177, Tryz.ntmps177
   go_wp2_with fail
   refine (checkRange_ok a b _ H.out).mono ?_
   rintro e w1 ⟨rfl, hb⟩
   obtain ⟨hc, hf⟩ := bcell hb
   go_wp2
   go_ret
   exact ⟨by simp [h1, h2], below_a1 hb⟩
end

end Go.Proofs.YtemlaaipnhmcoaaGreat
