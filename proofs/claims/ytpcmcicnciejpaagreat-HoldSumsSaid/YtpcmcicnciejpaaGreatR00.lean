/- The contracts of checkPlaces and at of a piece (fix). Their conditions: the table's points lie in memory; the numbers of the piece are those of a valid table. -/
import Derived.Test.YtpcmcicnciejpaaGreatRows
import Derived.WalkKit
import Derived.WalkSpells
import Derived.WalkLawsBesides
import Derived.Lib.Hide
import Derived.Deep.QuietTactic
import Derived.BigQuiet
import Derived.Deep.RegionHeld3
import Derived.RowKit3
import Derived.Deep.DeepFit
import Derived.Deep.DeepMust
import Derived.Outline
import Derived.Laws.StructEq
import Derived.Laws.Small
import Derived.Laws.Tables
import Derived.KernelRfl
import Derived.LoopN
import Derived.Laws.AppendOwn
import Derived.Laws.OwnMore
import Derived.Deep.RegionWith
import Derived.Laws.NewBlocks
import Derived.StillTailTactics
set_option linter.unusedVariables false
set_option linter.unusedSimpArgs false
set_option linter.constructorNameAsVariable false
namespace Go.Proofs.YtpcmcicnciejpaaGreat

section
open Go.RowKit

theorem ret_int {k : IntKind} {a b : Int} (h : a = b) : Ending.returned (.int k a) = .returned (.int k b) := by rw [h]

theorem tdiv_floor (n d : Int) (hd : 0 < d) : (n.tmod d < 0 → n.tdiv d - 1 = n / d) ∧ (0 ≤ n.tmod d → n.tdiv d = n / d) := by
  have h1 := Int.mul_tdiv_add_tmod n d
  have h5 := Int.tmod_lt_of_pos n hd
  have h6 : -d < n.tmod d := Int.lt_tmod_of_pos n hd
  refine ⟨fun h => ?_, fun h => ?_⟩
  · refine ((Int.ediv_emod_unique (r := n.tmod d + d) hd).2 ⟨?_, by omega, by omega⟩).1.symm
    rw [Int.mul_sub]; omega
  · exact ((Int.ediv_emod_unique (r := n.tmod d) hd).2 ⟨by omega, h, h5⟩).1.symm

theorem ediv_between (n d b : Int) (hd : 1 ≤ d) (hb : 0 ≤ b) (h1 : -b ≤ n) (h2 : n ≤ b) : -b ≤ n / d ∧ n / d ≤ b := by
  refine ⟨Int.le_ediv_of_mul_le (by omega) ?_, Int.ediv_le_of_le_mul (by omega) ?_⟩
  · have := Int.mul_le_mul_of_nonneg_left hd hb
    rw [Int.neg_mul]; omega
  · have := Int.mul_le_mul_of_nonneg_left hd hb
    omega

theorem floor_any (n d : Int) (w : World) (hd : 1 ≤ d) (hn : -4000000000000000000 ≤ n) (hn' : n ≤ 4000000000000000000) :
  Calls Tryz.prog 140 #[.int .i64 n, .int .i64 d] w fun e w' => e = .returned (.int .i64 (n / d)) ∧ w = w' := by
 have hf := tdiv_floor n d (by omega)
 have hb := ediv_between n d 4000000000000000000 hd (by omega) hn hn'
 have H := Lib.hid (And.intro hf hb)
 clear hf hb
 go_enter Tryz.func140, Tryz.ntmps140
 go_wp2
 ·have h : n.tmod d < 0 := by assumption
  go_ret
  obtain ⟨⟨h1, _⟩, h3, h4⟩ := H.out
  have h5 := h1 h
  exact ⟨ret_int (by rw [h5]; exact IntWalk.wrap64_in _ ⟨by omega, by omega⟩), rfl⟩
 ·have h : 0 ≤ n.tmod d := by assumption
  go_ret
  obtain ⟨⟨_, h2⟩, _⟩ := H.out
  exact ⟨ret_int (h2 h), rfl⟩

def absI (n : Int) : Int := if 0 ≤ n then n else -n
theorem size_any (n : Int) (w : World) (hn : -9223372036854775807 ≤ n) (hn' : n ≤ 9223372036854775807) :
  Calls Tryz.prog 138 #[.int .i64 n] w fun e w' => e = .returned (.int .i64 (absI n)) ∧ w = w' := by
 go_enter Tryz.func138, Tryz.ntmps138
 go_wp2
 all_goals (go_ret; refine ⟨ret_int ?_, rfl⟩; unfold absI; split <;> omega)

theorem absI_nn (n : Int) : 0 ≤ absI n := by unfold absI; split <;> omega
theorem absI_pos (n : Int) (h : n ≠ 0) : 1 ≤ absI n := by unfold absI; split <;> omega
theorem absI_le (n b : Int) (h1 : -b ≤ n) (h2 : n ≤ b) : absI n ≤ b := by unfold absI; split <;> omega
theorem absI_mul (a b : Int) : absI (a * b) = absI a * absI b := by
  unfold absI
  by_cases ha : 0 ≤ a <;> by_cases hb : 0 ≤ b
  · have := Int.mul_nonneg ha hb; simp [ha, hb, this]
  · simp only [ha, hb, if_true, if_false]
    by_cases h0 : a = 0
    · simp [h0]
    · have : a * b < 0 := Int.mul_neg_of_pos_of_neg (by omega) (by omega)
      rw [if_neg (by omega), Int.mul_neg]
  · simp only [ha, hb, if_true, if_false]
    by_cases h0 : b = 0
    · simp [h0]
    · have : a * b < 0 := Int.mul_neg_of_neg_of_pos (by omega) (by omega)
      rw [if_neg (by omega), Int.neg_mul]
  · have := Int.mul_pos_of_neg_of_neg (a := a) (b := b) (by omega) (by omega)
    simp only [ha, hb, if_false]
    rw [if_pos (by omega), Int.neg_mul_neg]
theorem of_absI_le {n b : Int} (h : absI n ≤ b) : -b ≤ n ∧ n ≤ b := by unfold absI at h; split at h <;> omega

def prodOk (a b : Int) : Prop := a = 0 ∨ absI b ≤ 2000000000000000 / absI a
theorem prodOk_iff (a b : Int) : prodOk a b ↔ absI (a * b) ≤ 2000000000000000 := by
  unfold prodOk
  by_cases h : a = 0
  · simp [h, absI]
  · have h1 := absI_pos a h
    simp only [h, false_or]
    rw [absI_mul, Int.le_ediv_iff_mul_le (by omega), Int.mul_comm]

theorem product_yes (a b : Int) (w : World) (ha : -4000000000000000000 ≤ a) (ha' : a ≤ 4000000000000000000) (hb : -4000000000000000000 ≤ b) (hb' : b ≤ 4000000000000000000) (h : prodOk a b) :
  Calls Tryz.prog 105 #[.int .i64 a, .int .i64 b] w fun e w' => e = .returned (.tuple #[.int .i64 (a * b), .bool true]) ∧ w = w' := by
 have hp := of_absI_le ((prodOk_iff a b).1 h)
 obtain ⟨hp1, hp2⟩ := hp
 by_cases h0 : a = 0
 ·subst h0
  go_enter Tryz.func105, Tryz.ntmps105
  go_wp2
  go_ret2
  exact ⟨by simp, rfl⟩
 ·have hn : (a == 0) = false := by simpa using h0
  have h1 := absI_pos a h0
  have h2 := absI_nn b
  have h3 : absI b ≤ 2000000000000000 / absI a := h.resolve_left h0
  go_enter Tryz.func105, Tryz.ntmps105
  go_wp2_with (go_at_call 138; refine (size_any _ _ (by omega) (by omega)).mono ?_; rintro e w' ⟨rfl, rfl⟩)
  go_ret2
  exact ⟨rfl, rfl⟩

theorem product_no (a b : Int) (w : World) (ha : -4000000000000000000 ≤ a) (ha' : a ≤ 4000000000000000000) (hb : -4000000000000000000 ≤ b) (hb' : b ≤ 4000000000000000000) (h : ¬ prodOk a b) :
  Calls Tryz.prog 105 #[.int .i64 a, .int .i64 b] w fun e w' => e = .returned (.tuple #[.int .i64 0, .bool false]) ∧ w = w' := by
 have h0 : ¬ a = 0 := fun e => h (.inl e)
 have hn : (a == 0) = false := by simpa using h0
 have h1 := absI_pos a h0
 have h2 := absI_nn b
 have h3 : 2000000000000000 / absI a < absI b := by
  rcases Int.lt_or_le (2000000000000000 / absI a) (absI b) with h' | h'
  ·exact h'
  ·exact absurd (.inr h') h
 go_enter Tryz.func105, Tryz.ntmps105
 go_wp2_with (go_at_call 138; refine (size_any _ _ (by omega) (by omega)).mono ?_; rintro e w' ⟨rfl, rfl⟩)
 go_ret2
 exact ⟨rfl, rfl⟩
end

section
open Go.RowKit

theorem floor_split (x n d : Int) (hd : 1 ≤ d) : x / d * n + (x - x / d * d) * n / d = x * n / d := by
  have h : x * n = (x - x / d * d) * n + d * (x / d * n) := by
    rw [Int.sub_mul, Int.mul_comm d (x / d * n), Int.mul_assoc (x / d) n d, Int.mul_comm n d, ← Int.mul_assoc]; omega
  rw [h, Int.add_mul_ediv_left _ _ (by omega : d ≠ 0)]; omega
theorem rest_bounds (x d : Int) (hd : 1 ≤ d) : 0 ≤ x - x / d * d ∧ x - x / d * d ≤ d - 1 := by
  have h1 := Int.mul_ediv_add_emod x d
  have h2 := Int.emod_nonneg x (by omega : d ≠ 0)
  have h3 := Int.emod_lt_of_pos x (by omega : 0 < d)
  rw [Int.mul_comm] at h1
  omega
theorem part_bounds (m n d : Int) (hd : 1 ≤ d) (hm : 0 ≤ m) (hm' : m ≤ d - 1) (hn : 0 ≤ n) : 0 ≤ m * n / d ∧ m * n / d ≤ n := by
  refine ⟨Int.ediv_nonneg (Int.mul_nonneg hm hn) (by omega), Int.ediv_le_of_le_mul (by omega) ?_⟩
  have := Int.mul_le_mul_of_nonneg_right (show m ≤ d by omega) hn
  rw [Int.mul_comm n d]; exact this
theorem mul_between (m n A B : Int) (hm : 0 ≤ m) (hm' : m ≤ A) (hn : -B ≤ n) (hn' : n ≤ B) : -(A * B) ≤ m * n ∧ m * n ≤ A * B := by
  have hA : 0 ≤ A := by omega
  have h1 : absI n ≤ B := absI_le n B hn hn'
  have h2 : absI (m * n) ≤ A * B := by
    rw [absI_mul]
    have e : absI m = m := by unfold absI; rw [if_pos hm]
    rw [e]
    exact Int.mul_le_mul hm' h1 (absI_nn n) hA
  exact of_absI_le h2

theorem scaled_yes (x n d : Int) (w : World) (hx : -1000000000000000 ≤ x) (hx' : x ≤ 1000000000000000) (hn : 0 ≤ n) (hn' : n ≤ 1000000000) (hd : 1 ≤ d) (hd' : d ≤ 1000000000) (h : prodOk (x / d) n) :
  Calls Tryz.prog 109 #[.int .i64 x, .int .i64 n, .int .i64 d] w fun e w' => e = .returned (.tuple #[.int .i64 (x * n / d), .bool true]) ∧ w = w' := by
 have HS := Lib.hid (floor_split x n d hd)
 obtain ⟨r1, r2⟩ := rest_bounds x d hd
 obtain ⟨q1, q2⟩ := ediv_between x d 1000000000000000 hd (by omega) hx hx'
 obtain ⟨p1, p2⟩ := of_absI_le ((prodOk_iff _ _).1 h)
 generalize hq : x / d = q at *
 have HQ := Lib.hid hq; clear hq
 obtain ⟨s1, s2⟩ := mul_between (x - q * d) n 1000000000 1000000000 r1 (by omega) (by omega) hn'
 obtain ⟨t1, t2⟩ := part_bounds (x - q * d) n d hd r1 r2 hn
 have HP := Lib.hid h; clear h
 go_enter Tryz.func109, Tryz.ntmps109
 go_wp2_with fail
 refine (floor_any x d _ hd (by omega) (by omega)).mono ?_
 rintro e w' ⟨he, rfl⟩
 rw [HQ.out] at he
 subst he
 go_wp2_with fail
 refine (product_yes q n _ (by omega) (by omega) (by omega) (by omega) HP.out).mono ?_
 rintro e w' ⟨rfl, rfl⟩
 go_wp2_with fail
 refine (floor_any _ d _ hd (by omega) (by omega)).mono ?_
 rintro e w' ⟨rfl, rfl⟩
 go_wp2
 go_ret2
 exact ⟨by show Ending.returned (.tuple #[.int .i64 (q * n + (x - q * d) * n / d), .bool true]) = _; rw [HS.out], rfl⟩

theorem scaled_no (x n d : Int) (w : World) (hx : -1000000000000000 ≤ x) (hx' : x ≤ 1000000000000000) (hn : 0 ≤ n) (hn' : n ≤ 1000000000) (hd : 1 ≤ d) (hd' : d ≤ 1000000000) (h : ¬ prodOk (x / d) n) :
  Calls Tryz.prog 109 #[.int .i64 x, .int .i64 n, .int .i64 d] w fun e w' => e = .returned (.tuple #[.int .i64 0, .bool false]) ∧ w = w' := by
 obtain ⟨q1, q2⟩ := ediv_between x d 1000000000000000 hd (by omega) hx hx'
 generalize hq : x / d = q at *
 have HQ := Lib.hid hq; clear hq
 have HP := Lib.hid h; clear h
 go_enter Tryz.func109, Tryz.ntmps109
 go_wp2_with fail
 refine (floor_any x d _ hd (by omega) (by omega)).mono ?_
 rintro e w' ⟨he, rfl⟩
 rw [HQ.out] at he
 subst he
 go_wp2_with fail
 refine (product_no q n _ (by omega) (by omega) (by omega) (by omega) HP.out).mono ?_
 rintro e w' ⟨rfl, rfl⟩
 go_wp2
 go_ret2
 exact ⟨rfl, rfl⟩
theorem far_of_no (x n d : Int) (hn : 0 ≤ n) (hn' : n ≤ 1000000000) (hd : 1 ≤ d) (h : ¬ prodOk (x / d) n) : ¬ absI (x * n / d) ≤ 1000000000000000 := by
  intro hc
  obtain ⟨c1, c2⟩ := of_absI_le hc
  obtain ⟨r1, r2⟩ := rest_bounds x d hd
  obtain ⟨t1, t2⟩ := part_bounds (x - x / d * d) n d hd r1 r2 hn
  have hs := floor_split x n d hd
  refine h ((prodOk_iff _ _).2 (absI_le _ _ ?_ ?_)) <;> omega
end

section
open Go.RowKit

theorem bcell {W w1 : World} (hb : Below W.heap.size W w1) : (∀ b o, b < W.heap.size → w1.cell? ⟨b, o, none⟩ = W.cell? ⟨b, o, none⟩) ∧ (∀ b o, b < W.heap.size → w1.frozen? ⟨b, o, none⟩ = W.frozen? ⟨b, o, none⟩) :=
  ⟨fun b o h => hb.cell (p := ⟨b, o, none⟩) h, fun b o h => hb.frozen (p := ⟨b, o, none⟩) h⟩

abbrev rv (lo hi : Int) : Value := .agg #[.int .i64 lo, .int .i64 hi]

theorem eqRange (a b c d : Int) (w : World) : (Op.equalIn 10000 35 (.agg #[.int .i64 a, .int .i64 b]) (.agg #[.int .i64 c, .int .i64 d])).run Tryz.prog w = .ok (a == c && b == d) w := by
  have u3 := Tryz.underlying3
  have hS : Tryz.prog.underlying 35 = some (.struct (Tryz.prog.fieldsOf 35)) := by kernel_rfl
  have hp : Tryz.prog.stoodInHeld 35 = false := by kernel_rfl
  rw [show (10000 : Nat) = 9999 + 1 from rfl, run_equalIn_agg w 9999 35 _ _ hS hp]
  simp only [Program.fieldsOf, Tryz.underlying35]
  go_simp
  by_cases h1 : a = c <;> by_cases h2 : b = d <;> simp [h1, h2]

@[go_sem] theorem eqGuardRange (op : BinOp) (x y : Operand) (xs ys : Array Value) (w : World) : (eqGuard op 35 x y (.agg xs) (.agg ys)).run Tryz.prog w = .ok () w :=
  run_eqGuard_agg w op 35 x y xs ys (by kernel_rfl)

theorem eqlRange (a b c d : Int) (w : World) : (binOp .eql 35 (.agg #[.int .i64 a, .int .i64 b]) (.agg #[.int .i64 c, .int .i64 d])).run Tryz.prog w = .ok (.bool (a == c && b == d)) w := by
  rw [run_eql_struct, eqRange]; rfl
theorem neqRange (a b c d : Int) (w : World) : (binOp .neq 35 (.agg #[.int .i64 a, .int .i64 b]) (.agg #[.int .i64 c, .int .i64 d])).run Tryz.prog w = .ok (.bool (!(a == c && b == d))) w := by
  rw [run_neq_struct, eqRange]; rfl
attribute [local go_sem ↓] eqlRange neqRange
theorem below_a1 {w w1 : World} {o : Obj} (hb : Below (w.alloc o).heap.size (w.alloc o) w1) : Below w.heap.size w w1 :=
  ((Below.refl _ _).alloc (Nat.le_refl _) _).trans (hb.mono (by simp))
theorem below_a2 {w w1 : World} {o o' : Obj} (hb : Below ((w.alloc o).alloc o').heap.size ((w.alloc o).alloc o') w1) : Below w.heap.size w w1 := below_a1 (below_a1 hb)
theorem below_a3 {w w1 : World} {o o' o'' : Obj} (hb : Below (((w.alloc o).alloc o').alloc o'').heap.size (((w.alloc o).alloc o').alloc o'') w1) : Below w.heap.size w w1 := below_a1 (below_a2 hb)
theorem below_d {w w1 : World} (hb : Below w.drew.heap.size w.drew w1) : Below w.heap.size w w1 := (Below.refl _ _).drew.trans hb
theorem below_then {w w1 w2 : World} (h : Below w.heap.size w w1) (hb : Below w1.heap.size w1 w2) : Below w.heap.size w w2 := h.trans (hb.mono h.size)

theorem around_any (n : Int) (w : World) (h1 : -9223372036854775807 ≤ n) (h2 : n ≤ 9223372036854775807) :
  Calls Tryz.prog 108 #[.int .i64 n] w fun e w' => e = .returned (rv (-n) n) ∧ Below w.heap.size w w' := by
 go_enter Tryz.func108, Tryz.ntmps108
 go_wp2
 exact bodyPost_ret (v := rv (-n) n) (by simp [results, Tryz.results108, go_sem]) rfl ⟨rfl, ((Below.refl _ _).alloc (Nat.le_refl _) _)⟩

theorem common_any (a b c d : Int) (w : World) :
  Calls Tryz.prog 94 #[rv a b, rv c d] w fun e w' => e = .returned (rv (max a c) (min b d)) ∧ Below w.heap.size w w' := by
 go_enter Tryz.func94, Tryz.ntmps94
 go_wp2
 all_goals
  refine bodyPost_ret (v := rv (max a c) (min b d)) ?_ rfl ⟨rfl, ?_⟩
  ·simp [results, Tryz.results94, go_sem]
   omega
  ·exact (((Below.refl _ _).alloc (Nat.le_refl _) _).alloc (by simp) _).alloc (by simp; omega) _

def inB (a b c d : Int) : Bool := decide (a ≤ b ∧ c ≤ a ∧ b ≤ d)
theorem inB_yes {a b c d : Int} (h : a ≤ b) (h1 : c ≤ a) (h2 : b ≤ d) : inB a b c d = true := by simp [inB, h, h1, h2]
theorem inB_no {a b c d : Int} (h : ¬ (a ≤ b ∧ c ≤ a ∧ b ≤ d)) : inB a b c d = false := by simpa [inB] using h

theorem keep_two {w w1 : World} {a b c d : Value} {t t' : TypeId} (hb : Below ((w.alloc (.cells #[a, b] t)).alloc (.cells #[c, d] t')).drew.heap.size ((w.alloc (.cells #[a, b] t)).alloc (.cells #[c, d] t')).drew w1) :
    w1.cell? ⟨w.heap.size, 0, none⟩ = some a ∧ w1.cell? ⟨w.heap.size, 1, none⟩ = some b ∧ w1.cell? ⟨w.heap.size + 1, 0, none⟩ = some c ∧ w1.cell? ⟨w.heap.size + 1, 1, none⟩ = some d := by
  have h := (bcell hb).1
  refine ⟨?_, ?_, ?_, ?_⟩
  · rw [h _ _ (by simp; omega)]; simp
  · rw [h _ _ (by simp; omega)]; simp
  · rw [h _ _ (by simp)]; simp
  · rw [h _ _ (by simp)]; simp

theorem common_to (a b c d x y : Int) (w : World) (hx : max a c = x) (hy : min b d = y) :
    Calls Tryz.prog 94 #[rv a b, rv c d] w fun e w' => e = .returned (rv x y) ∧ Below w.heap.size w w' := by
  subst hx; subst hy; exact common_any a b c d w

theorem within_some (a b c d x y : Int) (t1 t2 : Bool) (w : World) (h : a ≤ b) (hx : max a c = x) (hy : min b d = y) (ht1 : (x == a) = t1) (ht2 : (y == b) = t2) :
  Calls Tryz.prog 119 #[rv a b, rv c d] w fun e w' => e = .returned (.bool (t1 && t2)) ∧ Below w.heap.size w w' := by
 have C := fun W => common_to a b c d x y W hx hy
 clear hx hy
 have HC := Lib.hid C; clear C
 go_enter Tryz.func119, Tryz.ntmps119
 go_wp2_with fail
 go_region_held3 (fun w' => w'.cell? ⟨w.heap.size, 0, none⟩ = some (.int .i64 a) ∧ w'.cell? ⟨w.heap.size, 1, none⟩ = some (.int .i64 b) ∧ w'.cell? ⟨w.heap.size + 1, 0, none⟩ = some (.int .i64 c) ∧ w'.cell? ⟨w.heap.size + 1, 1, none⟩ = some (.int .i64 d))
  (first | (go_keep; done) | exact keep_two hb1)
  (first | (go_at_call 94; refine (HC.out _).mono ?_; rintro e w1 ⟨rfl, hb1⟩))
 go_wp2
 go_ret
 exact ⟨rfl, below_a2 (below_d hb1)⟩

theorem within_any (a b c d : Int) (w : World) :
  Calls Tryz.prog 119 #[rv a b, rv c d] w fun e w' => e = .returned (.bool (inB a b c d)) ∧ Below w.heap.size w w' := by
 by_cases h : a ≤ b
 ·rcases Int.lt_or_le a c with h1 | h1 <;> rcases Int.lt_or_le d b with h2 | h2
  ·refine (within_some a b c d c d false false w h (by omega) (by omega) (beq_eq_false_iff_ne.2 (by omega)) (beq_eq_false_iff_ne.2 (by omega))).mono ?_
   rintro e w' ⟨rfl, hb⟩
   exact ⟨by rw [inB_no (by omega)]; rfl, hb⟩
  ·refine (within_some a b c d c b false true w h (by omega) (by omega) (beq_eq_false_iff_ne.2 (by omega)) (by simp)).mono ?_
   rintro e w' ⟨rfl, hb⟩
   exact ⟨by rw [inB_no (by omega)]; rfl, hb⟩
  ·refine (within_some a b c d a d true false w h (by omega) (by omega) (by simp) (beq_eq_false_iff_ne.2 (by omega))).mono ?_
   rintro e w' ⟨rfl, hb⟩
   exact ⟨by rw [inB_no (by omega)]; rfl, hb⟩
  ·refine (within_some a b c d a b true true w h (by omega) (by omega) (by simp) (by simp)).mono ?_
   rintro e w' ⟨rfl, hb⟩
   exact ⟨by rw [inB_yes h h1 h2]; rfl, hb⟩
 ·have hf : inB a b c d = false := inB_no (by omega)
  have hd : decide (a ≤ b) = false := by simpa using h
  rw [hf]
  clear hf
  go_enter Tryz.func119, Tryz.ntmps119
  go_wp2_with fail
  go_quiet (fail)
  go_wp2
  go_ret
  exact ⟨rfl, below_drewN (((Below.refl _ _).alloc (Nat.le_refl _) _).alloc (by simp) _) _⟩

def vR (a b : Int) : Bool := inB a b (-1000000000000000) 1000000000000000
theorem vR_iff (a b : Int) : vR a b = true ↔ (a ≤ b ∧ -1000000000000000 ≤ a ∧ b ≤ 1000000000000000) := by simp [vR, inB]
theorem vR_no (a b : Int) (h : ¬ (a ≤ b ∧ -1000000000000000 ≤ a ∧ b ≤ 1000000000000000)) : vR a b = false := by simpa [vR, inB] using h

theorem keep_one {w w0 w1 : World} {a b : Value} (h0 : w0.cell? ⟨w.heap.size, 0, none⟩ = some a ∧ w0.cell? ⟨w.heap.size, 1, none⟩ = some b) (hl : w.heap.size < w0.heap.size) (hb : Below w0.heap.size w0 w1) :
    w1.cell? ⟨w.heap.size, 0, none⟩ = some a ∧ w1.cell? ⟨w.heap.size, 1, none⟩ = some b :=
  ⟨((bcell hb).1 _ _ hl).trans h0.1, ((bcell hb).1 _ _ hl).trans h0.2⟩

theorem checkRange_bool (a b : Int) (t : Bool) (x : Int) (w : World) (ht : inB a b (-1000000000000000) 1000000000000000 = t) (hx : (if t = true then 0 else 10) = x) :
  Calls Tryz.prog 82 #[rv a b] w fun e w' => e = .returned (.int .i64 x) ∧ Below w.heap.size w w' := by
 have C := fun W => within_any a b (-1000000000000000) 1000000000000000 W
 rw [ht] at C
 have HC := Lib.hid C; clear C ht
 go_enter Tryz.func82, Tryz.ntmps82
 go_wp2_with fail
 go_region_held3 (fun w' => w'.cell? ⟨w.heap.size, 0, none⟩ = some (.int .i64 a) ∧ w'.cell? ⟨w.heap.size, 1, none⟩ = some (.int .i64 b))
  (first | (go_keep; done) | exact keep_one ‹_› (by simp) hb1 | exact keep_one ‹_› (Nat.lt_of_lt_of_le (by simp) hb1.size) hb2)
  (first | (go_at_call 108; refine (around_any 1000000000000000 _ (by omega) (by omega)).mono ?_; rintro e w1 ⟨rfl, hb1⟩) | (go_at_call 119; refine (HC.out _).mono ?_; rintro e w2 ⟨rfl, hb2⟩))
 have hb := below_a1 (below_d (below_then hb1 hb2))
 cases t
 ·go_wp2
  go_ret
  exact ⟨by rw [← hx]; rfl, hb⟩
 ·go_wp2
  go_ret
  exact ⟨by rw [← hx]; rfl, hb⟩
end

section
open Go.RowKit
attribute [local go_sem ↓] eqlRange neqRange
abbrev rt (r : Int × Int × Int) : Value := .tuple #[rv r.1 r.2.1, .int .i64 r.2.2]
def bigS (lo hi : Int) : Int × Int × Int := if vR lo hi = true then (lo, hi, 0) else (0, 0, 5)

theorem checkRange_ok (a b : Int) (w : World) (h : vR a b = true) :
    Calls Tryz.prog 82 #[rv a b] w fun e w' => e = .returned (.int .i64 0) ∧ Below w.heap.size w w' :=
  checkRange_bool a b true _ w h rfl
theorem checkRange_bad (a b : Int) (w : World) (h : vR a b = false) :
    Calls Tryz.prog 82 #[rv a b] w fun e w' => e = .returned (.int .i64 10) ∧ Below w.heap.size w w' :=
  checkRange_bool a b false _ w h rfl

theorem unlessBig_any (a b : Int) (w : World) :
  Calls Tryz.prog 73 #[rv a b] w fun e w' => e = .returned (rt (bigS a b)) ∧ Below w.heap.size w w' := by
 cases h : vR a b
 ·have hs : bigS a b = (0, 0, 5) := by simp [bigS, h]
  rw [hs]; clear hs
  have H := Lib.hid h; clear h
  go_enter Tryz.func73, Tryz.ntmps73
  go_wp2_with fail
  refine (checkRange_bad a b _ H.out).mono ?_
  rintro e w1 ⟨rfl, hb⟩
  obtain ⟨hc, hf⟩ := bcell hb
  have hz := hb.size
  go_wp2
  exact bodyPost_ret (v := rt (0, 0, 5)) (by simp [results, Tryz.results73, go_sem, hc]) rfl ⟨rfl, ((below_a2 hb).setCell (by simp) _).setCell (by simp) _⟩
 ·have hs : bigS a b = (a, b, 0) := by simp [bigS, h]
  rw [hs]; clear hs
  have H := Lib.hid h; clear h
  go_enter Tryz.func73, Tryz.ntmps73
  go_wp2_with fail
  refine (checkRange_ok a b _ H.out).mono ?_
  rintro e w1 ⟨rfl, hb⟩
  obtain ⟨hc, hf⟩ := bcell hb
  have hz := hb.size
  go_wp2
  exact bodyPost_ret (v := rt (a, b, 0)) (by simp [results, Tryz.results73, go_sem, hc]) rfl ⟨rfl, ((below_a2 hb).setCell (by simp) _).setCell (by simp) _⟩

theorem bothValid_any (a b c d : Int) (w : World) :
  Calls Tryz.prog 72 #[rv a b, rv c d] w fun e w' => e = .returned (.bool (vR a b && vR c d)) ∧ Below w.heap.size w w' := by
 cases h : vR a b
 ·have H := Lib.hid h; clear h
  go_enter Tryz.func72, Tryz.ntmps72
  go_wp2_with fail
  refine (checkRange_bad a b _ H.out).mono ?_
  rintro e w1 ⟨rfl, hb⟩
  go_wp2
  go_ret
  exact ⟨rfl, below_a2 hb⟩
 ·have H := Lib.hid h; clear h
  cases h' : vR c d
  all_goals
   have H' := Lib.hid h'; clear h'
   go_enter Tryz.func72, Tryz.ntmps72
   go_wp2_with fail
   refine (checkRange_ok a b _ H.out).mono ?_
   rintro e w1 ⟨rfl, hb⟩
   obtain ⟨hc, hf⟩ := bcell hb
   go_wp2_with fail
   first | refine (checkRange_bad c d _ H'.out).mono ?_ | refine (checkRange_ok c d _ H'.out).mono ?_
   rintro e w2 ⟨rfl, hb2⟩
   go_wp2
   go_ret
   exact ⟨rfl, below_then (below_a2 hb) hb2⟩

def twoS (a b c d : Int) (r : Int × Int × Int) : Int × Int × Int := if (vR a b && vR c d) = true then r else (0, 0, 10)
def addS (a b c d : Int) : Int × Int × Int := twoS a b c d (bigS (a + c) (b + d))
theorem twoS_no {a b c d : Int} {r : Int × Int × Int} (h : (vR a b && vR c d) = false) : twoS a b c d r = (0, 0, 10) := by simp [twoS, h]
theorem twoS_yes {a b c d : Int} {r : Int × Int × Int} (h : (vR a b && vR c d) = true) : twoS a b c d r = r := by rw [twoS, if_pos h]
theorem both_iff {a b c d : Int} (h : (vR a b && vR c d) = true) : (a ≤ b ∧ -1000000000000000 ≤ a ∧ b ≤ 1000000000000000) ∧ (c ≤ d ∧ -1000000000000000 ≤ c ∧ d ≤ 1000000000000000) := by
  rw [Bool.and_eq_true] at h
  exact ⟨(vR_iff _ _).1 h.1, (vR_iff _ _).1 h.2⟩
theorem bothValid_to (a b c d : Int) (t : Bool) (w : World) (h : (vR a b && vR c d) = t) :
    Calls Tryz.prog 72 #[rv a b, rv c d] w fun e w' => e = .returned (.bool t) ∧ Below w.heap.size w w' := by
  subst h; exact bothValid_any a b c d w

theorem add_any (a b c d : Int) (w : World) :
  Calls Tryz.prog 44 #[rv a b, rv c d] w fun e w' => e = .returned (rt (addS a b c d)) ∧ Below w.heap.size w w' := by
 unfold addS
 cases h : (vR a b && vR c d)
 ·rw [twoS_no h]
  have H := Lib.hid h; clear h
  go_enter Tryz.func44, Tryz.ntmps44
  go_wp2_with fail
  refine (bothValid_to a b c d _ _ H.out).mono ?_
  rintro e w1 ⟨rfl, hb⟩
  obtain ⟨hc, hf⟩ := bcell hb
  go_wp2
  exact bodyPost_ret (v := rt (0, 0, 10)) (by simp [results, Tryz.results44, go_sem, hc]) rfl ⟨rfl, ((below_a3 hb).setCell (by simp; omega) _).setCell (by simp; omega) _⟩
 ·obtain ⟨⟨a1, a2, a3⟩, ⟨c1, c2, c3⟩⟩ := both_iff h
  rw [twoS_yes h]
  have H := Lib.hid h; clear h
  go_enter Tryz.func44, Tryz.ntmps44
  go_wp2_with fail
  refine (bothValid_to a b c d _ _ H.out).mono ?_
  rintro e w1 ⟨rfl, hb⟩
  obtain ⟨hc, hf⟩ := bcell hb
  have hz0 : w.heap.size + 1 + 1 < w1.heap.size := by have := hb.size; simp at this; omega
  go_wp2_with fail
  refine (unlessBig_any _ _ _).mono ?_
  rintro e w2 ⟨rfl, hb2⟩
  obtain ⟨hc2, hf2⟩ := bcell hb2
  go_wp2
  exact bodyPost_ret (v := rt (bigS (a + c) (b + d))) (by simp [results, Tryz.results44, go_sem, hc2, hc, hz0]) rfl ⟨rfl, ((below_then (below_a3 hb) hb2).setCell (by simp; omega) _).setCell (by simp; omega) _⟩

theorem hull0_any (a b c d : Int) (w : World) :
  Calls Tryz.prog 139 #[rv a b, rv c d] w fun e w' => e = .returned (rv (min a c) (max b d)) ∧ Below w.heap.size w w' := by
 go_enter Tryz.func139, Tryz.ntmps139
 go_wp2
 all_goals
  refine bodyPost_ret (v := rv (min a c) (max b d)) ?_ rfl ⟨rfl, ?_⟩
  ·simp [results, Tryz.results139, go_sem]
   omega
  ·exact (((Below.refl _ _).alloc (Nat.le_refl _) _).alloc (by simp) _).alloc (by simp; omega) _

def hullS (a b c d : Int) : Int × Int × Int := twoS a b c d (min a c, max b d, 0)
def meetS (a b c d : Int) : Int × Int × Int := twoS a b c d (if max a c ≤ min b d then (max a c, min b d, 0) else (0, 0, 3))

theorem hull_any (a b c d : Int) (w : World) :
  Calls Tryz.prog 120 #[rv a b, rv c d] w fun e w' => e = .returned (rt (hullS a b c d)) ∧ Below w.heap.size w w' := by
 unfold hullS
 cases h : (vR a b && vR c d)
 ·rw [twoS_no h]
  have H := Lib.hid h; clear h
  go_enter Tryz.func120, Tryz.ntmps120
  go_wp2_with fail
  refine (bothValid_to a b c d _ _ H.out).mono ?_
  rintro e w1 ⟨rfl, hb⟩
  obtain ⟨hc, hf⟩ := bcell hb
  go_wp2
  exact bodyPost_ret (v := rt (0, 0, 10)) (by simp [results, Tryz.results120, go_sem, hc]) rfl ⟨rfl, ((below_a3 hb).setCell (by simp; omega) _).setCell (by simp; omega) _⟩
 ·obtain ⟨⟨a1, a2, a3⟩, ⟨c1, c2, c3⟩⟩ := both_iff h
  rw [twoS_yes h]
  have H := Lib.hid h; clear h
  go_enter Tryz.func120, Tryz.ntmps120
  go_wp2_with fail
  refine (bothValid_to a b c d _ _ H.out).mono ?_
  rintro e w1 ⟨rfl, hb⟩
  obtain ⟨hc, hf⟩ := bcell hb
  have hz0 : w.heap.size + 1 + 1 < w1.heap.size := by have := hb.size; simp at this; omega
  go_wp2_with fail
  refine (hull0_any _ _ _ _ _).mono ?_
  rintro e w2 ⟨rfl, hb2⟩
  obtain ⟨hc2, hf2⟩ := bcell hb2
  go_wp2
  exact bodyPost_ret (v := rt (min a c, max b d, 0)) (by simp [results, Tryz.results120, go_sem, hc2, hc, hz0]) rfl ⟨rfl, ((below_then (below_a3 hb) hb2).setCell (by simp; omega) _).setCell (by simp; omega) _⟩

theorem meet_any (a b c d : Int) (w : World) :
  Calls Tryz.prog 84 #[rv a b, rv c d] w fun e w' => e = .returned (rt (meetS a b c d)) ∧ Below w.heap.size w w' := by
 unfold meetS
 cases h : (vR a b && vR c d)
 ·rw [twoS_no h]
  have H := Lib.hid h; clear h
  go_enter Tryz.func84, Tryz.ntmps84
  go_wp2_with fail
  refine (bothValid_to a b c d _ _ H.out).mono ?_
  rintro e w1 ⟨rfl, hb⟩
  obtain ⟨hc, hf⟩ := bcell hb
  go_wp2
  exact bodyPost_ret (v := rt (0, 0, 10)) (by simp [results, Tryz.results84, go_sem, hc]) rfl ⟨rfl, ((below_a3 hb).setCell (by simp; omega) _).setCell (by simp; omega) _⟩
 ·rw [twoS_yes h]
  have H := Lib.hid h; clear h
  have C := fun W => common_to a b c d _ _ W rfl rfl
  by_cases hxy : max a c ≤ min b d
  ·rw [if_pos hxy]
   generalize max a c = x at *
   generalize min b d = y at *
   have HC := Lib.hid C; clear C
   go_enter Tryz.func84, Tryz.ntmps84
   go_wp2_with fail
   refine (bothValid_to a b c d _ _ H.out).mono ?_
   rintro e w1 ⟨rfl, hb⟩
   obtain ⟨hc, hf⟩ := bcell hb
   have hz0 : w.heap.size + 1 + 1 < w1.heap.size := by have := hb.size; simp at this; omega
   go_wp2_with fail
   refine (HC.out _).mono ?_
   rintro e w2 ⟨rfl, hb2⟩
   obtain ⟨hc2, hf2⟩ := bcell hb2
   have hz2 : w.heap.size + 1 + 1 < w2.heap.size := by have := hb2.size; omega
   go_wp2
   exact bodyPost_ret (v := rt (x, y, 0)) (by simp [results, Tryz.results84, go_sem, hc2, hc, hz0, hz2]) rfl ⟨rfl, (((below_then (below_a3 hb) hb2).setCell (by simp; omega) _).setCell (by simp; omega) _).alloc (by simp; omega) _⟩
  ·rw [if_neg hxy]
   generalize max a c = x at *
   generalize min b d = y at *
   have HC := Lib.hid C; clear C
   go_enter Tryz.func84, Tryz.ntmps84
   go_wp2_with fail
   refine (bothValid_to a b c d _ _ H.out).mono ?_
   rintro e w1 ⟨rfl, hb⟩
   obtain ⟨hc, hf⟩ := bcell hb
   have hz0 : w.heap.size + 1 + 1 < w1.heap.size := by have := hb.size; simp at this; omega
   go_wp2_with fail
   refine (HC.out _).mono ?_
   rintro e w2 ⟨rfl, hb2⟩
   obtain ⟨hc2, hf2⟩ := bcell hb2
   have hz2 : w.heap.size + 1 + 1 < w2.heap.size := by have := hb2.size; omega
   go_wp2
   exact bodyPost_ret (v := rt (0, 0, 3)) (by simp [results, Tryz.results84, go_sem, hc2, hc, hz0, hz2]) rfl ⟨rfl, (((below_then (below_a3 hb) hb2).setCell (by simp; omega) _).setCell (by simp; omega) _).alloc (by simp; omega) _⟩

def hasS (a b n : Int) : Bool := vR a b && (decide (a ≤ n) && decide (n ≤ b))
theorem has_any (a b n : Int) (w : World) :
  Calls Tryz.prog 107 #[rv a b, .int .i64 n] w fun e w' => e = .returned (.bool (hasS a b n)) ∧ Below w.heap.size w w' := by
 cases h : vR a b
 ·have hs : hasS a b n = false := by simp [hasS, h]
  rw [hs]; clear hs
  have H := Lib.hid h; clear h
  go_enter Tryz.func107, Tryz.ntmps107
  go_wp2_with fail
  refine (checkRange_bad a b _ H.out).mono ?_
  rintro e w1 ⟨rfl, hb⟩
  go_wp2
  go_ret
  exact ⟨rfl, below_a1 hb⟩
 ·have hs : hasS a b n = (decide (a ≤ n) && decide (n ≤ b)) := by simp [hasS, h]
  rw [hs]; clear hs
  have H := Lib.hid h; clear h
  by_cases h1 : a ≤ n <;> by_cases h2 : n ≤ b
  all_goals
   go_enter Tryz.func107, Tryz.ntmps107
   go_wp2_with fail
   refine (checkRange_ok a b _ H.out).mono ?_
   rintro e w1 ⟨rfl, hb⟩
   obtain ⟨hc, hf⟩ := bcell hb
   go_wp2
   go_ret
   exact ⟨by simp [h1, h2], below_a1 hb⟩
end

section
open Go.RowKit
attribute [local go_sem ↓] eqlRange neqRange
def Blk (w : World) (g : Nat) (t : TypeId) (cs : Array Value) : Prop := w.heap[g]? = some (.cells cs t (0, 0))
section
variable {w w' : World} {g : Nat} {t : TypeId} {cs : Array Value}
theorem Blk.lt (h : Blk w g t cs) : g < w.heap.size := by
  rcases Nat.lt_or_ge g w.heap.size with hlt | hge
  · exact hlt
  · unfold Blk at h; rw [Array.getElem?_eq_none hge] at h; cases h
theorem Blk.cell (h : Blk w g t cs) (i : Nat) : w.cell? ⟨g, i, none⟩ = cs[i]? := cell_of_row w g i cs t (0, 0) h
theorem Blk.frozen (h : Blk w g t cs) (i : Nat) : w.frozen? ⟨g, i, none⟩ = false := by
  unfold Blk at h
  simp [World.frozen?, h]
theorem Blk.new (w : World) (t : TypeId) (cs : Array Value) : Blk (w.alloc (.cells cs t)) w.heap.size t cs := heap_alloc_new w _
theorem Blk.drew (h : Blk w g t cs) : Blk w.drew g t cs := h
theorem Blk.drewN (h : Blk w g t cs) (n : Nat) : Blk (w.drewN n) g t cs := h
theorem Blk.alloc (h : Blk w g t cs) (o : Obj) : Blk (w.alloc o) g t cs := (Below.heap_alloc w o g h.lt).trans h
theorem Blk.set_ (h : Blk w g t cs) (i : Nat) (u : Value) : Blk (w.setCell ⟨g, i, none⟩ u) g t (cs.setIfInBounds i u) := by
  unfold Blk at h ⊢
  simp [World.setCell, Array.getElem?_modify, h]
theorem Blk.far (h : Blk w g t cs) {p : Addr} (hp : g ≠ p.block) (u : Value) : Blk (w.setCell p u) g t cs := (Below.heap_setCell w p u g hp).trans h
theorem Blk.below {B : Nat} (h : Blk w g t cs) (hb : Below B w w') (hg : g < B) : Blk w' g t cs := (hb.block g hg).trans h
theorem Blk.grown {row : Option Nat} (h : Blk w g t cs) (hb : w.grownBy w' row) (hg : some g ≠ row) : Blk w' g t cs := (hb.block g h.lt hg).trans h
end

def Only (g : Nat) (w w' : World) : Prop := w.grownBy w' (some g)
theorem Only.drew {g : Nat} {a w : World} (h : Only g a w) : Only g a w.drew := ⟨h.os, h.tape, h.output, h.size, h.block⟩
theorem Only.drewN {g : Nat} {a w : World} (h : Only g a w) (n : Nat) : Only g a (w.drewN n) := ⟨h.os, h.tape, h.output, h.size, h.block⟩
theorem Only.refl (g : Nat) (w : World) : Only g w w := World.grownBy.refl w _
theorem Only.of_below {g : Nat} {a w : World} (h : Below a.heap.size a w) : Only g a w := ⟨h.os, h.tape, h.output, h.size, fun i hi _ => h.block i hi⟩
theorem Only.trans {g : Nat} {a b c : World} (h : Only g a b) (k : Only g b c) : Only g a c :=
  ⟨k.os.trans h.os, k.tape.trans h.tape, k.output.trans h.output, Nat.le_trans h.size k.size, fun i hi hne => (k.block i (Nat.lt_of_lt_of_le hi h.size) hne).trans (h.block i hi hne)⟩
theorem Only.setCell {g : Nat} {a w : World} (h : Only g a w) {p : Addr} (hp : p.block = g ∨ a.heap.size ≤ p.block) (u : Value) : Only g a (w.setCell p u) :=
  ⟨h.os, h.tape, h.output, by simpa [World.setCell] using h.size, fun i hi hne => (Below.heap_setCell w p u i (by
    rintro rfl
    rcases hp with hp | hp
    · exact hne (by rw [hp])
    · omega)).trans (h.block i hi hne)⟩
theorem Only.cells {g : Nat} {w w' : World} (h : Only g w w') : (∀ b o, b < w.heap.size → b ≠ g → w'.cell? ⟨b, o, none⟩ = w.cell? ⟨b, o, none⟩) ∧ (∀ b o, b < w.heap.size → b ≠ g → w'.frozen? ⟨b, o, none⟩ = w.frozen? ⟨b, o, none⟩) :=
  ⟨fun b o hb hne => World.cell?_of_block (h.block b hb (fun e => hne (by injection e))), fun b o hb hne => World.frozen?_of_block (h.block b hb (fun e => hne (by injection e)))⟩
theorem Only.below {g : Nat} {a w w' : World} (h : Only g w w') (hb : Below a.heap.size a w) (hg : a.heap.size ≤ g) : Below a.heap.size a w' :=
  hb.trans ⟨h.os, h.tape, h.output, h.size, fun i hi => h.block i (Nat.lt_of_lt_of_le hi hb.size) (fun e => by injection e with e; omega)⟩

abbrev growCells (lo hi : Int) (some : Bool) : Array Value := #[.int .i64 lo, .int .i64 hi, .bool some]

theorem blk3 {w : World} {g : Nat} {t : TypeId} {lo hi : Int} {s : Bool} (h : Blk w g t (growCells lo hi s)) (a b : Int) :
    Blk (((w.setCell ⟨g, 0, none⟩ (.int .i64 a)).setCell ⟨g, 1, none⟩ (.int .i64 b)).setCell ⟨g, 2, none⟩ (.bool true)) g t (growCells a b true) := by
  have h3 := ((h.set_ 0 (.int .i64 a)).set_ 1 (.int .i64 b)).set_ 2 (.bool true)
  simpa [growCells] using h3
theorem only3 (w : World) (g : Nat) (x y z : Value) : Only g w (((w.setCell ⟨g, 0, none⟩ x).setCell ⟨g, 1, none⟩ y).setCell ⟨g, 2, none⟩ z) :=
  (((Only.refl g w).setCell (p := ⟨g, 0, none⟩) (.inl rfl) x).setCell (p := ⟨g, 1, none⟩) (.inl rfl) y).setCell (p := ⟨g, 2, none⟩) (.inl rfl) z
theorem Only.alloc {g : Nat} {a w : World} (h : Only g a w) (o : Obj) : Only g a (w.alloc o) := h.trans (Only.of_below ((Below.refl _ _).alloc (Nat.le_refl _) _))

theorem take_first (g : Nat) (lo hi a b : Int) (w : World) (h : Blk w g 148 (growCells lo hi false)) :
  Calls Tryz.prog 106 #[.pointer (some ⟨g, 0, none⟩), rv a b] w fun e w' => e = .returned (.tuple #[]) ∧ Blk w' g 148 (growCells a b true) ∧ Only g w w' := by
 have hg := h.lt
 have c0 := h.cell 0
 have c1 := h.cell 1
 have c2 := h.cell 2
 have f0 := h.frozen 0
 have f1 := h.frozen 1
 have f2 := h.frozen 2
 simp at c0 c1 c2
 have HB := Lib.hid h; clear h
 go_enter Tryz.func106, Tryz.ntmps106
 go_wp2
 go_end0
 refine ⟨rfl, ?_, ?_⟩
 ·exact (blk3 HB.out a b).alloc _
 ·exact (only3 w g _ _ _).alloc _

theorem hull0_to (a b c d x y : Int) (w : World) (hx : min a c = x) (hy : max b d = y) :
    Calls Tryz.prog 139 #[rv a b, rv c d] w fun e w' => e = .returned (rv x y) ∧ Below w.heap.size w w' := by
  subst hx; subst hy; exact hull0_any a b c d w

theorem take_core (g : Nat) (lo hi a b x y : Int) (w : World) (h : Blk w g 148 (growCells lo hi true)) (hx : min lo a = x) (hy : max hi b = y) :
  Calls Tryz.prog 106 #[.pointer (some ⟨g, 0, none⟩), rv a b] w fun e w' => e = .returned (.tuple #[]) ∧ Blk w' g 148 (growCells x y true) ∧ Only g w w' := by
 have C := fun W => hull0_to lo hi a b x y W hx hy
 clear hx hy
 have HC := Lib.hid C; clear C
 have hg := h.lt
 have c0 := h.cell 0
 have c1 := h.cell 1
 have c2 := h.cell 2
 have f0 := h.frozen 0
 have f1 := h.frozen 1
 have f2 := h.frozen 2
 simp at c0 c1 c2
 have HB := Lib.hid h; clear h
 go_enter Tryz.func106, Tryz.ntmps106
 go_wp2_with fail
 go_region_with (go_at_call 139; refine (HC.out _).mono ?_; rintro e w1 ⟨rfl, hb⟩; obtain ⟨hc, hf⟩ := bcell hb)
 all_goals go_wp2
 all_goals
  go_end0
  have hb' : Below w.heap.size w w1 := below_a1 (below_d hb)
  have hz : w.heap.size < w1.heap.size := by have := hb.size; simp at this; omega
  refine ⟨rfl, ?_, ?_⟩
  ·exact blk3 (((HB.out.below hb' hg).far (p := ⟨w.heap.size, 0, none⟩) (by simp; omega) _).far (p := ⟨w.heap.size, 1, none⟩) (by simp; omega) _) x y
  ·exact (((Only.of_below hb').setCell (p := ⟨w.heap.size, 0, none⟩) (.inr (Nat.le_refl _)) _).setCell (p := ⟨w.heap.size, 1, none⟩) (.inr (Nat.le_refl _)) _).trans (only3 _ g _ _ _)
theorem take_more (g : Nat) (lo hi a b : Int) (w : World) (h : Blk w g 148 (growCells lo hi true)) :
    Calls Tryz.prog 106 #[.pointer (some ⟨g, 0, none⟩), rv a b] w fun e w' => e = .returned (.tuple #[]) ∧ Blk w' g 148 (growCells (min lo a) (max hi b) true) ∧ Only g w w' :=
  take_core g lo hi a b _ _ w h rfl rfl
end

section
open Go.RowKit
attribute [local go_sem ↓] eqlRange neqRange
abbrev P3 := Int × Int × Int
def Pts (w : World) (A : Option Addr) (ps : List P3) : Prop :=
  ps = [] ∨ ∃ b o, A = some ⟨b, o, none⟩ ∧ b < w.heap.size ∧ ∀ k p, ps[k]? = some p →
    w.cell? ⟨b, o + k * 3, none⟩ = some (.int .i64 p.1) ∧ w.cell? ⟨b, o + k * 3 + 1, none⟩ = some (.int .i64 p.2.1) ∧ w.cell? ⟨b, o + k * 3 + 2, none⟩ = some (.int .i64 p.2.2)
theorem Pts.keep {w w' : World} {A : Option Addr} {ps : List P3} (h : Pts w A ps) (hs : w.heap.size ≤ w'.heap.size) (hk : ∀ b o, b < w.heap.size → w'.cell? ⟨b, o, none⟩ = w.cell? ⟨b, o, none⟩) : Pts w' A ps := by
  rcases h with h | ⟨b, o, hA, hb, hc⟩
  · exact .inl h
  · refine .inr ⟨b, o, hA, by omega, fun k p hp => ?_⟩
    rw [hk _ _ hb, hk _ _ hb, hk _ _ hb]
    exact hc k p hp
theorem Pts.below {w w' : World} {A : Option Addr} {ps : List P3} (h : Pts w A ps) (hb : Below w.heap.size w w') : Pts w' A ps := h.keep hb.size (bcell hb).1

def ptOk (last : Int) (p : P3) : Bool := decide (last < p.1) && (decide (p.1 ≤ 1000000) && inB p.2.1 p.2.2 (-1000000000) 1000000000)
def ptsOk : Int → List P3 → Bool
  | _, [] => true
  | last, p :: ps => ptOk last p && ptsOk p.1 ps
def tabOk (ps : List P3) : Bool := decide (1 ≤ ps.length ∧ ps.length ≤ 40) && ptsOk (-1) ps
abbrev tv (A : Option Addr) (n c : Nat) : Value := .agg #[.slice A n c]

theorem bounds_any (x lo hi : Int) (w : World) :
  Calls Tryz.prog 121 #[.agg #[.int .i64 x, .int .i64 lo, .int .i64 hi]] w fun e w' => e = .returned (rv lo hi) ∧ Below w.heap.size w w' := by
 go_enter Tryz.func121, Tryz.ntmps121
 go_wp2
 refine bodyPost_ret (v := rv lo hi) (by simp [results, Tryz.results121, go_sem]) rfl ⟨rfl, ?_⟩
 exact ((Below.refl _ _).alloc (Nat.le_refl _) _).alloc (by simp) _

theorem ptsOk_at {last : Int} {ps : List P3} {k : Nat} {p : P3} (h : ps[k]? = some p) : ptsOk last (ps.drop k) = (ptOk last p && ptsOk p.1 (ps.drop (k + 1))) := by
  have hk : k < ps.length := (List.getElem?_eq_some_iff.1 h).1
  have e : ps.drop k = p :: ps.drop (k + 1) := by
    rw [List.drop_eq_getElem_cons hk]
    rw [List.getElem?_eq_getElem hk] at h
    injection h with h
    rw [h]
  rw [e]; rfl

theorem checkTable_loop (b o n c : Nat) (ps : List P3) (w : World) (hb : b < w.heap.size) (hn : n = ps.length) (h1 : 1 ≤ n) (h2 : n ≤ 40)
  (hc : ∀ k p, ps[k]? = some p → w.cell? ⟨b, o + k * 3, none⟩ = some (.int .i64 p.1) ∧ w.cell? ⟨b, o + k * 3 + 1, none⟩ = some (.int .i64 p.2.1) ∧ w.cell? ⟨b, o + k * 3 + 2, none⟩ = some (.int .i64 p.2.2)) :
  Calls Tryz.prog 87 #[tv (some ⟨b, o, none⟩) n c] w fun e w' => e = .returned (.int .i64 (if ptsOk (-1) ps = true then 0 else 11)) ∧ Below w.heap.size w w' := by
 have HN := Lib.hid hn; clear hn
 have HC := Lib.hid hc; clear hc
 have t1 : ¬ (n : Int) < 1 := by omega
 have t2 : ¬ (40 : Int) < (n : Int) := by omega
 generalize hr : ptsOk (-1) ps = r
 have HR := Lib.hid hr; clear hr
 go_enter Tryz.func87, Tryz.ntmps87
 go_wp2_with fail
 go_loopw [3, 19] (fun l i wr => ∃ (k : Nat) (last : Int), k ≤ n ∧ i = .int .i64 k ∧ l = .int .i64 last ∧ Below w.heap.size w wr ∧ Hid (ptsOk last (ps.drop k) = r)) (fun _ i _ => n - (intOf i).toNat)
 case atStart => exact ⟨0, -1, by omega, rfl, rfl, (Below.refl _ _).alloc (Nat.le_refl _) _, HR.out⟩
 case round =>
  obtain ⟨k, last, hk, rfl, rfl, hB, HP⟩ := hrel
  by_cases hlt : k < n
  ·have hp : ∃ p, ps[k]? = some p := ⟨_, List.getElem?_eq_getElem (show k < ps.length by rw [← HN.out]; exact hlt)⟩
   obtain ⟨p, hp⟩ := hp
   obtain ⟨c0, c1, c2⟩ := HC.out k p hp
   rw [← hB.cell (p := ⟨b, o + k * 3, none⟩) hb] at c0
   rw [← hB.cell (p := ⟨b, o + k * 3 + 1, none⟩) hb] at c1
   rw [← hB.cell (p := ⟨b, o + k * 3 + 2, none⟩) hb] at c2
   have HA := Lib.hid (ptsOk_at (last := last) hp); clear hp
   obtain ⟨x, lo, hi⟩ := p
   dsimp only at c0 c1 c2
   by_cases hx1 : last < x
   ·by_cases hx2 : x ≤ 1000000
    ·have hin := fun W => within_any lo hi (-1000000000) 1000000000 W
     cases hq : inB lo hi (-1000000000) 1000000000
     ·have hf : r = false := by
       have h1 := HP.out; have h2 := HA.out
       rw [← h1, h2]; simp [ptOk, hq]
      rw [hq] at hin
      have HIN := Lib.hid hin; clear hin hq HP HA HR
      subst hf
      go_wp2_with fail
      refine (bounds_any _ _ _ _).mono ?_
      rintro e w1 ⟨rfl, hb1⟩
      go_wp2_with fail
      refine (around_any 1000000000 _ (by omega) (by omega)).mono ?_
      rintro e w2 ⟨rfl, hb2⟩
      go_wp2_with fail
      refine (HIN.out _).mono ?_
      rintro e w3 ⟨rfl, hb3⟩
      go_wp2
      go_ret
      exact ⟨rfl, hB.trans ((below_a1 (below_then (below_then hb1 hb2) hb3)).mono hB.size)⟩
     ·have hP : ptsOk x (ps.drop (k + 1)) = r := by
       have h1 := HP.out; have h2 := HA.out
       rw [← h1, h2]; simp [ptOk, hq, hx1, hx2]
      rw [hq] at hin
      have HIN := Lib.hid hin; clear hin hq HP HA HR
      have HP := Lib.hid hP; clear hP
      go_wp2_with fail
      refine (bounds_any _ _ _ _).mono ?_
      rintro e w1 ⟨rfl, hb1⟩
      obtain ⟨hc1, hf1⟩ := bcell hb1
      have hz1 : wr.heap.size < w1.heap.size := by have := hb1.size; simp at this; omega
      go_wp2_with fail
      refine (around_any 1000000000 _ (by omega) (by omega)).mono ?_
      rintro e w2 ⟨rfl, hb2⟩
      obtain ⟨hc2, hf2⟩ := bcell hb2
      have hz2 : wr.heap.size < w2.heap.size := by have := hb2.size; omega
      go_wp2_with fail
      refine (HIN.out _).mono ?_
      rintro e w3 ⟨rfl, hb3⟩
      obtain ⟨hc3, hf3⟩ := bcell hb3
      have hB3 := hB.trans ((below_a1 (below_then (below_then hb1 hb2) hb3)).mono hB.size)
      go_wp2
      go_roundw
      case rel => exact ⟨k + 1, x, by omega, by go_num, rfl, hB3, HP⟩
      case measure => simp [intOf]; omega
    ·have hf : r = false := by
      have h1 := HP.out; have h2 := HA.out
      rw [← h1, h2]; simp [ptOk, hx2]
     subst hf
     clear HP HA HR
     go_wp2
     go_ret
     exact ⟨rfl, hB.trans ((below_a1 (Below.refl _ _)).mono hB.size)⟩
   ·have hf : r = false := by
     have h1 := HP.out; have h2 := HA.out
     rw [← h1, h2]; simp [ptOk, hx1]
    subst hf
    clear HP HA HR
    go_wp2
    go_ret
    exact ⟨rfl, hB.trans ((below_a1 (Below.refl _ _)).mono hB.size)⟩
  ·have hf : r = true := by
    have h1 := HP.out
    rw [← h1, List.drop_eq_nil_of_le (by have := HN.out; omega)]; rfl
   subst hf
   clear HP HR
   go_wp2
   go_ret
   exact ⟨rfl, hB⟩
end

section
open Go.RowKit
attribute [local go_sem ↓] eqlRange neqRange
theorem checkTable_any (A : Option Addr) (n c : Nat) (ps : List P3) (w : World) (hn : n = ps.length) (hm : n ≤ maxLen) (hp : Pts w A ps) :
  Calls Tryz.prog 87 #[tv A n c] w fun e w' => e = .returned (.int .i64 (if tabOk ps = true then 0 else 11)) ∧ Below w.heap.size w w' := by
 unfold maxLen at hm
 by_cases h : 1 ≤ n ∧ n ≤ 40
 ·have e : tabOk ps = ptsOk (-1) ps := by unfold tabOk; rw [← hn]; simp [h]
  rw [e]
  rcases hp with hp | ⟨b, o, rfl, hb, hc⟩
  ·exfalso; rw [hp] at hn; simp at hn; omega
  ·exact checkTable_loop b o n c ps w hb hn h.1 h.2 hc
 ·have e : tabOk ps = false := by unfold tabOk; rw [← hn]; simp; omega
  rw [e]
  clear e hn hp
  have h2 : (n : Int) < 1 ∨ (¬ (n : Int) < 1 ∧ (40 : Int) < (n : Int)) := by omega
  clear h
  rcases h2 with h2 | ⟨h2, h3⟩
  all_goals
   go_enter Tryz.func87, Tryz.ntmps87
   go_wp2
   go_ret
   exact ⟨rfl, (Below.refl _ _).alloc (Nat.le_refl _) _⟩

set_option maxRecDepth 100000 in
theorem domain_any (b o m c : Nat) (x xl : Int) (w : World) (hm : (m : Int) ≤ 1000000) (hb : b < w.heap.size) (h0 : w.cell? ⟨b, o, none⟩ = some (.int .i64 x)) (hl : w.cell? ⟨b, o + m * 3, none⟩ = some (.int .i64 xl)) :
  Calls Tryz.prog 141 #[tv (some ⟨b, o, none⟩) (m + 1) c] w fun e w' => e = .returned (rv x xl) ∧ Below w.heap.size w w' := by
 have k1 : (0 : Int) ≤ (m : Int) := by omega
 have k2 : (m : Int) < (m : Int) + 1 := by omega
 have k3 : IntKind.i64.wrap ((m : Int) + 1 - 1) = (m : Int) := by rw [IntWalk.i64_in _ ⟨by omega, by omega⟩]; omega
 go_enter Tryz.func141, Tryz.ntmps141
 go_wp2_with fail
 have z0 : ((w.alloc (.cells #[.slice (some ⟨b, o, none⟩) (m + 1) c] 38)).alloc (.cells #[.int .i64 0, .int .i64 0] 35)).cell? ⟨w.heap.size, 0, none⟩ = some (.slice (some ⟨b, o, none⟩) (m + 1) c) := by simp [go_sem]
 have z1 : ((w.alloc (.cells #[.slice (some ⟨b, o, none⟩) (m + 1) c] 38)).alloc (.cells #[.int .i64 0, .int .i64 0] 35)).cell? ⟨b, o, none⟩ = some (.int .i64 x) := by
  rw [World.cell?_alloc_lt _ _ _ (by simp; omega), World.cell?_alloc_lt _ _ _ hb]; exact h0
 have z2 : ((w.alloc (.cells #[.slice (some ⟨b, o, none⟩) (m + 1) c] 38)).alloc (.cells #[.int .i64 0, .int .i64 0] 35)).cell? ⟨b, o + m * 3, none⟩ = some (.int .i64 xl) := by
  rw [World.cell?_alloc_lt _ _ _ (by simp; omega), World.cell?_alloc_lt _ _ _ hb]; exact hl
 go_region
 go_wp2
 refine bodyPost_ret (v := rv x xl) (by simp [results, Tryz.results141, go_sem]) rfl ⟨rfl, ?_⟩
 exact (((Below.refl _ _).alloc (Nat.le_refl _) _).alloc (by simp) _).drew

theorem mul_between2 (m n A B : Int) (hm : -A ≤ m) (hm' : m ≤ A) (hn : -B ≤ n) (hn' : n ≤ B) : -(A * B) ≤ m * n ∧ m * n ≤ A * B := by
  have h0 := absI_le m A hm hm'
  have h1 := absI_le n B hn hn'
  have hA : 0 ≤ A := Int.le_trans (absI_nn m) h0
  have h2 : absI (m * n) ≤ A * B := by
    rw [absI_mul]
    exact Int.mul_le_mul h0 h1 (absI_nn n) hA
  exact of_absI_le h2

def riseS (x dx dy : Int) : Int := x * dy / max dx 1
theorem rise_any (x dx dy : Int) (w : World) (hx : -1000000 ≤ x) (hx' : x ≤ 1000000) (hd : dx ≤ 1000000) (hy : -2000000000 ≤ dy) (hy' : dy ≤ 2000000000) :
  Calls Tryz.prog 126 #[.int .i64 x, .int .i64 dx, .int .i64 dy] w fun e w' => e = .returned (.int .i64 (riseS x dx dy)) ∧ w = w' := by
 unfold riseS
 obtain ⟨m1, m2⟩ := mul_between2 x dy 1000000 2000000000 hx hx' hy hy'
 have hm : 1 ≤ max dx 1 := by omega
 rcases Int.lt_or_le dx 1 with h | h
 ·have e : max dx 1 = 1 := by omega
  rw [e]
  clear e hm
  go_enter Tryz.func126, Tryz.ntmps126
  go_wp2_with fail
  refine (floor_any _ 1 _ (by omega) (by omega) (by omega)).mono ?_
  rintro e w' ⟨rfl, rfl⟩
  go_wp2
  go_ret
  exact ⟨by simp, rfl⟩
 ·have e : max dx 1 = dx := by omega
  rw [e]
  clear e hm
  go_enter Tryz.func126, Tryz.ntmps126
  go_wp2_with fail
  all_goals
   refine (floor_any _ _ _ (by omega) (by omega) (by omega)).mono ?_
   rintro e w' ⟨rfl, rfl⟩
   go_wp2
   go_ret
   exact ⟨by first | rfl | (congr 3; omega), rfl⟩
theorem riseS_bounds (x dx dy : Int) (hx : -1000000 ≤ x) (hx' : x ≤ 1000000) (hy : -2000000000 ≤ dy) (hy' : dy ≤ 2000000000) : -2000000000000000 ≤ riseS x dx dy ∧ riseS x dx dy ≤ 2000000000000000 := by
  obtain ⟨m1, m2⟩ := mul_between2 x dy 1000000 2000000000 hx hx' hy hy'
  exact ediv_between _ _ 2000000000000000 (by omega) (by omega) (by omega) (by omega)
end

section
open Go.RowKit
attribute [local go_sem ↓] eqlRange neqRange
abbrev pv (p q : P3) : Value := .agg #[.int .i64 p.1, .int .i64 p.2.1, .int .i64 p.2.2, .int .i64 q.1, .int .i64 q.2.1, .int .i64 q.2.2]

set_option maxRecDepth 100000 in
set_option maxHeartbeats 1000000 in
theorem pieceAt_core (x0 l0 h0 x1 l1 h1 x : Int) (w : World) (hx0 : 0 ≤ x0) (hx0' : x0 ≤ 1000000) (hx : 0 ≤ x) (hx1 : x ≤ 1000000) (gx : 0 ≤ x1) (hx1' : x1 ≤ 1000000)
  (a1 : -1000000000 ≤ l0) (a2 : l0 ≤ 1000000000) (b1 : -1000000000 ≤ h0) (b2 : h0 ≤ 1000000000) (c1 : -1000000000 ≤ l1) (c2 : l1 ≤ 1000000000) (d1 : -1000000000 ≤ h1) (d2 : h1 ≤ 1000000000) :
  Calls Tryz.prog 92 #[.agg #[.int .i64 x0, .int .i64 l0, .int .i64 h0, .int .i64 x1, .int .i64 l1, .int .i64 h1], .int .i64 x] w fun e w' =>
   e = .returned (rv (l0 + riseS (x - x0) (x1 - x0) (l1 - l0)) (h0 - riseS (x - x0) (x1 - x0) (h0 - h1))) ∧ Below w.heap.size w w' := by
 have k1 := riseS_bounds (x - x0) (x1 - x0) (l1 - l0) (by omega) (by omega) (by omega) (by omega)
 have k2 := riseS_bounds (x - x0) (x1 - x0) (h0 - h1) (by omega) (by omega) (by omega) (by omega)
 have g1 : -1000000 ≤ x - x0 := by omega
 have g2 : x - x0 ≤ 1000000 := by omega
 have g3 : x1 - x0 ≤ 1000000 := by omega
 have g4 : -2000000000 ≤ l1 - l0 := by omega
 have g5 : l1 - l0 ≤ 2000000000 := by omega
 have g6 : -2000000000 ≤ h0 - h1 := by omega
 have g7 : h0 - h1 ≤ 2000000000 := by omega
 have w1 : IntKind.i64.wrap (l1 - l0) = l1 - l0 := IntWalk.i64_in _ ⟨by omega, by omega⟩
 have w2 : IntKind.i64.wrap (h0 - h1) = h0 - h1 := IntWalk.i64_in _ ⟨by omega, by omega⟩
 have w3 : IntKind.i64.wrap (l0 + riseS (x - x0) (x1 - x0) (l1 - l0)) = l0 + riseS (x - x0) (x1 - x0) (l1 - l0) := IntWalk.i64_in _ ⟨by omega, by omega⟩
 have w4 : IntKind.i64.wrap (h0 - riseS (x - x0) (x1 - x0) (h0 - h1)) = h0 - riseS (x - x0) (x1 - x0) (h0 - h1) := IntWalk.i64_in _ ⟨by omega, by omega⟩
 clear k1 k2
 go_enter Tryz.func92, Tryz.ntmps92
 go_wp2_with fail
 go_region_held3 (fun w' => w'.cell? ⟨w.heap.size, 0, none⟩ = some (.int .i64 x0) ∧ w'.cell? ⟨w.heap.size, 1, none⟩ = some (.int .i64 l0) ∧ w'.cell? ⟨w.heap.size, 2, none⟩ = some (.int .i64 h0) ∧ w'.cell? ⟨w.heap.size, 3, none⟩ = some (.int .i64 x1) ∧ w'.cell? ⟨w.heap.size, 4, none⟩ = some (.int .i64 l1) ∧ w'.cell? ⟨w.heap.size, 5, none⟩ = some (.int .i64 h1))
  (first | (go_keep; done))
  (first | (go_at_call 126; refine (rise_any _ _ _ _ ?_ ?_ ?_ ?_ ?_).mono ?_; (assumption); (assumption); (assumption); (assumption); (assumption); rintro e w' ⟨rfl, rfl⟩))
 go_wp2
 refine bodyPost_ret (v := rv (l0 + riseS (x - x0) (x1 - x0) (l1 - l0)) (h0 - riseS (x - x0) (x1 - x0) (h0 - h1))) (by simp [results, Tryz.results92, go_sem]) rfl ⟨rfl, ?_⟩
 exact (((Below.refl _ _).alloc (Nat.le_refl _) _).alloc (by simp) _).drew

def firstX (ps : List P3) : Int := (ps.head?.map (·.1)).getD 0
def lastX (ps : List P3) : Int := (ps.getLast?.map (·.1)).getD 0

theorem tabOk_len {ps : List P3} (h : tabOk ps = true) : 1 ≤ ps.length ∧ ps.length ≤ 40 := by
  unfold tabOk at h
  rw [Bool.and_eq_true] at h
  simpa using h.1

theorem domain_tab (A : Option Addr) (n c : Nat) (ps : List P3) (w : World) (hn : n = ps.length) (hp : Pts w A ps) (h : tabOk ps = true) :
    Calls Tryz.prog 141 #[tv A n c] w fun e w' => e = .returned (rv (firstX ps) (lastX ps)) ∧ Below w.heap.size w w' := by
  obtain ⟨h1, h2⟩ := tabOk_len h
  rcases hp with hp | ⟨b, o, rfl, hb, hc⟩
  · exfalso; rw [hp] at h1; simp at h1
  · obtain ⟨m, rfl⟩ : ∃ m, n = m + 1 := ⟨n - 1, by omega⟩
    have e0 : ps[0]? = some (ps[0]'(by omega)) := List.getElem?_eq_getElem (by omega)
    have em : ps[m]? = some (ps[m]'(by omega)) := List.getElem?_eq_getElem (by omega)
    have f0 : firstX ps = (ps[0]'(by omega)).1 := by unfold firstX; rw [List.head?_eq_getElem?, e0]; rfl
    have fm : lastX ps = (ps[m]'(by omega)).1 := by
      unfold lastX
      rw [List.getLast?_eq_getElem?, show ps.length - 1 = m by omega, em]; rfl
    rw [f0, fm]
    have g0 := (hc 0 _ e0).1
    have gm := (hc m _ em).1
    rw [Nat.zero_mul, Nat.add_zero] at g0
    exact domain_any b o m c _ _ w (by omega) hb g0 gm

def placesS (ps : List P3) (a b : Int) : Int := if tabOk ps = true then (if inB a b (firstX ps) (lastX ps) = true then 0 else 4) else 11

theorem checkTable_to (A : Option Addr) (n c : Nat) (ps : List P3) (t : Bool) (x : Int) (w : World) (hn : n = ps.length) (hm : n ≤ maxLen) (hp : Pts w A ps) (h : tabOk ps = t) (hx : (if t = true then 0 else 11) = x) :
    Calls Tryz.prog 87 #[tv A n c] w fun e w' => e = .returned (.int .i64 x) ∧ Below w.heap.size w w' := by
  subst h; subst hx; exact checkTable_any A n c ps w hn hm hp
theorem within_to (a b c d : Int) (t : Bool) (w : World) (h : inB a b c d = t) :
    Calls Tryz.prog 119 #[rv a b, rv c d] w fun e w' => e = .returned (.bool t) ∧ Below w.heap.size w w' := by
  subst h; exact within_any a b c d w

theorem checkPlaces_any (A : Option Addr) (n c : Nat) (ps : List P3) (a b : Int) (w : World) (hn : n = ps.length) (hm : n ≤ maxLen) (hp : Pts w A ps) :
  Calls Tryz.prog 110 #[tv A n c, .int .i64 a, .int .i64 b] w fun e w' => e = .returned (.int .i64 (placesS ps a b)) ∧ Below w.heap.size w w' := by
 have HN := Lib.hid hn; clear hn
 have hp1 : Pts (w.alloc (.cells #[.slice A n c] 38)) A ps := hp.below ((Below.refl _ _).alloc (Nat.le_refl _) _)
 have HP := Lib.hid hp1; clear hp1 hp
 unfold placesS
 cases ht : tabOk ps
 ·have HT := Lib.hid ht; clear ht
  go_enter Tryz.func110, Tryz.ntmps110
  go_wp2_with fail
  refine (checkTable_to A n c ps _ _ _ HN.out hm HP.out HT.out rfl).mono ?_
  rintro e w1 ⟨rfl, hb⟩
  go_wp2
  go_ret
  exact ⟨rfl, below_a1 hb⟩
 ·cases hi : inB a b (firstX ps) (lastX ps)
  all_goals
   have HT := Lib.hid ht; clear ht
   have HI := Lib.hid hi; clear hi
   go_enter Tryz.func110, Tryz.ntmps110
   go_wp2_with fail
   refine (checkTable_to A n c ps _ _ _ HN.out hm HP.out HT.out rfl).mono ?_
   rintro e w1 ⟨rfl, hb⟩
   obtain ⟨hc, hf⟩ := bcell hb
   go_wp2_with fail
   refine (domain_tab A n c ps _ HN.out (HP.out.below hb) HT.out).mono ?_
   rintro e w2 ⟨rfl, hb2⟩
   go_wp2_with fail
   refine (within_to _ _ _ _ _ _ HI.out).mono ?_
   rintro e w3 ⟨rfl, hb3⟩
   go_wp2
   go_ret
   exact ⟨rfl, below_then (below_then (below_a1 hb) hb2) hb3⟩
end

end Go.Proofs.YtpcmcicnciejpaaGreat
