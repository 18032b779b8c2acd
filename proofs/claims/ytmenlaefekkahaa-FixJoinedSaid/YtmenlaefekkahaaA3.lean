/- The contracts of the functions that check and compare ranges (fix and its specification). No conditions but that the numbers are those of ints. -/
import Derived.Test.YtmenlaefekkahaaA2
import Derived.Deep.RegionHeld3
import Derived.RowKit3
import Derived.Deep.DeepFit
import Derived.Deep.DeepMust
import Derived.Outline
import Derived.Laws.StructEq
import Derived.Laws.Small
import Derived.Laws.Tables
import Derived.KernelRfl
set_option linter.unusedVariables false
set_option linter.unusedSimpArgs false
set_option linter.constructorNameAsVariable false
namespace Go.Proofs.Ytmenlaefekkahaa
open Go.RowKit

theorem bcell {W w1 : World} (hb : Below W.heap.size W w1) : (∀ b o, b < W.heap.size → w1.cell? ⟨b, o, none⟩ = W.cell? ⟨b, o, none⟩) ∧ (∀ b o, b < W.heap.size → w1.frozen? ⟨b, o, none⟩ = W.frozen? ⟨b, o, none⟩) :=
  ⟨fun b o h => hb.cell (p := ⟨b, o, none⟩) h, fun b o h => hb.frozen (p := ⟨b, o, none⟩) h⟩

/-- a range as a value -/
abbrev rv (lo hi : Int) : Value := .agg #[.int .i64 lo, .int .i64 hi]

theorem eqRange (a b c d : Int) (w : World) : (Op.equalIn 10000 23 (.agg #[.int .i64 a, .int .i64 b]) (.agg #[.int .i64 c, .int .i64 d])).run Try.prog w = .ok (a == c && b == d) w := by
  have u3 := Try.underlying3
  have hS : Try.prog.underlying 23 = some (.struct (Try.prog.fieldsOf 23)) := by kernel_rfl
  have hp : Try.prog.stoodInHeld 23 = false := by kernel_rfl
  rw [show (10000 : Nat) = 9999 + 1 from rfl, run_equalIn_agg w 9999 23 _ _ hS hp]
  simp only [Program.fieldsOf, Try.underlying23]
  go_simp
  by_cases h1 : a = c <;> by_cases h2 : b = d <;> simp [h1, h2]

@[go_sem] theorem eqGuardRange (op : BinOp) (x y : Operand) (xs ys : Array Value) (w : World) : (eqGuard op 23 x y (.agg xs) (.agg ys)).run Try.prog w = .ok () w :=
  run_eqGuard_agg w op 23 x y xs ys (by kernel_rfl)

theorem eqlRange (a b c d : Int) (w : World) : (binOp .eql 23 (.agg #[.int .i64 a, .int .i64 b]) (.agg #[.int .i64 c, .int .i64 d])).run Try.prog w = .ok (.bool (a == c && b == d)) w := by
  rw [run_eql_struct, eqRange]; rfl
theorem neqRange (a b c d : Int) (w : World) : (binOp .neq 23 (.agg #[.int .i64 a, .int .i64 b]) (.agg #[.int .i64 c, .int .i64 d])).run Try.prog w = .ok (.bool (!(a == c && b == d))) w := by
  rw [run_neq_struct, eqRange]; rfl
attribute [local go_sem ↓] eqlRange neqRange

theorem below_a1 {w w1 : World} {o : Obj} (hb : Below (w.alloc o).heap.size (w.alloc o) w1) : Below w.heap.size w w1 :=
  ((Below.refl _ _).alloc (Nat.le_refl _) _).trans (hb.mono (by simp))
theorem below_a2 {w w1 : World} {o o' : Obj} (hb : Below ((w.alloc o).alloc o').heap.size ((w.alloc o).alloc o') w1) : Below w.heap.size w w1 := below_a1 (below_a1 hb)
theorem below_a3 {w w1 : World} {o o' o'' : Obj} (hb : Below (((w.alloc o).alloc o').alloc o'').heap.size (((w.alloc o).alloc o').alloc o'') w1) : Below w.heap.size w w1 := below_a1 (below_a2 hb)
theorem below_d {w w1 : World} (hb : Below w.drew.heap.size w.drew w1) : Below w.heap.size w w1 := (Below.refl _ _).drew.trans hb
theorem below_then {w w1 w2 : World} (h : Below w.heap.size w w1) (hb : Below w1.heap.size w1 w2) : Below w.heap.size w w2 := h.trans (hb.mono h.size)

theorem around_any (n : Int) (w : World) (h1 : -9223372036854775807 ≤ n) (h2 : n ≤ 9223372036854775807) :
    Calls Try.prog 82 #[.int .i64 n] w fun e w' => e = .returned (rv (-n) n) ∧ Below w.heap.size w w' := by
  go_enter Try.func82, Try.ntmps82
  go_wp2
  exact bodyPost_ret (v := rv (-n) n) (by simp [results, Try.results82, go_sem]) rfl ⟨rfl, ((Below.refl _ _).alloc (Nat.le_refl _) _)⟩

theorem common_any (a b c d : Int) (w : World) :
    Calls Try.prog 86 #[rv a b, rv c d] w fun e w' => e = .returned (rv (max a c) (min b d)) ∧ Below w.heap.size w w' := by
  go_enter Try.func86, Try.ntmps86
  go_wp2
  all_goals
    refine bodyPost_ret (v := rv (max a c) (min b d)) ?_ rfl ⟨rfl, ?_⟩
    · simp [results, Try.results86, go_sem]
      omega
    · exact (((Below.refl _ _).alloc (Nat.le_refl _) _).alloc (by simp) _).alloc (by simp; omega) _

/-- Is a range within another one? -/
def inB (a b c d : Int) : Bool := decide (a ≤ b ∧ c ≤ a ∧ b ≤ d)
theorem inB_yes {a b c d : Int} (h : a ≤ b) (h1 : c ≤ a) (h2 : b ≤ d) : inB a b c d = true := by simp [inB, h, h1, h2]
theorem inB_no {a b c d : Int} (h : ¬ (a ≤ b ∧ c ≤ a ∧ b ≤ d)) : inB a b c d = false := by simpa [inB] using h

/-- What two boxes hold stays behind a call that makes blocks alone. -/
theorem keep_two {w w1 : World} {a b c d : Value} {t t' : TypeId} (hb : Below ((w.alloc (.cells #[a, b] t)).alloc (.cells #[c, d] t')).drew.heap.size ((w.alloc (.cells #[a, b] t)).alloc (.cells #[c, d] t')).drew w1) :
    w1.cell? ⟨w.heap.size, 0, none⟩ = some a ∧ w1.cell? ⟨w.heap.size, 1, none⟩ = some b ∧ w1.cell? ⟨w.heap.size + 1, 0, none⟩ = some c ∧ w1.cell? ⟨w.heap.size + 1, 1, none⟩ = some d := by
  have h := (bcell hb).1
  refine ⟨?_, ?_, ?_, ?_⟩
  · rw [h _ _ (by simp; omega)]; simp
  · rw [h _ _ (by simp; omega)]; simp
  · rw [h _ _ (by simp)]; simp
  · rw [h _ _ (by simp)]; simp

theorem common_to (a b c d x y : Int) (w : World) (hx : max a c = x) (hy : min b d = y) :
    Calls Try.prog 86 #[rv a b, rv c d] w fun e w' => e = .returned (rv x y) ∧ Below w.heap.size w w' := by
  subst hx; subst hy; exact common_any a b c d w

theorem within_some (a b c d x y : Int) (t1 t2 : Bool) (w : World) (h : a ≤ b) (hx : max a c = x) (hy : min b d = y) (ht1 : (x == a) = t1) (ht2 : (y == b) = t2) :
    Calls Try.prog 87 #[rv a b, rv c d] w fun e w' => e = .returned (.bool (t1 && t2)) ∧ Below w.heap.size w w' := by
  have C := fun W => common_to a b c d x y W hx hy
  clear hx hy
  have HC := Lib.hid C; clear C
  go_enter Try.func87, Try.ntmps87
  go_wp2_with fail
  go_region_held3 (fun w' => w'.cell? ⟨w.heap.size, 0, none⟩ = some (.int .i64 a) ∧ w'.cell? ⟨w.heap.size, 1, none⟩ = some (.int .i64 b) ∧ w'.cell? ⟨w.heap.size + 1, 0, none⟩ = some (.int .i64 c) ∧ w'.cell? ⟨w.heap.size + 1, 1, none⟩ = some (.int .i64 d))
    (first | (go_keep; done) | exact keep_two hb1)
    (first | (go_at_call 86; refine (HC.out _).mono ?_; rintro e w1 ⟨rfl, hb1⟩))
  go_wp2
  go_ret
  exact ⟨rfl, below_a2 (below_d hb1)⟩

theorem within_any (a b c d : Int) (w : World) :
    Calls Try.prog 87 #[rv a b, rv c d] w fun e w' => e = .returned (.bool (inB a b c d)) ∧ Below w.heap.size w w' := by
  by_cases h : a ≤ b
  · rcases Int.lt_or_le a c with h1 | h1 <;> rcases Int.lt_or_le d b with h2 | h2
    · refine (within_some a b c d c d false false w h (by omega) (by omega) (beq_eq_false_iff_ne.2 (by omega)) (beq_eq_false_iff_ne.2 (by omega))).mono ?_
      rintro e w' ⟨rfl, hb⟩
      exact ⟨by rw [inB_no (by omega)]; rfl, hb⟩
    · refine (within_some a b c d c b false true w h (by omega) (by omega) (beq_eq_false_iff_ne.2 (by omega)) (by simp)).mono ?_
      rintro e w' ⟨rfl, hb⟩
      exact ⟨by rw [inB_no (by omega)]; rfl, hb⟩
    · refine (within_some a b c d a d true false w h (by omega) (by omega) (by simp) (beq_eq_false_iff_ne.2 (by omega))).mono ?_
      rintro e w' ⟨rfl, hb⟩
      exact ⟨by rw [inB_no (by omega)]; rfl, hb⟩
    · refine (within_some a b c d a b true true w h (by omega) (by omega) (by simp) (by simp)).mono ?_
      rintro e w' ⟨rfl, hb⟩
      exact ⟨by rw [inB_yes h h1 h2]; rfl, hb⟩
  · have hf : inB a b c d = false := inB_no (by omega)
    have hd : decide (a ≤ b) = false := by simpa using h
    rw [hf]
    clear hf
    go_enter Try.func87, Try.ntmps87
    go_wp2_with fail
    go_quiet (fail)
    go_wp2
    go_ret
    exact ⟨rfl, below_drewN (((Below.refl _ _).alloc (Nat.le_refl _) _).alloc (by simp) _) _⟩

/-- Is a range valid? -/
def vR (a b : Int) : Bool := inB a b (-1000000000000000) 1000000000000000
/-- the error of a range -/
def errR (a b : Int) : Int := if vR a b = true then 0 else 10
theorem vR_iff (a b : Int) : vR a b = true ↔ (a ≤ b ∧ -1000000000000000 ≤ a ∧ b ≤ 1000000000000000) := by simp [vR, inB]
theorem vR_no (a b : Int) (h : ¬ (a ≤ b ∧ -1000000000000000 ≤ a ∧ b ≤ 1000000000000000)) : vR a b = false := by simpa [vR, inB] using h

/-- What a box holds stays behind a call that makes blocks alone. -/
theorem keep_one {w w0 w1 : World} {a b : Value} (h0 : w0.cell? ⟨w.heap.size, 0, none⟩ = some a ∧ w0.cell? ⟨w.heap.size, 1, none⟩ = some b) (hl : w.heap.size < w0.heap.size) (hb : Below w0.heap.size w0 w1) :
    w1.cell? ⟨w.heap.size, 0, none⟩ = some a ∧ w1.cell? ⟨w.heap.size, 1, none⟩ = some b :=
  ⟨((bcell hb).1 _ _ hl).trans h0.1, ((bcell hb).1 _ _ hl).trans h0.2⟩

theorem checkRange_bool (a b : Int) (t : Bool) (x : Int) (w : World) (ht : inB a b (-1000000000000000) 1000000000000000 = t) (hx : (if t = true then 0 else 10) = x) :
    Calls Try.prog 26 #[rv a b] w fun e w' => e = .returned (.int .i64 x) ∧ Below w.heap.size w w' := by
  have C := fun W => within_any a b (-1000000000000000) 1000000000000000 W
  rw [ht] at C
  have HC := Lib.hid C; clear C ht
  go_enter Try.func26, Try.ntmps26
  go_wp2_with fail
  go_region_held3 (fun w' => w'.cell? ⟨w.heap.size, 0, none⟩ = some (.int .i64 a) ∧ w'.cell? ⟨w.heap.size, 1, none⟩ = some (.int .i64 b))
    (first | (go_keep; done) | exact keep_one ‹_› (by simp) hb1 | exact keep_one ‹_› (Nat.lt_of_lt_of_le (by simp) hb1.size) hb2)
    (first | (go_at_call 82; refine (around_any 1000000000000000 _ (by omega) (by omega)).mono ?_; rintro e w1 ⟨rfl, hb1⟩) | (go_at_call 87; refine (HC.out _).mono ?_; rintro e w2 ⟨rfl, hb2⟩))
  have hb := below_a1 (below_d (below_then hb1 hb2))
  cases t
  · go_wp2
    go_ret
    exact ⟨by rw [← hx]; rfl, hb⟩
  · go_wp2
    go_ret
    exact ⟨by rw [← hx]; rfl, hb⟩

theorem checkRange_any (a b : Int) (w : World) :
    Calls Try.prog 26 #[rv a b] w fun e w' => e = .returned (.int .i64 (errR a b)) ∧ Below w.heap.size w w' :=
  checkRange_bool a b _ _ w rfl rfl
end Go.Proofs.Ytmenlaefekkahaa
