/- The contracts of the functions that check and compare ranges (fix and its specification). No conditions but that the numbers are those of ints. -/
import Derived.Test.YtmdilbmgopggaaaGreatRows
import Derived.WalkKit
import Derived.ProofKit
import Derived.OpenShut
import Derived.Lib.SmallJoins
import Derived.WalkSpells
import Derived.WalkLawsBesides
import Derived.Lib.Hide
import Derived.Deep.QuietTactic
import Derived.BigQuiet
import Derived.Deep.RegionHeld3
import Derived.RowKit3
import Derived.Deep.DeepFit
import Derived.Deep.DeepMust
import Derived.Outline
import Derived.Laws.StructEq
import Derived.Laws.Small
import Derived.Laws.Tables
import Derived.KernelRfl
set_option linter.unusedVariables false
set_option linter.unusedSimpArgs false
set_option linter.constructorNameAsVariable false
namespace Go.Proofs.YtmdilbmgopggaaaGreat

section
open Go.ChangeShapes Go.WideShapes Go.ChangeAt Go.RowKit Go.Joins

theorem own : ownKnob Tryz.prog.godebug = none := by kernel_rfl
theorem laidOut : laidOutB Tryz.prog = true := by kernel_rfl

/-- The arguments read behind the call as they did. -/
theorem trodAll_below {H : Type} {enc : TypeId × Value → H} {W W' : World} (hb : Below W.heap.size W W') :
    ∀ (ts : List TypeId) (vs : List Value) (ds : List (DataW H)) (ps : List MemPlace), (∀ t ∈ ts, Tryz.prog.readableRec t = true ∧ t < Tryz.prog.types.size) →
    DataW.TrodAll enc Tryz.prog W 0 (fun _ => true) true ts vs ds ps → (∀ x ∈ ps, x.block < W.heap.size) → DataW.TrodAll enc Tryz.prog W' 0 (fun b => decide (b < W.heap.size)) true ts vs ds ps
  | [], [], [], ps, _, h, _ => h
  | t :: ts, v :: vs, d :: ds, ps, ht, h, hlt => by
    obtain ⟨p, q, h0, h1, rfl⟩ := h
    exact ⟨p, q, Below.trod laidOut (ht t (by simp)).1 (ht t (by simp)).2 h0 hb (fun x hx => hlt x (by simp [hx])),
      trodAll_below hb ts vs ds q (fun t' h' => ht t' (by simp [h'])) h1 (fun x hx => hlt x (by simp [hx])), rfl⟩
  | [], [], _ :: _, _, _, h, _ => by cases h
  | [], _ :: _, _, _, _, h, _ => by cases h
  | _ :: _, [], _, _, _, h, _ => by cases h
  | _ :: _, _ :: _, [], _, _, h, _ => by cases h

/-- The post of a law: it gives true, and its arguments read as they did. -/
theorem law_post {H : Type} {enc : TypeId × Value → H} {f : Func} {s : ChangeSpec} {W W' : World} {args : Array Value} {ds gs : List (DataW H)} {before : List MemPlace}
    (hv : s.vars = []) (hrt : f.resultTypes = #[4]) (hts : ∀ t ∈ f.params.toList, Tryz.prog.readableRec t = true ∧ t < Tryz.prog.types.size)
    (hW : DataW.Whole enc Tryz.prog f.params.toList s.vars false W args.toList ds gs before)
    (hres : (s.fn H (ds ++ gs)).results = [.lit (.bool true)]) (hargs : (s.fn H (ds ++ gs)).args = ds) (hvars : (s.fn H (ds ++ gs)).vars = []) (hb : Below W.heap.size W W') :
    s.post enc Tryz.prog f false true false false W args (.bool true) W' := by
  have hW' := hW
  obtain ⟨p, q, hA, hV, rfl, hfz, hnd⟩ := hW
  rw [hv] at hV
  obtain ⟨rfl, rfl⟩ := trodVars_none hV
  have hA' := trodAll_below hb _ _ _ _ hts hA (fun x hx => by simpa using hW'.lt x (by simp [hx]))
  refine ⟨_, _, _, [], p, [], hW', ?_, ?_, ?_, hb.frame _, fun h => by cases h⟩
  · rw [hres, hrt]
    exact trodAll_mk1 (shut_bool Tryz.underlying4 true)
  · rw [hargs]
    exact hA'
  · rw [hvars, hv]
    rfl
end

section
open Go.RowKit

theorem ret_int {k : IntKind} {a b : Int} (h : a = b) : Ending.returned (.int k a) = .returned (.int k b) := by rw [h]

theorem tdiv_floor (n d : Int) (hd : 0 < d) : (n.tmod d < 0 → n.tdiv d - 1 = n / d) ∧ (0 ≤ n.tmod d → n.tdiv d = n / d) := by
  have h1 := Int.mul_tdiv_add_tmod n d
  have h5 := Int.tmod_lt_of_pos n hd
  have h6 : -d < n.tmod d := Int.lt_tmod_of_pos n hd
  refine ⟨fun h => ?_, fun h => ?_⟩
  · refine ((Int.ediv_emod_unique (r := n.tmod d + d) hd).2 ⟨?_, by omega, by omega⟩).1.symm
    rw [Int.mul_sub]; omega
  · exact ((Int.ediv_emod_unique (r := n.tmod d) hd).2 ⟨by omega, h, h5⟩).1.symm

theorem ediv_between (n d b : Int) (hd : 1 ≤ d) (hb : 0 ≤ b) (h1 : -b ≤ n) (h2 : n ≤ b) : -b ≤ n / d ∧ n / d ≤ b := by
  refine ⟨Int.le_ediv_of_mul_le (by omega) ?_, Int.ediv_le_of_le_mul (by omega) ?_⟩
  · have := Int.mul_le_mul_of_nonneg_left hd hb
    rw [Int.neg_mul]; omega
  · have := Int.mul_le_mul_of_nonneg_left hd hb
    omega

/-- fix.floor -/
theorem floor_any (n d : Int) (w : World) (hd : 1 ≤ d) (hn : -4000000000000000000 ≤ n) (hn' : n ≤ 4000000000000000000) :
    Calls Tryz.prog 225 #[.int .i64 n, .int .i64 d] w fun e w' => e = .returned (.int .i64 (n / d)) ∧ w = w' := by
  have hf := tdiv_floor n d (by omega)
  have hb := ediv_between n d 4000000000000000000 hd (by omega) hn hn'
  have H := Lib.hid (And.intro hf hb)
  clear hf hb
  go_enter Tryz.func225, Tryz.ntmps225
  go_wp2
  · have h : n.tmod d < 0 := by assumption
    go_ret
    obtain ⟨⟨h1, _⟩, h3, h4⟩ := H.out
    have h5 := h1 h
    exact ⟨ret_int (by rw [h5]; exact IntWalk.wrap64_in _ ⟨by omega, by omega⟩), rfl⟩
  · have h : 0 ≤ n.tmod d := by assumption
    go_ret
    obtain ⟨⟨_, h2⟩, _⟩ := H.out
    exact ⟨ret_int (h2 h), rfl⟩

/-- ullageref01.Floor -/
theorem rFloor_any (n d : Int) (w : World) (hd : 1 ≤ d) (hn : -4000000000000000000 ≤ n) (hn' : n ≤ 4000000000000000000) :
    Calls Tryz.prog 236 #[.int .i64 n, .int .i64 d] w fun e w' => e = .returned (.int .i64 (n / d)) ∧ w = w' := by
  have hf := tdiv_floor n d (by omega)
  have hb := ediv_between n d 4000000000000000000 hd (by omega) hn hn'
  have H := Lib.hid (And.intro hf hb)
  clear hf hb
  go_enter Tryz.func236, Tryz.ntmps236
  go_wp2
  · have h : n.tmod d < 0 := by assumption
    go_ret
    obtain ⟨⟨h1, _⟩, h3, h4⟩ := H.out
    have h5 := h1 h
    exact ⟨ret_int (by rw [h5]; exact IntWalk.wrap64_in _ ⟨by omega, by omega⟩), rfl⟩
  · have h : 0 ≤ n.tmod d := by assumption
    go_ret
    obtain ⟨⟨_, h2⟩, _⟩ := H.out
    exact ⟨ret_int (h2 h), rfl⟩

/-- fix.size: n without its sign -/
def absI (n : Int) : Int := if 0 ≤ n then n else -n
theorem size_any (n : Int) (w : World) (hn : -9223372036854775807 ≤ n) (hn' : n ≤ 9223372036854775807) :
    Calls Tryz.prog 224 #[.int .i64 n] w fun e w' => e = .returned (.int .i64 (absI n)) ∧ w = w' := by
  go_enter Tryz.func224, Tryz.ntmps224
  go_wp2
  all_goals (go_ret; refine ⟨ret_int ?_, rfl⟩; unfold absI; split <;> omega)

theorem absI_nn (n : Int) : 0 ≤ absI n := by unfold absI; split <;> omega
theorem absI_pos (n : Int) (h : n ≠ 0) : 1 ≤ absI n := by unfold absI; split <;> omega
theorem absI_le (n b : Int) (h1 : -b ≤ n) (h2 : n ≤ b) : absI n ≤ b := by unfold absI; split <;> omega
theorem absI_mul (a b : Int) : absI (a * b) = absI a * absI b := by
  unfold absI
  by_cases ha : 0 ≤ a <;> by_cases hb : 0 ≤ b
  · have := Int.mul_nonneg ha hb; simp [ha, hb, this]
  · simp only [ha, hb, if_true, if_false]
    by_cases h0 : a = 0
    · simp [h0]
    · have : a * b < 0 := Int.mul_neg_of_pos_of_neg (by omega) (by omega)
      rw [if_neg (by omega), Int.mul_neg]
  · simp only [ha, hb, if_true, if_false]
    by_cases h0 : b = 0
    · simp [h0]
    · have : a * b < 0 := Int.mul_neg_of_neg_of_pos (by omega) (by omega)
      rw [if_neg (by omega), Int.neg_mul]
  · have := Int.mul_pos_of_neg_of_neg (a := a) (b := b) (by omega) (by omega)
    simp only [ha, hb, if_false]
    rw [if_pos (by omega), Int.neg_mul_neg]
theorem of_absI_le {n b : Int} (h : absI n ≤ b) : -b ≤ n ∧ n ≤ b := by unfold absI at h; split at h <;> omega

/-- a product that fix.product tells -/
def prodOk (a b : Int) : Prop := a = 0 ∨ absI b ≤ 2000000000000000 / absI a
theorem prodOk_iff (a b : Int) : prodOk a b ↔ absI (a * b) ≤ 2000000000000000 := by
  unfold prodOk
  by_cases h : a = 0
  · simp [h, absI]
  · have h1 := absI_pos a h
    simp only [h, false_or]
    rw [absI_mul, Int.le_ediv_iff_mul_le (by omega), Int.mul_comm]

theorem product_yes (a b : Int) (w : World) (ha : -4000000000000000000 ≤ a) (ha' : a ≤ 4000000000000000000) (hb : -4000000000000000000 ≤ b) (hb' : b ≤ 4000000000000000000) (h : prodOk a b) :
    Calls Tryz.prog 188 #[.int .i64 a, .int .i64 b] w fun e w' => e = .returned (.tuple #[.int .i64 (a * b), .bool true]) ∧ w = w' := by
  have hp := of_absI_le ((prodOk_iff a b).1 h)
  obtain ⟨hp1, hp2⟩ := hp
  by_cases h0 : a = 0
  · subst h0
    go_enter Tryz.func188, Tryz.ntmps188
    go_wp2
    go_ret2
    exact ⟨by simp, rfl⟩
  · have hn : (a == 0) = false := by simpa using h0
    have h1 := absI_pos a h0
    have h2 := absI_nn b
    have h3 : absI b ≤ 2000000000000000 / absI a := h.resolve_left h0
    go_enter Tryz.func188, Tryz.ntmps188
    go_wp2_with (go_at_call 224; refine (size_any _ _ (by omega) (by omega)).mono ?_; rintro e w' ⟨rfl, rfl⟩)
    go_ret2
    exact ⟨rfl, rfl⟩

theorem product_no (a b : Int) (w : World) (ha : -4000000000000000000 ≤ a) (ha' : a ≤ 4000000000000000000) (hb : -4000000000000000000 ≤ b) (hb' : b ≤ 4000000000000000000) (h : ¬ prodOk a b) :
    Calls Tryz.prog 188 #[.int .i64 a, .int .i64 b] w fun e w' => e = .returned (.tuple #[.int .i64 0, .bool false]) ∧ w = w' := by
  have h0 : ¬ a = 0 := fun e => h (.inl e)
  have hn : (a == 0) = false := by simpa using h0
  have h1 := absI_pos a h0
  have h2 := absI_nn b
  have h3 : 2000000000000000 / absI a < absI b := by
    rcases Int.lt_or_le (2000000000000000 / absI a) (absI b) with h' | h'
    · exact h'
    · exact absurd (.inr h') h
  go_enter Tryz.func188, Tryz.ntmps188
  go_wp2_with (go_at_call 224; refine (size_any _ _ (by omega) (by omega)).mono ?_; rintro e w' ⟨rfl, rfl⟩)
  go_ret2
  exact ⟨rfl, rfl⟩
end

section
open Go.RowKit

/-- The floor of x n / d, by q = floor of x / d. -/
theorem floor_split (x n d : Int) (hd : 1 ≤ d) : x / d * n + (x - x / d * d) * n / d = x * n / d := by
  have h : x * n = (x - x / d * d) * n + d * (x / d * n) := by
    rw [Int.sub_mul, Int.mul_comm d (x / d * n), Int.mul_assoc (x / d) n d, Int.mul_comm n d, ← Int.mul_assoc]; omega
  rw [h, Int.add_mul_ediv_left _ _ (by omega : d ≠ 0)]; omega
theorem rest_bounds (x d : Int) (hd : 1 ≤ d) : 0 ≤ x - x / d * d ∧ x - x / d * d ≤ d - 1 := by
  have h1 := Int.mul_ediv_add_emod x d
  have h2 := Int.emod_nonneg x (by omega : d ≠ 0)
  have h3 := Int.emod_lt_of_pos x (by omega : 0 < d)
  rw [Int.mul_comm] at h1
  omega
theorem part_bounds (m n d : Int) (hd : 1 ≤ d) (hm : 0 ≤ m) (hm' : m ≤ d - 1) (hn : 0 ≤ n) : 0 ≤ m * n / d ∧ m * n / d ≤ n := by
  refine ⟨Int.ediv_nonneg (Int.mul_nonneg hm hn) (by omega), Int.ediv_le_of_le_mul (by omega) ?_⟩
  have := Int.mul_le_mul_of_nonneg_right (show m ≤ d by omega) hn
  rw [Int.mul_comm n d]; exact this
theorem mul_between (m n A B : Int) (hm : 0 ≤ m) (hm' : m ≤ A) (hn : -B ≤ n) (hn' : n ≤ B) : -(A * B) ≤ m * n ∧ m * n ≤ A * B := by
  have hA : 0 ≤ A := by omega
  have h1 : absI n ≤ B := absI_le n B hn hn'
  have h2 : absI (m * n) ≤ A * B := by
    rw [absI_mul]
    have e : absI m = m := by unfold absI; rw [if_pos hm]
    rw [e]
    exact Int.mul_le_mul hm' h1 (absI_nn n) hA
  exact of_absI_le h2

/-- fix.scaled tells a number -/
theorem scaled_yes (x n d : Int) (w : World) (hx : -1000000000000000 ≤ x) (hx' : x ≤ 1000000000000000) (hn : 0 ≤ n) (hn' : n ≤ 1000000000) (hd : 1 ≤ d) (hd' : d ≤ 1000000000) (h : prodOk (x / d) n) :
    Calls Tryz.prog 191 #[.int .i64 x, .int .i64 n, .int .i64 d] w fun e w' => e = .returned (.tuple #[.int .i64 (x * n / d), .bool true]) ∧ w = w' := by
  have HS := Lib.hid (floor_split x n d hd)
  obtain ⟨r1, r2⟩ := rest_bounds x d hd
  obtain ⟨q1, q2⟩ := ediv_between x d 1000000000000000 hd (by omega) hx hx'
  obtain ⟨p1, p2⟩ := of_absI_le ((prodOk_iff _ _).1 h)
  generalize hq : x / d = q at *
  have HQ := Lib.hid hq; clear hq
  obtain ⟨s1, s2⟩ := mul_between (x - q * d) n 1000000000 1000000000 r1 (by omega) (by omega) hn'
  obtain ⟨t1, t2⟩ := part_bounds (x - q * d) n d hd r1 r2 hn
  have HP := Lib.hid h; clear h
  go_enter Tryz.func191, Tryz.ntmps191
  go_wp2_with fail
  refine (floor_any x d _ hd (by omega) (by omega)).mono ?_
  rintro e w' ⟨he, rfl⟩
  rw [HQ.out] at he
  subst he
  go_wp2_with fail
  refine (product_yes q n _ (by omega) (by omega) (by omega) (by omega) HP.out).mono ?_
  rintro e w' ⟨rfl, rfl⟩
  go_wp2_with fail
  refine (floor_any _ d _ hd (by omega) (by omega)).mono ?_
  rintro e w' ⟨rfl, rfl⟩
  go_wp2
  go_ret2
  exact ⟨by show Ending.returned (.tuple #[.int .i64 (q * n + (x - q * d) * n / d), .bool true]) = _; rw [HS.out], rfl⟩

/-- fix.scaled tells none -/
theorem scaled_no (x n d : Int) (w : World) (hx : -1000000000000000 ≤ x) (hx' : x ≤ 1000000000000000) (hn : 0 ≤ n) (hn' : n ≤ 1000000000) (hd : 1 ≤ d) (hd' : d ≤ 1000000000) (h : ¬ prodOk (x / d) n) :
    Calls Tryz.prog 191 #[.int .i64 x, .int .i64 n, .int .i64 d] w fun e w' => e = .returned (.tuple #[.int .i64 0, .bool false]) ∧ w = w' := by
  obtain ⟨q1, q2⟩ := ediv_between x d 1000000000000000 hd (by omega) hx hx'
  generalize hq : x / d = q at *
  have HQ := Lib.hid hq; clear hq
  have HP := Lib.hid h; clear h
  go_enter Tryz.func191, Tryz.ntmps191
  go_wp2_with fail
  refine (floor_any x d _ hd (by omega) (by omega)).mono ?_
  rintro e w' ⟨he, rfl⟩
  rw [HQ.out] at he
  subst he
  go_wp2_with fail
  refine (product_no q n _ (by omega) (by omega) (by omega) (by omega) HP.out).mono ?_
  rintro e w' ⟨rfl, rfl⟩
  go_wp2
  go_ret2
  exact ⟨rfl, rfl⟩
theorem far_of_no (x n d : Int) (hn : 0 ≤ n) (hn' : n ≤ 1000000000) (hd : 1 ≤ d) (h : ¬ prodOk (x / d) n) : ¬ absI (x * n / d) ≤ 1000000000000000 := by
  intro hc
  obtain ⟨c1, c2⟩ := of_absI_le hc
  obtain ⟨r1, r2⟩ := rest_bounds x d hd
  obtain ⟨t1, t2⟩ := part_bounds (x - x / d * d) n d hd r1 r2 hn
  have hs := floor_split x n d hd
  refine h ((prodOk_iff _ _).2 (absI_le _ _ ?_ ?_)) <;> omega
end

section
open Go.RowKit

theorem bcell {W w1 : World} (hb : Below W.heap.size W w1) : (∀ b o, b < W.heap.size → w1.cell? ⟨b, o, none⟩ = W.cell? ⟨b, o, none⟩) ∧ (∀ b o, b < W.heap.size → w1.frozen? ⟨b, o, none⟩ = W.frozen? ⟨b, o, none⟩) :=
  ⟨fun b o h => hb.cell (p := ⟨b, o, none⟩) h, fun b o h => hb.frozen (p := ⟨b, o, none⟩) h⟩

/-- a range as a value -/
abbrev rv (lo hi : Int) : Value := .agg #[.int .i64 lo, .int .i64 hi]

theorem eqRange (a b c d : Int) (w : World) : (Op.equalIn 10000 23 (.agg #[.int .i64 a, .int .i64 b]) (.agg #[.int .i64 c, .int .i64 d])).run Tryz.prog w = .ok (a == c && b == d) w := by
  have u3 := Tryz.underlying3
  have hS : Tryz.prog.underlying 23 = some (.struct (Tryz.prog.fieldsOf 23)) := by kernel_rfl
  have hp : Tryz.prog.stoodInHeld 23 = false := by kernel_rfl
  rw [show (10000 : Nat) = 9999 + 1 from rfl, run_equalIn_agg w 9999 23 _ _ hS hp]
  simp only [Program.fieldsOf, Tryz.underlying23]
  go_simp
  by_cases h1 : a = c <;> by_cases h2 : b = d <;> simp [h1, h2]

@[go_sem] theorem eqGuardRange (op : BinOp) (x y : Operand) (xs ys : Array Value) (w : World) : (eqGuard op 23 x y (.agg xs) (.agg ys)).run Tryz.prog w = .ok () w :=
  run_eqGuard_agg w op 23 x y xs ys (by kernel_rfl)

theorem eqlRange (a b c d : Int) (w : World) : (binOp .eql 23 (.agg #[.int .i64 a, .int .i64 b]) (.agg #[.int .i64 c, .int .i64 d])).run Tryz.prog w = .ok (.bool (a == c && b == d)) w := by
  rw [run_eql_struct, eqRange]; rfl
theorem neqRange (a b c d : Int) (w : World) : (binOp .neq 23 (.agg #[.int .i64 a, .int .i64 b]) (.agg #[.int .i64 c, .int .i64 d])).run Tryz.prog w = .ok (.bool (!(a == c && b == d))) w := by
  rw [run_neq_struct, eqRange]; rfl
attribute [local go_sem ↓] eqlRange neqRange
theorem below_a1 {w w1 : World} {o : Obj} (hb : Below (w.alloc o).heap.size (w.alloc o) w1) : Below w.heap.size w w1 :=
  ((Below.refl _ _).alloc (Nat.le_refl _) _).trans (hb.mono (by simp))
theorem below_a2 {w w1 : World} {o o' : Obj} (hb : Below ((w.alloc o).alloc o').heap.size ((w.alloc o).alloc o') w1) : Below w.heap.size w w1 := below_a1 (below_a1 hb)
theorem below_a3 {w w1 : World} {o o' o'' : Obj} (hb : Below (((w.alloc o).alloc o').alloc o'').heap.size (((w.alloc o).alloc o').alloc o'') w1) : Below w.heap.size w w1 := below_a1 (below_a2 hb)
theorem below_d {w w1 : World} (hb : Below w.drew.heap.size w.drew w1) : Below w.heap.size w w1 := (Below.refl _ _).drew.trans hb
theorem below_then {w w1 w2 : World} (h : Below w.heap.size w w1) (hb : Below w1.heap.size w1 w2) : Below w.heap.size w w2 := h.trans (hb.mono h.size)

theorem around_any (n : Int) (w : World) (h1 : -9223372036854775807 ≤ n) (h2 : n ≤ 9223372036854775807) :
    Calls Tryz.prog 168 #[.int .i64 n] w fun e w' => e = .returned (rv (-n) n) ∧ Below w.heap.size w w' := by
  go_enter Tryz.func168, Tryz.ntmps168
  go_wp2
  exact bodyPost_ret (v := rv (-n) n) (by simp [results, Tryz.results168, go_sem]) rfl ⟨rfl, ((Below.refl _ _).alloc (Nat.le_refl _) _)⟩

theorem common_any (a b c d : Int) (w : World) :
    Calls Tryz.prog 176 #[rv a b, rv c d] w fun e w' => e = .returned (rv (max a c) (min b d)) ∧ Below w.heap.size w w' := by
  go_enter Tryz.func176, Tryz.ntmps176
  go_wp2
  all_goals
    refine bodyPost_ret (v := rv (max a c) (min b d)) ?_ rfl ⟨rfl, ?_⟩
    · simp [results, Tryz.results176, go_sem]
      omega
    · exact (((Below.refl _ _).alloc (Nat.le_refl _) _).alloc (by simp) _).alloc (by simp; omega) _

/-- Is a range within another one? -/
def inB (a b c d : Int) : Bool := decide (a ≤ b ∧ c ≤ a ∧ b ≤ d)
theorem inB_yes {a b c d : Int} (h : a ≤ b) (h1 : c ≤ a) (h2 : b ≤ d) : inB a b c d = true := by simp [inB, h, h1, h2]
theorem inB_no {a b c d : Int} (h : ¬ (a ≤ b ∧ c ≤ a ∧ b ≤ d)) : inB a b c d = false := by simpa [inB] using h

/-- What two boxes hold stays behind a call that makes blocks alone. -/
theorem keep_two {w w1 : World} {a b c d : Value} {t t' : TypeId} (hb : Below ((w.alloc (.cells #[a, b] t)).alloc (.cells #[c, d] t')).drew.heap.size ((w.alloc (.cells #[a, b] t)).alloc (.cells #[c, d] t')).drew w1) :
    w1.cell? ⟨w.heap.size, 0, none⟩ = some a ∧ w1.cell? ⟨w.heap.size, 1, none⟩ = some b ∧ w1.cell? ⟨w.heap.size + 1, 0, none⟩ = some c ∧ w1.cell? ⟨w.heap.size + 1, 1, none⟩ = some d := by
  have h := (bcell hb).1
  refine ⟨?_, ?_, ?_, ?_⟩
  · rw [h _ _ (by simp; omega)]; simp
  · rw [h _ _ (by simp; omega)]; simp
  · rw [h _ _ (by simp)]; simp
  · rw [h _ _ (by simp)]; simp

theorem common_to (a b c d x y : Int) (w : World) (hx : max a c = x) (hy : min b d = y) :
    Calls Tryz.prog 176 #[rv a b, rv c d] w fun e w' => e = .returned (rv x y) ∧ Below w.heap.size w w' := by
  subst hx; subst hy; exact common_any a b c d w

theorem within_some (a b c d x y : Int) (t1 t2 : Bool) (w : World) (h : a ≤ b) (hx : max a c = x) (hy : min b d = y) (ht1 : (x == a) = t1) (ht2 : (y == b) = t2) :
    Calls Tryz.prog 167 #[rv a b, rv c d] w fun e w' => e = .returned (.bool (t1 && t2)) ∧ Below w.heap.size w w' := by
  have C := fun W => common_to a b c d x y W hx hy
  clear hx hy
  have HC := Lib.hid C; clear C
  go_enter Tryz.func167, Tryz.ntmps167
  go_wp2_with fail
  go_region_held3 (fun w' => w'.cell? ⟨w.heap.size, 0, none⟩ = some (.int .i64 a) ∧ w'.cell? ⟨w.heap.size, 1, none⟩ = some (.int .i64 b) ∧ w'.cell? ⟨w.heap.size + 1, 0, none⟩ = some (.int .i64 c) ∧ w'.cell? ⟨w.heap.size + 1, 1, none⟩ = some (.int .i64 d))
    (first | (go_keep; done) | exact keep_two hb1)
    (first | (go_at_call 176; refine (HC.out _).mono ?_; rintro e w1 ⟨rfl, hb1⟩))
  go_wp2
  go_ret
  exact ⟨rfl, below_a2 (below_d hb1)⟩

theorem within_any (a b c d : Int) (w : World) :
    Calls Tryz.prog 167 #[rv a b, rv c d] w fun e w' => e = .returned (.bool (inB a b c d)) ∧ Below w.heap.size w w' := by
  by_cases h : a ≤ b
  · rcases Int.lt_or_le a c with h1 | h1 <;> rcases Int.lt_or_le d b with h2 | h2
    · refine (within_some a b c d c d false false w h (by omega) (by omega) (beq_eq_false_iff_ne.2 (by omega)) (beq_eq_false_iff_ne.2 (by omega))).mono ?_
      rintro e w' ⟨rfl, hb⟩
      exact ⟨by rw [inB_no (by omega)]; rfl, hb⟩
    · refine (within_some a b c d c b false true w h (by omega) (by omega) (beq_eq_false_iff_ne.2 (by omega)) (by simp)).mono ?_
      rintro e w' ⟨rfl, hb⟩
      exact ⟨by rw [inB_no (by omega)]; rfl, hb⟩
    · refine (within_some a b c d a d true false w h (by omega) (by omega) (by simp) (beq_eq_false_iff_ne.2 (by omega))).mono ?_
      rintro e w' ⟨rfl, hb⟩
      exact ⟨by rw [inB_no (by omega)]; rfl, hb⟩
    · refine (within_some a b c d a b true true w h (by omega) (by omega) (by simp) (by simp)).mono ?_
      rintro e w' ⟨rfl, hb⟩
      exact ⟨by rw [inB_yes h h1 h2]; rfl, hb⟩
  · have hf : inB a b c d = false := inB_no (by omega)
    have hd : decide (a ≤ b) = false := by simpa using h
    rw [hf]
    clear hf
    go_enter Tryz.func167, Tryz.ntmps167
    go_wp2_with fail
    go_quiet (fail)
    go_wp2
    go_ret
    exact ⟨rfl, below_drewN (((Below.refl _ _).alloc (Nat.le_refl _) _).alloc (by simp) _) _⟩

/-- Is a range valid? -/
def vR (a b : Int) : Bool := inB a b (-1000000000000000) 1000000000000000
theorem vR_iff (a b : Int) : vR a b = true ↔ (a ≤ b ∧ -1000000000000000 ≤ a ∧ b ≤ 1000000000000000) := by simp [vR, inB]
theorem vR_no (a b : Int) (h : ¬ (a ≤ b ∧ -1000000000000000 ≤ a ∧ b ≤ 1000000000000000)) : vR a b = false := by simpa [vR, inB] using h

/-- What a box holds stays behind a call that makes blocks alone. -/
theorem keep_one {w w0 w1 : World} {a b : Value} (h0 : w0.cell? ⟨w.heap.size, 0, none⟩ = some a ∧ w0.cell? ⟨w.heap.size, 1, none⟩ = some b) (hl : w.heap.size < w0.heap.size) (hb : Below w0.heap.size w0 w1) :
    w1.cell? ⟨w.heap.size, 0, none⟩ = some a ∧ w1.cell? ⟨w.heap.size, 1, none⟩ = some b :=
  ⟨((bcell hb).1 _ _ hl).trans h0.1, ((bcell hb).1 _ _ hl).trans h0.2⟩

theorem checkRange_bool (a b : Int) (t : Bool) (x : Int) (w : World) (ht : inB a b (-1000000000000000) 1000000000000000 = t) (hx : (if t = true then 0 else 10) = x) :
    Calls Tryz.prog 128 #[rv a b] w fun e w' => e = .returned (.int .i64 x) ∧ Below w.heap.size w w' := by
  have C := fun W => within_any a b (-1000000000000000) 1000000000000000 W
  rw [ht] at C
  have HC := Lib.hid C; clear C ht
  go_enter Tryz.func128, Tryz.ntmps128
  go_wp2_with fail
  go_region_held3 (fun w' => w'.cell? ⟨w.heap.size, 0, none⟩ = some (.int .i64 a) ∧ w'.cell? ⟨w.heap.size, 1, none⟩ = some (.int .i64 b))
    (first | (go_keep; done) | exact keep_one ‹_› (by simp) hb1 | exact keep_one ‹_› (Nat.lt_of_lt_of_le (by simp) hb1.size) hb2)
    (first | (go_at_call 168; refine (around_any 1000000000000000 _ (by omega) (by omega)).mono ?_; rintro e w1 ⟨rfl, hb1⟩) | (go_at_call 167; refine (HC.out _).mono ?_; rintro e w2 ⟨rfl, hb2⟩))
  have hb := below_a1 (below_d (below_then hb1 hb2))
  cases t
  · go_wp2
    go_ret
    exact ⟨by rw [← hx]; rfl, hb⟩
  · go_wp2
    go_ret
    exact ⟨by rw [← hx]; rfl, hb⟩
end

end Go.Proofs.YtmdilbmgopggaaaGreat
