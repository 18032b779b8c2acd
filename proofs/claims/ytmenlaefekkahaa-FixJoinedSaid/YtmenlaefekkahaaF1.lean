/- The contracts of few and small (the law package). No conditions but that the numbers are those of ints. -/
import Derived.Test.YtmenlaefekkahaaA8
set_option linter.unusedVariables false
set_option linter.unusedSimpArgs false
set_option linter.constructorNameAsVariable false
namespace Go.Proofs.Ytmenlaefekkahaa
open Go.RowKit
attribute [local go_sem ↓] run_minI run_maxI

theorem tmod_twice (n m : Int) (hm : 0 < m) : (n.tmod m + m).tmod m = n % m := by
  have h1 := Int.mul_tdiv_add_tmod n m
  have h5 := Int.tmod_lt_of_pos n hm
  have h6 : -m < n.tmod m := Int.lt_tmod_of_pos n hm
  rw [Int.tmod_eq_emod_of_nonneg (by omega), Int.add_emod_right]
  have h2 : n % m = (n.tmod m) % m := by
    conv => lhs; rw [← h1]
    rw [Int.add_comm, Int.add_mul_emod_self_left]
  exact h2.symm

/-- few -/
def fewS (n : Int) : Int := n % 2000001 - 1000000
theorem fewS_in (n : Int) : -1000000 ≤ fewS n ∧ fewS n ≤ 1000000 := by unfold fewS; omega

theorem few_any (n : Int) (w : World) (h1 : -9223372036854775808 ≤ n) (h2 : n ≤ 9223372036854775807) :
    Calls Try.prog 34 #[.int .i64 n] w fun e w' => e = .returned (.int .i64 (fewS n)) ∧ w = w' := by
  have ht := tmod_twice n 2000001 (by omega)
  have h5 := Int.tmod_lt_of_pos n (show (0 : Int) < 2000001 by omega)
  have h6 : -2000001 < n.tmod 2000001 := Int.lt_tmod_of_pos n (by omega)
  have h7 : (n.tmod 2000001 + 2000001).tmod 2000001 = n % 2000001 := ht
  have hf := fewS_in n
  unfold fewS
  unfold fewS at hf
  have k1 : IntKind.i64.wrap (n.tmod 2000001) = n.tmod 2000001 := IntWalk.i64_in _ ⟨by omega, by omega⟩
  have k2 : IntKind.i64.wrap (n.tmod 2000001 + 2000001) = n.tmod 2000001 + 2000001 := IntWalk.i64_in _ ⟨by omega, by omega⟩
  have k3 : IntKind.i64.wrap (n % 2000001) = n % 2000001 := IntWalk.i64_in _ ⟨by omega, by omega⟩
  have k4 : IntKind.i64.wrap (n % 2000001 - 1000000) = n % 2000001 - 1000000 := IntWalk.i64_in _ ⟨by omega, by omega⟩
  go_enter Try.func34, Try.ntmps34
  go_wp2
  go_ret
  exact ⟨rfl, rfl⟩

theorem quiet_add' {P : Program} {f : FuncId} {args : Array Value} {w : World} {a n : Nat} {v : Value}
    (h : Calls P f args (w.drewN (a + n)) fun e w' => e = .returned v ∧ w.drewN (a + n) = w') :
    Calls P f args (w.drewN (a + n)) fun e w'' => e = .returned v ∧ ∃ m, w'' = w.drewN (a + m) :=
  h.mono fun _ _ ⟨he, hm⟩ => ⟨he, n, hm.symm⟩

theorem few_to (n x : Int) (w : World) (h1 : -9223372036854775808 ≤ n) (h2 : n ≤ 9223372036854775807) (h : fewS n = x) :
    Calls Try.prog 34 #[.int .i64 n] w fun e w' => e = .returned (.int .i64 x) ∧ w = w' := by
  subst h; exact few_any n w h1 h2

/-- small -/
def smallS (a b c : Int) : Int × Int × Int := (min (fewS a) (fewS b), max (fewS a) (fewS b), min (fewS a) (fewS b) + c % (max (fewS a) (fewS b) - min (fewS a) (fewS b) + 1))
theorem smallS_in (a b c : Int) : -1000000 ≤ (smallS a b c).1 ∧ (smallS a b c).1 ≤ (smallS a b c).2.2 ∧ (smallS a b c).2.2 ≤ (smallS a b c).2.1 ∧ (smallS a b c).2.1 ≤ 1000000 := by
  have h1 := fewS_in a
  have h2 := fewS_in b
  unfold smallS
  have h3 := Int.emod_nonneg c (show max (fewS a) (fewS b) - min (fewS a) (fewS b) + 1 ≠ 0 by omega)
  have h4 := Int.emod_lt_of_pos c (show 0 < max (fewS a) (fewS b) - min (fewS a) (fewS b) + 1 by omega)
  refine ⟨?_, ?_, ?_, ?_⟩ <;> dsimp only <;> omega

set_option maxRecDepth 100000 in
set_option maxHeartbeats 1000000 in
theorem small_any (a b c : Int) (w : World) (a1 : -9223372036854775808 ≤ a) (a2 : a ≤ 9223372036854775807) (b1 : -9223372036854775808 ≤ b) (b2 : b ≤ 9223372036854775807) (c1 : -9223372036854775808 ≤ c) (c2 : c ≤ 9223372036854775807) :
    Calls Try.prog 33 #[.int .i64 a, .int .i64 b, .int .i64 c] w fun e w' => e = .returned (.tuple #[rv (smallS a b c).1 (smallS a b c).2.1, .int .i64 (smallS a b c).2.2]) ∧ Below w.heap.size w w' := by
  obtain ⟨A, hA⟩ : ∃ A, fewS a = A := ⟨_, rfl⟩
  obtain ⟨B, hB⟩ : ∃ B, fewS b = B := ⟨_, rfl⟩
  have k1 := fewS_in a
  have k2 := fewS_in b
  rw [hA] at k1
  rw [hB] at k2
  obtain ⟨lo, hlo⟩ : ∃ lo, min A B = lo := ⟨_, rfl⟩
  obtain ⟨hi, hhi⟩ : ∃ hi, max A B = hi := ⟨_, rfl⟩
  have e1 : smallS a b c = (lo, hi, lo + c % (hi - lo + 1)) := by unfold smallS; rw [hA, hB, hlo, hhi]
  have hl1 : -1000000 ≤ lo := by omega
  have hl2 : lo ≤ hi := by omega
  have hl3 : hi ≤ 1000000 := by omega
  have FA := fun W => few_to a A W a1 a2 hA
  have FB := fun W => few_to b B W b1 b2 hB
  have HFA := Lib.hid FA; have HFB := Lib.hid FB; have HLO := Lib.hid hlo; have HHI := Lib.hid hhi; have HE := Lib.hid e1
  clear FA FB hlo hhi e1 hA hB
  have t1 := Int.tmod_lt_of_pos c (show (0 : Int) < hi - lo + 1 by omega)
  have t2 : -(hi - lo + 1) < c.tmod (hi - lo + 1) := Int.lt_tmod_of_pos c (by omega)
  have t3 := tmod_twice c (hi - lo + 1) (by omega)
  have t4 := Int.emod_nonneg c (show hi - lo + 1 ≠ 0 by omega)
  have t5 := Int.emod_lt_of_pos c (show 0 < hi - lo + 1 by omega)
  have w1 : IntKind.i64.wrap (hi - lo) = hi - lo := IntWalk.i64_in _ ⟨by omega, by omega⟩
  have w2 : IntKind.i64.wrap (hi - lo + 1) = hi - lo + 1 := IntWalk.i64_in _ ⟨by omega, by omega⟩
  have t0 : ((hi - lo + 1) == 0) = false := beq_eq_false_iff_ne.2 (by omega)
  generalize hm : c.tmod (hi - lo + 1) = m at *
  have w3 : IntKind.i64.wrap m = m := IntWalk.i64_in _ ⟨by omega, by omega⟩
  have w4 : IntKind.i64.wrap (m + hi) = m + hi := IntWalk.i64_in _ ⟨by omega, by omega⟩
  have w5 : IntKind.i64.wrap (m + hi - lo) = m + hi - lo := IntWalk.i64_in _ ⟨by omega, by omega⟩
  have w6 : IntKind.i64.wrap (m + hi - lo + 1) = m + hi - lo + 1 := IntWalk.i64_in _ ⟨by omega, by omega⟩
  have w7 : (m + hi - lo + 1).tmod (hi - lo + 1) = c % (hi - lo + 1) := by rw [← t3]; congr 1; omega
  have w8 : IntKind.i64.wrap (c % (hi - lo + 1)) = c % (hi - lo + 1) := IntWalk.i64_in _ ⟨by omega, by omega⟩
  have w9 : IntKind.i64.wrap (lo + c % (hi - lo + 1)) = lo + c % (hi - lo + 1) := IntWalk.i64_in _ ⟨by omega, by omega⟩
  go_enter Try.func33, Try.ntmps33
  go_wp2_with fail
  refine (HFA.out _).mono ?_
  rintro e w' ⟨rfl, rfl⟩
  go_wp2_with fail
  refine (HFB.out _).mono ?_
  rintro e w' ⟨rfl, rfl⟩
  go_wp2_with fail
  refine (HFA.out _).mono ?_
  rintro e w' ⟨rfl, rfl⟩
  go_wp2_with fail
  refine (HFB.out _).mono ?_
  rintro e w' ⟨rfl, rfl⟩
  go_wp2_with fail
  simp only [HLO.out, HHI.out]
  go_region
  all_goals
    go_wp2
    refine bodyPost_ret (v := .tuple #[rv lo hi, .int .i64 (lo + c % (hi - lo + 1))]) (by simp [results, Try.results33, go_sem]) rfl ⟨by rw [HE.out], ?_⟩
    exact ((Below.refl _ _).alloc (Nat.le_refl _) _).drew
end Go.Proofs.Ytmenlaefekkahaa
