/- 'around' of the law package (HoldInverts, HoldPoured, HoldDrawn). Its conditions: the number is not below nought, the divisor is above. -/
import Derived.WalkKit
import Derived.WalkSpells
import Derived.WalkLawsBesides
import Derived.Lib.Hide
import Derived.Deep.QuietTactic
import Derived.BigQuiet
import Derived.Test.YtemlaaipnhmcoaaGreatR44
set_option linter.unusedVariables false
set_option linter.unusedSimpArgs false
set_option linter.constructorNameAsVariable false
namespace Go.Proofs.YtemlaaipnhmcoaaGreat

section
open Go.RowKit

set_option maxRecDepth 100000 in
set_option maxHeartbeats 1000000 in
theorem maround_to (n d q h : Int) (w : World) (h0 : 0 ≤ n) (h1 : n ≤ 4000000000000000000) (hd : 0 < d) (hd2 : d ≤ 10000000000) (hq : n / d = q) (hh : (if q * d < n then q + 1 else q) = h) :
  Calls Tryz.prog 22 #[.int .i64 n, .int .i64 d] w fun e w' => e = .returned (.agg #[.int .i64 q, .int .i64 h]) ∧ Below w.heap.size w w' := by
 have e0 := Int.emod_add_mul_ediv n d
 have m0 := Int.emod_nonneg n (show d ≠ 0 by omega)
 have m1 := Int.emod_lt_of_pos n hd
 have q0 : 0 ≤ q := by rw [← hq]; exact Int.ediv_nonneg h0 (by omega)
 have q1 : q ≤ n := by rw [← hq]; exact Int.ediv_le_self d h0
 have qd : q * d ≤ n := by rw [← hq]; exact Int.ediv_mul_le n (by omega)
 have qd0 : 0 ≤ q * d := Int.mul_nonneg q0 (by omega)
 obtain ⟨p, hp⟩ : ∃ p, q * d = p := ⟨_, rfl⟩
 have w1 : IntKind.i64.wrap (n.tdiv d) = q := by rw [Int.tdiv_eq_ediv_of_nonneg h0, hq]; exact IntWalk.i64_in _ ⟨by omega, by omega⟩
 have w2 : IntKind.i64.wrap (n.tmod d) = n % d := by rw [Int.tmod_eq_emod_of_nonneg h0]; exact IntWalk.i64_in _ ⟨by omega, by omega⟩
 have w3 : IntKind.i64.wrap (q * d) = p := by rw [hp]; exact IntWalk.i64_in _ ⟨by omega, by omega⟩
 have w4 : IntKind.i64.wrap (q + 1) = q + 1 := IntWalk.i64_in _ ⟨by omega, by omega⟩
 have d0 : ¬ d = 0 := by omega
 obtain ⟨r, hr⟩ : ∃ r, n % d = r := ⟨_, rfl⟩
 rw [hp] at hh qd qd0
 rw [hr] at w2 m0 m1
 have t0 : Int.tmod n d = r := by rw [Int.tmod_eq_emod_of_nonneg h0]; exact hr
 have t1 : Int.tdiv n d = q := by rw [Int.tdiv_eq_ediv_of_nonneg h0]; exact hq
 have HH := Lib.hid hh
 have HD : Hid (d = d) := Lib.hid rfl
 clear hp hr hq e0 hh
 by_cases g : p < n
 ·have b1 : decide (p < n) = true := decide_eq_true g
  have hv : h = q + 1 := by have := HH.out; rw [if_pos g] at this; exact this.symm
  subst hv
  clear HH
  go_enter Tryz.func22, Tryz.ntmps22
  go_wp2
  all_goals first | omega | skip
  exact bodyPost_ret (v := .agg #[.int .i64 q, .int .i64 (q + 1)]) (by simp [results, Tryz.results22, go_sem]) rfl ⟨rfl, below_alloc1 _ _⟩
 ·have hv : h = q := by have := HH.out; rw [if_neg g] at this; exact this.symm
  subst hv
  clear HH
  go_enter Tryz.func22, Tryz.ntmps22
  go_wp2
  all_goals first | omega | skip
  exact bodyPost_ret (v := .agg #[.int .i64 h, .int .i64 h]) (by simp [results, Tryz.results22, go_sem]) rfl ⟨rfl, below_alloc1 _ _⟩
theorem maround_S (n d : Int) (w : World) (h0 : 0 ≤ n) (h1 : n ≤ 4000000000000000000) (hd : 0 < d) (hd2 : d ≤ 10000000000) :
    Calls Tryz.prog 22 #[.int .i64 n, .int .i64 d] w fun e w' => e = .returned (rv (aroundS n d).1 (aroundS n d).2) ∧ Below w.heap.size w w' :=
  maround_to n d (n / d) (aroundS n d).2 w h0 h1 hd hd2 rfl (around_hi hd).symm
end

end Go.Proofs.YtemlaaipnhmcoaaGreat
