/- Numbers that describe compartments (the specification): Mod, Pick, some, Density. Their conditions: the numbers are 64 bit ones, the list lies in memory. -/
import Derived.Deep.QuietTactic
import Derived.BigQuiet
import Derived.Test.YtemlaaipnhmcoaaGreatR11
import Derived.Test.YtemlaaipnhmcoaaGreatR13
import Derived.Test.YtemlaaipnhmcoaaGreatR12
import Derived.Test.YtemlaaipnhmcoaaGreatR14
import Derived.Test.YtemlaaipnhmcoaaGreatR00
import Derived.Test.YtemlaaipnhmcoaaGreatR08
set_option linter.unusedVariables false
set_option linter.unusedSimpArgs false
set_option linter.constructorNameAsVariable false
namespace Go.Proofs.YtemlaaipnhmcoaaGreat

section
open Go.RowKit
attribute [local go_sem ↓] eqlRange neqRange
structure FillD where
  hold : Int
  st : Int
  x0 : Int
  x1 : Int
  d0 : Int
  d1 : Int
abbrev fillV (f : FillD) : Value := .agg #[.int .i64 f.hold, .int .i64 f.st, .int .i64 f.x0, .int .i64 f.x1, .int .i64 f.d0, .int .i64 f.d1]
def stateS (st : Int) (ne nd inp de : Bool) : Bool := (decide (st = 0) && (ne && nd)) || ((decide (1 ≤ st ∧ st ≤ 2) && (ne && de)) || (decide (3 ≤ st ∧ st ≤ 5) && (inp && de)))
def fillS (h : HoldD) (f : FillD) : Bool := decide (f.hold = h.id) && stateS f.st (f.x0 == 0 && f.x1 == 0) (f.d0 == 0 && f.d1 == 0) (inB f.x0 f.x1 (firstX h.vol) (lastX h.vol)) (densS f.d0 f.d1)
def fillErr (h : HoldD) (f : FillD) : Int := if holdS h = true then (if fillS h f = true then 0 else 22) else 20
theorem fillErr_of {h : HoldD} {f : FillD} {a b : Bool} (g : holdS h = a) (e : fillS h f = b) : fillErr h f = if a = true then (if b = true then 0 else 22) else 20 := by unfold fillErr; rw [g, e]
theorem hold_tab {h : HoldD} (e : holdS h = true) : tabOk h.vol = true := by
  cases hm : measuresS h.vol
  · unfold holdS amtRest ctRest at e
    rw [hm] at e
    simp at e
  · exact measures_ok hm

set_option maxHeartbeats 1000000 in
theorem sFree_to (n : Int) (t : Bool) (w : World) (h : decide (3 ≤ n ∧ n ≤ 5) = t) :
  Calls Tryz.prog 36 #[.int .i64 n] w fun e w' => e = .returned (.bool t) ∧ Below w.heap.size w w' := by
 have C : Hid (∀ W, Calls Tryz.prog 85 #[.int .i64 n, .int .i64 3, .int .i64 5] W fun e w' => e = .returned (.bool t) ∧ Below W.heap.size W w') := Lib.hid fun W => between_to n 3 5 t W h
 clear h
 go_enter Tryz.func36, Tryz.ntmps36
 go_wp2_with fail
 refine (C.out _).mono ?_
 rintro e w1 ⟨rfl, hb⟩
 have HB := Lib.hid hb; clear hb
 go_wp2
 go_ret
 exact ⟨rfl, HB.out⟩
end

section
open Go.RowKit

theorem tmod_emod (n m : Int) (h : 0 < m) : -m < n.tmod m ∧ n.tmod m < m ∧ (n.tmod m + m).tmod m = n % m := by
  have h1 := Int.mul_tdiv_add_tmod n m
  have h2 := Int.tmod_lt_of_pos n h
  have h3 : -m < n.tmod m := Int.lt_tmod_of_pos n h
  refine ⟨h3, h2, ?_⟩
  rw [Int.tmod_eq_emod_of_nonneg (by omega), Int.add_emod_right]
  have e : n = n.tmod m + m * n.tdiv m := by omega
  conv => rhs; rw [e]
  rw [Int.add_mul_emod_self_left]

set_option maxRecDepth 100000 in
set_option maxHeartbeats 1000000 in
theorem smod_to (n m : Int) (w : World) (h1 : 0 < m) (h2 : m ≤ 4611686018427387904) :
  Calls Tryz.prog 23 #[.int .i64 n, .int .i64 m] w fun e w' => e = .returned (.int .i64 (n % m)) ∧ Below w.heap.size w w' := by
 obtain ⟨a1, a2, a3⟩ := tmod_emod n m h1
 have e1 : IntKind.i64.wrap (n.tmod m) = n.tmod m := IntWalk.i64_in _ ⟨by omega, by omega⟩
 have e2 : IntKind.i64.wrap (n.tmod m + m) = n.tmod m + m := IntWalk.i64_in _ ⟨by omega, by omega⟩
 have e3 := Int.emod_nonneg n (show m ≠ 0 by omega)
 have e4 := Int.emod_lt_of_pos n h1
 have e5 : IntKind.i64.wrap (n % m) = n % m := IntWalk.i64_in _ ⟨by omega, by omega⟩
 have hm : ¬ m = 0 := by omega
 go_enter Tryz.func23, Tryz.ntmps23
 go_wp2
 go_ret
 exact ⟨by first | rfl | (simp [e1, e2, a3, e5]), by first | exact Below.refl _ _ | (simp; exact Below.refl _ _)⟩

def pickS (l : List Int) (i : Int) : Int := if l.length = 0 then 0 else (l[(i % (l.length : Int)).toNat]?).getD 0
set_option maxRecDepth 100000 in
set_option maxHeartbeats 1000000 in
theorem spick_to (A : Option Addr) (n c : Nat) (l : List Int) (i : Int) (w : World) (hn : n = l.length) (hm : n ≤ 4611686018427387904) (hl : IntsP w A l) :
  Calls Tryz.prog 61 #[.slice A n c, .int .i64 i] w fun e w' => e = .returned (.int .i64 (pickS l i)) ∧ Below w.heap.size w w' := by
 by_cases h0 : n = 0
 ·have hp : pickS l i = 0 := by unfold pickS; rw [if_pos (by omega)]
  rw [hp]
  subst h0
  clear hp hn hm hl
  go_enter Tryz.func61, Tryz.ntmps61
  go_wp2
  go_ret
  exact ⟨rfl, Below.refl _ _⟩
 obtain ⟨b, o, rfl, lb, hb⟩ : ∃ b o, A = some ⟨b, o, none⟩ ∧ b < w.heap.size ∧ IntsMem w b o l := by
  rcases hl with h | h
  ·exfalso; rw [h] at hn; exact h0 hn
  ·exact h
 have hpos : (0 : Int) < n := by omega
 have m1 := Int.emod_nonneg i (show (n : Int) ≠ 0 by omega)
 have m2 := Int.emod_lt_of_pos i hpos
 obtain ⟨j, hj⟩ : ∃ j : Nat, i % (n : Int) = j := ⟨(i % (n : Int)).toNat, by omega⟩
 obtain ⟨x, hx⟩ : ∃ x, l[j]? = some x := ⟨_, List.getElem?_eq_getElem (show j < l.length by omega)⟩
 have hp : pickS l i = x := by unfold pickS; rw [if_neg (by omega), ← hn, hj]; simp [hx]
 rw [hp]
 have CM : Hid (∀ W, Calls Tryz.prog 23 #[.int .i64 i, .int .i64 n] W fun e w' => e = .returned (.int .i64 j) ∧ Below W.heap.size W w') := Lib.hid fun W => by
  have q := smod_to i n W hpos (by omega)
  rw [hj] at q
  exact q
 have c0 := hb j x hx
 have k1 : (j : Int) < (n : Int) := by omega
 have k2 : (0 : Int) ≤ (j : Int) := by omega
 have k3 : ((n : Int) == 0) = false := beq_eq_false_iff_ne.2 (by omega)
 have HC := Lib.hid c0; have LB := Lib.hid lb
 clear hl hm hn h0 m1 m2 hj hp hpos c0 lb hx hb
 go_enter Tryz.func61, Tryz.ntmps61
 go_wp2_with fail
 refine (CM.out _).mono ?_
 rintro e w1 ⟨rfl, hq⟩
 have HE := Lib.hid hq
 have c0 := HC.out
 rw [← hq.cell (p := ⟨b, o + j, none⟩) LB.out] at c0
 clear hq CM
 go_wp2
 go_ret
 exact ⟨rfl, HE.out⟩
end

end Go.Proofs.YtemlaaipnhmcoaaGreat
