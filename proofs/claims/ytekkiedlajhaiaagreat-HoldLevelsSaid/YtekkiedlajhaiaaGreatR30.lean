/- Tables that numbers choose: rows of points; free of the specification. Their conditions: the numbers lie in memory, and are not large. -/
import Derived.Test.YtekkiedlajhaiaaGreatR00
import Derived.Test.YtekkiedlajhaiaaGreatR07
import Derived.Test.YtekkiedlajhaiaaGreatR13
import Derived.Test.YtekkiedlajhaiaaGreatR09
import Derived.Test.YtekkiedlajhaiaaGreatR04
import Derived.Test.YtekkiedlajhaiaaGreatR01
import Derived.Deep.AppendLies
import Derived.Test.YtekkiedlajhaiaaGreatQ98
set_option linter.unusedVariables false
set_option linter.unusedSimpArgs false
set_option linter.constructorNameAsVariable false
namespace Go.Proofs.YtekkiedlajhaiaaGreat

section
open Go.RowKit

theorem tmod_emod (n m : Int) (h : 0 < m) : -m < n.tmod m ∧ n.tmod m < m ∧ (n.tmod m + m).tmod m = n % m := by
  have h1 := Int.mul_tdiv_add_tmod n m
  have h2 := Int.tmod_lt_of_pos n h
  have h3 : -m < n.tmod m := Int.lt_tmod_of_pos n h
  refine ⟨h3, h2, ?_⟩
  rw [Int.tmod_eq_emod_of_nonneg (by omega), Int.add_emod_right]
  have e : n = n.tmod m + m * n.tdiv m := by omega
  conv => rhs; rw [e]
  rw [Int.add_mul_emod_self_left]

set_option maxRecDepth 100000 in
set_option maxHeartbeats 1000000 in
theorem smod_to (n m : Int) (w : World) (h1 : 0 < m) (h2 : m ≤ 4611686018427387904) :
  Calls Tryz.prog 42 #[.int .i64 n, .int .i64 m] w fun e w' => e = .returned (.int .i64 (n % m)) ∧ Below w.heap.size w w' := by
 obtain ⟨a1, a2, a3⟩ := tmod_emod n m h1
 have e1 : IntKind.i64.wrap (n.tmod m) = n.tmod m := IntWalk.i64_in _ ⟨by omega, by omega⟩
 have e2 : IntKind.i64.wrap (n.tmod m + m) = n.tmod m + m := IntWalk.i64_in _ ⟨by omega, by omega⟩
 have e3 := Int.emod_nonneg n (show m ≠ 0 by omega)
 have e4 := Int.emod_lt_of_pos n h1
 have e5 : IntKind.i64.wrap (n % m) = n % m := IntWalk.i64_in _ ⟨by omega, by omega⟩
 have hm : ¬ m = 0 := by omega
 go_enter Tryz.func42, Tryz.ntmps42
 go_wp2
 go_ret
 exact ⟨by first | rfl | (simp [e1, e2, a3, e5]), by first | exact Below.refl _ _ | (simp; exact Below.refl _ _)⟩

def pickS (l : List Int) (i : Int) : Int := if l.length = 0 then 0 else (l[(i % (l.length : Int)).toNat]?).getD 0
set_option maxRecDepth 100000 in
set_option maxHeartbeats 1000000 in
theorem spick_to (A : Option Addr) (n c : Nat) (l : List Int) (i : Int) (w : World) (hn : n = l.length) (hm : n ≤ 4611686018427387904) (hl : IntsP w A l) :
  Calls Tryz.prog 43 #[.slice A n c, .int .i64 i] w fun e w' => e = .returned (.int .i64 (pickS l i)) ∧ Below w.heap.size w w' := by
 by_cases h0 : n = 0
 ·have hp : pickS l i = 0 := by unfold pickS; rw [if_pos (by omega)]
  rw [hp]
  subst h0
  clear hp hn hm hl
  go_enter Tryz.func43, Tryz.ntmps43
  go_wp2
  go_ret
  exact ⟨rfl, Below.refl _ _⟩
 obtain ⟨b, o, rfl, lb, hb⟩ : ∃ b o, A = some ⟨b, o, none⟩ ∧ b < w.heap.size ∧ IntsMem w b o l := by
  rcases hl with h | h
  ·exfalso; rw [h] at hn; exact h0 hn
  ·exact h
 have hpos : (0 : Int) < n := by omega
 have m1 := Int.emod_nonneg i (show (n : Int) ≠ 0 by omega)
 have m2 := Int.emod_lt_of_pos i hpos
 obtain ⟨j, hj⟩ : ∃ j : Nat, i % (n : Int) = j := ⟨(i % (n : Int)).toNat, by omega⟩
 obtain ⟨x, hx⟩ : ∃ x, l[j]? = some x := ⟨_, List.getElem?_eq_getElem (show j < l.length by omega)⟩
 have hp : pickS l i = x := by unfold pickS; rw [if_neg (by omega), ← hn, hj]; simp [hx]
 rw [hp]
 have CM : Hid (∀ W, Calls Tryz.prog 42 #[.int .i64 i, .int .i64 n] W fun e w' => e = .returned (.int .i64 j) ∧ Below W.heap.size W w') := Lib.hid fun W => by
  have q := smod_to i n W hpos (by omega)
  rw [hj] at q
  exact q
 have c0 := hb j x hx
 have k1 : (j : Int) < (n : Int) := by omega
 have k2 : (0 : Int) ≤ (j : Int) := by omega
 have k3 : ((n : Int) == 0) = false := beq_eq_false_iff_ne.2 (by omega)
 have HC := Lib.hid c0; have LB := Lib.hid lb
 clear hl hm hn h0 m1 m2 hj hp hpos c0 lb hx hb
 go_enter Tryz.func43, Tryz.ntmps43
 go_wp2_with fail
 refine (CM.out _).mono ?_
 rintro e w1 ⟨rfl, hq⟩
 have HE := Lib.hid hq
 have c0 := HC.out
 rw [← hq.cell (p := ⟨b, o + j, none⟩) LB.out] at c0
 clear hq CM
 go_wp2
 go_ret
 exact ⟨rfl, HE.out⟩
end

section
open Go.RowKit
structure RawD where
  id : Int
  fi : Int
  st : List Int
  vs : List Int
structure RawM where
  S : Option Addr
  sn : Nat
  sc : Nat
  V : Option Addr
  vn : Nat
  vc : Nat
abbrev rawV (r : RawD) (m : RawM) : Value := .agg #[.int .i64 r.id, .int .i64 r.fi, .slice m.S m.sn m.sc, .slice m.V m.vn m.vc]
def RawIn (w : World) (r : RawD) (m : RawM) : Prop := m.sn = r.st.length ∧ m.sn ≤ 4611686018427387904 ∧ IntsP w m.S r.st ∧ m.vn = r.vs.length ∧ m.vn ≤ 4611686018427387904 ∧ IntsP w m.V r.vs
theorem RawIn.below {w w' : World} {r : RawD} {m : RawM} (h : RawIn w r m) (hB : Below w.heap.size w w') : RawIn w' r m := ⟨h.1, h.2.1, h.2.2.1.below hB, h.2.2.2.1, h.2.2.2.2.1, h.2.2.2.2.2.below hB⟩
theorem emod_in (n : Int) {m : Int} (h : 0 < m) : 0 ≤ n % m ∧ n % m < m := ⟨Int.emod_nonneg n (by omega), Int.emod_lt_of_pos n h⟩
def densityS (a b : Int) : Int × Int := (500 + a % 900, 500 + a % 900 + b % 200)

set_option maxRecDepth 100000 in
set_option maxHeartbeats 4000000 in
theorem sDensityN_to (x y : Int) (w : World) :
  Calls Tryz.prog 47 #[.int .i64 x, .int .i64 y] w fun e w' => e = .returned (rv (densityS x y).1 (densityS x y).2) ∧ Below w.heap.size w w' := by
 unfold densityS
 dsimp only
 obtain ⟨b0, b1⟩ := emod_in x (show (0 : Int) < 900 by omega)
 obtain ⟨b2, b3⟩ := emod_in y (show (0 : Int) < 200 by omega)
 obtain ⟨a, ha⟩ : ∃ z, x % 900 = z := ⟨_, rfl⟩
 obtain ⟨b, hb⟩ : ∃ z, y % 200 = z := ⟨_, rfl⟩
 rw [ha, hb]
 rw [ha] at b0 b1
 rw [hb] at b2 b3
 have w1 : IntKind.i64.wrap (500 + a) = 500 + a := IntWalk.i64_in _ ⟨by omega, by omega⟩
 have w2 : IntKind.i64.wrap (500 + a + b) = 500 + a + b := IntWalk.i64_in _ ⟨by omega, by omega⟩
 have CM0 : Hid (∀ W, Calls Tryz.prog 42 #[.int .i64 x, .int .i64 900] W fun e w' => e = .returned (.int .i64 a) ∧ Below W.heap.size W w') := Lib.hid fun W => int_to (smod_to x 900 W (by omega) (by omega)) ha
 have CM1 : Hid (∀ W, Calls Tryz.prog 42 #[.int .i64 y, .int .i64 200] W fun e w' => e = .returned (.int .i64 b) ∧ Below W.heap.size W w') := Lib.hid fun W => int_to (smod_to y 200 W (by omega) (by omega)) hb
 clear ha hb b0 b1 b2 b3
 have HE := Lib.hid (show Below w.heap.size w (w.alloc (.cells #[.int .i64 0, .int .i64 0] 30)) from below_alloc1 w _)
 have HK := Lib.hid (boxes1' w 30 #[.int .i64 0, .int .i64 0])
 go_enter Tryz.func47, Tryz.ntmps47
 go_upto_region 1 with fail
 obtain ⟨W0, hW0⟩ : ∃ W0 : World, (w.alloc (.cells #[.int .i64 0, .int .i64 0] 30)) = W0 := ⟨_, rfl⟩
 rw [hW0] at HE HK ⊢
 clear hW0
 obtain ⟨G, hG⟩ : ∃ G, w.heap.size = G := ⟨_, rfl⟩
 rw [hG] at HK ⊢
 have HG := Lib.hid hG; clear hG
 go_wp2_with fail
 refine (CM0.out _).mono ?_
 rintro e y1 ⟨rfl, hq⟩
 have HE1 := Lib.hid (below_then HE.out hq); have HK1 := Lib.hid (HK.out.on hq)
 clear hq HE HK  CM0
 go_wp2_with fail
 refine (CM1.out _).mono ?_
 rintro e y2 ⟨rfl, hq⟩
 have HE2 := Lib.hid (below_then HE1.out hq); have HK2 := Lib.hid (HK1.out.on hq)
 clear hq HE1 HK1  CM1
 have z_ := HK2.out _ (.head _)
 have z_0 := z_.cell 0
 have z_f0 := z_.frozen 0
 have z_1 := z_.cell 1
 have z_f1 := z_.frozen 1
 have z_l := z_.lt
 simp at z_0 z_f0 z_1 z_f1
 clear z_
 go_wp2
 refine bodyPost_ret (v := rv (500 + a) (500 + a + b)) (by simp [results, Tryz.results47, go_sem, z_0, z_1]) rfl ⟨rfl, ?_⟩
 have hg := HG.out
 repeat (first | exact HE2.out | refine Below.setCell ?_ (by simp <;> omega) _)
end

section
open Go.RowKit
attribute [local go_sem ↓] run_minI run_maxI
set_option maxRecDepth 100000 in
set_option maxHeartbeats 4000000 in
theorem msomewhere_to (lo hi x : Int) (w : World) (h : lo ≤ hi) (h1 : -1000000000000 ≤ lo) (h2 : hi ≤ 1000000000000) :
  Calls Tryz.prog 14 #[rv lo hi, .int .i64 x] w fun e w' => e = .returned (.int .i64 (lo + x % (hi - lo + 1))) ∧ Below w.heap.size w w' := by
 have w1 : IntKind.i64.wrap (hi - lo) = hi - lo := IntWalk.i64_in _ ⟨by omega, by omega⟩
 obtain ⟨g, hg⟩ : ∃ g, hi - lo = g := ⟨_, rfl⟩
 replace w1 := w1.trans hg
 rw [hg]
 have w2 : IntKind.i64.wrap (g + 1) = g + 1 := IntWalk.i64_in _ ⟨by omega, by omega⟩
 obtain ⟨k, hk⟩ : ∃ k, g + 1 = k := ⟨_, rfl⟩
 replace w2 := w2.trans hk
 rw [hk]
 obtain ⟨b0, b1⟩ := emod_in x (show (0 : Int) < k by omega)
 obtain ⟨a, ha⟩ : ∃ z, x % k = z := ⟨_, rfl⟩
 rw [ha] at b0 b1 ⊢
 have w3 : IntKind.i64.wrap (lo + a) = lo + a := IntWalk.i64_in _ ⟨by omega, by omega⟩
 have CM0 : Hid (∀ W, Calls Tryz.prog 42 #[.int .i64 x, .int .i64 k] W fun e w' => e = .returned (.int .i64 a) ∧ Below W.heap.size W w') := Lib.hid fun W => int_to (smod_to x k W (by omega) (by omega)) ha
 clear ha b0 b1 h h1 h2 hk hg
 have HE := Lib.hid (show Below w.heap.size w (w.alloc (.cells #[.int .i64 lo, .int .i64 hi] 30)) from below_alloc1 w _)
 have HK := Lib.hid (boxes1' w 30 #[.int .i64 lo, .int .i64 hi])
 go_enter Tryz.func14, Tryz.ntmps14
 go_upto_region 1 with fail
 obtain ⟨W0, hW0⟩ : ∃ W0 : World, (w.alloc (.cells #[.int .i64 lo, .int .i64 hi] 30)) = W0 := ⟨_, rfl⟩
 rw [hW0] at HE HK ⊢
 clear hW0
 obtain ⟨G, hG⟩ : ∃ G, w.heap.size = G := ⟨_, rfl⟩
 rw [hG] at HK ⊢
 have HG := Lib.hid hG; clear hG
 have hS0 : Boxes W0.drew [(G, 30, #[.int .i64 lo, .int .i64 hi])] := HK.out
 have HEd := Lib.hid HE.out.drew
 refine wp_region_held_drew (S := fun w' => Boxes w' [(G, 30, #[.int .i64 lo, .int .i64 hi])]) (by kernel_rfl) hS0 (fun hHeld => ?_)
 obtain ⟨W1, hW⟩ : ∃ W', W0.drew = W' := ⟨_, rfl⟩
 rw [hW] at HEd hHeld ⊢
 clear hW hS0 HE HK
 refine tK 5 (i := 0) (v := .pointer (some ⟨G, 0, none⟩)) rfl rfl (by kernel_rfl) ?_ hHeld ?_
 ·intro w hSw; clear hSw; go_simp; try with_reducible rfl
 simp only [uZ, uS]
 refine tK 6 (i := 1) (v := .int .i64 lo) rfl rfl (by kernel_rfl) ?_ hHeld ?_
 ·intro w hSw; have hz := (hSw _ (.head _)); have c0 := hz.cell 0; simp at c0; clear hz hSw; go_simp; try with_reducible rfl
 simp only [uZ, uS]
 refine tK 7 (i := 2) (v := .int .i64 x) rfl rfl (by kernel_rfl) ?_ hHeld ?_
 ·intro w hSw; clear hSw; go_simp; try with_reducible rfl
 simp only [uZ, uS]
 refine tK 8 (i := 3) (v := .pointer (some ⟨G, 1, none⟩)) rfl rfl (by kernel_rfl) ?_ hHeld ?_
 ·intro w hSw; clear hSw; go_simp; try with_reducible rfl
 simp only [uZ, uS]
 refine tK 9 (i := 4) (v := .int .i64 hi) rfl rfl (by kernel_rfl) ?_ hHeld ?_
 ·intro w hSw; have hz := (hSw _ (.head _)); have c1 := hz.cell 1; simp at c1; clear hz hSw; go_simp; try with_reducible rfl
 simp only [uZ, uS]
 refine tK 10 (i := 5) (v := .pointer (some ⟨G, 0, none⟩)) rfl rfl (by kernel_rfl) ?_ hHeld ?_
 ·intro w hSw; clear hSw; go_simp; try with_reducible rfl
 simp only [uZ, uS]
 refine tK 11 (i := 6) (v := .int .i64 lo) rfl rfl (by kernel_rfl) ?_ hHeld ?_
 ·intro w hSw; have hz := (hSw _ (.head _)); have c0 := hz.cell 0; simp at c0; clear hz hSw; go_simp; try with_reducible rfl
 simp only [uZ, uS]
 refine tK 12 (i := 7) (v := .int .i64 g) rfl rfl (by kernel_rfl) ?_ hHeld ?_
 ·intro w hSw; clear hSw; go_simp; first | done | exact w1
 simp only [uZ, uS]
 refine tK 13 (i := 8) (v := .int .i64 k) rfl rfl (by kernel_rfl) ?_ hHeld ?_
 ·intro w hSw; clear hSw; go_simp; first | done | exact w2
 simp only [uZ, uS]
 refine wpAnyH_ready (rs := [9]) (by kernel_rfl) (by simp) ?_
 refine AllReadyH.cons rfl (fun K hK => ?_) AllReadyH.nil
 go_simp
 (with_reducible refine (CM0.out _).mono ?_)
 rintro e z1 ⟨rfl, hq⟩
 have HE_1 := Lib.hid (below_then HEd.out hq)
 have hS := hHeld.on hq
 clear hq
 refine hK.out _ _ (hS) (fun hHeld2 => ?_)
 try simp only [Act.put, uA, uZ, uS]
 clear hK K hHeld
 have hHeld := hHeld2
 clear hHeld2
 clear hS HEd
 refine tK 15 (i := 10) (v := .int .i64 (lo + a)) rfl rfl (by kernel_rfl) ?_ hHeld ?_
 ·intro w hSw; clear hSw; go_simp; first | done | exact w3
 simp only [uZ, uS]
 refine tK 4 (i := 11) (v := .int .i64 (lo + a)) rfl rfl (by kernel_rfl) ?_ hHeld ?_
 ·intro w hSw; clear hSw; go_simp; try with_reducible rfl
 simp only [uZ, uS]
 refine wpAnyH_done (by kernel_rfl) ?_ _
 clear hHeld
 go_wp2
 go_ret
 exact ⟨rfl, HE_1.out⟩

set_option maxRecDepth 100000 in
set_option maxHeartbeats 4000000 in
theorem mdense_to (lo hi x : Int) (w : World) (h : lo ≤ hi) (h1 : -1000000000000 ≤ lo) (h2 : hi ≤ 1000000000000) :
  Calls Tryz.prog 15 #[rv lo hi, .int .i64 x] w fun e w' => e = .returned (.int .i64 (lo + x % (hi - lo + 1))) ∧ Below w.heap.size w w' := by
 have w1 : IntKind.i64.wrap (hi - lo) = hi - lo := IntWalk.i64_in _ ⟨by omega, by omega⟩
 obtain ⟨g, hg⟩ : ∃ g, hi - lo = g := ⟨_, rfl⟩
 replace w1 := w1.trans hg
 rw [hg]
 have w2 : IntKind.i64.wrap (g + 1) = g + 1 := IntWalk.i64_in _ ⟨by omega, by omega⟩
 obtain ⟨k, hk⟩ : ∃ k, g + 1 = k := ⟨_, rfl⟩
 replace w2 := w2.trans hk
 rw [hk]
 obtain ⟨b0, b1⟩ := emod_in x (show (0 : Int) < k by omega)
 obtain ⟨a, ha⟩ : ∃ z, x % k = z := ⟨_, rfl⟩
 rw [ha] at b0 b1 ⊢
 have w3 : IntKind.i64.wrap (lo + a) = lo + a := IntWalk.i64_in _ ⟨by omega, by omega⟩
 have CM0 : Hid (∀ W, Calls Tryz.prog 42 #[.int .i64 x, .int .i64 k] W fun e w' => e = .returned (.int .i64 a) ∧ Below W.heap.size W w') := Lib.hid fun W => int_to (smod_to x k W (by omega) (by omega)) ha
 clear ha b0 b1 h h1 h2 hk hg
 have HE := Lib.hid (show Below w.heap.size w (w.alloc (.cells #[.int .i64 lo, .int .i64 hi] 30)) from below_alloc1 w _)
 have HK := Lib.hid (boxes1' w 30 #[.int .i64 lo, .int .i64 hi])
 go_enter Tryz.func15, Tryz.ntmps15
 go_upto_region 1 with fail
 obtain ⟨W0, hW0⟩ : ∃ W0 : World, (w.alloc (.cells #[.int .i64 lo, .int .i64 hi] 30)) = W0 := ⟨_, rfl⟩
 rw [hW0] at HE HK ⊢
 clear hW0
 obtain ⟨G, hG⟩ : ∃ G, w.heap.size = G := ⟨_, rfl⟩
 rw [hG] at HK ⊢
 have HG := Lib.hid hG; clear hG
 have hS0 : Boxes W0.drew [(G, 30, #[.int .i64 lo, .int .i64 hi])] := HK.out
 have HEd := Lib.hid HE.out.drew
 refine wp_region_held_drew (S := fun w' => Boxes w' [(G, 30, #[.int .i64 lo, .int .i64 hi])]) (by kernel_rfl) hS0 (fun hHeld => ?_)
 obtain ⟨W1, hW⟩ : ∃ W', W0.drew = W' := ⟨_, rfl⟩
 rw [hW] at HEd hHeld ⊢
 clear hW hS0 HE HK
 refine tK 5 (i := 0) (v := .pointer (some ⟨G, 0, none⟩)) rfl rfl (by kernel_rfl) ?_ hHeld ?_
 ·intro w hSw; clear hSw; go_simp; try with_reducible rfl
 simp only [uZ, uS]
 refine tK 6 (i := 1) (v := .int .i64 lo) rfl rfl (by kernel_rfl) ?_ hHeld ?_
 ·intro w hSw; have hz := (hSw _ (.head _)); have c0 := hz.cell 0; simp at c0; clear hz hSw; go_simp; try with_reducible rfl
 simp only [uZ, uS]
 refine tK 7 (i := 2) (v := .int .i64 x) rfl rfl (by kernel_rfl) ?_ hHeld ?_
 ·intro w hSw; clear hSw; go_simp; try with_reducible rfl
 simp only [uZ, uS]
 refine tK 8 (i := 3) (v := .pointer (some ⟨G, 1, none⟩)) rfl rfl (by kernel_rfl) ?_ hHeld ?_
 ·intro w hSw; clear hSw; go_simp; try with_reducible rfl
 simp only [uZ, uS]
 refine tK 9 (i := 4) (v := .int .i64 hi) rfl rfl (by kernel_rfl) ?_ hHeld ?_
 ·intro w hSw; have hz := (hSw _ (.head _)); have c1 := hz.cell 1; simp at c1; clear hz hSw; go_simp; try with_reducible rfl
 simp only [uZ, uS]
 refine tK 10 (i := 5) (v := .pointer (some ⟨G, 0, none⟩)) rfl rfl (by kernel_rfl) ?_ hHeld ?_
 ·intro w hSw; clear hSw; go_simp; try with_reducible rfl
 simp only [uZ, uS]
 refine tK 11 (i := 6) (v := .int .i64 lo) rfl rfl (by kernel_rfl) ?_ hHeld ?_
 ·intro w hSw; have hz := (hSw _ (.head _)); have c0 := hz.cell 0; simp at c0; clear hz hSw; go_simp; try with_reducible rfl
 simp only [uZ, uS]
 refine tK 12 (i := 7) (v := .int .i64 g) rfl rfl (by kernel_rfl) ?_ hHeld ?_
 ·intro w hSw; clear hSw; go_simp; first | done | exact w1
 simp only [uZ, uS]
 refine tK 13 (i := 8) (v := .int .i64 k) rfl rfl (by kernel_rfl) ?_ hHeld ?_
 ·intro w hSw; clear hSw; go_simp; first | done | exact w2
 simp only [uZ, uS]
 refine wpAnyH_ready (rs := [9]) (by kernel_rfl) (by simp) ?_
 refine AllReadyH.cons rfl (fun K hK => ?_) AllReadyH.nil
 go_simp
 (with_reducible refine (CM0.out _).mono ?_)
 rintro e z1 ⟨rfl, hq⟩
 have HE_1 := Lib.hid (below_then HEd.out hq)
 have hS := hHeld.on hq
 clear hq
 refine hK.out _ _ (hS) (fun hHeld2 => ?_)
 try simp only [Act.put, uA, uZ, uS]
 clear hK K hHeld
 have hHeld := hHeld2
 clear hHeld2
 clear hS HEd
 refine tK 15 (i := 10) (v := .int .i64 (lo + a)) rfl rfl (by kernel_rfl) ?_ hHeld ?_
 ·intro w hSw; clear hSw; go_simp; first | done | exact w3
 simp only [uZ, uS]
 refine tK 4 (i := 11) (v := .int .i64 (lo + a)) rfl rfl (by kernel_rfl) ?_ hHeld ?_
 ·intro w hSw; clear hSw; go_simp; try with_reducible rfl
 simp only [uZ, uS]
 refine wpAnyH_done (by kernel_rfl) ?_ _
 clear hHeld
 go_wp2
 go_ret
 exact ⟨rfl, HE_1.out⟩

def spanS (a b x y : Int) : Int × Int := (a + x % (b - a + 1), a + x % (b - a + 1) + y % (min (b - (a + x % (b - a + 1))) 25 + 1))

set_option maxRecDepth 100000 in
set_option maxHeartbeats 4000000 in
theorem sspan_to (A : Option Addr) (n c : Nat) (ps : List P3) (x y : Int) (w : World) (hp : TabIn w A n ps) (h : tabOk ps = true) (hle : firstX ps ≤ lastX ps) (hlo : -1000000000 ≤ firstX ps) (hhi : lastX ps ≤ 1000000000) :
  Calls Tryz.prog 48 #[tv A n c, .int .i64 x, .int .i64 y] w fun e w' => e = .returned (rv (spanS (firstX ps) (lastX ps) x y).1 (spanS (firstX ps) (lastX ps) x y).2) ∧ Below w.heap.size w w' := by
 have FP : Hid (∀ W, Below w.heap.size w W → Calls Tryz.prog 90 #[tv A n c] W fun e w' => e = .returned (.int .i64 (firstX ps)) ∧ Below W.heap.size W w') := Lib.hid fun W hW => sFirst_tab A n c ps W (hp.below hW) h
 have LP : Hid (∀ W, Below w.heap.size w W → Calls Tryz.prog 58 #[tv A n c] W fun e w' => e = .returned (.int .i64 (lastX ps)) ∧ Below W.heap.size W w') := Lib.hid fun W hW => sLast_tab A n c ps W (hp.below hW) h
 clear hp h
 unfold spanS
 dsimp only
 generalize firstX ps = p at *
 generalize lastX ps = q at *
 have w1 : IntKind.i64.wrap (q - p) = q - p := IntWalk.i64_in _ ⟨by omega, by omega⟩
 obtain ⟨g, hg⟩ : ∃ g, q - p = g := ⟨_, rfl⟩
 replace w1 := w1.trans hg
 rw [hg]
 have w2 : IntKind.i64.wrap (g + 1) = g + 1 := IntWalk.i64_in _ ⟨by omega, by omega⟩
 obtain ⟨k, hk⟩ : ∃ k, g + 1 = k := ⟨_, rfl⟩
 replace w2 := w2.trans hk
 rw [hk]
 obtain ⟨b0, b1⟩ := emod_in x (show (0 : Int) < k by omega)
 obtain ⟨a, ha⟩ : ∃ z, x % k = z := ⟨_, rfl⟩
 rw [ha] at b0 b1 ⊢
 have w3 : IntKind.i64.wrap (p + a) = p + a := IntWalk.i64_in _ ⟨by omega, by omega⟩
 obtain ⟨t, ht⟩ : ∃ t, p + a = t := ⟨_, rfl⟩
 replace w3 := w3.trans ht
 rw [ht]
 have w4 : IntKind.i64.wrap (q - t) = q - t := IntWalk.i64_in _ ⟨by omega, by omega⟩
 obtain ⟨r, hr⟩ : ∃ r, q - t = r := ⟨_, rfl⟩
 replace w4 := w4.trans hr
 rw [hr]
 obtain ⟨u, hu⟩ : ∃ u, min r 25 = u := ⟨_, rfl⟩
 rw [hu]
 have w5 : IntKind.i64.wrap (u + 1) = u + 1 := IntWalk.i64_in _ ⟨by omega, by omega⟩
 obtain ⟨v, hv⟩ : ∃ v, u + 1 = v := ⟨_, rfl⟩
 replace w5 := w5.trans hv
 rw [hv]
 obtain ⟨b2, b3⟩ := emod_in y (show (0 : Int) < v by omega)
 obtain ⟨b, hb⟩ : ∃ z, y % v = z := ⟨_, rfl⟩
 rw [hb] at b2 b3 ⊢
 have w6 : IntKind.i64.wrap (t + b) = t + b := IntWalk.i64_in _ ⟨by omega, by omega⟩
 have CM0 : Hid (∀ W, Calls Tryz.prog 42 #[.int .i64 x, .int .i64 k] W fun e w' => e = .returned (.int .i64 a) ∧ Below W.heap.size W w') := Lib.hid fun W => int_to (smod_to x k W (by omega) (by omega)) ha
 have CM1 : Hid (∀ W, Calls Tryz.prog 42 #[.int .i64 y, .int .i64 v] W fun e w' => e = .returned (.int .i64 b) ∧ Below W.heap.size W w') := Lib.hid fun W => int_to (smod_to y v W (by omega) (by omega)) hb
 have HU := Lib.hid hu
 clear ha hb b0 b1 b2 b3 hv hr ht hk hg hle hlo hhi hu
 have HE := Lib.hid (show Below w.heap.size w ((w.alloc (.cells #[.slice A n c] 48)).alloc (.cells #[.int .i64 0, .int .i64 0] 30)) from below_a2 (Below.refl _ _))
 have HK := Lib.hid (boxes2' w 48 30 #[.slice A n c] #[.int .i64 0, .int .i64 0])
 go_enter Tryz.func48, Tryz.ntmps48
 go_upto_region 1 with fail
 obtain ⟨W0, hW0⟩ : ∃ W0 : World, ((w.alloc (.cells #[.slice A n c] 48)).alloc (.cells #[.int .i64 0, .int .i64 0] 30)) = W0 := ⟨_, rfl⟩
 rw [hW0] at HE HK ⊢
 clear hW0
 obtain ⟨G, hG⟩ : ∃ G, w.heap.size = G := ⟨_, rfl⟩
 rw [hG] at HK ⊢
 have HG := Lib.hid hG; clear hG
 have hS0 : Boxes W0.drew [(G + 1, 30, #[.int .i64 0, .int .i64 0]), (G, 48, #[.slice A n c])] := HK.out
 have HEd := Lib.hid HE.out.drew
 have HKd := Lib.hid hS0
 refine wp_region_held_drew (S := fun w' => Boxes w' [(G + 1, 30, #[.int .i64 0, .int .i64 0]), (G, 48, #[.slice A n c])]) (by kernel_rfl) hS0 (fun hHeld => ?_)
 obtain ⟨W1, hW⟩ : ∃ W', W0.drew = W' := ⟨_, rfl⟩
 rw [hW] at HEd HKd hHeld ⊢
 clear hW hS0 HE HK
 refine tK 9 (i := 0) (v := tv A n c) rfl rfl (by kernel_rfl) ?_ hHeld ?_
 ·intro w hSw; have hz := (hSw _ (.tail _ (.head _))); have c0 := hz.cell 0; simp at c0; clear hz hSw; go_simp; try with_reducible rfl
 simp only [uZ, uS]
 refine tK 11 (i := 2) (v := tv A n c) rfl rfl (by kernel_rfl) ?_ hHeld ?_
 ·intro w hSw; have hz := (hSw _ (.tail _ (.head _))); have c0 := hz.cell 0; simp at c0; clear hz hSw; go_simp; try with_reducible rfl
 simp only [uZ, uS]
 refine wpAnyH_ready (rs := [1]) (by kernel_rfl) (by simp) ?_
 refine AllReadyH.cons rfl (fun K hK => ?_) AllReadyH.nil
 go_simp
 (with_reducible refine (LP.out _ HEd.out).mono ?_)
 rintro e z1 ⟨rfl, hq⟩
 have HE_1 := Lib.hid (below_then HEd.out hq); have HK_1 := Lib.hid (HKd.out.on hq)
 have hS := hHeld.on hq
 clear hq
 refine hK.out _ _ (hS) (fun hHeld2 => ?_)
 try simp only [Act.put, uA, uZ, uS]
 clear hK K hHeld
 have hHeld := hHeld2
 clear hHeld2
 clear hS HEd HKd
 refine wpAnyH_ready (rs := [3]) (by kernel_rfl) (by simp) ?_
 refine AllReadyH.cons rfl (fun K hK => ?_) AllReadyH.nil
 go_simp
 (with_reducible refine (FP.out _ HE_1.out).mono ?_)
 rintro e z2 ⟨rfl, hq⟩
 have HE_2 := Lib.hid (below_then HE_1.out hq); have HK_2 := Lib.hid (HK_1.out.on hq)
 have hS := hHeld.on hq
 clear hq
 refine hK.out _ _ (hS) (fun hHeld2 => ?_)
 try simp only [Act.put, uA, uZ, uS]
 clear hK K hHeld
 have hHeld := hHeld2
 clear hHeld2
 clear hS HE_1 HK_1
 refine tK 13 (i := 4) (v := .int .i64 g) rfl rfl (by kernel_rfl) ?_ hHeld ?_
 ·intro w hSw; clear hSw; go_simp; first | done | exact w1
 simp only [uZ, uS]
 refine tK 14 (i := 5) (v := .int .i64 k) rfl rfl (by kernel_rfl) ?_ hHeld ?_
 ·intro w hSw; clear hSw; go_simp; first | done | exact w2
 simp only [uZ, uS]
 refine tK 7 (i := 6) (v := .int .i64 k) rfl rfl (by kernel_rfl) ?_ hHeld ?_
 ·intro w hSw; clear hSw; go_simp; try with_reducible rfl
 simp only [uZ, uS]
 refine wpAnyH_done (by kernel_rfl) ?_ _
 clear hHeld
 have t_ := HK_2.out _ (.tail _ (.head _))
 have t_0 := t_.cell 0
 simp at t_0
 clear t_
 go_wp2_with fail
 refine (FP.out _ HE_2.out).mono ?_
 rintro e y1 ⟨rfl, hq⟩
 have HE1 := Lib.hid (below_then HE_2.out hq); have HK1 := Lib.hid (HK_2.out.on hq)
 clear hq HE_2 HK_2 t_0 FP
 have t_ := HK1.out _ (.tail _ (.head _))
 have t_0 := t_.cell 0
 simp at t_0
 clear t_
 go_wp2_with fail
 refine (CM0.out _).mono ?_
 rintro e y2 ⟨rfl, hq⟩
 have HE2 := Lib.hid (below_then HE1.out hq); have HK2 := Lib.hid (HK1.out.on hq)
 clear hq HE1 HK1 t_0 CM0
 have t_ := HK2.out _ (.tail _ (.head _))
 have t_0 := t_.cell 0
 simp at t_0
 clear t_
 go_wp2_with fail
 refine (LP.out _ HE2.out).mono ?_
 rintro e y3 ⟨rfl, hq⟩
 have HE3 := Lib.hid (below_then HE2.out hq); have HK3 := Lib.hid (HK2.out.on hq)
 clear hq HE2 HK2 t_0 LP
 have hu := HU.out
 have t_ := HK3.out _ (.tail _ (.head _))
 have t_0 := t_.cell 0
 simp at t_0
 clear t_
 go_wp2_with fail
 refine (CM1.out _).mono ?_
 rintro e y4 ⟨rfl, hq⟩
 have HE4 := Lib.hid (below_then HE3.out hq); have HK4 := Lib.hid (HK3.out.on hq)
 clear hq HE3 HK3 t_0 CM1
 have t_ := HK4.out _ (.tail _ (.head _))
 have t_0 := t_.cell 0
 simp at t_0
 clear t_
 have z_ := HK4.out _ (.head _)
 have z_0 := z_.cell 0
 have z_f0 := z_.frozen 0
 have z_1 := z_.cell 1
 have z_f1 := z_.frozen 1
 have z_l := z_.lt
 simp at z_0 z_f0 z_1 z_f1
 clear z_
 go_wp2
 refine bodyPost_ret (v := rv t (t + b)) (by simp [results, Tryz.results48, go_sem, z_0, z_1]) rfl ⟨rfl, ?_⟩
 have hg := HG.out
 repeat (first | exact HE4.out | refine Below.setCell ?_ (by simp <;> omega) _)
end

section
open Go.RowKit

def xsTo (fi : Int) (st : List Int) : Nat → List Int × Int
  | 0 => ([fi % 50], fi % 50)
  | k + 1 => match st[k]? with
    | some s => ((xsTo fi st k).1 ++ [(xsTo fi st k).2 + (1 + s % 40)], (xsTo fi st k).2 + (1 + s % 40))
    | none => xsTo fi st k
def xsS (fi : Int) (st : List Int) : List Int := if st.length = 0 then (xsTo fi st 0).1 ++ [(xsTo fi st 0).2 + 10] else (xsTo fi st (min st.length 7)).1
theorem xsTo_succ {fi : Int} {st : List Int} {k : Nat} {s : Int} (h : st[k]? = some s) : xsTo fi st (k + 1) = ((xsTo fi st k).1 ++ [(xsTo fi st k).2 + (1 + s % 40)], (xsTo fi st k).2 + (1 + s % 40)) := by
  rw [xsTo, h]
theorem xsTo_in (fi : Int) (st : List Int) : ∀ k : Nat, 0 ≤ (xsTo fi st k).2 ∧ (xsTo fi st k).2 ≤ 49 + 40 * k
  | 0 => by
    obtain ⟨h1, h2⟩ := emod_in fi (show (0 : Int) < 50 by omega)
    exact ⟨h1, by show fi % 50 ≤ _; omega⟩
  | k + 1 => by
    obtain ⟨h1, h2⟩ := xsTo_in fi st k
    rw [xsTo]
    split
    · rename_i s _
      obtain ⟨h3, h4⟩ := emod_in s (show (0 : Int) < 40 by omega)
      dsimp only
      exact ⟨by omega, by push_cast; omega⟩
    · exact ⟨h1, by push_cast; omega⟩
theorem boxes_grown {w w' : World} {row : Option Nat} {L : List (Nat × TypeId × Array Value)} (h : Boxes w L) (hg : w.grownBy w' row) (hr : ∀ p ∈ L, some p.1 ≠ row) : Boxes w' L := fun p hp => (h p hp).grown hg (hr p hp)
theorem xsTo_len (fi : Int) (st : List Int) : ∀ k : Nat, k ≤ st.length → (xsTo fi st k).1.length = k + 1
  | 0, _ => rfl
  | k + 1, h => by
    have q := xsTo_len fi st k (by omega)
    rw [xsTo, List.getElem?_eq_getElem (show k < st.length by omega)]
    dsimp only
    rw [List.length_append, q]
    rfl

set_option maxRecDepth 100000 in
set_option maxHeartbeats 4000000 in
theorem sxs_to (r : RawD) (m : RawM) (w : World) (hi : RawIn w r m) :
  Calls Tryz.prog 89 #[rawV r m] w (GivesInts w (xsS r.fi r.st)) := by
 obtain ⟨id, fi, st, vs⟩ := r
 obtain ⟨S, sn, sc, V, vn, vc⟩ := m
 obtain ⟨i0, i1, i2, i3, i4⟩ := info_parts Tryz.info3
 obtain ⟨hn, hm, hS, _, _, _⟩ := hi
 dsimp only at hn hm hS
 have CM0 : Hid (∀ W, Calls Tryz.prog 42 #[.int .i64 fi, .int .i64 50] W fun e w' => e = .returned (.int .i64 (fi % 50)) ∧ Below W.heap.size W w') := Lib.hid fun W => smod_to fi 50 W (by omega) (by omega)
 have HN := Lib.hid hn; have HS := Lib.hid hS
 clear hn hm hS
 have HE := Lib.hid (show Below w.heap.size w (w.alloc (.cells #[.int .i64 id, .int .i64 fi, .slice S sn sc, .slice V vn vc] 41)) from below_alloc1 w _)
 have HK := Lib.hid (boxes1' w 41 #[.int .i64 id, .int .i64 fi, .slice S sn sc, .slice V vn vc])
 go_enter Tryz.func89, Tryz.ntmps89
 go_upto_region 1 with fail
 obtain ⟨W0, hW0⟩ : ∃ W0 : World, (w.alloc (.cells #[.int .i64 id, .int .i64 fi, .slice S sn sc, .slice V vn vc] 41)) = W0 := ⟨_, rfl⟩
 rw [hW0] at HE HK ⊢
 clear hW0
 obtain ⟨G, hG⟩ : ∃ G, w.heap.size = G := ⟨_, rfl⟩
 rw [hG] at HK ⊢
 have HG := Lib.hid hG; clear hG
 have r_ := HK.out _ (.head _)
 have r_1 := r_.cell 1
 simp at r_1
 clear r_
 go_wp2_with fail
 refine (CM0.out _).mono ?_
 rintro e y1 ⟨rfl, hq⟩
 have HE1 := Lib.hid (below_then HE.out hq); have HK1 := Lib.hid (HK.out.on hq)
 clear hq HE HK r_1 CM0
 go_wp2_with fail
 have H0 := xsTo_in fi st 0
 go_loopw [3, 4, 5] (fun x v i wr => ∃ (k : Nat) (y : Int), k ≤ sn ∧ k ≤ 7 ∧ x = .int .i64 y ∧ i = .int .i64 k ∧ OwnInts (G + 1) wr v (xsTo fi st k).1 ∧ (xsTo fi st k).2 = y ∧ Below w.heap.size w wr ∧ Boxes wr [(G, 41, #[.int .i64 id, .int .i64 fi, .slice S sn sc, .slice V vn vc])]) (fun _ _ i _ => 7 - (intOf i).toNat)
 case atStart => exact ⟨0, _, by omega, by omega, rfl, rfl, (by have h := own_one y1 (G + 1) (fi % 50) (HK1.out _ (.head _)).lt; exact h), rfl, below_then HE1.out (below_alloc1 _ _), HK1.out.on (below_alloc1 _ _)⟩
 case round =>
  obtain ⟨k, y, hk, hk7, rfl, rfl, hown, hy, hB, hX⟩ := hrel
  have HB := Lib.hid hB; have HX := Lib.hid hX; have HO := Lib.hid hown; have HY := Lib.hid hy
  have hin := xsTo_in fi st k
  rw [hy] at hin
  have hln := xsTo_len fi st k (by rw [← HN.out]; exact hk)
  clear hB hX hown hy HE1 HK1 H0
  have r_ := HX.out _ (.head _)
  have r_2 := r_.cell 2
  simp at r_2
  clear r_
  by_cases hlt : k < sn ∧ k < 7
  ·obtain ⟨h1, h2⟩ := hlt
   have k1 : (k : Int) < (sn : Int) := by omega
   have k2 : (k : Int) < 7 := by omega
   have k3 : (0 : Int) ≤ (k : Int) := by omega
   obtain ⟨s, hs⟩ : ∃ s, st[k]? = some s := ⟨_, List.getElem?_eq_getElem (show k < st.length by rw [← HN.out]; exact h1)⟩
   obtain ⟨b, o, rfl, lb, hc⟩ : ∃ b o, S = some ⟨b, o, none⟩ ∧ b < w.heap.size ∧ IntsMem w b o st := by
    rcases HS.out with h | h
    ·exfalso; rw [h] at hs; cases hs
    ·exact h
   have c0 := hc k s hs
   rw [← HB.out.cell (p := ⟨b, o + k, none⟩) lb] at c0
   have hsc := xsTo_succ (fi := fi) hs
   rw [HY.out] at hsc
   obtain ⟨b0, b1⟩ := emod_in s (show (0 : Int) < 40 by omega)
   have CM : Hid (∀ W, Calls Tryz.prog 42 #[.int .i64 s, .int .i64 40] W fun e w' => e = .returned (.int .i64 (s % 40)) ∧ Below W.heap.size W w') := Lib.hid fun W => smod_to s 40 W (by omega) (by omega)
   obtain ⟨a, ha⟩ : ∃ a, s % 40 = a := ⟨_, rfl⟩
   rw [ha] at b0 b1 CM hsc
   have w1 : IntKind.i64.wrap (1 + a) = 1 + a := IntWalk.i64_in _ ⟨by omega, by omega⟩
   have w2 : IntKind.i64.wrap (y + (1 + a)) = y + (1 + a) := IntWalk.i64_in _ ⟨by omega, by omega⟩
   have hin2 : 0 ≤ y + (1 + a) := by omega
   have HSC := Lib.hid hsc; have HLN := Lib.hid hln
   clear hsc hln ha b0 b1 hin hin2 hs hc
   go_wp2_with fail
   refine (CM.out _).mono ?_
   rintro e w2' ⟨rfl, hq⟩
   have HB2 := Lib.hid (below_then HB.out hq); have HX2 := Lib.hid (HX.out.on hq); have HO2' := Lib.hid (show OwnInts (G + 1) w2' u4 (xsTo fi st k).1 from World.ownsRow.kept (show wr.ownsRow (G + 1) 3 1 u4 _ _ from HO.out) (below_grownNone hq) (by cases hv : Value.ownBlock u4 <;> simp))
   clear hq HB HX HO c0 r_2 CM
   have HO2 := Lib.hid (HO2'.out.alloc (.cells #[.int .i64 (y + (1 + a))] 3)); clear HO2'
   have HCE := Lib.hid (cell_one w2' (y + (1 + a)) 3)
   go_wp2_with (at_builtin; refine wpList_append_own _ rfl (.tmp 31) (.tmp 33) 39 rfl (G + 1) 3 i0 (.int .i64 0) 1 8 Tryz.underlying39 i1 i2 i3 i4 rfl (by decide) _ _ _ rfl HO2.out ⟨w2'.heap.size, 0, none⟩ 1 1 [.int .i64 (y + (1 + a))] rfl rfl HCE.out ?d2 ?d3 ?d4 ?d5 ?_)
   case d2 => simp [Value.oneCell']
   case d3 => simp only [maxLen, List.length_map]; have := HLN.out; omega
   case d4 => simp only [List.length_map]; have := HLN.out; omega
   case d5 => have := (HX2.out _ (.head _)).lt; simp; omega
   intro v' w5 hown1 hgrow _
   have hb5 := (HB2.out.alloc HB2.out.size _).grown hgrow (by have := HB2.out.size; simp; omega) (fun j hj => by have := (World.ownsRow.lt HO2.out j hj).1; have := HG.out; omega)
   have hX5 := boxes_grown (HX2.out.on (below_alloc1 w2' (.cells #[.int .i64 (y + (1 + a))] 3))) hgrow (fun p hp hj => by
    have q := (World.ownsRow.lt HO2.out _ hj.symm).1
    simp only [List.mem_cons, List.not_mem_nil, or_false] at hp
    rw [hp] at q; dsimp only at q; have := HG.out; omega)
   have hown2 : OwnInts (G + 1) w5 v' (xsTo fi st (k + 1)).1 := by
    rw [HSC.out]; exact own_snoc hown1
   clear hown1 hgrow
   go_wp2
   go_roundw
   case rel => exact ⟨k + 1, _, by omega, by omega, rfl, by go_num, hown2, by rw [HSC.out], hb5, hX5⟩
   case measure => simp [intOf]; omega
  have hlenN : (ints (xsTo fi st k).1).length = k + 1 := by rw [List.length_map, hln]
  have HO1 : Hid (wr.ownsRow (G + 1) 3 1 u4 (k + 1) (ints (xsTo fi st k).1)) := Lib.hid (by
   have q := HO.out
   unfold OwnInts at q
   rw [hlenN] at q
   exact q)
  obtain ⟨g2, cap, rfl, _, _⟩ := HO1.out.form (by omega)
  by_cases h0 : sn = 0
  ·-- no step: a second place ten behind the first
   have hk0 : k = 0 := by omega
   subst hk0
   have hfin : xsS fi st = (xsTo fi st 0).1 ++ [y + 10] := by unfold xsS; rw [if_pos (by have := HN.out; omega), HY.out]
   have HF := Lib.hid hfin
   have k1 : ¬ ((0 : Nat) : Int) < (sn : Int) := by omega
   have k1' : ¬ (0 : Int) < (sn : Int) := by omega
   have w3 : IntKind.i64.wrap (y + 10) = y + 10 := IntWalk.i64_in _ ⟨by omega, by omega⟩
   have HO2 := Lib.hid (World.ownsRow.alloc (o := .cells #[.int .i64 (y + 10)] 3) HO1.out)
   have HCE := Lib.hid (cell_one wr (y + 10) 3)
   have HLN := Lib.hid hln
   clear hin hln hfin hlenN HO HO1 hlt h0 hk hk7
   go_wp2_with (at_builtin; refine wpList_append_own _ rfl (.tmp 38) (.tmp 41) 39 rfl (G + 1) 3 i0 (.int .i64 0) 1 8 Tryz.underlying39 i1 i2 i3 i4 rfl (by decide) _ _ _ rfl HO2.out ⟨wr.heap.size, 0, none⟩ 1 1 [.int .i64 (y + 10)] rfl rfl HCE.out ?d2 ?d3 ?d4 ?d5 ?_)
   case d2 => simp [Value.oneCell']
   case d3 => simp only [maxLen]; omega
   case d5 => have := (HX.out _ (.head _)).lt; simp; omega
   intro v' w5 hown1 hgrow _
   have hb5 := (HB.out.alloc HB.out.size _).grown hgrow (by have := HB.out.size; simp; omega) (fun j hj => by have := (World.ownsRow.lt HO2.out j hj).1; have := HG.out; omega)
   have hown2 : OwnInts (G + 1) w5 v' (xsS fi st) := by
    rw [HF.out]; exact own_snoc (by rw [HLN.out]; exact hown1)
   clear hown1 hgrow
   go_wp2
   go_ret
   exact ⟨_, rfl, World.ownsRow.mono (show w5.ownsRow (G + 1) 3 1 v' _ _ from hown2) (by have := HG.out; omega), hb5⟩
  have hfin : xsS fi st = (xsTo fi st k).1 := by
   unfold xsS; rw [if_neg (by have := HN.out; omega), show min st.length 7 = k by have := HN.out; omega]
  have hown2 : OwnInts (G + 1) wr (.slice (some ⟨g2, 0, none⟩) (k + 1) cap) (xsS fi st) := by rw [hfin]; exact HO.out
  have HO3 := Lib.hid hown2
  have k3 : ¬ ((k : Int) + 1) < 2 := by omega
  have k4 : ¬ (((k + 1 : Nat) : Int)) < 2 := by omega
  rcases (show ((k : Int) < (sn : Int) ∧ ¬ (k : Int) < 7) ∨ ¬ (k : Int) < (sn : Int) by omega) with ⟨k1, k2⟩ | k1
  all_goals
   clear hin hln hfin hown2 hlenN HO HO1 hlt h0 hk hk7
   go_wp2
   go_ret
   exact ⟨_, rfl, World.ownsRow.mono (show wr.ownsRow (G + 1) 3 1 (.slice (some ⟨g2, 0, none⟩) (k + 1) cap) _ _ from HO3.out) (by have := HG.out; omega), HB.out⟩
end

section
open Go.RowKit

def rowsTo (xs : List Int) (f : Nat → Int × Int) : Nat → List P3
  | 0 => []
  | k + 1 => match xs[k]? with
    | some x => rowsTo xs f k ++ [(x, f k)]
    | none => rowsTo xs f k
theorem rowsTo_succ {xs : List Int} {f : Nat → Int × Int} {k : Nat} {x : Int} (h : xs[k]? = some x) : rowsTo xs f (k + 1) = rowsTo xs f k ++ [(x, f k)] := by rw [rowsTo, h]
theorem rowsTo_len (xs : List Int) (f : Nat → Int × Int) : ∀ k : Nat, k ≤ xs.length → (rowsTo xs f k).length = k
  | 0, _ => rfl
  | k + 1, h => by
    have q := rowsTo_len xs f k (by omega)
    rw [rowsTo, List.getElem?_eq_getElem (show k < xs.length by omega)]
    dsimp only
    rw [List.length_append, q]
    rfl
def GivesT (w : World) (L : List P3) (e : Ending) (w' : World) : Prop := ∃ v, e = .returned (.agg #[v]) ∧ OwnPts w.heap.size w' v L ∧ Below w.heap.size w w'
theorem addr_addY (b o i : Nat) : (⟨b, o, none⟩ : Addr).add i = ⟨b, o + i, none⟩ := by
  by_cases h : i = 0
  · subst h; simp [Addr.add]
  · simp [Addr.add, h]
theorem own_ints_mem {base : Nat} {w : World} {v : Value} {l : List Int} (h : OwnInts base w v l) (hp : 0 < l.length) : ∃ g cap, v = .slice (some ⟨g, 0, none⟩) l.length cap ∧ base ≤ g ∧ g < w.heap.size ∧ IntsMem w g 0 l := by
  have h' : w.ownsRow base 3 1 v l.length (ints l) := by
    have q := h
    unfold OwnInts at q
    rw [List.length_map] at q
    exact q
  obtain ⟨g, cap, rfl, h1, h2⟩ := h'.form hp
  refine ⟨g, cap, rfl, h1, h2, fun k x hx => ?_⟩
  have q := h'.cells (g := g) rfl k (.int .i64 x) (by simp [hx])
  rw [addr_addY] at q
  simpa using q
theorem own_ints_memN {base N : Nat} {w : World} {v : Value} {l : List Int} (h : OwnInts base w v l) (hN : l.length = N) (hp : 0 < N) : ∃ g cap, v = .slice (some ⟨g, 0, none⟩) N cap ∧ base ≤ g ∧ g < w.heap.size ∧ IntsMem w g 0 l := by
  subst hN; exact own_ints_mem h hp
theorem OwnPts.monoY {base base' : Nat} {w : World} {v : Value} {L : List P3} (h : w.ownsRow base 93 3 v L.length (ptCells L)) (hb : base' ≤ base) : OwnPts base' w v L := World.ownsRow.mono h hb
theorem own_push {base : Nat} {w : World} {v : Value} {L : List P3} {x : P3} (h : w.ownsRow base 93 3 v (L.length + 1) (ptCells L ++ [.int .i64 x.1, .int .i64 x.2.1, .int .i64 x.2.2])) : OwnPts base w v (L ++ [x]) := by
  unfold OwnPts
  rw [List.length_append, ptCells_snoc]
  exact h
theorem xsS_len (fi : Int) (st : List Int) : 2 ≤ (xsS fi st).length ∧ (xsS fi st).length ≤ 8 := by
  unfold xsS
  split
  · simp [xsTo]
  · have h := xsTo_len fi st (min st.length 7) (by omega)
    rw [h]; omega
def freeF (vs : List Int) (fr mo : Int) (k : Nat) : Int × Int := (pickS vs (fr + 2 * k) % mo, pickS vs (fr + 2 * k) % mo + pickS vs (fr + 2 * k + 1) % (mo / 4 + 1))

set_option maxRecDepth 100000 in
set_option maxHeartbeats 4000000 in
theorem sfree_to (r : RawD) (m : RawM) (fr mo : Int) (w : World) (hi : RawIn w r m) (h0 : 0 ≤ fr) (h1 : fr ≤ 1000) (g0 : 0 < mo) (g1 : mo ≤ 1000000) :
  Calls Tryz.prog 45 #[rawV r m, .int .i64 fr, .int .i64 mo] w (GivesT w (rowsTo (xsS r.fi r.st) (freeF r.vs fr mo) (xsS r.fi r.st).length)) := by
 obtain ⟨id, fi, st, vs⟩ := r
 obtain ⟨S, sn, sc, V, vn, vc⟩ := m
 obtain ⟨i0, i1, i2, i3, i4⟩ := info_parts Tryz.infoP
 dsimp only
 have HX2' := xsS_len fi st
 have CX' := fun W (hW : Below w.heap.size w W) => sxs_to ⟨id, fi, st, vs⟩ ⟨S, sn, sc, V, vn, vc⟩ W (hi.below hW)
 dsimp only at CX'
 obtain ⟨XS, hXS⟩ : ∃ l, xsS fi st = l := ⟨_, rfl⟩
 rw [hXS] at HX2' CX' ⊢
 obtain ⟨N, hN⟩ : ∃ N, XS.length = N := ⟨_, rfl⟩
 rw [hN] at HX2' ⊢
 have CX : Hid (∀ W, Below w.heap.size w W → Calls Tryz.prog 89 #[.agg #[.int .i64 id, .int .i64 fi, .slice S sn sc, .slice V vn vc]] W (GivesInts W XS)) := Lib.hid CX'
 have HV : Hid (∀ W i, Below w.heap.size w W → Calls Tryz.prog 43 #[.slice V vn vc, .int .i64 i] W fun e w' => e = .returned (.int .i64 (pickS vs i)) ∧ Below W.heap.size W w') := Lib.hid fun W i hW => spick_to V vn vc vs i W hi.2.2.2.1 hi.2.2.2.2.1 (hi.2.2.2.2.2.below hW)
 have HX2 := Lib.hid HX2'; have HN := Lib.hid hN
 clear hi HX2' CX' hXS hN
 have HE := Lib.hid (show Below w.heap.size w ((w.alloc (.cells #[.int .i64 id, .int .i64 fi, .slice S sn sc, .slice V vn vc] 41)).alloc (.cells #[.slice none 0 0] 48)) from below_a2 (Below.refl _ _))
 have HK := Lib.hid (boxes2' w 41 48 #[.int .i64 id, .int .i64 fi, .slice S sn sc, .slice V vn vc] #[.slice none 0 0])
 go_enter Tryz.func45, Tryz.ntmps45
 go_upto_region 1 with fail
 obtain ⟨W0, hW0⟩ : ∃ W0 : World, ((w.alloc (.cells #[.int .i64 id, .int .i64 fi, .slice S sn sc, .slice V vn vc] 41)).alloc (.cells #[.slice none 0 0] 48)) = W0 := ⟨_, rfl⟩
 rw [hW0] at HE HK ⊢
 clear hW0
 obtain ⟨G, hG⟩ : ∃ G, w.heap.size = G := ⟨_, rfl⟩
 rw [hG] at HK ⊢
 have HG := Lib.hid hG; clear hG
 have r_ := HK.out _ (.tail _ (.head _))
 have r_0 := r_.cell 0
 have r_1 := r_.cell 1
 have r_2 := r_.cell 2
 have r_3 := r_.cell 3
 simp at r_0 r_1 r_2 r_3
 clear r_
 go_wp2_with fail
 refine (CX.out _ HE.out).mono ?_
 rintro e y1 ⟨xv, rfl, hox, hq⟩
 have HE1 := Lib.hid (below_then HE.out hq); have HK1 := Lib.hid (HK.out.on hq)
 clear hq HE HK r_0 r_1 r_2 r_3 CX
 obtain ⟨xb, xc, rfl, _, xlt, hxm⟩ := own_ints_memN hox HN.out (by have := HX2.out; omega)
 have HXM := Lib.hid hxm; have HXL := Lib.hid xlt
 clear hxm xlt hox
 go_upto_region 3 with fail
 have HT2 := Lib.hid (Blk.new y1 48 #[.slice none 0 0]); have HB2 := Lib.hid (below_alloc1 y1 (.cells #[.slice none 0 0] 48))
 obtain ⟨W2, hW⟩ : ∃ W', y1.alloc (.cells #[.slice none 0 0] 48) = W' := ⟨_, rfl⟩
 rw [hW] at HT2 HB2 ⊢
 clear hW
 obtain ⟨M, hM⟩ : ∃ M, y1.heap.size = M := ⟨_, rfl⟩
 rw [hM] at HT2 ⊢
 have HMY := Lib.hid hM; clear hM
 go_wp2_with fail
 go_loopw [9] (fun i wr => ∃ (k : Nat) (v : Value), k ≤ N ∧ i = .int .i64 k ∧ Below y1.heap.size y1 wr ∧ Blk wr M 48 #[v] ∧ OwnPts (M + 1) wr v (rowsTo XS (freeF vs fr mo) k)) (fun i _ => N - (intOf i).toNat)
 case atStart => exact ⟨0, _, by omega, rfl, HB2.out, HT2.out, World.ownsRow_nil _ _ _ _⟩
 case round =>
  obtain ⟨k, v, hk, rfl, hB, hT, hO⟩ := hrel
  have HB := Lib.hid hB; have HT := Lib.hid hT; have HOWN := Lib.hid hO
  clear hB hT hO HT2 HB2
  have HX := Lib.hid (HK1.out.on HB.out); have HE := Lib.hid (below_then HE1.out HB.out)
  by_cases hlt : k < N
  ·skip
   have k1 : (k : Int) < (N : Int) := by omega
   have k3 : (0 : Int) ≤ (k : Int) := by omega
   have hk8 : k < 8 := by have := HX2.out; omega
   obtain ⟨x, hx⟩ : ∃ x, XS[k]? = some x := ⟨_, List.getElem?_eq_getElem (show k < XS.length by rw [HN.out]; exact hlt)⟩
   have HS := Lib.hid (rowsTo_succ (f := freeF vs fr mo) hx)
   have HCX : Hid (∀ W : World, Below y1.heap.size y1 W → W.cell? ⟨xb, k, none⟩ = some (.int .i64 x)) := Lib.hid fun W hW => by
    have q := HXM.out k x hx
    rw [← hW.cell (p := ⟨xb, 0 + k, none⟩) HXL.out] at q
    simpa using q
   have hln := rowsTo_len XS (freeF vs fr mo) k (by rw [HN.out]; exact hk)
   have HLN : Hid ((rowsTo XS (freeF vs fr mo) k).length ≤ 8) := Lib.hid (by omega)
   obtain ⟨LR, hLR⟩ : ∃ l, rowsTo XS (freeF vs fr mo) k = l := ⟨_, rfl⟩
   rw [hLR] at HS HOWN HLN
   clear hLR hln
   obtain ⟨j2, hj2⟩ : ∃ z, 2 * (k : Int) = z := ⟨_, rfl⟩
   have w1 : IntKind.i64.wrap (2 * (k : Int)) = j2 := by rw [IntWalk.i64_in _ ⟨by omega, by omega⟩]; exact hj2
   obtain ⟨a1, ha1⟩ : ∃ z, fr + j2 = z := ⟨_, rfl⟩
   have w2 : IntKind.i64.wrap (fr + j2) = a1 := by rw [IntWalk.i64_in _ ⟨by omega, by omega⟩]; exact ha1
   obtain ⟨a2, ha2⟩ : ∃ z, a1 + 1 = z := ⟨_, rfl⟩
   have w3 : IntKind.i64.wrap (a1 + 1) = a2 := by rw [IntWalk.i64_in _ ⟨by omega, by omega⟩]; exact ha2
   obtain ⟨b0, b1⟩ := emod_in (pickS vs a1) g0
   obtain ⟨q4, hq4⟩ : ∃ z, mo / 4 = z := ⟨_, rfl⟩
   have ht4 : mo.tdiv 4 = q4 := by rw [Int.tdiv_eq_ediv_of_nonneg (by omega)]; exact hq4
   have w4 : IntKind.i64.wrap (mo.tdiv 4) = q4 := by rw [ht4]; exact IntWalk.i64_in _ ⟨by omega, by omega⟩
   obtain ⟨q5, hq5⟩ : ∃ z, q4 + 1 = z := ⟨_, rfl⟩
   have w5 : IntKind.i64.wrap (q4 + 1) = q5 := by rw [IntWalk.i64_in _ ⟨by omega, by omega⟩]; exact hq5
   have hq50 : 0 < q5 ∧ q5 ≤ 1000000 := by omega
   obtain ⟨b2, b3⟩ := emod_in (pickS vs a2) hq50.1
   obtain ⟨P0, hP0⟩ : ∃ z, pickS vs a1 = z := ⟨_, rfl⟩
   obtain ⟨P1, hP1⟩ : ∃ z, pickS vs a2 = z := ⟨_, rfl⟩
   rw [hP0] at b0 b1
   rw [hP1] at b2 b3
   obtain ⟨lo, hlo⟩ : ∃ z, P0 % mo = z := ⟨_, rfl⟩
   obtain ⟨dd, hdd⟩ : ∃ z, P1 % q5 = z := ⟨_, rfl⟩
   rw [hlo] at b0 b1
   rw [hdd] at b2 b3
   obtain ⟨hi, hhi⟩ : ∃ z, lo + dd = z := ⟨_, rfl⟩
   have w6 : IntKind.i64.wrap (lo + dd) = hi := by rw [IntWalk.i64_in _ ⟨by omega, by omega⟩]; exact hhi
   have hF : freeF vs fr mo k = (lo, hi) := by
    unfold freeF
    rw [show fr + 2 * (k : Int) = a1 by omega, show a1 + 1 = a2 by omega, hP0, hP1, show mo / 4 + 1 = q5 by omega, hlo, hdd, hhi]
   rw [hF] at HS
   have CP0 : Hid (∀ W, Below w.heap.size w W → Calls Tryz.prog 43 #[.slice V vn vc, .int .i64 a1] W fun e w' => e = .returned (.int .i64 P0) ∧ Below W.heap.size W w') := Lib.hid fun W hW => int_to (HV.out W a1 hW) hP0
   have CP1 : Hid (∀ W, Below w.heap.size w W → Calls Tryz.prog 43 #[.slice V vn vc, .int .i64 a2] W fun e w' => e = .returned (.int .i64 P1) ∧ Below W.heap.size W w') := Lib.hid fun W hW => int_to (HV.out W a2 hW) hP1
   have CM0 : Hid (∀ W, Calls Tryz.prog 42 #[.int .i64 P0, .int .i64 mo] W fun e w' => e = .returned (.int .i64 lo) ∧ Below W.heap.size W w') := Lib.hid fun W => int_to (smod_to P0 mo W (by omega) (by omega)) hlo
   have CM1 : Hid (∀ W, Calls Tryz.prog 42 #[.int .i64 P1, .int .i64 q5] W fun e w' => e = .returned (.int .i64 dd) ∧ Below W.heap.size W w') := Lib.hid fun W => int_to (smod_to P1 q5 W (by omega) (by omega)) hdd
   clear hF hP0 hP1 hlo hdd hhi hq4 hq5 ht4 hj2 ha1 ha2 b0 b1 b2 b3 hq50 hx
   have r_ := HX.out _ (.tail _ (.head _))
   have r_3 := r_.cell 3
   simp at r_3
   clear r_
   go_wp2_with fail
   refine (CP0.out _ HE.out).mono ?_
   rintro e z1' ⟨rfl, hq⟩
   have HW := Lib.hid hq
   clear hq r_3
   go_wp2_with fail
   refine (CM0.out _).mono ?_
   rintro e z2' ⟨rfl, hq⟩
   have HW := Lib.hid (below_then HW.out hq)
   clear hq CP0 CM0
   go_upto_region 7 with fail
   have hS0 : Below y1.heap.size y1 z2'.drew := (below_then HB.out HW.out).drew
   have HW := Lib.hid HW.out.drew
   refine wp_region_held_drew (S := fun w' => Below y1.heap.size y1 w') (by kernel_rfl) hS0 (fun hHeld => ?_)
   obtain ⟨yq, hW⟩ : ∃ W', z2'.drew = W' := ⟨_, rfl⟩
   rw [hW] at hHeld HW ⊢
   clear hW hS0 HX HE
   refine tK 29 (i := 0) (v := .pointer (some ⟨M, 0, none⟩)) rfl rfl (by kernel_rfl) ?_ hHeld ?_
   ·intro w hSw; clear hSw; go_simp; try with_reducible rfl
   simp only [uZ, uS]
   refine tK 31 (i := 2) (v := .slice (some ⟨xb, 0, none⟩) N xc) rfl rfl (by kernel_rfl) ?_ hHeld ?_
   ·intro w hSw; clear hSw; go_simp; try with_reducible rfl
   simp only [uZ, uS]
   refine tK 32 (i := 3) (v := .int .i64 k) rfl rfl (by kernel_rfl) ?_ hHeld ?_
   ·intro w hSw; clear hSw; go_simp; try with_reducible rfl
   simp only [uZ, uS]
   refine tK 33 (i := 4) (v := .pointer (some ⟨xb, k, none⟩)) rfl rfl (by kernel_rfl) ?_ hHeld ?_
   ·intro w hSw; clear hSw; go_simp; try with_reducible rfl
   simp only [uZ, uS]
   refine tK 34 (i := 5) (v := .int .i64 x) rfl rfl (by kernel_rfl) ?_ hHeld ?_
   ·intro w hSw; have cx := HCX.out _ hSw; clear hSw; go_simp; try with_reducible rfl
   simp only [uZ, uS]
   refine tK 35 (i := 6) (v := .int .i64 lo) rfl rfl (by kernel_rfl) ?_ hHeld ?_
   ·intro w hSw; clear hSw; go_simp; try with_reducible rfl
   simp only [uZ, uS]
   refine tK 36 (i := 7) (v := .int .i64 lo) rfl rfl (by kernel_rfl) ?_ hHeld ?_
   ·intro w hSw; clear hSw; go_simp; try with_reducible rfl
   simp only [uZ, uS]
   refine tK 37 (i := 8) (v := .pointer (some ⟨G, 3, none⟩)) rfl rfl (by kernel_rfl) ?_ hHeld ?_
   ·intro w hSw; clear hSw; go_simp; try with_reducible rfl
   simp only [uZ, uS]
   refine tK 38 (i := 9) (v := .slice V vn vc) rfl rfl (by kernel_rfl) ?_ hHeld ?_
   ·intro w hSw; have hz := ((HK1.out.on hSw) _ (.tail _ (.head _))); have c3 := hz.cell 3; simp at c3; clear hz hSw; go_simp; try with_reducible rfl
   simp only [uZ, uS]
   refine tK 39 (i := 10) (v := .int .i64 fr) rfl rfl (by kernel_rfl) ?_ hHeld ?_
   ·intro w hSw; clear hSw; go_simp; try with_reducible rfl
   simp only [uZ, uS]
   refine tK 40 (i := 11) (v := .int .i64 k) rfl rfl (by kernel_rfl) ?_ hHeld ?_
   ·intro w hSw; clear hSw; go_simp; try with_reducible rfl
   simp only [uZ, uS]
   refine tK 41 (i := 12) (v := .int .i64 j2) rfl rfl (by kernel_rfl) ?_ hHeld ?_
   ·intro w hSw; clear hSw; go_simp; first | done | exact w1
   simp only [uZ, uS]
   refine tK 42 (i := 13) (v := .int .i64 a1) rfl rfl (by kernel_rfl) ?_ hHeld ?_
   ·intro w hSw; clear hSw; go_simp; first | done | exact w2
   simp only [uZ, uS]
   refine tK 43 (i := 14) (v := .int .i64 a2) rfl rfl (by kernel_rfl) ?_ hHeld ?_
   ·intro w hSw; clear hSw; go_simp; first | done | exact w3
   simp only [uZ, uS]
   refine tK 45 (i := 16) (v := .int .i64 mo) rfl rfl (by kernel_rfl) ?_ hHeld ?_
   ·intro w hSw; clear hSw; go_simp; try with_reducible rfl
   simp only [uZ, uS]
   refine tK 46 (i := 17) (v := .int .i64 q4) rfl rfl (by kernel_rfl) ?_ hHeld ?_
   ·intro w hSw; clear hSw; go_simp; first | done | exact w4
   simp only [uZ, uS]
   refine tK 47 (i := 18) (v := .int .i64 q5) rfl rfl (by kernel_rfl) ?_ hHeld ?_
   ·intro w hSw; clear hSw; go_simp; first | done | exact w5
   simp only [uZ, uS]
   refine wpAnyH_ready (rs := [1, 15]) (by kernel_rfl) (by simp) ?_
   refine AllReadyH.cons rfl (fun K hK => ?_) (AllReadyH.cons rfl (fun K hK => ?_) AllReadyH.nil)
   have c1 := (blkOn HT.out HW.out).cell 0
   simp at c1
   go_simp
   refine hK.out _ _ hHeld (fun hHeld2 => ?_)
   clear c1
   try simp only [Act.put, uA, uZ, uS]
   clear hK K hHeld
   have hHeld := hHeld2
   clear hHeld2
   refine wpAnyH_ready (rs := [15]) (by kernel_rfl) (by simp) ?_
   refine AllReadyH.cons rfl (fun K hK => ?_) AllReadyH.nil
   go_simp
   (with_reducible refine (CP1.out _ (below_then HE1.out hHeld)).mono ?_)
   rintro x y ⟨rfl, hq⟩
   have HW := Lib.hid (below_then HW.out hq)
   refine hK.out _ _ (below_then hHeld hq) (fun hHeld2 => ?_)
   clear hq
   try simp only [Act.put, uA, uZ, uS]
   clear hK K hHeld
   have hHeld := hHeld2
   clear hHeld2
   refine wpAnyH_ready (rs := [19]) (by kernel_rfl) (by simp) ?_
   refine AllReadyH.cons rfl (fun K hK => ?_) AllReadyH.nil
   go_simp
   (with_reducible refine (CM1.out _).mono ?_)
   rintro x y ⟨rfl, hq⟩
   have HW := Lib.hid (below_then HW.out hq)
   refine hK.out _ _ (below_then hHeld hq) (fun hHeld2 => ?_)
   clear hq
   try simp only [Act.put, uA, uZ, uS]
   clear hK K hHeld
   have hHeld := hHeld2
   clear hHeld2
   refine tK 49 (i := 20) (v := .int .i64 hi) rfl rfl (by kernel_rfl) ?_ hHeld ?_
   ·intro w hSw; clear hSw; go_simp; first | done | exact w6
   simp only [uZ, uS]
   refine tK 50 (i := 21) (v := .agg #[.int .i64 x, .int .i64 lo, .int .i64 hi]) rfl rfl (by kernel_rfl) ?_ hHeld ?_
   ·intro w hSw; clear hSw; go_simp; try with_reducible rfl
   simp only [uZ, uS]
   refine wpAnyH_ready (rs := [22]) (by kernel_rfl) (by simp) ?_
   refine AllReadyH.cons rfl (fun K hK => ?_) AllReadyH.nil
   rename World => yq
   go_simp
   have HNB := Lib.hid (World.news_of_block (cs := #[.int .i64 x, .int .i64 lo, .int .i64 hi]) (t := 93) (fr := (0, 0)) (heap_alloc_new yq (.cells #[.int .i64 x, .int .i64 lo, .int .i64 hi] 93)))
   have HYZ := Lib.hid (World.size_alloc yq (.cells #[.int .i64 x, .int .i64 lo, .int .i64 hi] 93))
   have HW := Lib.hid (below_then HW.out (below_alloc1 yq (.cells #[.int .i64 x, .int .i64 lo, .int .i64 hi] 93)))
   refine hK.out _ _ (below_then hHeld (below_alloc1 yq (.cells #[.int .i64 x, .int .i64 lo, .int .i64 hi] 93))) (fun hHeld2 => ?_)
   try simp only [Act.put, uA, uZ, uS]
   clear hK K hHeld
   have hHeld := hHeld2
   clear hHeld2
   obtain ⟨ya, hW⟩ : ∃ W', yq.alloc (.cells #[.int .i64 x, .int .i64 lo, .int .i64 hi] 93) = W' := ⟨_, rfl⟩
   rw [hW] at HW hHeld HNB HYZ ⊢
   clear hW
   obtain ⟨Z, hZ⟩ : ∃ Z, yq.heap.size = Z := ⟨_, rfl⟩
   rw [hZ] at HNB HYZ ⊢
   clear hZ
   rotate_left
   go_simp
   (with_reducible refine (CP1.out _ (below_then HE1.out hHeld)).mono ?_)
   rintro x y ⟨rfl, hq⟩
   have HW := Lib.hid (below_then HW.out hq)
   refine hK.out _ _ (below_then hHeld hq) (fun hHeld2 => ?_)
   clear hq
   try simp only [Act.put, uA, uZ, uS]
   clear hK K hHeld
   have hHeld := hHeld2
   clear hHeld2
   refine wpAnyH_ready (rs := [1, 19]) (by kernel_rfl) (by simp) ?_
   refine AllReadyH.cons rfl (fun K hK => ?_) (AllReadyH.cons rfl (fun K hK => ?_) AllReadyH.nil)
   have c1 := (blkOn HT.out HW.out).cell 0
   simp at c1
   go_simp
   refine hK.out _ _ hHeld (fun hHeld2 => ?_)
   clear c1
   try simp only [Act.put, uA, uZ, uS]
   clear hK K hHeld
   have hHeld := hHeld2
   clear hHeld2
   refine wpAnyH_ready (rs := [19]) (by kernel_rfl) (by simp) ?_
   refine AllReadyH.cons rfl (fun K hK => ?_) AllReadyH.nil
   go_simp
   (with_reducible refine (CM1.out _).mono ?_)
   rintro x y ⟨rfl, hq⟩
   have HW := Lib.hid (below_then HW.out hq)
   refine hK.out _ _ (below_then hHeld hq) (fun hHeld2 => ?_)
   clear hq
   try simp only [Act.put, uA, uZ, uS]
   clear hK K hHeld
   have hHeld := hHeld2
   clear hHeld2
   refine tK 49 (i := 20) (v := .int .i64 hi) rfl rfl (by kernel_rfl) ?_ hHeld ?_
   ·intro w hSw; clear hSw; go_simp; first | done | exact w6
   simp only [uZ, uS]
   refine tK 50 (i := 21) (v := .agg #[.int .i64 x, .int .i64 lo, .int .i64 hi]) rfl rfl (by kernel_rfl) ?_ hHeld ?_
   ·intro w hSw; clear hSw; go_simp; try with_reducible rfl
   simp only [uZ, uS]
   refine wpAnyH_ready (rs := [22]) (by kernel_rfl) (by simp) ?_
   refine AllReadyH.cons rfl (fun K hK => ?_) AllReadyH.nil
   rename World => yq
   go_simp
   have HNB := Lib.hid (World.news_of_block (cs := #[.int .i64 x, .int .i64 lo, .int .i64 hi]) (t := 93) (fr := (0, 0)) (heap_alloc_new yq (.cells #[.int .i64 x, .int .i64 lo, .int .i64 hi] 93)))
   have HYZ := Lib.hid (World.size_alloc yq (.cells #[.int .i64 x, .int .i64 lo, .int .i64 hi] 93))
   have HW := Lib.hid (below_then HW.out (below_alloc1 yq (.cells #[.int .i64 x, .int .i64 lo, .int .i64 hi] 93)))
   refine hK.out _ _ (below_then hHeld (below_alloc1 yq (.cells #[.int .i64 x, .int .i64 lo, .int .i64 hi] 93))) (fun hHeld2 => ?_)
   try simp only [Act.put, uA, uZ, uS]
   clear hK K hHeld
   have hHeld := hHeld2
   clear hHeld2
   obtain ⟨ya, hW⟩ : ∃ W', yq.alloc (.cells #[.int .i64 x, .int .i64 lo, .int .i64 hi] 93) = W' := ⟨_, rfl⟩
   rw [hW] at HW hHeld HNB HYZ ⊢
   clear hW
   obtain ⟨Z, hZ⟩ : ∃ Z, yq.heap.size = Z := ⟨_, rfl⟩
   rw [hZ] at HNB HYZ ⊢
   clear hZ
   rotate_left
   go_simp
   (with_reducible refine (CM1.out _).mono ?_)
   rintro x y ⟨rfl, hq⟩
   have HW := Lib.hid (below_then HW.out hq)
   refine hK.out _ _ (below_then hHeld hq) (fun hHeld2 => ?_)
   clear hq
   try simp only [Act.put, uA, uZ, uS]
   clear hK K hHeld
   have hHeld := hHeld2
   clear hHeld2
   refine tK 49 (i := 20) (v := .int .i64 hi) rfl rfl (by kernel_rfl) ?_ hHeld ?_
   ·intro w hSw; clear hSw; go_simp; first | done | exact w6
   simp only [uZ, uS]
   refine tK 50 (i := 21) (v := .agg #[.int .i64 x, .int .i64 lo, .int .i64 hi]) rfl rfl (by kernel_rfl) ?_ hHeld ?_
   ·intro w hSw; clear hSw; go_simp; try with_reducible rfl
   simp only [uZ, uS]
   refine wpAnyH_ready (rs := [1, 22]) (by kernel_rfl) (by simp) ?_
   refine AllReadyH.cons rfl (fun K hK => ?_) (AllReadyH.cons rfl (fun K hK => ?_) AllReadyH.nil)
   have c1 := (blkOn HT.out HW.out).cell 0
   simp at c1
   go_simp
   refine hK.out _ _ hHeld (fun hHeld2 => ?_)
   clear c1
   try simp only [Act.put, uA, uZ, uS]
   clear hK K hHeld
   have hHeld := hHeld2
   clear hHeld2
   refine wpAnyH_ready (rs := [22]) (by kernel_rfl) (by simp) ?_
   refine AllReadyH.cons rfl (fun K hK => ?_) AllReadyH.nil
   rename World => yq
   go_simp
   have HNB := Lib.hid (World.news_of_block (cs := #[.int .i64 x, .int .i64 lo, .int .i64 hi]) (t := 93) (fr := (0, 0)) (heap_alloc_new yq (.cells #[.int .i64 x, .int .i64 lo, .int .i64 hi] 93)))
   have HYZ := Lib.hid (World.size_alloc yq (.cells #[.int .i64 x, .int .i64 lo, .int .i64 hi] 93))
   have HW := Lib.hid (below_then HW.out (below_alloc1 yq (.cells #[.int .i64 x, .int .i64 lo, .int .i64 hi] 93)))
   refine hK.out _ _ (below_then hHeld (below_alloc1 yq (.cells #[.int .i64 x, .int .i64 lo, .int .i64 hi] 93))) (fun hHeld2 => ?_)
   try simp only [Act.put, uA, uZ, uS]
   clear hK K hHeld
   have hHeld := hHeld2
   clear hHeld2
   obtain ⟨ya, hW⟩ : ∃ W', yq.alloc (.cells #[.int .i64 x, .int .i64 lo, .int .i64 hi] 93) = W' := ⟨_, rfl⟩
   rw [hW] at HW hHeld HNB HYZ ⊢
   clear hW
   obtain ⟨Z, hZ⟩ : ∃ Z, yq.heap.size = Z := ⟨_, rfl⟩
   rw [hZ] at HNB HYZ ⊢
   clear hZ
   rotate_left
   rename World => yq
   go_simp
   have HNB := Lib.hid (World.news_of_block (cs := #[.int .i64 x, .int .i64 lo, .int .i64 hi]) (t := 93) (fr := (0, 0)) (heap_alloc_new yq (.cells #[.int .i64 x, .int .i64 lo, .int .i64 hi] 93)))
   have HYZ := Lib.hid (World.size_alloc yq (.cells #[.int .i64 x, .int .i64 lo, .int .i64 hi] 93))
   have HW := Lib.hid (below_then HW.out (below_alloc1 yq (.cells #[.int .i64 x, .int .i64 lo, .int .i64 hi] 93)))
   refine hK.out _ _ (below_then hHeld (below_alloc1 yq (.cells #[.int .i64 x, .int .i64 lo, .int .i64 hi] 93))) (fun hHeld2 => ?_)
   try simp only [Act.put, uA, uZ, uS]
   clear hK K hHeld
   have hHeld := hHeld2
   clear hHeld2
   obtain ⟨ya, hW⟩ : ∃ W', yq.alloc (.cells #[.int .i64 x, .int .i64 lo, .int .i64 hi] 93) = W' := ⟨_, rfl⟩
   rw [hW] at HW hHeld HNB HYZ ⊢
   clear hW
   obtain ⟨Z, hZ⟩ : ∃ Z, yq.heap.size = Z := ⟨_, rfl⟩
   rw [hZ] at HNB HYZ ⊢
   clear hZ
   refine wpAnyH_ready (rs := [1]) (by kernel_rfl) (by simp) ?_
   refine AllReadyH.cons rfl (fun K hK => ?_) AllReadyH.nil
   have c1 := (blkOn HT.out HW.out).cell 0
   simp at c1
   go_simp
   refine hK.out _ _ hHeld (fun hHeld2 => ?_)
   clear c1
   try simp only [Act.put, uA, uZ, uS]
   clear hK K hHeld
   have hHeld := hHeld2
   clear hHeld2
   rotate_left
   all_goals
    have HZB : Hid (M + 1 ≤ wr.heap.size) := Lib.hid HT.out.lt
    refine wpAnyH_ready (rs := [23]) (by kernel_rfl) (by simp) ?_
    refine AllReadyH.cons rfl (fun K hK => ?_) AllReadyH.nil
    have HOW := Lib.hid (HOWN.out.below HW.out)
    refine step_append_lies _ (by rfl) (.tmp 30) (.tmp 51) _ (by rfl) (M + 1) 93 i0 _ 3 24 Tryz.underlying46 i1 i2 i3 i4 rfl (by omega) v LR.length (ptCells LR) (by rfl) (by exact HOW.out) ⟨Z, 0, none⟩ 1 1 [.int .i64 x, .int .i64 lo, .int .i64 hi] (by rfl) (by rfl) (by exact HNB.out) (by simp [Value.oneCell']) (by omega) (by have := HLN.out; simp [maxLen]; omega) (by have := HLN.out; omega) (by have := HZB.out; have := HW.out.size; omega) (Z + 1) (by exact HYZ.out) ?_
    intro gg cap w5 hown1 hgrow hat hlt5
    have hrow : ∀ j, Value.ownBlock v = some j → (M + 1) ≤ j := fun j hj => (World.ownsRow.lt (show wr.ownsRow ((M + 1)) 93 3 v _ _ from HOWN.out) j hj).1
    have hT5 := (blkOn HT.out HW.out).grown hgrow (fun hj => by have := hrow _ hj.symm; omega)
    have hB5 := hHeld.grown hgrow (hHeld.size) (fun j hj => by have := hrow j hj; have := HMY.out; omega)
    have hf := hT5.frozen 0; have hl := hT5.lt; have hc := hT5.cell 0
    simp at hc
    refine hK.out _ _ hB5 (fun hHeld2 => ?_)
    try simp only [Act.put, uA, uZ, uS]
    clear hK K hHeld
    have hHeld := hHeld2
    clear hHeld2
    refine tK 53 (i := 24) (v := .pointer (some ⟨M, 0, none⟩)) rfl rfl (by kernel_rfl) ?_ hHeld ?_
    ·intro w hSw; clear hSw; go_simp; try with_reducible rfl
    simp only [uZ, uS]
    refine wpAnyH_ready (rs := [25]) (by kernel_rfl) (by simp) ?_
    refine AllReadyH.cons rfl (fun K hK => ?_) AllReadyH.nil
    go_simp
    have hB6 := hB5.setCell (p := ⟨M, 0, none⟩) (by have := HMY.out; simp; omega) (.slice (some ⟨gg, 0, none⟩) (LR.length + 1) cap)
    refine hK.out _ _ hB6 (fun hHeld2 => ?_)
    try simp only [Act.put, uA, uZ, uS]
    clear hK K hHeld
    have hHeld := hHeld2
    clear hHeld2
    refine wpAnyH_done (by kernel_rfl) ?_ _
    clear hHeld
    have hT6 := hT5.set_ 0 (.slice (some ⟨gg, 0, none⟩) (LR.length + 1) cap)
    have hgg : gg ≠ M := by
     rcases hat with hat | hat
     ·have := hrow _ hat; omega
     ·have := HZB.out; have := HW.out.size; have := HYZ.out; omega
    have hown2 := World.ownsRow.kept hown1 (grownBy_setCell' w5 M (.slice (some ⟨gg, 0, none⟩) (LR.length + 1) cap)) (.inr (by simp [Value.ownBlock]; exact hgg))
    have HT6 := Lib.hid hT6; have HB6 := Lib.hid hB6; have HO6 := Lib.hid (own_push (x := (x, lo, hi)) hown2)
    clear hT6 hB6 hown2 hT5 hB5 hf hl hc hown1 hgrow hat hlt5 hrow hgg HW HOW HNB HYZ
    go_wp2
    go_roundw
    case rel => exact ⟨k + 1, _, by omega, by go_num, HB6.out, HT6.out, by rw [HS.out]; exact HO6.out⟩
    case measure => simp [intOf]; omega
  have k1 : ¬ (k : Int) < (N : Int) := by omega
  have hkn : k = N := by omega
  subst hkn
  obtain ⟨vp, vn', vc', rfl⟩ := HOWN.out.slice
  have z_ := HX.out _ (.head _)
  have z_0 := z_.cell 0
  have z_f0 := z_.frozen 0
  have z_l := z_.lt
  simp at z_0 z_f0
  clear z_
  have m_ := HT.out.cell 0
  simp at m_
  clear hk hlt
  go_wp2
  have hg := HG.out; have hmy := HMY.out; have hb1 := (HK1.out _ (.head _)).lt
  refine bodyPost_ret (v := .agg #[.slice vp vn' vc']) (by simp [results, Tryz.results45, go_sem, z_0]) rfl ⟨_, rfl, ?_, ?_⟩
  ·refine OwnPts.monoY (World.ownsRow.kept (show wr.ownsRow (M + 1) 93 3 (.slice vp vn' vc') _ _ from HOWN.out) (grownBy_setCell' wr (G + 1) _) (.inr (fun hj => ?_))) (by have := HE1.out.size; omega)
   have := (World.ownsRow.lt (show wr.ownsRow (M + 1) 93 3 (.slice vp vn' vc') _ _ from HOWN.out) _ hj).1
   dsimp only at hb1
   omega
  ·exact HE.out.setCell (by simp <;> omega) _
end

end Go.Proofs.YtekkiedlajhaiaaGreat
