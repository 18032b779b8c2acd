/- The contracts of less, more, inverse and its closures (hold), as ullages and soundings call it. Their conditions: the table is valid and lies in memory. -/
import Derived.Test.YtemlaaipnhmcoaaGreatR20
import Derived.Test.YtemlaaipnhmcoaaGreatR22
import Derived.Test.YtemlaaipnhmcoaaGreatR15
import Derived.Test.YtemlaaipnhmcoaaGreatR21
import Derived.Test.YtemlaaipnhmcoaaGreatR10
import Derived.Test.YtemlaaipnhmcoaaGreatR05
set_option linter.unusedVariables false
set_option linter.unusedSimpArgs false
set_option linter.constructorNameAsVariable false
namespace Go.Proofs.YtemlaaipnhmcoaaGreat

section
open Go.RowKit

theorem eqRange9 (a b c d : Int) (w : World) : (Op.equalIn 9999 30 (.agg #[.int .i64 a, .int .i64 b]) (.agg #[.int .i64 c, .int .i64 d])).run Tryz.prog w = .ok (a == c && b == d) w := by
  have u3 := Tryz.underlying3
  have hS : Tryz.prog.underlying 30 = some (.struct (Tryz.prog.fieldsOf 30)) := by kernel_rfl
  have hp : Tryz.prog.stoodInHeld 30 = false := by kernel_rfl
  rw [show (9999 : Nat) = 9998 + 1 from rfl, run_equalIn_agg w 9998 30 _ _ hS hp]
  simp only [Program.fieldsOf, Tryz.underlying30]
  go_simp
  by_cases h1 : a = c <;> by_cases h2 : b = d <;> simp [h1, h2]
section
attribute [local go_sem ↓] eqRange9
set_option maxRecDepth 100000 in
set_option maxHeartbeats 4000000 in
theorem eqFill (a b c d e f a' b' c' d' e' f' : Int) (w : World) : (Op.equalIn 10000 55 (.agg #[.int .i64 a, .int .i64 b, .int .i64 c, .int .i64 d, .int .i64 e, .int .i64 f]) (.agg #[.int .i64 a', .int .i64 b', .int .i64 c', .int .i64 d', .int .i64 e', .int .i64 f'])).run Tryz.prog w = .ok ((a == a' && b == b') && ((c == c' && d == d') && (e == e' && f == f'))) w := by
  have u3 := Tryz.underlying3
  have hS : Tryz.prog.underlying 55 = some (.struct (Tryz.prog.fieldsOf 55)) := by kernel_rfl
  have hp : Tryz.prog.stoodInHeld 55 = false := by kernel_rfl
  rw [show (10000 : Nat) = 9999 + 1 from rfl, run_equalIn_agg w 9999 55 _ _ hS hp]
  clear hS hp
  simp only [Program.fieldsOf, Tryz.underlying55]
  go_simp
  by_cases h1 : a = a' <;> by_cases h2 : b = b' <;> by_cases h3 : c = c' <;> by_cases h4 : d = d' <;> by_cases h5 : e = e' <;> by_cases h6 : f = f' <;> simp [h1, h2, h3, h4, h5, h6]
end
@[go_sem] theorem eqGuardFill (op : BinOp) (x y : Operand) (xs ys : Array Value) (w : World) : (eqGuard op 55 x y (.agg xs) (.agg ys)).run Tryz.prog w = .ok () w :=
  run_eqGuard_agg w op 55 x y xs ys (by kernel_rfl)
theorem eqlFill (a b c d e f a' b' c' d' e' f' : Int) (t : Bool) (h : ((a == a' && b == b') && ((c == c' && d == d') && (e == e' && f == f'))) = t) (w : World) : (binOp .eql 55 (.agg #[.int .i64 a, .int .i64 b, .int .i64 c, .int .i64 d, .int .i64 e, .int .i64 f]) (.agg #[.int .i64 a', .int .i64 b', .int .i64 c', .int .i64 d', .int .i64 e', .int .i64 f'])).run Tryz.prog w = .ok (.bool t) w := by
  rw [run_eql_struct, eqFill, h]; rfl

set_option maxRecDepth 100000 in
set_option maxHeartbeats 4000000 in
theorem nothing_to (id al ah t0 t1 u0 u1 v0 v1 h0 h1 : Int) (A B C : Option Addr) (n c mm d l ee : Nat) (fh st x0 x1 d0 d1 : Int) (w : World) :
  Calls Tryz.prog 188 #[.agg #[.int .i64 id, .int .i64 al, .int .i64 ah, .slice A n c, .slice B mm d, .slice C l ee, .int .i64 t0, .int .i64 t1, .int .i64 u0, .int .i64 u1, .int .i64 v0, .int .i64 v1, .int .i64 h0, .int .i64 h1], .agg #[.int .i64 fh, .int .i64 st, .int .i64 x0, .int .i64 x1, .int .i64 d0, .int .i64 d1]] w fun e w' => e = .returned (rv 0 0) ∧ Below w.heap.size w w' := by
 go_enter Tryz.func188, Tryz.ntmps188
 go_wp2
 refine bodyPost_ret (v := rv 0 0) (by simp [results, Tryz.results188, go_sem]) rfl ⟨rfl, ?_⟩
 repeat (first | exact Below.refl _ _ | refine Below.setCell ?_ (by simp) _ | refine Below.alloc ?_ (by simp <;> omega) _)

set_option maxRecDepth 100000 in
set_option maxHeartbeats 4000000 in
theorem meanTrim_to (id al ah t0 t1 u0 u1 v0 v1 h0 h1 : Int) (A B C : Option Addr) (n c mm d l ee : Nat) (fh st x0 x1 d0 d1 : Int) (w : World) :
  Calls Tryz.prog 150 #[.agg #[.int .i64 id, .int .i64 al, .int .i64 ah, .slice A n c, .slice B mm d, .slice C l ee, .int .i64 t0, .int .i64 t1, .int .i64 u0, .int .i64 u1, .int .i64 v0, .int .i64 v1, .int .i64 h0, .int .i64 h1], .agg #[.int .i64 fh, .int .i64 st, .int .i64 x0, .int .i64 x1, .int .i64 d0, .int .i64 d1]] w fun e w' => e = .returned (rv t0 t1) ∧ Below w.heap.size w w' := by
 go_enter Tryz.func150, Tryz.ntmps150
 go_wp2
 refine bodyPost_ret (v := rv t0 t1) (by simp [results, Tryz.results150, go_sem]) rfl ⟨rfl, ?_⟩
 repeat (first | exact Below.refl _ _ | refine Below.setCell ?_ (by simp) _ | refine Below.alloc ?_ (by simp <;> omega) _)

set_option maxRecDepth 100000 in
set_option maxHeartbeats 4000000 in
theorem meanUntr_to (id al ah t0 t1 u0 u1 v0 v1 h0 h1 : Int) (A B C : Option Addr) (n c mm d l ee : Nat) (fh st x0 x1 d0 d1 : Int) (w : World) :
  Calls Tryz.prog 151 #[.agg #[.int .i64 id, .int .i64 al, .int .i64 ah, .slice A n c, .slice B mm d, .slice C l ee, .int .i64 t0, .int .i64 t1, .int .i64 u0, .int .i64 u1, .int .i64 v0, .int .i64 v1, .int .i64 h0, .int .i64 h1], .agg #[.int .i64 fh, .int .i64 st, .int .i64 x0, .int .i64 x1, .int .i64 d0, .int .i64 d1]] w fun e w' => e = .returned (rv u0 u1) ∧ Below w.heap.size w w' := by
 go_enter Tryz.func151, Tryz.ntmps151
 go_wp2
 refine bodyPost_ret (v := rv u0 u1) (by simp [results, Tryz.results151, go_sem]) rfl ⟨rfl, ?_⟩
 repeat (first | exact Below.refl _ _ | refine Below.setCell ?_ (by simp) _ | refine Below.alloc ?_ (by simp <;> omega) _)

set_option maxRecDepth 100000 in
set_option maxHeartbeats 4000000 in
theorem filledVol_to (id al ah t0 t1 u0 u1 v0 v1 h0 h1 : Int) (A B C : Option Addr) (n c mm d l ee : Nat) (fh st x0 x1 d0 d1 : Int) (w : World) :
  Calls Tryz.prog 191 #[.agg #[.int .i64 id, .int .i64 al, .int .i64 ah, .slice A n c, .slice B mm d, .slice C l ee, .int .i64 t0, .int .i64 t1, .int .i64 u0, .int .i64 u1, .int .i64 v0, .int .i64 v1, .int .i64 h0, .int .i64 h1], .agg #[.int .i64 fh, .int .i64 st, .int .i64 x0, .int .i64 x1, .int .i64 d0, .int .i64 d1]] w fun e w' => e = .returned (rv v0 v1) ∧ Below w.heap.size w w' := by
 go_enter Tryz.func191, Tryz.ntmps191
 go_wp2
 refine bodyPost_ret (v := rv v0 v1) (by simp [results, Tryz.results191, go_sem]) rfl ⟨rfl, ?_⟩
 repeat (first | exact Below.refl _ _ | refine Below.setCell ?_ (by simp) _ | refine Below.alloc ?_ (by simp <;> omega) _)

set_option maxRecDepth 100000 in
set_option maxHeartbeats 4000000 in
theorem filledHei_to (id al ah t0 t1 u0 u1 v0 v1 h0 h1 : Int) (A B C : Option Addr) (n c mm d l ee : Nat) (fh st x0 x1 d0 d1 : Int) (w : World) :
  Calls Tryz.prog 192 #[.agg #[.int .i64 id, .int .i64 al, .int .i64 ah, .slice A n c, .slice B mm d, .slice C l ee, .int .i64 t0, .int .i64 t1, .int .i64 u0, .int .i64 u1, .int .i64 v0, .int .i64 v1, .int .i64 h0, .int .i64 h1], .agg #[.int .i64 fh, .int .i64 st, .int .i64 x0, .int .i64 x1, .int .i64 d0, .int .i64 d1]] w fun e w' => e = .returned (rv h0 h1) ∧ Below w.heap.size w w' := by
 go_enter Tryz.func192, Tryz.ntmps192
 go_wp2
 refine bodyPost_ret (v := rv h0 h1) (by simp [results, Tryz.results192, go_sem]) rfl ⟨rfl, ?_⟩
 repeat (first | exact Below.refl _ _ | refine Below.setCell ?_ (by simp) _ | refine Below.alloc ?_ (by simp <;> omega) _)

set_option maxRecDepth 100000 in
set_option maxHeartbeats 4000000 in
theorem partlySur_to (id al ah t0 t1 u0 u1 v0 v1 h0 h1 : Int) (A B C : Option Addr) (n c mm d l ee : Nat) (fh st x0 x1 d0 d1 : Int) (w : World) :
  Calls Tryz.prog 197 #[.agg #[.int .i64 id, .int .i64 al, .int .i64 ah, .slice A n c, .slice B mm d, .slice C l ee, .int .i64 t0, .int .i64 t1, .int .i64 u0, .int .i64 u1, .int .i64 v0, .int .i64 v1, .int .i64 h0, .int .i64 h1], .agg #[.int .i64 fh, .int .i64 st, .int .i64 x0, .int .i64 x1, .int .i64 d0, .int .i64 d1]] w fun e w' => e = .returned (rv x0 x1) ∧ Below w.heap.size w w' := by
 go_enter Tryz.func197, Tryz.ntmps197
 go_wp2
 refine bodyPost_ret (v := rv x0 x1) (by simp [results, Tryz.results197, go_sem]) rfl ⟨rfl, ?_⟩
 repeat (first | exact Below.refl _ _ | refine Below.setCell ?_ (by simp) _ | refine Below.alloc ?_ (by simp <;> omega) _)

set_option maxRecDepth 100000 in
set_option maxHeartbeats 4000000 in
theorem partlyVol_to (ps : List P3) (id al ah t0 t1 u0 u1 v0 v1 h0 h1 : Int) (A B C : Option Addr) (n c mm d l ee : Nat) (fh st x0 x1 d0 d1 : Int) (w : World) (hp : TabIn w A n ps) :
  Calls Tryz.prog 195 #[.agg #[.int .i64 id, .int .i64 al, .int .i64 ah, .slice A n c, .slice B mm d, .slice C l ee, .int .i64 t0, .int .i64 t1, .int .i64 u0, .int .i64 u1, .int .i64 v0, .int .i64 v1, .int .i64 h0, .int .i64 h1], .agg #[.int .i64 fh, .int .i64 st, .int .i64 x0, .int .i64 x1, .int .i64 d0, .int .i64 d1]] w fun e w' => e = .returned (rv (overS ps x0 x1).1 (overS ps x0 x1).2.1) ∧ Below w.heap.size w w' := by
 have HE := Lib.hid (show Below w.heap.size w (((w.alloc (.cells #[.int .i64 id, .int .i64 al, .int .i64 ah, .slice A n c, .slice B mm d, .slice C l ee, .int .i64 t0, .int .i64 t1, .int .i64 u0, .int .i64 u1, .int .i64 v0, .int .i64 v1, .int .i64 h0, .int .i64 h1] 35)).alloc (.cells #[.int .i64 fh, .int .i64 st, .int .i64 x0, .int .i64 x1, .int .i64 d0, .int .i64 d1] 55)).alloc (.cells #[.int .i64 0, .int .i64 0] 30)) from below_a3 (Below.refl _ _))
 have HK := Lib.hid (boxes3' w 35 55 30 #[.int .i64 id, .int .i64 al, .int .i64 ah, .slice A n c, .slice B mm d, .slice C l ee, .int .i64 t0, .int .i64 t1, .int .i64 u0, .int .i64 u1, .int .i64 v0, .int .i64 v1, .int .i64 h0, .int .i64 h1] #[.int .i64 fh, .int .i64 st, .int .i64 x0, .int .i64 x1, .int .i64 d0, .int .i64 d1] #[.int .i64 0, .int .i64 0])
 have CC : Hid (∀ W, Below w.heap.size w W → Calls Tryz.prog 143 #[tv A n c, rv x0 x1] W fun e w' => e = .returned (rv (overS ps x0 x1).1 (overS ps x0 x1).2.1) ∧ Below W.heap.size W w') := Lib.hid fun W hW => hover_any A n c ps x0 x1 W (hp.below hW)
 clear hp
 generalize overS ps x0 x1 = r at *
 obtain ⟨ra, rb, re⟩ := r
 go_enter Tryz.func195, Tryz.ntmps195
 go_wp2_with fail
 obtain ⟨W0, hW0⟩ : ∃ W0, (((w.alloc (.cells #[.int .i64 id, .int .i64 al, .int .i64 ah, .slice A n c, .slice B mm d, .slice C l ee, .int .i64 t0, .int .i64 t1, .int .i64 u0, .int .i64 u1, .int .i64 v0, .int .i64 v1, .int .i64 h0, .int .i64 h1] 35)).alloc (.cells #[.int .i64 fh, .int .i64 st, .int .i64 x0, .int .i64 x1, .int .i64 d0, .int .i64 d1] 55)).alloc (.cells #[.int .i64 0, .int .i64 0] 30)) = W0 := ⟨_, rfl⟩
 rw [hW0] at HE HK ⊢
 clear hW0
 obtain ⟨G, hG⟩ : ∃ G, w.heap.size = G := ⟨_, rfl⟩
 rw [hG] at HK ⊢
 have HG := Lib.hid hG; clear hG
 refine (CC.out _ HE.out).mono ?_
 rintro e1 w1 ⟨rfl, hb⟩
 have HE1 := Lib.hid (below_then HE.out hb); have HK1 := Lib.hid (HK.out.on hb)
 clear hb HE HK CC
 have z := HK1.out _ (.head _)
 have z0 := z.cell 0
 have zf0 := z.frozen 0
 have z1 := z.cell 1
 have zf1 := z.frozen 1
 have zl := z.lt
 simp at z0 zf0 z1 zf1
 clear z
 go_wp2
 refine bodyPost_ret (v := rv ra rb) (by simp [results, Tryz.results195, go_sem, z0, z1]) rfl ⟨rfl, ?_⟩
 have hg := HG.out
 repeat (first | exact HE1.out | refine Below.setCell ?_ (by simp <;> omega) _)

set_option maxRecDepth 100000 in
set_option maxHeartbeats 4000000 in
theorem partlyHei_to (ps : List P3) (id al ah t0 t1 u0 u1 v0 v1 h0 h1 : Int) (A B C : Option Addr) (n c mm d l ee : Nat) (fh st x0 x1 d0 d1 : Int) (w : World) (hp : TabIn w C l ps) :
  Calls Tryz.prog 196 #[.agg #[.int .i64 id, .int .i64 al, .int .i64 ah, .slice A n c, .slice B mm d, .slice C l ee, .int .i64 t0, .int .i64 t1, .int .i64 u0, .int .i64 u1, .int .i64 v0, .int .i64 v1, .int .i64 h0, .int .i64 h1], .agg #[.int .i64 fh, .int .i64 st, .int .i64 x0, .int .i64 x1, .int .i64 d0, .int .i64 d1]] w fun e w' => e = .returned (rv (overS ps x0 x1).1 (overS ps x0 x1).2.1) ∧ Below w.heap.size w w' := by
 have HE := Lib.hid (show Below w.heap.size w (((w.alloc (.cells #[.int .i64 id, .int .i64 al, .int .i64 ah, .slice A n c, .slice B mm d, .slice C l ee, .int .i64 t0, .int .i64 t1, .int .i64 u0, .int .i64 u1, .int .i64 v0, .int .i64 v1, .int .i64 h0, .int .i64 h1] 35)).alloc (.cells #[.int .i64 fh, .int .i64 st, .int .i64 x0, .int .i64 x1, .int .i64 d0, .int .i64 d1] 55)).alloc (.cells #[.int .i64 0, .int .i64 0] 30)) from below_a3 (Below.refl _ _))
 have HK := Lib.hid (boxes3' w 35 55 30 #[.int .i64 id, .int .i64 al, .int .i64 ah, .slice A n c, .slice B mm d, .slice C l ee, .int .i64 t0, .int .i64 t1, .int .i64 u0, .int .i64 u1, .int .i64 v0, .int .i64 v1, .int .i64 h0, .int .i64 h1] #[.int .i64 fh, .int .i64 st, .int .i64 x0, .int .i64 x1, .int .i64 d0, .int .i64 d1] #[.int .i64 0, .int .i64 0])
 have CC : Hid (∀ W, Below w.heap.size w W → Calls Tryz.prog 143 #[tv C l ee, rv x0 x1] W fun e w' => e = .returned (rv (overS ps x0 x1).1 (overS ps x0 x1).2.1) ∧ Below W.heap.size W w') := Lib.hid fun W hW => hover_any C l ee ps x0 x1 W (hp.below hW)
 clear hp
 generalize overS ps x0 x1 = r at *
 obtain ⟨ra, rb, re⟩ := r
 go_enter Tryz.func196, Tryz.ntmps196
 go_wp2_with fail
 obtain ⟨W0, hW0⟩ : ∃ W0, (((w.alloc (.cells #[.int .i64 id, .int .i64 al, .int .i64 ah, .slice A n c, .slice B mm d, .slice C l ee, .int .i64 t0, .int .i64 t1, .int .i64 u0, .int .i64 u1, .int .i64 v0, .int .i64 v1, .int .i64 h0, .int .i64 h1] 35)).alloc (.cells #[.int .i64 fh, .int .i64 st, .int .i64 x0, .int .i64 x1, .int .i64 d0, .int .i64 d1] 55)).alloc (.cells #[.int .i64 0, .int .i64 0] 30)) = W0 := ⟨_, rfl⟩
 rw [hW0] at HE HK ⊢
 clear hW0
 obtain ⟨G, hG⟩ : ∃ G, w.heap.size = G := ⟨_, rfl⟩
 rw [hG] at HK ⊢
 have HG := Lib.hid hG; clear hG
 refine (CC.out _ HE.out).mono ?_
 rintro e1 w1 ⟨rfl, hb⟩
 have HE1 := Lib.hid (below_then HE.out hb); have HK1 := Lib.hid (HK.out.on hb)
 clear hb HE HK CC
 have z := HK1.out _ (.head _)
 have z0 := z.cell 0
 have zf0 := z.frozen 0
 have z1 := z.cell 1
 have zf1 := z.frozen 1
 have zl := z.lt
 simp at z0 zf0 z1 zf1
 clear z
 go_wp2
 refine bodyPost_ret (v := rv ra rb) (by simp [results, Tryz.results196, go_sem, z0, z1]) rfl ⟨rfl, ?_⟩
 have hg := HG.out
 repeat (first | exact HE1.out | refine Below.setCell ?_ (by simp <;> omega) _)

set_option maxRecDepth 100000 in
set_option maxHeartbeats 4000000 in
theorem meanMom_to (ps : List P3) (id al ah t0 t1 u0 u1 v0 v1 h0 h1 : Int) (A B C : Option Addr) (n c mm d l ee : Nat) (fh st x0 x1 d0 d1 : Int) (w : World) (hp : TabIn w B mm ps) :
  Calls Tryz.prog 153 #[.agg #[.int .i64 id, .int .i64 al, .int .i64 ah, .slice A n c, .slice B mm d, .slice C l ee, .int .i64 t0, .int .i64 t1, .int .i64 u0, .int .i64 u1, .int .i64 v0, .int .i64 v1, .int .i64 h0, .int .i64 h1], .agg #[.int .i64 fh, .int .i64 st, .int .i64 x0, .int .i64 x1, .int .i64 d0, .int .i64 d1]] w fun e w' => e = .returned (rv (overS ps x0 x1).1 (overS ps x0 x1).2.1) ∧ Below w.heap.size w w' := by
 have HE := Lib.hid (show Below w.heap.size w (((w.alloc (.cells #[.int .i64 id, .int .i64 al, .int .i64 ah, .slice A n c, .slice B mm d, .slice C l ee, .int .i64 t0, .int .i64 t1, .int .i64 u0, .int .i64 u1, .int .i64 v0, .int .i64 v1, .int .i64 h0, .int .i64 h1] 35)).alloc (.cells #[.int .i64 fh, .int .i64 st, .int .i64 x0, .int .i64 x1, .int .i64 d0, .int .i64 d1] 55)).alloc (.cells #[.int .i64 0, .int .i64 0] 30)) from below_a3 (Below.refl _ _))
 have HK := Lib.hid (boxes3' w 35 55 30 #[.int .i64 id, .int .i64 al, .int .i64 ah, .slice A n c, .slice B mm d, .slice C l ee, .int .i64 t0, .int .i64 t1, .int .i64 u0, .int .i64 u1, .int .i64 v0, .int .i64 v1, .int .i64 h0, .int .i64 h1] #[.int .i64 fh, .int .i64 st, .int .i64 x0, .int .i64 x1, .int .i64 d0, .int .i64 d1] #[.int .i64 0, .int .i64 0])
 have CC : Hid (∀ W, Below w.heap.size w W → Calls Tryz.prog 143 #[tv B mm d, rv x0 x1] W fun e w' => e = .returned (rv (overS ps x0 x1).1 (overS ps x0 x1).2.1) ∧ Below W.heap.size W w') := Lib.hid fun W hW => hover_any B mm d ps x0 x1 W (hp.below hW)
 clear hp
 generalize overS ps x0 x1 = r at *
 obtain ⟨ra, rb, re⟩ := r
 go_enter Tryz.func153, Tryz.ntmps153
 go_wp2_with fail
 obtain ⟨W0, hW0⟩ : ∃ W0, (((w.alloc (.cells #[.int .i64 id, .int .i64 al, .int .i64 ah, .slice A n c, .slice B mm d, .slice C l ee, .int .i64 t0, .int .i64 t1, .int .i64 u0, .int .i64 u1, .int .i64 v0, .int .i64 v1, .int .i64 h0, .int .i64 h1] 35)).alloc (.cells #[.int .i64 fh, .int .i64 st, .int .i64 x0, .int .i64 x1, .int .i64 d0, .int .i64 d1] 55)).alloc (.cells #[.int .i64 0, .int .i64 0] 30)) = W0 := ⟨_, rfl⟩
 rw [hW0] at HE HK ⊢
 clear hW0
 obtain ⟨G, hG⟩ : ∃ G, w.heap.size = G := ⟨_, rfl⟩
 rw [hG] at HK ⊢
 have HG := Lib.hid hG; clear hG
 refine (CC.out _ HE.out).mono ?_
 rintro e1 w1 ⟨rfl, hb⟩
 have HE1 := Lib.hid (below_then HE.out hb); have HK1 := Lib.hid (HK.out.on hb)
 clear hb HE HK CC
 have z := HK1.out _ (.head _)
 have z0 := z.cell 0
 have zf0 := z.frozen 0
 have z1 := z.cell 1
 have zf1 := z.frozen 1
 have zl := z.lt
 simp at z0 zf0 z1 zf1
 clear z
 go_wp2
 refine bodyPost_ret (v := rv ra rb) (by simp [results, Tryz.results153, go_sem, z0, z1]) rfl ⟨rfl, ?_⟩
 have hg := HG.out
 repeat (first | exact HE1.out | refine Below.setCell ?_ (by simp <;> omega) _)

set_option maxRecDepth 100000 in
set_option maxHeartbeats 4000000 in
theorem emptySur_to (ps : List P3) (id al ah t0 t1 u0 u1 v0 v1 h0 h1 : Int) (A B C : Option Addr) (n c mm d l ee : Nat) (fh st x0 x1 d0 d1 : Int) (w : World) (hp : TabIn w A n ps) (ht : tabOk ps = true) :
  Calls Tryz.prog 189 #[.agg #[.int .i64 id, .int .i64 al, .int .i64 ah, .slice A n c, .slice B mm d, .slice C l ee, .int .i64 t0, .int .i64 t1, .int .i64 u0, .int .i64 u1, .int .i64 v0, .int .i64 v1, .int .i64 h0, .int .i64 h1], .agg #[.int .i64 fh, .int .i64 st, .int .i64 x0, .int .i64 x1, .int .i64 d0, .int .i64 d1]] w fun e w' => e = .returned (rv (lastX ps) (lastX ps)) ∧ Below w.heap.size w w' := by
 have HE := Lib.hid (show Below w.heap.size w (((w.alloc (.cells #[.int .i64 id, .int .i64 al, .int .i64 ah, .slice A n c, .slice B mm d, .slice C l ee, .int .i64 t0, .int .i64 t1, .int .i64 u0, .int .i64 u1, .int .i64 v0, .int .i64 v1, .int .i64 h0, .int .i64 h1] 35)).alloc (.cells #[.int .i64 fh, .int .i64 st, .int .i64 x0, .int .i64 x1, .int .i64 d0, .int .i64 d1] 55)).alloc (.cells #[.int .i64 0, .int .i64 0] 30)) from below_a3 (Below.refl _ _))
 have HK := Lib.hid (boxes3' w 35 55 30 #[.int .i64 id, .int .i64 al, .int .i64 ah, .slice A n c, .slice B mm d, .slice C l ee, .int .i64 t0, .int .i64 t1, .int .i64 u0, .int .i64 u1, .int .i64 v0, .int .i64 v1, .int .i64 h0, .int .i64 h1] #[.int .i64 fh, .int .i64 st, .int .i64 x0, .int .i64 x1, .int .i64 d0, .int .i64 d1] #[.int .i64 0, .int .i64 0])
 have CC : Hid (∀ W, Below w.heap.size w W → Calls Tryz.prog 77 #[tv A n c] W fun e w' => e = .returned (rv (firstX ps) (lastX ps)) ∧ Below W.heap.size W w') := Lib.hid fun W hW => hplaces_tab A n c ps W (hp.below hW) ht
 clear hp ht
 generalize firstX ps = f at *
 generalize lastX ps = l2 at *
 go_enter Tryz.func189, Tryz.ntmps189
 go_wp2_with fail
 obtain ⟨W0, hW0⟩ : ∃ W0, (((w.alloc (.cells #[.int .i64 id, .int .i64 al, .int .i64 ah, .slice A n c, .slice B mm d, .slice C l ee, .int .i64 t0, .int .i64 t1, .int .i64 u0, .int .i64 u1, .int .i64 v0, .int .i64 v1, .int .i64 h0, .int .i64 h1] 35)).alloc (.cells #[.int .i64 fh, .int .i64 st, .int .i64 x0, .int .i64 x1, .int .i64 d0, .int .i64 d1] 55)).alloc (.cells #[.int .i64 0, .int .i64 0] 30)) = W0 := ⟨_, rfl⟩
 rw [hW0] at HE HK ⊢
 clear hW0
 obtain ⟨G, hG⟩ : ∃ G, w.heap.size = G := ⟨_, rfl⟩
 rw [hG] at HK ⊢
 have HG := Lib.hid hG; clear hG
 refine (CC.out _ HE.out).mono ?_
 rintro e1 w1 ⟨rfl, hb⟩
 have HE1 := Lib.hid (below_then HE.out hb); have HK1 := Lib.hid (HK.out.on hb)
 clear hb HE HK CC
 have z := HK1.out _ (.head _)
 have z0 := z.cell 0
 have zf0 := z.frozen 0
 have z1 := z.cell 1
 have zf1 := z.frozen 1
 have zl := z.lt
 simp at z0 zf0 z1 zf1
 clear z
 go_wp2
 refine bodyPost_ret (v := rv l2 l2) (by simp [results, Tryz.results189, go_sem, z0, z1]) rfl ⟨rfl, ?_⟩
 have hg := HG.out
 repeat (first | exact HE1.out | refine Below.setCell ?_ (by simp <;> omega) _)

set_option maxRecDepth 100000 in
set_option maxHeartbeats 4000000 in
theorem filledSur_to (ps : List P3) (id al ah t0 t1 u0 u1 v0 v1 h0 h1 : Int) (A B C : Option Addr) (n c mm d l ee : Nat) (fh st x0 x1 d0 d1 : Int) (w : World) (hp : TabIn w A n ps) (ht : tabOk ps = true) :
  Calls Tryz.prog 193 #[.agg #[.int .i64 id, .int .i64 al, .int .i64 ah, .slice A n c, .slice B mm d, .slice C l ee, .int .i64 t0, .int .i64 t1, .int .i64 u0, .int .i64 u1, .int .i64 v0, .int .i64 v1, .int .i64 h0, .int .i64 h1], .agg #[.int .i64 fh, .int .i64 st, .int .i64 x0, .int .i64 x1, .int .i64 d0, .int .i64 d1]] w fun e w' => e = .returned (rv (firstX ps) (firstX ps)) ∧ Below w.heap.size w w' := by
 have HE := Lib.hid (show Below w.heap.size w (((w.alloc (.cells #[.int .i64 id, .int .i64 al, .int .i64 ah, .slice A n c, .slice B mm d, .slice C l ee, .int .i64 t0, .int .i64 t1, .int .i64 u0, .int .i64 u1, .int .i64 v0, .int .i64 v1, .int .i64 h0, .int .i64 h1] 35)).alloc (.cells #[.int .i64 fh, .int .i64 st, .int .i64 x0, .int .i64 x1, .int .i64 d0, .int .i64 d1] 55)).alloc (.cells #[.int .i64 0, .int .i64 0] 30)) from below_a3 (Below.refl _ _))
 have HK := Lib.hid (boxes3' w 35 55 30 #[.int .i64 id, .int .i64 al, .int .i64 ah, .slice A n c, .slice B mm d, .slice C l ee, .int .i64 t0, .int .i64 t1, .int .i64 u0, .int .i64 u1, .int .i64 v0, .int .i64 v1, .int .i64 h0, .int .i64 h1] #[.int .i64 fh, .int .i64 st, .int .i64 x0, .int .i64 x1, .int .i64 d0, .int .i64 d1] #[.int .i64 0, .int .i64 0])
 have CC : Hid (∀ W, Below w.heap.size w W → Calls Tryz.prog 77 #[tv A n c] W fun e w' => e = .returned (rv (firstX ps) (lastX ps)) ∧ Below W.heap.size W w') := Lib.hid fun W hW => hplaces_tab A n c ps W (hp.below hW) ht
 clear hp ht
 generalize firstX ps = f at *
 generalize lastX ps = l2 at *
 go_enter Tryz.func193, Tryz.ntmps193
 go_wp2_with fail
 obtain ⟨W0, hW0⟩ : ∃ W0, (((w.alloc (.cells #[.int .i64 id, .int .i64 al, .int .i64 ah, .slice A n c, .slice B mm d, .slice C l ee, .int .i64 t0, .int .i64 t1, .int .i64 u0, .int .i64 u1, .int .i64 v0, .int .i64 v1, .int .i64 h0, .int .i64 h1] 35)).alloc (.cells #[.int .i64 fh, .int .i64 st, .int .i64 x0, .int .i64 x1, .int .i64 d0, .int .i64 d1] 55)).alloc (.cells #[.int .i64 0, .int .i64 0] 30)) = W0 := ⟨_, rfl⟩
 rw [hW0] at HE HK ⊢
 clear hW0
 obtain ⟨G, hG⟩ : ∃ G, w.heap.size = G := ⟨_, rfl⟩
 rw [hG] at HK ⊢
 have HG := Lib.hid hG; clear hG
 refine (CC.out _ HE.out).mono ?_
 rintro e1 w1 ⟨rfl, hb⟩
 have HE1 := Lib.hid (below_then HE.out hb); have HK1 := Lib.hid (HK.out.on hb)
 clear hb HE HK CC
 have z := HK1.out _ (.head _)
 have z0 := z.cell 0
 have zf0 := z.frozen 0
 have z1 := z.cell 1
 have zf1 := z.frozen 1
 have zl := z.lt
 simp at z0 zf0 z1 zf1
 clear z
 go_wp2
 refine bodyPost_ret (v := rv f f) (by simp [results, Tryz.results193, go_sem, z0, z1]) rfl ⟨rfl, ?_⟩
 have hg := HG.out
 repeat (first | exact HE1.out | refine Below.setCell ?_ (by simp <;> omega) _)
end

section
open Go.RowKit
attribute [local go_sem ↓] run_minI run_maxI
theorem less_to (a b c d : Int) (t : Bool) (w : World) (h : decide (b < c) = t) :
  Calls Tryz.prog 122 #[rv a b, rv c d] w fun e w' => e = .returned (.bool t) ∧ Below w.heap.size w w' := by
 have hx : ((b < c) ∧ t = true) ∨ (¬ (b < c) ∧ t = false) := by
  by_cases q : b < c
  ·exact .inl ⟨q, by rw [← h]; exact decide_eq_true q⟩
  ·exact .inr ⟨q, by rw [← h]; exact decide_eq_false q⟩
 clear h
 rcases hx with ⟨h, rfl⟩ | ⟨h, rfl⟩
 all_goals
  go_enter Tryz.func122, Tryz.ntmps122
  go_wp2
  go_ret
  exact ⟨rfl, below_a2 (Below.refl _ _)⟩
theorem more_to (a b c d : Int) (t : Bool) (w : World) (h : decide (d < a) = t) :
  Calls Tryz.prog 121 #[rv a b, rv c d] w fun e w' => e = .returned (.bool t) ∧ Below w.heap.size w w' := by
 have C : Hid (∀ W, Calls Tryz.prog 122 #[rv c d, rv a b] W fun e w' => e = .returned (.bool t) ∧ Below W.heap.size W w') := Lib.hid fun W => less_to c d a b t W h
 clear h
 go_enter Tryz.func121, Tryz.ntmps121
 go_wp2_with fail
 refine (C.out _).mono ?_
 rintro e w1 ⟨rfl, hb⟩
 have HB := Lib.hid (below_a2 hb); clear hb
 go_wp2
 go_ret
 exact ⟨rfl, HB.out⟩
theorem at_in (A : Option Addr) (n c : Nat) (ps : List P3) (x : Int) (w : World) (hp : TabIn w A n ps) (ht : tabOk ps = true) (h1 : firstX ps ≤ x) (h2 : x ≤ lastX ps) :
    Calls Tryz.prog 162 #[tv A n c, .int .i64 x] w fun e w' => e = .returned (.tuple #[rv (atS ps x).1 (atS ps x).2, .int .i64 0]) ∧ Below w.heap.size w w' :=
  rt_to (at_all A n c ps x w hp.1 hp.2.1 hp.2.2) (by unfold AtS; rw [if_pos (by unfold placesS; rw [if_pos ht, if_pos (inB_yes (by omega) (by omega) (by omega))])])
def InvIn (w : World) (Bt Ba Bv : Nat) (A : Option Addr) (n c : Nat) (k : Nat) (v0 v1 : Int) (ps : List P3) : Prop := Blk w Bt 33 #[.slice A n c] ∧ Blk w Ba 59 #[fnV k] ∧ Blk w Bv 30 #[.int .i64 v0, .int .i64 v1] ∧ TabIn w A n ps
theorem InvIn.below {w w' : World} {Bt Ba Bv : Nat} {A : Option Addr} {n c k : Nat} {v0 v1 : Int} {ps : List P3} (h : InvIn w Bt Ba Bv A n c k v0 v1 ps) (hb : Below w.heap.size w w') : InvIn w' Bt Ba Bv A n c k v0 v1 ps :=
  ⟨blkOn h.1 hb, blkOn h.2.1 hb, blkOn h.2.2.1 hb, h.2.2.2.below hb⟩
def moreF (ps : List P3) (v1 : Int) (x : Int) : Bool := decide (v1 < (atS ps x).1)
def lessF (ps : List P3) (v0 : Int) (x : Int) : Bool := decide ((atS ps x).2 < v0)

set_option maxRecDepth 100000 in
set_option maxHeartbeats 2000000 in
theorem inv1_more (A : Option Addr) (n c : Nat) (ps : List P3) (v0 v1 x : Int) (t : Bool) (Bt Ba Bv : Nat) (w : World) (h : InvIn w Bt Ba Bv A n c 121 v0 v1 ps) (ht : tabOk ps = true) (h1 : firstX ps ≤ x) (h2 : x ≤ lastX ps) (hf : (!moreF ps v1 x) = t) :
  Calls Tryz.prog 161 #[.int .i64 x, .pointer (some ⟨Bt, 0, none⟩), .pointer (some ⟨Ba, 0, none⟩), .pointer (some ⟨Bv, 0, none⟩)] w fun e w' => e = .returned (.bool t) ∧ Below w.heap.size w w' := by
 have C1 : Hid (∀ W, Below w.heap.size w W → Calls Tryz.prog 162 #[tv A n c, .int .i64 x] W fun e w' => e = .returned (.tuple #[rv (atS ps x).1 (atS ps x).2, .int .i64 0]) ∧ Below W.heap.size W w') := Lib.hid fun W hW => at_in A n c ps x W (h.2.2.2.below hW) ht h1 h2
 obtain ⟨u, hu⟩ : ∃ u, decide (v1 < (atS ps x).1) = u := ⟨_, rfl⟩
 have C2 : Hid (∀ W, Calls Tryz.prog 121 #[rv (atS ps x).1 (atS ps x).2, rv v0 v1] W fun e w' => e = .returned (.bool u) ∧ Below W.heap.size W w') := Lib.hid fun W => more_to _ _ v0 v1 u W hu
 have hut : (!u) = t := by rw [← hf, ← hu]; rfl
 clear hf hu ht h1 h2
 generalize (atS ps x).1 = p at *
 generalize (atS ps x).2 = q at *
 have q1 := h.1.cell 0
 have l1 := h.1.lt
 simp at q1
 have HI := Lib.hid h
 clear h
 go_enter Tryz.func161, Tryz.ntmps161
 go_wp2_with fail
 refine (C1.out _ (Below.refl _ _)).mono ?_
 rintro e w1 ⟨rfl, hb⟩
 have HE := Lib.hid (below_then hb (below_alloc1 w1 (.cells #[.int .i64 p, .int .i64 q] 30)))
 have HI1 := Lib.hid (HI.out.below HE.out)
 have a0 := HI1.out.2.1.cell 0
 have b0 := HI1.out.2.2.1.cell 0
 have b1 := HI1.out.2.2.1.cell 1
 simp at a0 b0 b1
 have la := (HI.out.below hb).2.1.lt
 have lb := (HI.out.below hb).2.2.1.lt
 have a0' := (HI.out.below hb).2.1.cell 0
 have b0' := (HI.out.below hb).2.2.1.cell 0
 have b1' := (HI.out.below hb).2.2.1.cell 1
 simp at a0' b0' b1'
 clear hb HI C1 q1 l1
 go_wp2_with fail
 refine (C2.out _).mono ?_
 rintro e w2 ⟨rfl, hb⟩
 have HE2 := Lib.hid (below_then HE.out hb)
 clear hb HE HI1 a0 b0 b1 la lb a0' b0' b1' C2
 cases u
 all_goals
  simp only [Bool.not_false, Bool.not_true] at hut
  subst hut
  go_wp2
  go_ret
  exact ⟨rfl, HE2.out⟩

set_option maxRecDepth 100000 in
set_option maxHeartbeats 2000000 in
theorem inv2_less (A : Option Addr) (n c : Nat) (ps : List P3) (v0 v1 x : Int) (t : Bool) (Bt Ba Bv : Nat) (w : World) (h : InvIn w Bt Ba Bv A n c 122 v0 v1 ps) (ht : tabOk ps = true) (h1 : firstX ps ≤ x) (h2 : x ≤ lastX ps) (hf : lessF ps v0 x = t) :
  Calls Tryz.prog 163 #[.int .i64 x, .pointer (some ⟨Bt, 0, none⟩), .pointer (some ⟨Ba, 0, none⟩), .pointer (some ⟨Bv, 0, none⟩)] w fun e w' => e = .returned (.bool t) ∧ Below w.heap.size w w' := by
 have C1 : Hid (∀ W, Below w.heap.size w W → Calls Tryz.prog 162 #[tv A n c, .int .i64 x] W fun e w' => e = .returned (.tuple #[rv (atS ps x).1 (atS ps x).2, .int .i64 0]) ∧ Below W.heap.size W w') := Lib.hid fun W hW => at_in A n c ps x W (h.2.2.2.below hW) ht h1 h2
 obtain ⟨u, hu⟩ : ∃ u, decide ((atS ps x).2 < v0) = u := ⟨_, rfl⟩
 have C2 : Hid (∀ W, Calls Tryz.prog 122 #[rv (atS ps x).1 (atS ps x).2, rv v0 v1] W fun e w' => e = .returned (.bool u) ∧ Below W.heap.size W w') := Lib.hid fun W => less_to _ _ v0 v1 u W hu
 have hut : u = t := by rw [← hf, ← hu]; rfl
 clear hf hu ht h1 h2
 generalize (atS ps x).1 = p at *
 generalize (atS ps x).2 = q at *
 have q1 := h.1.cell 0
 have l1 := h.1.lt
 simp at q1
 have HI := Lib.hid h
 clear h
 go_enter Tryz.func163, Tryz.ntmps163
 go_wp2_with fail
 refine (C1.out _ (Below.refl _ _)).mono ?_
 rintro e w1 ⟨rfl, hb⟩
 have HE := Lib.hid (below_then hb (below_alloc1 w1 (.cells #[.int .i64 p, .int .i64 q] 30)))
 have HI1 := Lib.hid (HI.out.below HE.out)
 have a0 := HI1.out.2.1.cell 0
 have b0 := HI1.out.2.2.1.cell 0
 have b1 := HI1.out.2.2.1.cell 1
 simp at a0 b0 b1
 have la := (HI.out.below hb).2.1.lt
 have lb := (HI.out.below hb).2.2.1.lt
 have a0' := (HI.out.below hb).2.1.cell 0
 have b0' := (HI.out.below hb).2.2.1.cell 0
 have b1' := (HI.out.below hb).2.2.1.cell 1
 simp at a0' b0' b1'
 clear hb HI C1 q1 l1
 go_wp2_with fail
 refine (C2.out _).mono ?_
 rintro e w2 ⟨rfl, hb⟩
 have HE2 := Lib.hid (below_then HE.out hb)
 clear hb HE HI1 a0 b0 b1 la lb a0' b0' b1' C2
 cases u
 all_goals
  subst hut
  go_wp2
  go_ret
  exact ⟨rfl, HE2.out⟩

set_option maxRecDepth 100000 in
set_option maxHeartbeats 2000000 in
theorem inv1_less (A : Option Addr) (n c : Nat) (ps : List P3) (v0 v1 x : Int) (t : Bool) (Bt Ba Bv : Nat) (w : World) (h : InvIn w Bt Ba Bv A n c 122 v0 v1 ps) (ht : tabOk ps = true) (h1 : firstX ps ≤ x) (h2 : x ≤ lastX ps) (hf : (!lessF ps v0 x) = t) :
  Calls Tryz.prog 161 #[.int .i64 x, .pointer (some ⟨Bt, 0, none⟩), .pointer (some ⟨Ba, 0, none⟩), .pointer (some ⟨Bv, 0, none⟩)] w fun e w' => e = .returned (.bool t) ∧ Below w.heap.size w w' := by
 have C1 : Hid (∀ W, Below w.heap.size w W → Calls Tryz.prog 162 #[tv A n c, .int .i64 x] W fun e w' => e = .returned (.tuple #[rv (atS ps x).1 (atS ps x).2, .int .i64 0]) ∧ Below W.heap.size W w') := Lib.hid fun W hW => at_in A n c ps x W (h.2.2.2.below hW) ht h1 h2
 obtain ⟨u, hu⟩ : ∃ u, decide ((atS ps x).2 < v0) = u := ⟨_, rfl⟩
 have C2 : Hid (∀ W, Calls Tryz.prog 122 #[rv (atS ps x).1 (atS ps x).2, rv v0 v1] W fun e w' => e = .returned (.bool u) ∧ Below W.heap.size W w') := Lib.hid fun W => less_to _ _ v0 v1 u W hu
 have hut : (!u) = t := by rw [← hf, ← hu]; rfl
 clear hf hu ht h1 h2
 generalize (atS ps x).1 = p at *
 generalize (atS ps x).2 = q at *
 have q1 := h.1.cell 0
 have l1 := h.1.lt
 simp at q1
 have HI := Lib.hid h
 clear h
 go_enter Tryz.func161, Tryz.ntmps161
 go_wp2_with fail
 refine (C1.out _ (Below.refl _ _)).mono ?_
 rintro e w1 ⟨rfl, hb⟩
 have HE := Lib.hid (below_then hb (below_alloc1 w1 (.cells #[.int .i64 p, .int .i64 q] 30)))
 have HI1 := Lib.hid (HI.out.below HE.out)
 have a0 := HI1.out.2.1.cell 0
 have b0 := HI1.out.2.2.1.cell 0
 have b1 := HI1.out.2.2.1.cell 1
 simp at a0 b0 b1
 have la := (HI.out.below hb).2.1.lt
 have lb := (HI.out.below hb).2.2.1.lt
 have a0' := (HI.out.below hb).2.1.cell 0
 have b0' := (HI.out.below hb).2.2.1.cell 0
 have b1' := (HI.out.below hb).2.2.1.cell 1
 simp at a0' b0' b1'
 clear hb HI C1 q1 l1
 go_wp2_with fail
 refine (C2.out _).mono ?_
 rintro e w2 ⟨rfl, hb⟩
 have HE2 := Lib.hid (below_then HE.out hb)
 clear hb HE HI1 a0 b0 b1 la lb a0' b0' b1' C2
 cases u
 all_goals
  simp only [Bool.not_false, Bool.not_true] at hut
  subst hut
  go_wp2
  go_ret
  exact ⟨rfl, HE2.out⟩

set_option maxRecDepth 100000 in
set_option maxHeartbeats 2000000 in
theorem inv2_more (A : Option Addr) (n c : Nat) (ps : List P3) (v0 v1 x : Int) (t : Bool) (Bt Ba Bv : Nat) (w : World) (h : InvIn w Bt Ba Bv A n c 121 v0 v1 ps) (ht : tabOk ps = true) (h1 : firstX ps ≤ x) (h2 : x ≤ lastX ps) (hf : moreF ps v1 x = t) :
  Calls Tryz.prog 163 #[.int .i64 x, .pointer (some ⟨Bt, 0, none⟩), .pointer (some ⟨Ba, 0, none⟩), .pointer (some ⟨Bv, 0, none⟩)] w fun e w' => e = .returned (.bool t) ∧ Below w.heap.size w w' := by
 have C1 : Hid (∀ W, Below w.heap.size w W → Calls Tryz.prog 162 #[tv A n c, .int .i64 x] W fun e w' => e = .returned (.tuple #[rv (atS ps x).1 (atS ps x).2, .int .i64 0]) ∧ Below W.heap.size W w') := Lib.hid fun W hW => at_in A n c ps x W (h.2.2.2.below hW) ht h1 h2
 obtain ⟨u, hu⟩ : ∃ u, decide (v1 < (atS ps x).1) = u := ⟨_, rfl⟩
 have C2 : Hid (∀ W, Calls Tryz.prog 121 #[rv (atS ps x).1 (atS ps x).2, rv v0 v1] W fun e w' => e = .returned (.bool u) ∧ Below W.heap.size W w') := Lib.hid fun W => more_to _ _ v0 v1 u W hu
 have hut : u = t := by rw [← hf, ← hu]; rfl
 clear hf hu ht h1 h2
 generalize (atS ps x).1 = p at *
 generalize (atS ps x).2 = q at *
 have q1 := h.1.cell 0
 have l1 := h.1.lt
 simp at q1
 have HI := Lib.hid h
 clear h
 go_enter Tryz.func163, Tryz.ntmps163
 go_wp2_with fail
 refine (C1.out _ (Below.refl _ _)).mono ?_
 rintro e w1 ⟨rfl, hb⟩
 have HE := Lib.hid (below_then hb (below_alloc1 w1 (.cells #[.int .i64 p, .int .i64 q] 30)))
 have HI1 := Lib.hid (HI.out.below HE.out)
 have a0 := HI1.out.2.1.cell 0
 have b0 := HI1.out.2.2.1.cell 0
 have b1 := HI1.out.2.2.1.cell 1
 simp at a0 b0 b1
 have la := (HI.out.below hb).2.1.lt
 have lb := (HI.out.below hb).2.2.1.lt
 have a0' := (HI.out.below hb).2.1.cell 0
 have b0' := (HI.out.below hb).2.2.1.cell 0
 have b1' := (HI.out.below hb).2.2.1.cell 1
 simp at a0' b0' b1'
 clear hb HI C1 q1 l1
 go_wp2_with fail
 refine (C2.out _).mono ?_
 rintro e w2 ⟨rfl, hb⟩
 have HE2 := Lib.hid (below_then HE.out hb)
 clear hb HE HI1 a0 b0 b1 la lb a0' b0' b1' C2
 cases u
 all_goals
  subst hut
  go_wp2
  go_ret
  exact ⟨rfl, HE2.out⟩

def invS (ahead behind : Int → Bool) (lo hi : Int) : Int × Int × Int :=
  if hi < lo + bs (fun i => !(ahead (lo + i))) (hi - lo + 1).toNat 0 (hi - lo + 1) ∨ lo + bs (fun i => behind (lo + i)) (hi - lo + 1).toNat 0 (hi - lo + 1) = lo then (0, 0, 24)
  else (max (lo + bs (fun i => !(ahead (lo + i))) (hi - lo + 1).toNat 0 (hi - lo + 1) - 1) lo, min (lo + bs (fun i => behind (lo + i)) (hi - lo + 1).toNat 0 (hi - lo + 1)) hi, 0)

set_option maxRecDepth 100000 in
set_option maxHeartbeats 4000000 in
theorem inverse_more (A : Option Addr) (n c : Nat) (ps : List P3) (v0 v1 : Int) (w : World) (hp : TabIn w A n ps) (ht : tabOk ps = true) (hle : firstX ps ≤ lastX ps) :
  Calls Tryz.prog 120 #[tv A n c, rv v0 v1, fnV 121, fnV 122] w fun e w' => e = .returned (rt (invS (moreF ps v1) (lessF ps v0) (firstX ps) (lastX ps))) ∧ Below w.heap.size w w' := by
 have HE := Lib.hid (show Below w.heap.size w (((((w.alloc (.cells #[.slice A n c] 33)).alloc (.cells #[.int .i64 v0, .int .i64 v1] 30)).alloc (.cells #[fnV 121] 59)).alloc (.cells #[fnV 122] 59)).alloc (.cells #[.int .i64 0, .int .i64 0] 30)) from below_a5 (Below.refl _ _))
 have HK := Lib.hid (boxes5' w 33 30 59 59 30 #[.slice A n c] #[.int .i64 v0, .int .i64 v1] #[fnV 121] #[fnV 122] #[.int .i64 0, .int .i64 0])
 obtain ⟨pl1, pl2⟩ := places_in ht
 obtain ⟨r1, hr1⟩ : ∃ r, firstX ps + bs (fun i => !((moreF ps v1) (firstX ps + i))) (lastX ps - firstX ps + 1).toNat 0 (lastX ps - firstX ps + 1) = r := ⟨_, rfl⟩
 obtain ⟨r2, hr2⟩ : ∃ r, firstX ps + bs (fun i => (lessF ps v0) (firstX ps + i)) (lastX ps - firstX ps + 1).toNat 0 (lastX ps - firstX ps + 1) = r := ⟨_, rfl⟩
 have hb1 := bs_range (fun i => !((moreF ps v1) (firstX ps + i))) (lastX ps - firstX ps + 1).toNat 0 (lastX ps - firstX ps + 1) (by omega)
 have hb2 := bs_range (fun i => (lessF ps v0) (firstX ps + i)) (lastX ps - firstX ps + 1).toNat 0 (lastX ps - firstX ps + 1) (by omega)
 have C0 : Hid (∀ W, Below w.heap.size w W → Calls Tryz.prog 77 #[tv A n c] W fun e w' => e = .returned (rv (firstX ps) (lastX ps)) ∧ Below W.heap.size W w') := Lib.hid fun W hW => hplaces_tab A n c ps W (hp.below hW) ht
 have C1 : Hid (∀ W Bt Ba Bv, InvIn W Bt Ba Bv A n c 121 v0 v1 ps → Calls Tryz.prog 160 #[.int .i64 (firstX ps), .int .i64 (lastX ps), inv1Fn Bt Ba Bv] W fun e w' => e = .returned (.int .i64 r1) ∧ Below W.heap.size W w') := Lib.hid fun W Bt Ba Bv hI =>
  first1_to Bt Ba Bv (fun x => !((moreF ps v1) x)) _ _ r1 W (fun V x t hV q1 q2 q3 => inv1_more A n c ps v0 v1 x t Bt Ba Bv V (hI.below hV) ht q1 q2 q3) pl1 hle pl2 hr1
 have C2 : Hid (∀ W Bt Ba Bv, InvIn W Bt Ba Bv A n c 122 v0 v1 ps → Calls Tryz.prog 160 #[.int .i64 (firstX ps), .int .i64 (lastX ps), inv2Fn Bt Ba Bv] W fun e w' => e = .returned (.int .i64 r2) ∧ Below W.heap.size W w') := Lib.hid fun W Bt Ba Bv hI =>
  first2_to Bt Ba Bv (lessF ps v0) _ _ r2 W (fun V x t hV q1 q2 q3 => inv2_less A n c ps v0 v1 x t Bt Ba Bv V (hI.below hV) ht q1 q2 q3) pl1 hle pl2 hr2
 obtain ⟨R, hR⟩ : ∃ R, invS (moreF ps v1) (lessF ps v0) (firstX ps) (lastX ps) = R := ⟨_, rfl⟩
 rw [hR]
 have HR : Hid ((if lastX ps < r1 ∨ r2 = firstX ps then (0, 0, 24) else (max (r1 - 1) (firstX ps), min r2 (lastX ps), 0)) = R) := Lib.hid (by rw [← hR]; unfold invS; rw [hr1, hr2])
 clear hR ht
 have HP := Lib.hid hp
 clear hp
 generalize firstX ps = f at *
 generalize lastX ps = l at *
 have k1 : f ≤ r1 ∧ r1 ≤ l + 1 := by omega
 have k2 : f ≤ r2 ∧ r2 ≤ l + 1 := by omega
 clear hr1 hr2 hb1 hb2
 have w1 : IntKind.i64.wrap (r1 - 1) = r1 - 1 := IntWalk.i64_in _ ⟨by omega, by omega⟩
 go_enter Tryz.func120, Tryz.ntmps120
 go_wp2_with fail
 obtain ⟨W0, hW0⟩ : ∃ W0, (((((w.alloc (.cells #[.slice A n c] 33)).alloc (.cells #[.int .i64 v0, .int .i64 v1] 30)).alloc (.cells #[fnV 121] 59)).alloc (.cells #[fnV 122] 59)).alloc (.cells #[.int .i64 0, .int .i64 0] 30)) = W0 := ⟨_, rfl⟩
 rw [hW0] at HE HK ⊢
 clear hW0
 obtain ⟨G, hG⟩ : ∃ G, w.heap.size = G := ⟨_, rfl⟩
 rw [hG] at HK ⊢
 have HG := Lib.hid hG; clear hG
 refine (C0.out _ HE.out).mono ?_
 rintro e w1 ⟨rfl, hb⟩
 have HE1 := Lib.hid (below_then (below_then HE.out hb) (below_alloc1 w1 (.cells #[.int .i64 f, .int .i64 l] 30)))
 have HK1 := Lib.hid ((HK.out.on hb).new 30 #[.int .i64 f, .int .i64 l])
 clear hb HE HK C0
 go_upto_region 2 with fail
 obtain ⟨W1, hW1⟩ : ∃ W1, w1.alloc (.cells #[.int .i64 f, .int .i64 l] 30) = W1 := ⟨_, rfl⟩
 rw [hW1] at HE1 HK1 ⊢
 clear hW1
 obtain ⟨N, hN⟩ : ∃ N, w1.heap.size = N := ⟨_, rfl⟩
 rw [hN] at HK1 ⊢
 clear hN
 have p := HK1.out _ (.head _)
 have p0 := p.cell 0
 have p1 := p.cell 1
 simp at p0 p1
 clear p
 go_wp2_with fail
 refine (C1.out _ _ _ _ ⟨HK1.out _ (.tail _ (.tail _ (.tail _ (.tail _ (.tail _ (.head _)))))), HK1.out _ (.tail _ (.tail _ (.tail _ (.head _)))), HK1.out _ (.tail _ (.tail _ (.tail _ (.tail _ (.head _))))), HP.out.below HE1.out⟩).mono ?_
 rintro e w2 ⟨rfl, hb⟩
 have HE2 := Lib.hid (below_then HE1.out hb)
 have HK2 := Lib.hid (HK1.out.on hb)
 clear hb HE1 HK1 p0 p1 C1
 have p := HK2.out _ (.head _)
 have p0 := p.cell 0
 have p1 := p.cell 1
 simp at p0 p1
 clear p
 go_wp2_with fail
 refine (C2.out _ _ _ _ ⟨HK2.out _ (.tail _ (.tail _ (.tail _ (.tail _ (.tail _ (.head _)))))), HK2.out _ (.tail _ (.tail _ (.head _))), HK2.out _ (.tail _ (.tail _ (.tail _ (.tail _ (.head _))))), HP.out.below HE2.out⟩).mono ?_
 rintro e w3 ⟨rfl, hb⟩
 have HE3 := Lib.hid (below_then HE2.out hb)
 have HK3 := Lib.hid (HK2.out.on hb)
 clear hb HE2 HK2 p0 p1 C2
 have p := HK3.out _ (.head _)
 have p0 := p.cell 0
 have p1 := p.cell 1
 have pl := p.lt
 simp at p0 p1
 clear p
 have z := HK3.out _ (.tail _ (.head _))
 have z0 := z.cell 0
 have zf0 := z.frozen 0
 have z1 := z.cell 1
 have zf1 := z.frozen 1
 have zl := z.lt
 simp at z0 zf0 z1 zf1
 clear z
 by_cases g1 : l < r1
 ·have e : R = (0, 0, 24) := by rw [← HR.out, if_pos (.inl g1)]
  subst e
  clear HR
  go_wp2
  refine bodyPost_ret (v := rt (0, 0, 24)) (by simp [results, Tryz.results120, go_sem, z0, z1]) rfl ⟨rfl, ?_⟩
  have hg := HG.out
  repeat (first | exact HE3.out | refine Below.setCell ?_ (by simp <;> omega) _)
 ·by_cases g2 : r2 = f
  ·have e : R = (0, 0, 24) := by rw [← HR.out, if_pos (.inr g2)]
   subst e
   have b2 : (r2 == f) = true := by simp [g2]
   clear g2 HR
   go_wp2
   refine bodyPost_ret (v := rt (0, 0, 24)) (by simp [results, Tryz.results120, go_sem, z0, z1]) rfl ⟨rfl, ?_⟩
   have hg := HG.out
   repeat (first | exact HE3.out | refine Below.setCell ?_ (by simp <;> omega) _)
  ·have e : R = (max (r1 - 1) f, min r2 l, 0) := by rw [← HR.out, if_neg (by omega)]
   have b2 : (r2 == f) = false := beq_eq_false_iff_ne.2 g2
   obtain ⟨m1, hm1⟩ : ∃ m, max (r1 - 1) f = m := ⟨_, rfl⟩
   obtain ⟨m2, hm2⟩ : ∃ m, min r2 l = m := ⟨_, rfl⟩
   rw [hm1, hm2] at e
   subst e
   clear g2 HR
   go_wp2
   refine bodyPost_ret (v := rt (m1, m2, 0)) (by simp [results, Tryz.results120, go_sem, z0, z1]) rfl ⟨rfl, ?_⟩
   have hg := HG.out
   repeat (first | exact HE3.out | refine Below.setCell ?_ (by simp <;> omega) _)
end

end Go.Proofs.YtemlaaipnhmcoaaGreat
