/- The contract of CheckFill (hold). Its condition: the hold's tables lie in memory. -/
import Derived.Test.YtpcmcicnciejpaaGreatR04
import Derived.Test.YtpcmcicnciejpaaGreatR06
import Derived.Test.YtpcmcicnciejpaaGreatR03
import Derived.Test.YtpcmcicnciejpaaGreatR02
import Derived.Deep.WholeRow
import Derived.Test.YtpcmcicnciejpaaGreatQ98
set_option linter.unusedVariables false
set_option linter.unusedSimpArgs false
set_option linter.constructorNameAsVariable false
namespace Go.Proofs.YtpcmcicnciejpaaGreat

section
open Go.RowKit

theorem eqRange9 (a b c d : Int) (w : World) : (Op.equalIn 9999 35 (.agg #[.int .i64 a, .int .i64 b]) (.agg #[.int .i64 c, .int .i64 d])).run Tryz.prog w = .ok (a == c && b == d) w := by
  have u3 := Tryz.underlying3
  have hS : Tryz.prog.underlying 35 = some (.struct (Tryz.prog.fieldsOf 35)) := by kernel_rfl
  have hp : Tryz.prog.stoodInHeld 35 = false := by kernel_rfl
  rw [show (9999 : Nat) = 9998 + 1 from rfl, run_equalIn_agg w 9998 35 _ _ hS hp]
  simp only [Program.fieldsOf, Tryz.underlying35]
  go_simp
  by_cases h1 : a = c <;> by_cases h2 : b = d <;> simp [h1, h2]
section
attribute [local go_sem ↓] eqRange9
set_option maxRecDepth 100000 in
set_option maxHeartbeats 4000000 in
theorem eqFill (a b c d e f a' b' c' d' e' f' : Int) (w : World) : (Op.equalIn 10000 43 (.agg #[.int .i64 a, .int .i64 b, .int .i64 c, .int .i64 d, .int .i64 e, .int .i64 f]) (.agg #[.int .i64 a', .int .i64 b', .int .i64 c', .int .i64 d', .int .i64 e', .int .i64 f'])).run Tryz.prog w = .ok ((a == a' && b == b') && ((c == c' && d == d') && (e == e' && f == f'))) w := by
  have u3 := Tryz.underlying3
  have hS : Tryz.prog.underlying 43 = some (.struct (Tryz.prog.fieldsOf 43)) := by kernel_rfl
  have hp : Tryz.prog.stoodInHeld 43 = false := by kernel_rfl
  rw [show (10000 : Nat) = 9999 + 1 from rfl, run_equalIn_agg w 9999 43 _ _ hS hp]
  clear hS hp
  simp only [Program.fieldsOf, Tryz.underlying43]
  go_simp
  by_cases h1 : a = a' <;> by_cases h2 : b = b' <;> by_cases h3 : c = c' <;> by_cases h4 : d = d' <;> by_cases h5 : e = e' <;> by_cases h6 : f = f' <;> simp [h1, h2, h3, h4, h5, h6]
end
@[go_sem] theorem eqGuardFill (op : BinOp) (x y : Operand) (xs ys : Array Value) (w : World) : (eqGuard op 43 x y (.agg xs) (.agg ys)).run Tryz.prog w = .ok () w :=
  run_eqGuard_agg w op 43 x y xs ys (by kernel_rfl)
theorem eqlFill (a b c d e f a' b' c' d' e' f' : Int) (t : Bool) (h : ((a == a' && b == b') && ((c == c' && d == d') && (e == e' && f == f'))) = t) (w : World) : (binOp .eql 43 (.agg #[.int .i64 a, .int .i64 b, .int .i64 c, .int .i64 d, .int .i64 e, .int .i64 f]) (.agg #[.int .i64 a', .int .i64 b', .int .i64 c', .int .i64 d', .int .i64 e', .int .i64 f'])).run Tryz.prog w = .ok (.bool t) w := by
  rw [run_eql_struct, eqFill, h]; rfl

set_option maxRecDepth 100000 in
set_option maxHeartbeats 4000000 in
theorem nothing_to (id al ah t0 t1 u0 u1 v0 v1 h0 h1 : Int) (A B C : Option Addr) (n c mm d l ee : Nat) (fh st x0 x1 d0 d1 : Int) (w : World) :
  Calls Tryz.prog 128 #[.agg #[.int .i64 id, .int .i64 al, .int .i64 ah, .slice A n c, .slice B mm d, .slice C l ee, .int .i64 t0, .int .i64 t1, .int .i64 u0, .int .i64 u1, .int .i64 v0, .int .i64 v1, .int .i64 h0, .int .i64 h1], .agg #[.int .i64 fh, .int .i64 st, .int .i64 x0, .int .i64 x1, .int .i64 d0, .int .i64 d1]] w fun e w' => e = .returned (rv 0 0) ∧ Below w.heap.size w w' := by
 go_enter Tryz.func128, Tryz.ntmps128
 go_wp2
 refine bodyPost_ret (v := rv 0 0) (by simp [results, Tryz.results128, go_sem]) rfl ⟨rfl, ?_⟩
 repeat (first | exact Below.refl _ _ | refine Below.setCell ?_ (by simp) _ | refine Below.alloc ?_ (by simp <;> omega) _)

set_option maxRecDepth 100000 in
set_option maxHeartbeats 4000000 in
theorem meanTrim_to (id al ah t0 t1 u0 u1 v0 v1 h0 h1 : Int) (A B C : Option Addr) (n c mm d l ee : Nat) (fh st x0 x1 d0 d1 : Int) (w : World) :
  Calls Tryz.prog 98 #[.agg #[.int .i64 id, .int .i64 al, .int .i64 ah, .slice A n c, .slice B mm d, .slice C l ee, .int .i64 t0, .int .i64 t1, .int .i64 u0, .int .i64 u1, .int .i64 v0, .int .i64 v1, .int .i64 h0, .int .i64 h1], .agg #[.int .i64 fh, .int .i64 st, .int .i64 x0, .int .i64 x1, .int .i64 d0, .int .i64 d1]] w fun e w' => e = .returned (rv t0 t1) ∧ Below w.heap.size w w' := by
 go_enter Tryz.func98, Tryz.ntmps98
 go_wp2
 refine bodyPost_ret (v := rv t0 t1) (by simp [results, Tryz.results98, go_sem]) rfl ⟨rfl, ?_⟩
 repeat (first | exact Below.refl _ _ | refine Below.setCell ?_ (by simp) _ | refine Below.alloc ?_ (by simp <;> omega) _)

set_option maxRecDepth 100000 in
set_option maxHeartbeats 4000000 in
theorem meanUntr_to (id al ah t0 t1 u0 u1 v0 v1 h0 h1 : Int) (A B C : Option Addr) (n c mm d l ee : Nat) (fh st x0 x1 d0 d1 : Int) (w : World) :
  Calls Tryz.prog 99 #[.agg #[.int .i64 id, .int .i64 al, .int .i64 ah, .slice A n c, .slice B mm d, .slice C l ee, .int .i64 t0, .int .i64 t1, .int .i64 u0, .int .i64 u1, .int .i64 v0, .int .i64 v1, .int .i64 h0, .int .i64 h1], .agg #[.int .i64 fh, .int .i64 st, .int .i64 x0, .int .i64 x1, .int .i64 d0, .int .i64 d1]] w fun e w' => e = .returned (rv u0 u1) ∧ Below w.heap.size w w' := by
 go_enter Tryz.func99, Tryz.ntmps99
 go_wp2
 refine bodyPost_ret (v := rv u0 u1) (by simp [results, Tryz.results99, go_sem]) rfl ⟨rfl, ?_⟩
 repeat (first | exact Below.refl _ _ | refine Below.setCell ?_ (by simp) _ | refine Below.alloc ?_ (by simp <;> omega) _)

set_option maxRecDepth 100000 in
set_option maxHeartbeats 4000000 in
theorem filledVol_to (id al ah t0 t1 u0 u1 v0 v1 h0 h1 : Int) (A B C : Option Addr) (n c mm d l ee : Nat) (fh st x0 x1 d0 d1 : Int) (w : World) :
  Calls Tryz.prog 131 #[.agg #[.int .i64 id, .int .i64 al, .int .i64 ah, .slice A n c, .slice B mm d, .slice C l ee, .int .i64 t0, .int .i64 t1, .int .i64 u0, .int .i64 u1, .int .i64 v0, .int .i64 v1, .int .i64 h0, .int .i64 h1], .agg #[.int .i64 fh, .int .i64 st, .int .i64 x0, .int .i64 x1, .int .i64 d0, .int .i64 d1]] w fun e w' => e = .returned (rv v0 v1) ∧ Below w.heap.size w w' := by
 go_enter Tryz.func131, Tryz.ntmps131
 go_wp2
 refine bodyPost_ret (v := rv v0 v1) (by simp [results, Tryz.results131, go_sem]) rfl ⟨rfl, ?_⟩
 repeat (first | exact Below.refl _ _ | refine Below.setCell ?_ (by simp) _ | refine Below.alloc ?_ (by simp <;> omega) _)

set_option maxRecDepth 100000 in
set_option maxHeartbeats 4000000 in
theorem filledHei_to (id al ah t0 t1 u0 u1 v0 v1 h0 h1 : Int) (A B C : Option Addr) (n c mm d l ee : Nat) (fh st x0 x1 d0 d1 : Int) (w : World) :
  Calls Tryz.prog 132 #[.agg #[.int .i64 id, .int .i64 al, .int .i64 ah, .slice A n c, .slice B mm d, .slice C l ee, .int .i64 t0, .int .i64 t1, .int .i64 u0, .int .i64 u1, .int .i64 v0, .int .i64 v1, .int .i64 h0, .int .i64 h1], .agg #[.int .i64 fh, .int .i64 st, .int .i64 x0, .int .i64 x1, .int .i64 d0, .int .i64 d1]] w fun e w' => e = .returned (rv h0 h1) ∧ Below w.heap.size w w' := by
 go_enter Tryz.func132, Tryz.ntmps132
 go_wp2
 refine bodyPost_ret (v := rv h0 h1) (by simp [results, Tryz.results132, go_sem]) rfl ⟨rfl, ?_⟩
 repeat (first | exact Below.refl _ _ | refine Below.setCell ?_ (by simp) _ | refine Below.alloc ?_ (by simp <;> omega) _)

set_option maxRecDepth 100000 in
set_option maxHeartbeats 4000000 in
theorem partlySur_to (id al ah t0 t1 u0 u1 v0 v1 h0 h1 : Int) (A B C : Option Addr) (n c mm d l ee : Nat) (fh st x0 x1 d0 d1 : Int) (w : World) :
  Calls Tryz.prog 137 #[.agg #[.int .i64 id, .int .i64 al, .int .i64 ah, .slice A n c, .slice B mm d, .slice C l ee, .int .i64 t0, .int .i64 t1, .int .i64 u0, .int .i64 u1, .int .i64 v0, .int .i64 v1, .int .i64 h0, .int .i64 h1], .agg #[.int .i64 fh, .int .i64 st, .int .i64 x0, .int .i64 x1, .int .i64 d0, .int .i64 d1]] w fun e w' => e = .returned (rv x0 x1) ∧ Below w.heap.size w w' := by
 go_enter Tryz.func137, Tryz.ntmps137
 go_wp2
 refine bodyPost_ret (v := rv x0 x1) (by simp [results, Tryz.results137, go_sem]) rfl ⟨rfl, ?_⟩
 repeat (first | exact Below.refl _ _ | refine Below.setCell ?_ (by simp) _ | refine Below.alloc ?_ (by simp <;> omega) _)

set_option maxRecDepth 100000 in
set_option maxHeartbeats 4000000 in
theorem partlyVol_to (ps : List P3) (id al ah t0 t1 u0 u1 v0 v1 h0 h1 : Int) (A B C : Option Addr) (n c mm d l ee : Nat) (fh st x0 x1 d0 d1 : Int) (w : World) (hp : TabIn w A n ps) :
  Calls Tryz.prog 135 #[.agg #[.int .i64 id, .int .i64 al, .int .i64 ah, .slice A n c, .slice B mm d, .slice C l ee, .int .i64 t0, .int .i64 t1, .int .i64 u0, .int .i64 u1, .int .i64 v0, .int .i64 v1, .int .i64 h0, .int .i64 h1], .agg #[.int .i64 fh, .int .i64 st, .int .i64 x0, .int .i64 x1, .int .i64 d0, .int .i64 d1]] w fun e w' => e = .returned (rv (overS ps x0 x1).1 (overS ps x0 x1).2.1) ∧ Below w.heap.size w w' := by
 have HE := Lib.hid (show Below w.heap.size w (((w.alloc (.cells #[.int .i64 id, .int .i64 al, .int .i64 ah, .slice A n c, .slice B mm d, .slice C l ee, .int .i64 t0, .int .i64 t1, .int .i64 u0, .int .i64 u1, .int .i64 v0, .int .i64 v1, .int .i64 h0, .int .i64 h1] 40)).alloc (.cells #[.int .i64 fh, .int .i64 st, .int .i64 x0, .int .i64 x1, .int .i64 d0, .int .i64 d1] 43)).alloc (.cells #[.int .i64 0, .int .i64 0] 35)) from below_a3 (Below.refl _ _))
 have HK := Lib.hid (boxes3' w 40 43 35 #[.int .i64 id, .int .i64 al, .int .i64 ah, .slice A n c, .slice B mm d, .slice C l ee, .int .i64 t0, .int .i64 t1, .int .i64 u0, .int .i64 u1, .int .i64 v0, .int .i64 v1, .int .i64 h0, .int .i64 h1] #[.int .i64 fh, .int .i64 st, .int .i64 x0, .int .i64 x1, .int .i64 d0, .int .i64 d1] #[.int .i64 0, .int .i64 0])
 have CC : Hid (∀ W, Below w.heap.size w W → Calls Tryz.prog 46 #[tv A n c, rv x0 x1] W fun e w' => e = .returned (rv (overS ps x0 x1).1 (overS ps x0 x1).2.1) ∧ Below W.heap.size W w') := Lib.hid fun W hW => hover_any A n c ps x0 x1 W (hp.below hW)
 clear hp
 generalize overS ps x0 x1 = r at *
 obtain ⟨ra, rb, re⟩ := r
 go_enter Tryz.func135, Tryz.ntmps135
 go_wp2_with fail
 obtain ⟨W0, hW0⟩ : ∃ W0, (((w.alloc (.cells #[.int .i64 id, .int .i64 al, .int .i64 ah, .slice A n c, .slice B mm d, .slice C l ee, .int .i64 t0, .int .i64 t1, .int .i64 u0, .int .i64 u1, .int .i64 v0, .int .i64 v1, .int .i64 h0, .int .i64 h1] 40)).alloc (.cells #[.int .i64 fh, .int .i64 st, .int .i64 x0, .int .i64 x1, .int .i64 d0, .int .i64 d1] 43)).alloc (.cells #[.int .i64 0, .int .i64 0] 35)) = W0 := ⟨_, rfl⟩
 rw [hW0] at HE HK ⊢
 clear hW0
 obtain ⟨G, hG⟩ : ∃ G, w.heap.size = G := ⟨_, rfl⟩
 rw [hG] at HK ⊢
 have HG := Lib.hid hG; clear hG
 refine (CC.out _ HE.out).mono ?_
 rintro e1 w1 ⟨rfl, hb⟩
 have HE1 := Lib.hid (below_then HE.out hb); have HK1 := Lib.hid (HK.out.on hb)
 clear hb HE HK CC
 have z := HK1.out _ (.head _)
 have z0 := z.cell 0
 have zf0 := z.frozen 0
 have z1 := z.cell 1
 have zf1 := z.frozen 1
 have zl := z.lt
 simp at z0 zf0 z1 zf1
 clear z
 go_wp2
 refine bodyPost_ret (v := rv ra rb) (by simp [results, Tryz.results135, go_sem, z0, z1]) rfl ⟨rfl, ?_⟩
 have hg := HG.out
 repeat (first | exact HE1.out | refine Below.setCell ?_ (by simp <;> omega) _)

set_option maxRecDepth 100000 in
set_option maxHeartbeats 4000000 in
theorem partlyHei_to (ps : List P3) (id al ah t0 t1 u0 u1 v0 v1 h0 h1 : Int) (A B C : Option Addr) (n c mm d l ee : Nat) (fh st x0 x1 d0 d1 : Int) (w : World) (hp : TabIn w C l ps) :
  Calls Tryz.prog 136 #[.agg #[.int .i64 id, .int .i64 al, .int .i64 ah, .slice A n c, .slice B mm d, .slice C l ee, .int .i64 t0, .int .i64 t1, .int .i64 u0, .int .i64 u1, .int .i64 v0, .int .i64 v1, .int .i64 h0, .int .i64 h1], .agg #[.int .i64 fh, .int .i64 st, .int .i64 x0, .int .i64 x1, .int .i64 d0, .int .i64 d1]] w fun e w' => e = .returned (rv (overS ps x0 x1).1 (overS ps x0 x1).2.1) ∧ Below w.heap.size w w' := by
 have HE := Lib.hid (show Below w.heap.size w (((w.alloc (.cells #[.int .i64 id, .int .i64 al, .int .i64 ah, .slice A n c, .slice B mm d, .slice C l ee, .int .i64 t0, .int .i64 t1, .int .i64 u0, .int .i64 u1, .int .i64 v0, .int .i64 v1, .int .i64 h0, .int .i64 h1] 40)).alloc (.cells #[.int .i64 fh, .int .i64 st, .int .i64 x0, .int .i64 x1, .int .i64 d0, .int .i64 d1] 43)).alloc (.cells #[.int .i64 0, .int .i64 0] 35)) from below_a3 (Below.refl _ _))
 have HK := Lib.hid (boxes3' w 40 43 35 #[.int .i64 id, .int .i64 al, .int .i64 ah, .slice A n c, .slice B mm d, .slice C l ee, .int .i64 t0, .int .i64 t1, .int .i64 u0, .int .i64 u1, .int .i64 v0, .int .i64 v1, .int .i64 h0, .int .i64 h1] #[.int .i64 fh, .int .i64 st, .int .i64 x0, .int .i64 x1, .int .i64 d0, .int .i64 d1] #[.int .i64 0, .int .i64 0])
 have CC : Hid (∀ W, Below w.heap.size w W → Calls Tryz.prog 46 #[tv C l ee, rv x0 x1] W fun e w' => e = .returned (rv (overS ps x0 x1).1 (overS ps x0 x1).2.1) ∧ Below W.heap.size W w') := Lib.hid fun W hW => hover_any C l ee ps x0 x1 W (hp.below hW)
 clear hp
 generalize overS ps x0 x1 = r at *
 obtain ⟨ra, rb, re⟩ := r
 go_enter Tryz.func136, Tryz.ntmps136
 go_wp2_with fail
 obtain ⟨W0, hW0⟩ : ∃ W0, (((w.alloc (.cells #[.int .i64 id, .int .i64 al, .int .i64 ah, .slice A n c, .slice B mm d, .slice C l ee, .int .i64 t0, .int .i64 t1, .int .i64 u0, .int .i64 u1, .int .i64 v0, .int .i64 v1, .int .i64 h0, .int .i64 h1] 40)).alloc (.cells #[.int .i64 fh, .int .i64 st, .int .i64 x0, .int .i64 x1, .int .i64 d0, .int .i64 d1] 43)).alloc (.cells #[.int .i64 0, .int .i64 0] 35)) = W0 := ⟨_, rfl⟩
 rw [hW0] at HE HK ⊢
 clear hW0
 obtain ⟨G, hG⟩ : ∃ G, w.heap.size = G := ⟨_, rfl⟩
 rw [hG] at HK ⊢
 have HG := Lib.hid hG; clear hG
 refine (CC.out _ HE.out).mono ?_
 rintro e1 w1 ⟨rfl, hb⟩
 have HE1 := Lib.hid (below_then HE.out hb); have HK1 := Lib.hid (HK.out.on hb)
 clear hb HE HK CC
 have z := HK1.out _ (.head _)
 have z0 := z.cell 0
 have zf0 := z.frozen 0
 have z1 := z.cell 1
 have zf1 := z.frozen 1
 have zl := z.lt
 simp at z0 zf0 z1 zf1
 clear z
 go_wp2
 refine bodyPost_ret (v := rv ra rb) (by simp [results, Tryz.results136, go_sem, z0, z1]) rfl ⟨rfl, ?_⟩
 have hg := HG.out
 repeat (first | exact HE1.out | refine Below.setCell ?_ (by simp <;> omega) _)

set_option maxRecDepth 100000 in
set_option maxHeartbeats 4000000 in
theorem meanMom_to (ps : List P3) (id al ah t0 t1 u0 u1 v0 v1 h0 h1 : Int) (A B C : Option Addr) (n c mm d l ee : Nat) (fh st x0 x1 d0 d1 : Int) (w : World) (hp : TabIn w B mm ps) :
  Calls Tryz.prog 101 #[.agg #[.int .i64 id, .int .i64 al, .int .i64 ah, .slice A n c, .slice B mm d, .slice C l ee, .int .i64 t0, .int .i64 t1, .int .i64 u0, .int .i64 u1, .int .i64 v0, .int .i64 v1, .int .i64 h0, .int .i64 h1], .agg #[.int .i64 fh, .int .i64 st, .int .i64 x0, .int .i64 x1, .int .i64 d0, .int .i64 d1]] w fun e w' => e = .returned (rv (overS ps x0 x1).1 (overS ps x0 x1).2.1) ∧ Below w.heap.size w w' := by
 have HE := Lib.hid (show Below w.heap.size w (((w.alloc (.cells #[.int .i64 id, .int .i64 al, .int .i64 ah, .slice A n c, .slice B mm d, .slice C l ee, .int .i64 t0, .int .i64 t1, .int .i64 u0, .int .i64 u1, .int .i64 v0, .int .i64 v1, .int .i64 h0, .int .i64 h1] 40)).alloc (.cells #[.int .i64 fh, .int .i64 st, .int .i64 x0, .int .i64 x1, .int .i64 d0, .int .i64 d1] 43)).alloc (.cells #[.int .i64 0, .int .i64 0] 35)) from below_a3 (Below.refl _ _))
 have HK := Lib.hid (boxes3' w 40 43 35 #[.int .i64 id, .int .i64 al, .int .i64 ah, .slice A n c, .slice B mm d, .slice C l ee, .int .i64 t0, .int .i64 t1, .int .i64 u0, .int .i64 u1, .int .i64 v0, .int .i64 v1, .int .i64 h0, .int .i64 h1] #[.int .i64 fh, .int .i64 st, .int .i64 x0, .int .i64 x1, .int .i64 d0, .int .i64 d1] #[.int .i64 0, .int .i64 0])
 have CC : Hid (∀ W, Below w.heap.size w W → Calls Tryz.prog 46 #[tv B mm d, rv x0 x1] W fun e w' => e = .returned (rv (overS ps x0 x1).1 (overS ps x0 x1).2.1) ∧ Below W.heap.size W w') := Lib.hid fun W hW => hover_any B mm d ps x0 x1 W (hp.below hW)
 clear hp
 generalize overS ps x0 x1 = r at *
 obtain ⟨ra, rb, re⟩ := r
 go_enter Tryz.func101, Tryz.ntmps101
 go_wp2_with fail
 obtain ⟨W0, hW0⟩ : ∃ W0, (((w.alloc (.cells #[.int .i64 id, .int .i64 al, .int .i64 ah, .slice A n c, .slice B mm d, .slice C l ee, .int .i64 t0, .int .i64 t1, .int .i64 u0, .int .i64 u1, .int .i64 v0, .int .i64 v1, .int .i64 h0, .int .i64 h1] 40)).alloc (.cells #[.int .i64 fh, .int .i64 st, .int .i64 x0, .int .i64 x1, .int .i64 d0, .int .i64 d1] 43)).alloc (.cells #[.int .i64 0, .int .i64 0] 35)) = W0 := ⟨_, rfl⟩
 rw [hW0] at HE HK ⊢
 clear hW0
 obtain ⟨G, hG⟩ : ∃ G, w.heap.size = G := ⟨_, rfl⟩
 rw [hG] at HK ⊢
 have HG := Lib.hid hG; clear hG
 refine (CC.out _ HE.out).mono ?_
 rintro e1 w1 ⟨rfl, hb⟩
 have HE1 := Lib.hid (below_then HE.out hb); have HK1 := Lib.hid (HK.out.on hb)
 clear hb HE HK CC
 have z := HK1.out _ (.head _)
 have z0 := z.cell 0
 have zf0 := z.frozen 0
 have z1 := z.cell 1
 have zf1 := z.frozen 1
 have zl := z.lt
 simp at z0 zf0 z1 zf1
 clear z
 go_wp2
 refine bodyPost_ret (v := rv ra rb) (by simp [results, Tryz.results101, go_sem, z0, z1]) rfl ⟨rfl, ?_⟩
 have hg := HG.out
 repeat (first | exact HE1.out | refine Below.setCell ?_ (by simp <;> omega) _)
end

section
open Go.RowKit
attribute [local go_sem ↓] run_minI run_maxI
theorem less_to (a b c d : Int) (t : Bool) (w : World) (h : decide (b < c) = t) :
  Calls Tryz.prog 81 #[rv a b, rv c d] w fun e w' => e = .returned (.bool t) ∧ Below w.heap.size w w' := by
 have hx : ((b < c) ∧ t = true) ∨ (¬ (b < c) ∧ t = false) := by
  by_cases q : b < c
  ·exact .inl ⟨q, by rw [← h]; exact decide_eq_true q⟩
  ·exact .inr ⟨q, by rw [← h]; exact decide_eq_false q⟩
 clear h
 rcases hx with ⟨h, rfl⟩ | ⟨h, rfl⟩
 all_goals
  go_enter Tryz.func81, Tryz.ntmps81
  go_wp2
  go_ret
  exact ⟨rfl, below_a2 (Below.refl _ _)⟩
theorem more_to (a b c d : Int) (t : Bool) (w : World) (h : decide (d < a) = t) :
  Calls Tryz.prog 80 #[rv a b, rv c d] w fun e w' => e = .returned (.bool t) ∧ Below w.heap.size w w' := by
 have C : Hid (∀ W, Calls Tryz.prog 81 #[rv c d, rv a b] W fun e w' => e = .returned (.bool t) ∧ Below W.heap.size W w') := Lib.hid fun W => less_to c d a b t W h
 clear h
 go_enter Tryz.func80, Tryz.ntmps80
 go_wp2_with fail
 refine (C.out _).mono ?_
 rintro e w1 ⟨rfl, hb⟩
 have HB := Lib.hid (below_a2 hb); clear hb
 go_wp2
 go_ret
 exact ⟨rfl, HB.out⟩
theorem at_in (A : Option Addr) (n c : Nat) (ps : List P3) (x : Int) (w : World) (hp : TabIn w A n ps) (ht : tabOk ps = true) (h1 : firstX ps ≤ x) (h2 : x ≤ lastX ps) :
    Calls Tryz.prog 117 #[tv A n c, .int .i64 x] w fun e w' => e = .returned (.tuple #[rv (atS ps x).1 (atS ps x).2, .int .i64 0]) ∧ Below w.heap.size w w' :=
  rt_to (at_all A n c ps x w hp.1 hp.2.1 hp.2.2) (by unfold AtS; rw [if_pos (by unfold placesS; rw [if_pos ht, if_pos (inB_yes (by omega) (by omega) (by omega))])])
def InvIn (w : World) (Bt Ba Bv : Nat) (A : Option Addr) (n c : Nat) (k : Nat) (v0 v1 : Int) (ps : List P3) : Prop := Blk w Bt 38 #[.slice A n c] ∧ Blk w Ba 127 #[fnV k] ∧ Blk w Bv 35 #[.int .i64 v0, .int .i64 v1] ∧ TabIn w A n ps
theorem InvIn.below {w w' : World} {Bt Ba Bv : Nat} {A : Option Addr} {n c k : Nat} {v0 v1 : Int} {ps : List P3} (h : InvIn w Bt Ba Bv A n c k v0 v1 ps) (hb : Below w.heap.size w w') : InvIn w' Bt Ba Bv A n c k v0 v1 ps :=
  ⟨blkOn h.1 hb, blkOn h.2.1 hb, blkOn h.2.2.1 hb, h.2.2.2.below hb⟩
def moreF (ps : List P3) (v1 : Int) (x : Int) : Bool := decide (v1 < (atS ps x).1)
def lessF (ps : List P3) (v0 : Int) (x : Int) : Bool := decide ((atS ps x).2 < v0)

set_option maxRecDepth 100000 in
set_option maxHeartbeats 2000000 in
theorem inv1_more (A : Option Addr) (n c : Nat) (ps : List P3) (v0 v1 x : Int) (t : Bool) (Bt Ba Bv : Nat) (w : World) (h : InvIn w Bt Ba Bv A n c 80 v0 v1 ps) (ht : tabOk ps = true) (h1 : firstX ps ≤ x) (h2 : x ≤ lastX ps) (hf : (!moreF ps v1 x) = t) :
  Calls Tryz.prog 116 #[.int .i64 x, .pointer (some ⟨Bt, 0, none⟩), .pointer (some ⟨Ba, 0, none⟩), .pointer (some ⟨Bv, 0, none⟩)] w fun e w' => e = .returned (.bool t) ∧ Below w.heap.size w w' := by
 have C1 : Hid (∀ W, Below w.heap.size w W → Calls Tryz.prog 117 #[tv A n c, .int .i64 x] W fun e w' => e = .returned (.tuple #[rv (atS ps x).1 (atS ps x).2, .int .i64 0]) ∧ Below W.heap.size W w') := Lib.hid fun W hW => at_in A n c ps x W (h.2.2.2.below hW) ht h1 h2
 obtain ⟨u, hu⟩ : ∃ u, decide (v1 < (atS ps x).1) = u := ⟨_, rfl⟩
 have C2 : Hid (∀ W, Calls Tryz.prog 80 #[rv (atS ps x).1 (atS ps x).2, rv v0 v1] W fun e w' => e = .returned (.bool u) ∧ Below W.heap.size W w') := Lib.hid fun W => more_to _ _ v0 v1 u W hu
 have hut : (!u) = t := by rw [← hf, ← hu]; rfl
 clear hf hu ht h1 h2
 generalize (atS ps x).1 = p at *
 generalize (atS ps x).2 = q at *
 have q1 := h.1.cell 0
 have l1 := h.1.lt
 simp at q1
 have HI := Lib.hid h
 clear h
 go_enter Tryz.func116, Tryz.ntmps116
 go_wp2_with fail
 refine (C1.out _ (Below.refl _ _)).mono ?_
 rintro e w1 ⟨rfl, hb⟩
 have HE := Lib.hid (below_then hb (below_alloc1 w1 (.cells #[.int .i64 p, .int .i64 q] 35)))
 have HI1 := Lib.hid (HI.out.below HE.out)
 have a0 := HI1.out.2.1.cell 0
 have b0 := HI1.out.2.2.1.cell 0
 have b1 := HI1.out.2.2.1.cell 1
 simp at a0 b0 b1
 have la := (HI.out.below hb).2.1.lt
 have lb := (HI.out.below hb).2.2.1.lt
 have a0' := (HI.out.below hb).2.1.cell 0
 have b0' := (HI.out.below hb).2.2.1.cell 0
 have b1' := (HI.out.below hb).2.2.1.cell 1
 simp at a0' b0' b1'
 clear hb HI C1 q1 l1
 go_wp2_with fail
 refine (C2.out _).mono ?_
 rintro e w2 ⟨rfl, hb⟩
 have HE2 := Lib.hid (below_then HE.out hb)
 clear hb HE HI1 a0 b0 b1 la lb a0' b0' b1' C2
 cases u
 all_goals
  simp only [Bool.not_false, Bool.not_true] at hut
  subst hut
  go_wp2
  go_ret
  exact ⟨rfl, HE2.out⟩

set_option maxRecDepth 100000 in
set_option maxHeartbeats 2000000 in
theorem inv2_less (A : Option Addr) (n c : Nat) (ps : List P3) (v0 v1 x : Int) (t : Bool) (Bt Ba Bv : Nat) (w : World) (h : InvIn w Bt Ba Bv A n c 81 v0 v1 ps) (ht : tabOk ps = true) (h1 : firstX ps ≤ x) (h2 : x ≤ lastX ps) (hf : lessF ps v0 x = t) :
  Calls Tryz.prog 118 #[.int .i64 x, .pointer (some ⟨Bt, 0, none⟩), .pointer (some ⟨Ba, 0, none⟩), .pointer (some ⟨Bv, 0, none⟩)] w fun e w' => e = .returned (.bool t) ∧ Below w.heap.size w w' := by
 have C1 : Hid (∀ W, Below w.heap.size w W → Calls Tryz.prog 117 #[tv A n c, .int .i64 x] W fun e w' => e = .returned (.tuple #[rv (atS ps x).1 (atS ps x).2, .int .i64 0]) ∧ Below W.heap.size W w') := Lib.hid fun W hW => at_in A n c ps x W (h.2.2.2.below hW) ht h1 h2
 obtain ⟨u, hu⟩ : ∃ u, decide ((atS ps x).2 < v0) = u := ⟨_, rfl⟩
 have C2 : Hid (∀ W, Calls Tryz.prog 81 #[rv (atS ps x).1 (atS ps x).2, rv v0 v1] W fun e w' => e = .returned (.bool u) ∧ Below W.heap.size W w') := Lib.hid fun W => less_to _ _ v0 v1 u W hu
 have hut : u = t := by rw [← hf, ← hu]; rfl
 clear hf hu ht h1 h2
 generalize (atS ps x).1 = p at *
 generalize (atS ps x).2 = q at *
 have q1 := h.1.cell 0
 have l1 := h.1.lt
 simp at q1
 have HI := Lib.hid h
 clear h
 go_enter Tryz.func118, Tryz.ntmps118
 go_wp2_with fail
 refine (C1.out _ (Below.refl _ _)).mono ?_
 rintro e w1 ⟨rfl, hb⟩
 have HE := Lib.hid (below_then hb (below_alloc1 w1 (.cells #[.int .i64 p, .int .i64 q] 35)))
 have HI1 := Lib.hid (HI.out.below HE.out)
 have a0 := HI1.out.2.1.cell 0
 have b0 := HI1.out.2.2.1.cell 0
 have b1 := HI1.out.2.2.1.cell 1
 simp at a0 b0 b1
 have la := (HI.out.below hb).2.1.lt
 have lb := (HI.out.below hb).2.2.1.lt
 have a0' := (HI.out.below hb).2.1.cell 0
 have b0' := (HI.out.below hb).2.2.1.cell 0
 have b1' := (HI.out.below hb).2.2.1.cell 1
 simp at a0' b0' b1'
 clear hb HI C1 q1 l1
 go_wp2_with fail
 refine (C2.out _).mono ?_
 rintro e w2 ⟨rfl, hb⟩
 have HE2 := Lib.hid (below_then HE.out hb)
 clear hb HE HI1 a0 b0 b1 la lb a0' b0' b1' C2
 cases u
 all_goals
  subst hut
  go_wp2
  go_ret
  exact ⟨rfl, HE2.out⟩

def invS (ahead behind : Int → Bool) (lo hi : Int) : Int × Int × Int :=
  if hi < lo + bs (fun i => !(ahead (lo + i))) (hi - lo + 1).toNat 0 (hi - lo + 1) ∨ lo + bs (fun i => behind (lo + i)) (hi - lo + 1).toNat 0 (hi - lo + 1) = lo then (0, 0, 24)
  else (max (lo + bs (fun i => !(ahead (lo + i))) (hi - lo + 1).toNat 0 (hi - lo + 1) - 1) lo, min (lo + bs (fun i => behind (lo + i)) (hi - lo + 1).toNat 0 (hi - lo + 1)) hi, 0)

set_option maxRecDepth 100000 in
set_option maxHeartbeats 4000000 in
theorem inverse_more (A : Option Addr) (n c : Nat) (ps : List P3) (v0 v1 : Int) (w : World) (hp : TabIn w A n ps) (ht : tabOk ps = true) (hle : firstX ps ≤ lastX ps) :
  Calls Tryz.prog 79 #[tv A n c, rv v0 v1, fnV 80, fnV 81] w fun e w' => e = .returned (rt (invS (moreF ps v1) (lessF ps v0) (firstX ps) (lastX ps))) ∧ Below w.heap.size w w' := by
 have HE := Lib.hid (show Below w.heap.size w (((((w.alloc (.cells #[.slice A n c] 38)).alloc (.cells #[.int .i64 v0, .int .i64 v1] 35)).alloc (.cells #[fnV 80] 127)).alloc (.cells #[fnV 81] 127)).alloc (.cells #[.int .i64 0, .int .i64 0] 35)) from below_a5 (Below.refl _ _))
 have HK := Lib.hid (boxes5' w 38 35 127 127 35 #[.slice A n c] #[.int .i64 v0, .int .i64 v1] #[fnV 80] #[fnV 81] #[.int .i64 0, .int .i64 0])
 obtain ⟨pl1, pl2⟩ := places_in ht
 obtain ⟨r1, hr1⟩ : ∃ r, firstX ps + bs (fun i => !((moreF ps v1) (firstX ps + i))) (lastX ps - firstX ps + 1).toNat 0 (lastX ps - firstX ps + 1) = r := ⟨_, rfl⟩
 obtain ⟨r2, hr2⟩ : ∃ r, firstX ps + bs (fun i => (lessF ps v0) (firstX ps + i)) (lastX ps - firstX ps + 1).toNat 0 (lastX ps - firstX ps + 1) = r := ⟨_, rfl⟩
 have hb1 := bs_range (fun i => !((moreF ps v1) (firstX ps + i))) (lastX ps - firstX ps + 1).toNat 0 (lastX ps - firstX ps + 1) (by omega)
 have hb2 := bs_range (fun i => (lessF ps v0) (firstX ps + i)) (lastX ps - firstX ps + 1).toNat 0 (lastX ps - firstX ps + 1) (by omega)
 have C0 : Hid (∀ W, Below w.heap.size w W → Calls Tryz.prog 55 #[tv A n c] W fun e w' => e = .returned (rv (firstX ps) (lastX ps)) ∧ Below W.heap.size W w') := Lib.hid fun W hW => hplaces_tab A n c ps W (hp.below hW) ht
 have C1 : Hid (∀ W Bt Ba Bv, InvIn W Bt Ba Bv A n c 80 v0 v1 ps → Calls Tryz.prog 115 #[.int .i64 (firstX ps), .int .i64 (lastX ps), inv1Fn Bt Ba Bv] W fun e w' => e = .returned (.int .i64 r1) ∧ Below W.heap.size W w') := Lib.hid fun W Bt Ba Bv hI =>
  first1_to Bt Ba Bv (fun x => !((moreF ps v1) x)) _ _ r1 W (fun V x t hV q1 q2 q3 => inv1_more A n c ps v0 v1 x t Bt Ba Bv V (hI.below hV) ht q1 q2 q3) pl1 hle pl2 hr1
 have C2 : Hid (∀ W Bt Ba Bv, InvIn W Bt Ba Bv A n c 81 v0 v1 ps → Calls Tryz.prog 115 #[.int .i64 (firstX ps), .int .i64 (lastX ps), inv2Fn Bt Ba Bv] W fun e w' => e = .returned (.int .i64 r2) ∧ Below W.heap.size W w') := Lib.hid fun W Bt Ba Bv hI =>
  first2_to Bt Ba Bv (lessF ps v0) _ _ r2 W (fun V x t hV q1 q2 q3 => inv2_less A n c ps v0 v1 x t Bt Ba Bv V (hI.below hV) ht q1 q2 q3) pl1 hle pl2 hr2
 obtain ⟨R, hR⟩ : ∃ R, invS (moreF ps v1) (lessF ps v0) (firstX ps) (lastX ps) = R := ⟨_, rfl⟩
 rw [hR]
 have HR : Hid ((if lastX ps < r1 ∨ r2 = firstX ps then (0, 0, 24) else (max (r1 - 1) (firstX ps), min r2 (lastX ps), 0)) = R) := Lib.hid (by rw [← hR]; unfold invS; rw [hr1, hr2])
 clear hR ht
 have HP := Lib.hid hp
 clear hp
 generalize firstX ps = f at *
 generalize lastX ps = l at *
 have k1 : f ≤ r1 ∧ r1 ≤ l + 1 := by omega
 have k2 : f ≤ r2 ∧ r2 ≤ l + 1 := by omega
 clear hr1 hr2 hb1 hb2
 have w1 : IntKind.i64.wrap (r1 - 1) = r1 - 1 := IntWalk.i64_in _ ⟨by omega, by omega⟩
 go_enter Tryz.func79, Tryz.ntmps79
 go_wp2_with fail
 obtain ⟨W0, hW0⟩ : ∃ W0, (((((w.alloc (.cells #[.slice A n c] 38)).alloc (.cells #[.int .i64 v0, .int .i64 v1] 35)).alloc (.cells #[fnV 80] 127)).alloc (.cells #[fnV 81] 127)).alloc (.cells #[.int .i64 0, .int .i64 0] 35)) = W0 := ⟨_, rfl⟩
 rw [hW0] at HE HK ⊢
 clear hW0
 obtain ⟨G, hG⟩ : ∃ G, w.heap.size = G := ⟨_, rfl⟩
 rw [hG] at HK ⊢
 have HG := Lib.hid hG; clear hG
 refine (C0.out _ HE.out).mono ?_
 rintro e w1 ⟨rfl, hb⟩
 have HE1 := Lib.hid (below_then (below_then HE.out hb) (below_alloc1 w1 (.cells #[.int .i64 f, .int .i64 l] 35)))
 have HK1 := Lib.hid ((HK.out.on hb).new 35 #[.int .i64 f, .int .i64 l])
 clear hb HE HK C0
 go_upto_region 2 with fail
 obtain ⟨W1, hW1⟩ : ∃ W1, w1.alloc (.cells #[.int .i64 f, .int .i64 l] 35) = W1 := ⟨_, rfl⟩
 rw [hW1] at HE1 HK1 ⊢
 clear hW1
 obtain ⟨N, hN⟩ : ∃ N, w1.heap.size = N := ⟨_, rfl⟩
 rw [hN] at HK1 ⊢
 clear hN
 have p := HK1.out _ (.head _)
 have p0 := p.cell 0
 have p1 := p.cell 1
 simp at p0 p1
 clear p
 go_wp2_with fail
 refine (C1.out _ _ _ _ ⟨HK1.out _ (.tail _ (.tail _ (.tail _ (.tail _ (.tail _ (.head _)))))), HK1.out _ (.tail _ (.tail _ (.tail _ (.head _)))), HK1.out _ (.tail _ (.tail _ (.tail _ (.tail _ (.head _))))), HP.out.below HE1.out⟩).mono ?_
 rintro e w2 ⟨rfl, hb⟩
 have HE2 := Lib.hid (below_then HE1.out hb)
 have HK2 := Lib.hid (HK1.out.on hb)
 clear hb HE1 HK1 p0 p1 C1
 have p := HK2.out _ (.head _)
 have p0 := p.cell 0
 have p1 := p.cell 1
 simp at p0 p1
 clear p
 go_wp2_with fail
 refine (C2.out _ _ _ _ ⟨HK2.out _ (.tail _ (.tail _ (.tail _ (.tail _ (.tail _ (.head _)))))), HK2.out _ (.tail _ (.tail _ (.head _))), HK2.out _ (.tail _ (.tail _ (.tail _ (.tail _ (.head _))))), HP.out.below HE2.out⟩).mono ?_
 rintro e w3 ⟨rfl, hb⟩
 have HE3 := Lib.hid (below_then HE2.out hb)
 have HK3 := Lib.hid (HK2.out.on hb)
 clear hb HE2 HK2 p0 p1 C2
 have p := HK3.out _ (.head _)
 have p0 := p.cell 0
 have p1 := p.cell 1
 have pl := p.lt
 simp at p0 p1
 clear p
 have z := HK3.out _ (.tail _ (.head _))
 have z0 := z.cell 0
 have zf0 := z.frozen 0
 have z1 := z.cell 1
 have zf1 := z.frozen 1
 have zl := z.lt
 simp at z0 zf0 z1 zf1
 clear z
 by_cases g1 : l < r1
 ·have e : R = (0, 0, 24) := by rw [← HR.out, if_pos (.inl g1)]
  subst e
  clear HR
  go_wp2
  refine bodyPost_ret (v := rt (0, 0, 24)) (by simp [results, Tryz.results79, go_sem, z0, z1]) rfl ⟨rfl, ?_⟩
  have hg := HG.out
  repeat (first | exact HE3.out | refine Below.setCell ?_ (by simp <;> omega) _)
 ·by_cases g2 : r2 = f
  ·have e : R = (0, 0, 24) := by rw [← HR.out, if_pos (.inr g2)]
   subst e
   have b2 : (r2 == f) = true := by simp [g2]
   clear g2 HR
   go_wp2
   refine bodyPost_ret (v := rt (0, 0, 24)) (by simp [results, Tryz.results79, go_sem, z0, z1]) rfl ⟨rfl, ?_⟩
   have hg := HG.out
   repeat (first | exact HE3.out | refine Below.setCell ?_ (by simp <;> omega) _)
  ·have e : R = (max (r1 - 1) f, min r2 l, 0) := by rw [← HR.out, if_neg (by omega)]
   have b2 : (r2 == f) = false := beq_eq_false_iff_ne.2 g2
   obtain ⟨m1, hm1⟩ : ∃ m, max (r1 - 1) f = m := ⟨_, rfl⟩
   obtain ⟨m2, hm2⟩ : ∃ m, min r2 l = m := ⟨_, rfl⟩
   rw [hm1, hm2] at e
   subst e
   clear g2 HR
   go_wp2
   refine bodyPost_ret (v := rt (m1, m2, 0)) (by simp [results, Tryz.results79, go_sem, z0, z1]) rfl ⟨rfl, ?_⟩
   have hg := HG.out
   repeat (first | exact HE3.out | refine Below.setCell ?_ (by simp <;> omega) _)
end

section
open Go.RowKit

theorem Blk.farRow {w : World} {g g' : Nat} {t : TypeId} {cs : Array Value} (h : Blk w g t cs) (hg : g ≠ g') (cs' : Array Value) : Blk (w.setRow g' cs') g t cs := by
  unfold Blk at h ⊢
  simp only [World.setRow, Array.getElem?_modify]
  rw [if_neg (fun e => hg e.symm)]; exact h
def mM (st : Int) : Array Value := if st = 0 then emptyM else if st = 1 then filledM 98 else if st = 2 then filledM 99 else if st = 3 then partlyM 101 else heldM
theorem st_cases {st : Int} (h0 : 0 ≤ st) (h5 : st ≤ 5) : st = 0 ∨ st = 1 ∨ st = 2 ∨ st = 3 ∨ st = 4 ∨ st = 5 := by omega
theorem idxM {st : Int} (h0 : 0 ≤ st) (h5 : st ≤ 5) (w : World) : (Instr.index 120 (.agg allM) (.int .i64 st)).run Tryz.prog w = .ok (.agg (mM st)) w := by
  rcases st_cases h0 h5 with rfl | rfl | rfl | rfl | rfl | rfl <;> kernel_rfl
theorem mM_size {st : Int} (h0 : 0 ≤ st) (h5 : st ≤ 5) : (Tryz.prog.info? 99).map (·.size) = some (mM st).size ∧ Array.size (#[.nilFunc, .nilFunc, .nilFunc, .nilFunc, .nilFunc, .int .i64 0, .int .i64 0, .int .i64 0] : Array Value) = (mM st).size ∧ (mM st).all (·.oneCell') = true := by
  rcases st_cases h0 h5 with rfl | rfl | rfl | rfl | rfl | rfl <;> exact ⟨by kernel_rfl, by kernel_rfl, by kernel_rfl⟩

set_option maxRecDepth 100000 in
set_option maxHeartbeats 4000000 in
theorem meaningOf_any (fh st x0 x1 d0 d1 : Int) (w : World) (h0 : 0 ≤ st) (h5 : st ≤ 5) :
  Calls Tryz.prog 40 #[.agg #[.int .i64 fh, .int .i64 st, .int .i64 x0, .int .i64 x1, .int .i64 d0, .int .i64 d1]] w fun e w' => e = .returned (.agg (mM st)) ∧ Below w.heap.size w w' := by
 have HE := Lib.hid (show Below w.heap.size w ((w.alloc (.cells #[.int .i64 fh, .int .i64 st, .int .i64 x0, .int .i64 x1, .int .i64 d0, .int .i64 d1] 43)).alloc (.cells #[.nilFunc, .nilFunc, .nilFunc, .nilFunc, .nilFunc, .int .i64 0, .int .i64 0, .int .i64 0] 99)) from below_a2 (Below.refl _ _))
 have HK := Lib.hid (boxes2' w 43 99 #[.int .i64 fh, .int .i64 st, .int .i64 x0, .int .i64 x1, .int .i64 d0, .int .i64 d1] #[.nilFunc, .nilFunc, .nilFunc, .nilFunc, .nilFunc, .int .i64 0, .int .i64 0, .int .i64 0])
 have I : ∀ w, (Instr.index 120 (.agg allM) (.int .i64 st)).run Tryz.prog w = .ok (.agg (mM st)) w := idxM h0 h5
 obtain ⟨s1, s2, s3⟩ := mM_size h0 h5
 have HS := Lib.hid (And.intro s1 (And.intro s2 s3))
 clear s1 s2 s3 h0 h5
 generalize mM st = M at *
 go_enter Tryz.func40, Tryz.ntmps40
 go_wp2_with fail
 obtain ⟨W0, hW0⟩ : ∃ W0, ((w.alloc (.cells #[.int .i64 fh, .int .i64 st, .int .i64 x0, .int .i64 x1, .int .i64 d0, .int .i64 d1] 43)).alloc (.cells #[.nilFunc, .nilFunc, .nilFunc, .nilFunc, .nilFunc, .int .i64 0, .int .i64 0, .int .i64 0] 99)) = W0 := ⟨_, rfl⟩
 rw [hW0] at HE HK ⊢
 clear hW0
 obtain ⟨G, hG⟩ : ∃ G, w.heap.size = G := ⟨_, rfl⟩
 rw [hG] at HK ⊢
 have HG := Lib.hid hG; clear hG
 have q := HK.out _ (.tail _ (.head _))
 have q1 := q.cell 1
 simp at q1
 clear q
 refine wp_region_held_drew (S := fun w' => w'.cell? ⟨G, 1, none⟩ = some (.int .i64 st)) (by kernel_rfl) q1 (fun hHeld => ?_)
 refine tK 4 (i := 1) (v := .pointer (some ⟨G, 1, none⟩)) rfl rfl (by kernel_rfl) ?_ hHeld ?_
 ·intro w hSw; go_simp; try with_reducible rfl
 simp only [uZ, uS]
 refine tK 5 (i := 2) (v := .int .i64 st) rfl rfl (by kernel_rfl) ?_ hHeld ?_
 ·intro w hSw; (try dsimp only at hSw); go_simp; try with_reducible rfl
 simp only [uZ, uS]
 refine wpAnyH_ready (rs := [0]) (by kernel_rfl) (by simp) ?_
 refine AllReadyH.cons rfl (fun K hK => ?_) AllReadyH.nil
 go_simp
 (with_reducible refine (meanings_any _).mono ?_)
 rintro e v1 ⟨rfl, hb⟩
 have hb := below_d hb
 have HE1 := Lib.hid (below_then HE.out hb); have HK1 := Lib.hid (HK.out.on hb)
 clear hb HE HK
 refine hK.out _ _ ((HK1.out _ (.tail _ (.head _))).cell 1) (fun hHeld2 => ?_)
 try simp only [Act.put, uA, uZ, uS]
 clear hK K hHeld
 have hHeld := hHeld2
 clear hHeld2
 refine tK 6 (i := 3) (v := .agg M) rfl rfl (by kernel_rfl) ?_ hHeld ?_
 ·intro w hSw; (try dsimp only at hSw); go_simp; try with_reducible rfl
 simp only [uZ, uS]
 refine wpAnyH_ready (rs := [4]) (by kernel_rfl) (by simp) ?_
 refine AllReadyH.cons rfl (fun K hK => ?_) AllReadyH.nil
 rw [if_pos (by kernel_rfl)]
 have HKR : Hid (Blk (v1.setRow (G + 1) M) (G + 1) 99 M) := Lib.hid (setRow_heap v1 (G + 1) _ _ 99 _ (HK1.out _ (.head _)))
 have c1 := ((HK1.out _ (.tail _ (.head _))).farRow (show G ≠ G + 1 by omega) M).cell 1
 have HE6 := Lib.hid (below_setRow HE1.out (show w.heap.size ≤ G + 1 by have := HG.out; omega) M)
 refine wp_store_row 99 (.tmp 2) (.tmp 6) rfl (G + 1) M rfl rfl 99 _ (HK1.out _ (.head _)) HS.out.1 HS.out.2.1 HS.out.2.2 ?_
 obtain ⟨W6, hW6⟩ : ∃ W6, v1.setRow (G + 1) M = W6 := ⟨_, rfl⟩
 rw [hW6] at HKR HE6 c1 ⊢
 refine hK.out _ _ c1 (fun hHeld2 => ?_)
 clear hW6 HK1 HE1 hK K hHeld hHeld2 c1
 refine wpAnyH_done (by kernel_rfl) ?_ _
 go_wp2
 exact bodyPost_ret (v := .agg M) (results_cell_row Tryz.results40 _ _ (G + 1) 99 M (0, 0) _ rfl HKR.out Tryz.underlying99 rfl HS.out.1) rfl ⟨rfl, HE6.out⟩
end

section
open Go.RowKit
attribute [local go_sem ↓] eqlRange neqRange
theorem hfloor_any (n d : Int) (w : World) (hd : 1 ≤ d) (hn : -4000000000000000000 ≤ n) (hn' : n ≤ 4000000000000000000) :
  Calls Tryz.prog 83 #[.int .i64 n, .int .i64 d] w fun e w' => e = .returned (.int .i64 (n / d)) ∧ w = w' := by
 have hf := tdiv_floor n d (by omega)
 have hb := ediv_between n d 4000000000000000000 hd (by omega) hn hn'
 have H := Lib.hid (And.intro hf hb)
 clear hf hb
 go_enter Tryz.func83, Tryz.ntmps83
 go_wp2
 ·have h : n.tmod d < 0 := by assumption
  go_ret
  obtain ⟨⟨h1, _⟩, h3, h4⟩ := H.out
  have h5 := h1 h
  exact ⟨ret_int (by rw [h5]; exact IntWalk.wrap64_in _ ⟨by omega, by omega⟩), rfl⟩
 ·have h : 0 ≤ n.tmod d := by assumption
  go_ret
  obtain ⟨⟨_, h2⟩, _⟩ := H.out
  exact ⟨ret_int (h2 h), rfl⟩

def massErr (a b c d : Int) : Int := if vR a b = true then (if densS c d = true then 0 else 22) else 10
theorem checkMass_any (a b c d : Int) (w : World) :
  Calls Tryz.prog 53 #[rv a b, rv c d] w fun e w' => e = .returned (.int .i64 (massErr a b c d)) ∧ Below w.heap.size w w' := by
 have HE := Lib.hid (show Below w.heap.size w ((w.alloc (.cells #[.int .i64 a, .int .i64 b] 35)).alloc (.cells #[.int .i64 c, .int .i64 d] 35)) from below_a2 (Below.refl _ _))
 have HK := Lib.hid (boxes2' w 35 35 #[.int .i64 a, .int .i64 b] #[.int .i64 c, .int .i64 d])
 obtain ⟨bv, ev⟩ : ∃ t, vR a b = t := ⟨_, rfl⟩
 obtain ⟨bd, ed⟩ : ∃ t, densS c d = t := ⟨_, rfl⟩
 have C1 : Hid (∀ W, bv = true → Calls Tryz.prog 82 #[rv a b] W fun e w' => e = .returned (.int .i64 0) ∧ Below W.heap.size W w') := Lib.hid fun W h => checkRange_ok a b W (ev.trans h)
 have C2 : Hid (∀ W, bv = false → Calls Tryz.prog 82 #[rv a b] W fun e w' => e = .returned (.int .i64 10) ∧ Below W.heap.size W w') := Lib.hid fun W h => checkRange_bad a b W (ev.trans h)
 have C3 : Hid (∀ W, Calls Tryz.prog 68 #[rv c d] W fun e w' => e = .returned (.bool bd) ∧ Below W.heap.size W w') := Lib.hid fun W => isDensity_to c d bd W ed
 unfold massErr
 rw [ev, ed]
 clear ev ed
 cases bv
 ·simp only [Bool.false_eq_true, if_false]
  go_enter Tryz.func53, Tryz.ntmps53
  go_wp2_with fail
  refine (C2.out _ (by trivial)).mono ?_
  rintro e w1 ⟨rfl, hb⟩
  have HE1 := Lib.hid (below_then HE.out hb)
  clear hb
  go_wp2
  go_ret
  exact ⟨rfl, HE1.out⟩
 ·simp only [if_true]
  go_enter Tryz.func53, Tryz.ntmps53
  go_wp2_with fail
  refine (C1.out _ (by trivial)).mono ?_
  rintro e w1 ⟨rfl, hb⟩
  have HE1 := Lib.hid (below_then HE.out hb)
  have z := HK.out.on hb _ (.head _)
  have z0 := z.cell 0
  have z1 := z.cell 1
  simp at z0 z1
  clear hb z
  go_wp2_with fail
  refine (C3.out _).mono ?_
  rintro e w2 ⟨rfl, hb⟩
  have HE2 := Lib.hid (below_then HE1.out hb)
  clear hb z0 z1
  cases bd
  all_goals
   simp only [Bool.false_eq_true, if_false, if_true]
   go_wp2
   go_ret
   exact ⟨rfl, HE2.out⟩

def litresS (a b c d : Int) : Int × Int := (1000 * a / (if a < 0 then c else d), -(-1000 * b / (if b < 0 then d else c)))
theorem vR_small {a b : Int} (h : vR a b = true) : -1000000000000000 ≤ a ∧ a ≤ b ∧ b ≤ 1000000000000000 := by
  have := (vR_iff a b).1 h; omega
theorem dens_in {c d : Int} (h : densS c d = true) : 100 ≤ c ∧ c ≤ d ∧ d ≤ 2000 := by
  unfold densS at h
  simp only [inB, decide_eq_true_eq] at h
  omega
set_option maxRecDepth 100000 in
set_option maxHeartbeats 4000000 in
theorem hlitres_any (a b c d : Int) (w : World) (h1 : -1000000000000000 ≤ a ∧ a ≤ b ∧ b ≤ 1000000000000000) (h2 : 100 ≤ c ∧ c ≤ d ∧ d ≤ 2000) :
  Calls Tryz.prog 54 #[rv a b, rv c d] w fun e w' => e = .returned (rv (litresS a b c d).1 (litresS a b c d).2) ∧ Below w.heap.size w w' := by
 have F1 : Hid (∀ n e W, 1 ≤ e → -1000000000000000000 ≤ n → n ≤ 1000000000000000000 → Calls Tryz.prog 83 #[.int .i64 n, .int .i64 e] W fun x w' => x = .returned (.int .i64 (n / e)) ∧ W = w') := Lib.hid fun n e W q1 q2 q3 => hfloor_any n e W q1 (by omega) (by omega)
 have k1 : IntKind.i64.wrap (1000 * a) = 1000 * a := IntWalk.i64_in _ ⟨by omega, by omega⟩
 have k2 : IntKind.i64.wrap (-1000 * b) = -1000 * b := IntWalk.i64_in _ ⟨by omega, by omega⟩
 have hA : (a < 0 ∧ (if a < 0 then c else d) = c) ∨ (¬ a < 0 ∧ (if a < 0 then c else d) = d) := by
  by_cases q : a < 0
  ·exact .inl ⟨q, if_pos q⟩
  ·exact .inr ⟨q, if_neg q⟩
 have hB : (b < 0 ∧ (if b < 0 then d else c) = d) ∨ (¬ b < 0 ∧ (if b < 0 then d else c) = c) := by
  by_cases q : b < 0
  ·exact .inl ⟨q, if_pos q⟩
  ·exact .inr ⟨q, if_neg q⟩
 unfold litresS
 have HE := Lib.hid (show Below w.heap.size w (((w.alloc (.cells #[.int .i64 a, .int .i64 b] 35)).alloc (.cells #[.int .i64 c, .int .i64 d] 35)).alloc (.cells #[.int .i64 0, .int .i64 0] 35)) from below_a3 (Below.refl _ _))
 have HK := Lib.hid (boxes3' w 35 35 35 #[.int .i64 a, .int .i64 b] #[.int .i64 c, .int .i64 d] #[.int .i64 0, .int .i64 0])
 have k3 : ∀ x, IntKind.i64.wrap (-(-1000 * b / x)) = -(-1000 * b / x) ∨ ¬ (100 ≤ x ∧ x ≤ 2000) := fun x => by
  by_cases q : 100 ≤ x ∧ x ≤ 2000
  ·have := ediv_between (-1000 * b) x 1000000000000000000 (by omega) (by omega) (by omega) (by omega)
   exact .inl (IntWalk.i64_in _ ⟨by omega, by omega⟩)
  ·exact .inr q
 rcases hA with ⟨qa, ea⟩ | ⟨qa, ea⟩ <;> rcases hB with ⟨qb, eb⟩ | ⟨qb, eb⟩
 ·rw [ea, eb]
  clear ea eb
  dsimp only
  have k4 := (k3 d).resolve_right (by omega)
  have F2 := Lib.hid (fun W => F1.out (1000 * a) c W (by omega) (by omega) (by omega))
  have F3 := Lib.hid (fun W => F1.out (-1000 * b) d W (by omega) (by omega) (by omega))
  clear k3 F1
  go_enter Tryz.func54, Tryz.ntmps54
  go_wp2_with fail
  obtain ⟨W0, hW0⟩ : ∃ W0, (((w.alloc (.cells #[.int .i64 a, .int .i64 b] 35)).alloc (.cells #[.int .i64 c, .int .i64 d] 35)).alloc (.cells #[.int .i64 0, .int .i64 0] 35)) = W0 := ⟨_, rfl⟩
  rw [hW0] at HE HK ⊢
  clear hW0
  obtain ⟨G, hG⟩ : ∃ G, w.heap.size = G := ⟨_, rfl⟩
  rw [hG] at HK ⊢
  have HG := Lib.hid hG; clear hG
  have p := HK.out _ (.tail _ (.tail _ (.head _)))
  have p0 := p.cell 0
  have p1 := p.cell 1
  simp at p0 p1
  clear p
  have q := HK.out _ (.tail _ (.head _))
  have q0 := q.cell 0
  have q1 := q.cell 1
  simp at q0 q1
  clear q
  go_region
  have p0 : W0.drew.cell? ⟨G, 0, none⟩ = some (.int .i64 a) := p0
  have p1 : W0.drew.cell? ⟨G, 1, none⟩ = some (.int .i64 b) := p1
  have q0 : W0.drew.cell? ⟨G + 1, 0, none⟩ = some (.int .i64 c) := q0
  have q1 : W0.drew.cell? ⟨G + 1, 1, none⟩ = some (.int .i64 d) := q1
  go_upto_region 6 with fail
  have HE1 := Lib.hid HE.out.drew.drew
  refine wp_region_held_drew (S := fun w' => w'.cell? ⟨G, 0, none⟩ = some (.int .i64 a) ∧ w'.cell? ⟨G, 1, none⟩ = some (.int .i64 b)) (by kernel_rfl) ⟨p0, p1⟩ (fun hHeld => ?_)
  refine tK 21 (i := 0) (v := .pointer (some ⟨G, 0, none⟩)) rfl rfl (by kernel_rfl) ?_ hHeld ?_
  ·intro w hSw; (try dsimp only at hSw); go_simp; try with_reducible rfl
  simp only [uZ, uS]
  refine tK 22 (i := 1) (v := .int .i64 a) rfl rfl (by kernel_rfl) ?_ hHeld ?_
  ·intro w hSw; (try dsimp only at hSw); go_simp; try with_reducible rfl
  simp only [uZ, uS]
  refine tK 23 (i := 2) (v := .int .i64 (1000 * a)) rfl rfl (by kernel_rfl) ?_ hHeld ?_
  ·intro w hSw; (try dsimp only at hSw); go_simp; try with_reducible rfl
  simp only [uZ, uS]
  refine tK 24 (i := 3) (v := .int .i64 c) rfl rfl (by kernel_rfl) ?_ hHeld ?_
  ·intro w hSw; (try dsimp only at hSw); go_simp; try with_reducible rfl
  simp only [uZ, uS]
  refine tK 26 (i := 5) (v := .pointer (some ⟨G, 1, none⟩)) rfl rfl (by kernel_rfl) ?_ hHeld ?_
  ·intro w hSw; (try dsimp only at hSw); go_simp; try with_reducible rfl
  simp only [uZ, uS]
  refine tK 27 (i := 6) (v := .int .i64 b) rfl rfl (by kernel_rfl) ?_ hHeld ?_
  ·intro w hSw; (try dsimp only at hSw); go_simp; try with_reducible rfl
  simp only [uZ, uS]
  refine tK 28 (i := 7) (v := .int .i64 (-1000 * b)) rfl rfl (by kernel_rfl) ?_ hHeld ?_
  ·intro w hSw; (try dsimp only at hSw); go_simp; try with_reducible rfl
  simp only [uZ, uS]
  refine tK 29 (i := 8) (v := .int .i64 d) rfl rfl (by kernel_rfl) ?_ hHeld ?_
  ·intro w hSw; (try dsimp only at hSw); go_simp; try with_reducible rfl
  simp only [uZ, uS]
  refine wpAnyH_ready (rs := [4]) (by kernel_rfl) (by simp) ?_
  refine AllReadyH.cons rfl (fun K hK => ?_) AllReadyH.nil
  go_simp
  (with_reducible refine (F2.out _).mono ?_)
  rintro e w2 ⟨rfl, rfl⟩
  refine hK.out _ _ (hHeld) (fun hHeld2 => ?_)
  try simp only [Act.put, uA, uZ, uS]
  clear hK K hHeld
  have hHeld := hHeld2
  clear hHeld2
  refine wpAnyH_ready (rs := [9]) (by kernel_rfl) (by simp) ?_
  refine AllReadyH.cons rfl (fun K hK => ?_) AllReadyH.nil
  go_simp
  (with_reducible refine (F3.out _).mono ?_)
  rintro e w2 ⟨rfl, rfl⟩
  refine hK.out _ _ (hHeld) (fun hHeld2 => ?_)
  try simp only [Act.put, uA, uZ, uS]
  clear hK K hHeld
  have hHeld := hHeld2
  clear hHeld2
  refine tK 31 (i := 10) (v := .int .i64 (-(-1000 * b / d))) rfl rfl (by kernel_rfl) ?_ hHeld ?_
  ·intro w hSw; (try dsimp only at hSw); go_simp; try with_reducible rfl
  simp only [uZ, uS]
  refine tK 32 (i := 11) (v := .agg #[.int .i64 (1000 * a / c), .int .i64 (-(-1000 * b / d))]) rfl rfl (by kernel_rfl) ?_ hHeld ?_
  ·intro w hSw; (try dsimp only at hSw); go_simp; try with_reducible rfl
  simp only [uZ, uS]
  refine wpAnyH_ready (rs := [12]) (by kernel_rfl) (by simp) ?_
  refine AllReadyH.cons rfl (fun K hK => ?_) AllReadyH.nil
  rw [if_pos (by kernel_rfl)]
  have HKR : Hid (Blk (W0.drew.drew.setRow (G + 1 + 1) #[.int .i64 (1000 * a / c), .int .i64 (-(-1000 * b / d))]) (G + 1 + 1) 35 #[.int .i64 (1000 * a / c), .int .i64 (-(-1000 * b / d))]) := Lib.hid (setRow_heap W0.drew.drew (G + 1 + 1) _ _ 35 _ ((HK.out _ (.head _)).drew.drew))
  have HE6 := Lib.hid (below_setRow HE1.out (show w.heap.size ≤ G + 1 + 1 by have := HG.out; omega) #[.int .i64 (1000 * a / c), .int .i64 (-(-1000 * b / d))])
  have hS6 := And.intro (((HK.out _ (.tail _ (.tail _ (.head _)))).drew.drew.farRow (show G ≠ G + 1 + 1 by omega) #[.int .i64 (1000 * a / c), .int .i64 (-(-1000 * b / d))]).cell 0) (((HK.out _ (.tail _ (.tail _ (.head _)))).drew.drew.farRow (show G ≠ G + 1 + 1 by omega) #[.int .i64 (1000 * a / c), .int .i64 (-(-1000 * b / d))]).cell 1)
  refine wp_store_row 35 (.tmp 4) (.tmp 32) rfl (G + 1 + 1) #[.int .i64 (1000 * a / c), .int .i64 (-(-1000 * b / d))] rfl rfl 35 _ ((HK.out _ (.head _)).drew.drew) (by kernel_rfl) rfl (by kernel_rfl) ?_
  obtain ⟨W6, hW6⟩ : ∃ W6, W0.drew.drew.setRow (G + 1 + 1) #[.int .i64 (1000 * a / c), .int .i64 (-(-1000 * b / d))] = W6 := ⟨_, rfl⟩
  rw [hW6] at HKR HE6 hS6 ⊢
  refine hK.out _ _ hS6 (fun hHeld2 => ?_)
  clear hW6 hK K hHeld hHeld2 hS6
  refine wpAnyH_done (by kernel_rfl) ?_ _
  go_wp2
  exact bodyPost_ret (v := .agg #[.int .i64 (1000 * a / c), .int .i64 (-(-1000 * b / d))]) (results_cell_row Tryz.results54 _ _ (G + 1 + 1) 35 #[.int .i64 (1000 * a / c), .int .i64 (-(-1000 * b / d))] (0, 0) _ rfl HKR.out Tryz.underlying35 rfl (by kernel_rfl)) rfl ⟨rfl, HE6.out⟩
 ·rw [ea, eb]
  clear ea eb
  dsimp only
  have k4 := (k3 c).resolve_right (by omega)
  have F2 := Lib.hid (fun W => F1.out (1000 * a) c W (by omega) (by omega) (by omega))
  have F3 := Lib.hid (fun W => F1.out (-1000 * b) c W (by omega) (by omega) (by omega))
  clear k3 F1
  go_enter Tryz.func54, Tryz.ntmps54
  go_wp2_with fail
  obtain ⟨W0, hW0⟩ : ∃ W0, (((w.alloc (.cells #[.int .i64 a, .int .i64 b] 35)).alloc (.cells #[.int .i64 c, .int .i64 d] 35)).alloc (.cells #[.int .i64 0, .int .i64 0] 35)) = W0 := ⟨_, rfl⟩
  rw [hW0] at HE HK ⊢
  clear hW0
  obtain ⟨G, hG⟩ : ∃ G, w.heap.size = G := ⟨_, rfl⟩
  rw [hG] at HK ⊢
  have HG := Lib.hid hG; clear hG
  have p := HK.out _ (.tail _ (.tail _ (.head _)))
  have p0 := p.cell 0
  have p1 := p.cell 1
  simp at p0 p1
  clear p
  have q := HK.out _ (.tail _ (.head _))
  have q0 := q.cell 0
  have q1 := q.cell 1
  simp at q0 q1
  clear q
  go_region
  have p0 : W0.drew.cell? ⟨G, 0, none⟩ = some (.int .i64 a) := p0
  have p1 : W0.drew.cell? ⟨G, 1, none⟩ = some (.int .i64 b) := p1
  have q0 : W0.drew.cell? ⟨G + 1, 0, none⟩ = some (.int .i64 c) := q0
  have q1 : W0.drew.cell? ⟨G + 1, 1, none⟩ = some (.int .i64 d) := q1
  go_upto_region 6 with fail
  have HE1 := Lib.hid HE.out.drew.drew
  refine wp_region_held_drew (S := fun w' => w'.cell? ⟨G, 0, none⟩ = some (.int .i64 a) ∧ w'.cell? ⟨G, 1, none⟩ = some (.int .i64 b)) (by kernel_rfl) ⟨p0, p1⟩ (fun hHeld => ?_)
  refine tK 21 (i := 0) (v := .pointer (some ⟨G, 0, none⟩)) rfl rfl (by kernel_rfl) ?_ hHeld ?_
  ·intro w hSw; (try dsimp only at hSw); go_simp; try with_reducible rfl
  simp only [uZ, uS]
  refine tK 22 (i := 1) (v := .int .i64 a) rfl rfl (by kernel_rfl) ?_ hHeld ?_
  ·intro w hSw; (try dsimp only at hSw); go_simp; try with_reducible rfl
  simp only [uZ, uS]
  refine tK 23 (i := 2) (v := .int .i64 (1000 * a)) rfl rfl (by kernel_rfl) ?_ hHeld ?_
  ·intro w hSw; (try dsimp only at hSw); go_simp; try with_reducible rfl
  simp only [uZ, uS]
  refine tK 24 (i := 3) (v := .int .i64 c) rfl rfl (by kernel_rfl) ?_ hHeld ?_
  ·intro w hSw; (try dsimp only at hSw); go_simp; try with_reducible rfl
  simp only [uZ, uS]
  refine tK 26 (i := 5) (v := .pointer (some ⟨G, 1, none⟩)) rfl rfl (by kernel_rfl) ?_ hHeld ?_
  ·intro w hSw; (try dsimp only at hSw); go_simp; try with_reducible rfl
  simp only [uZ, uS]
  refine tK 27 (i := 6) (v := .int .i64 b) rfl rfl (by kernel_rfl) ?_ hHeld ?_
  ·intro w hSw; (try dsimp only at hSw); go_simp; try with_reducible rfl
  simp only [uZ, uS]
  refine tK 28 (i := 7) (v := .int .i64 (-1000 * b)) rfl rfl (by kernel_rfl) ?_ hHeld ?_
  ·intro w hSw; (try dsimp only at hSw); go_simp; try with_reducible rfl
  simp only [uZ, uS]
  refine tK 29 (i := 8) (v := .int .i64 c) rfl rfl (by kernel_rfl) ?_ hHeld ?_
  ·intro w hSw; (try dsimp only at hSw); go_simp; try with_reducible rfl
  simp only [uZ, uS]
  refine wpAnyH_ready (rs := [4]) (by kernel_rfl) (by simp) ?_
  refine AllReadyH.cons rfl (fun K hK => ?_) AllReadyH.nil
  go_simp
  (with_reducible refine (F2.out _).mono ?_)
  rintro e w2 ⟨rfl, rfl⟩
  refine hK.out _ _ (hHeld) (fun hHeld2 => ?_)
  try simp only [Act.put, uA, uZ, uS]
  clear hK K hHeld
  have hHeld := hHeld2
  clear hHeld2
  refine wpAnyH_ready (rs := [9]) (by kernel_rfl) (by simp) ?_
  refine AllReadyH.cons rfl (fun K hK => ?_) AllReadyH.nil
  go_simp
  (with_reducible refine (F3.out _).mono ?_)
  rintro e w2 ⟨rfl, rfl⟩
  refine hK.out _ _ (hHeld) (fun hHeld2 => ?_)
  try simp only [Act.put, uA, uZ, uS]
  clear hK K hHeld
  have hHeld := hHeld2
  clear hHeld2
  refine tK 31 (i := 10) (v := .int .i64 (-(-1000 * b / c))) rfl rfl (by kernel_rfl) ?_ hHeld ?_
  ·intro w hSw; (try dsimp only at hSw); go_simp; try with_reducible rfl
  simp only [uZ, uS]
  refine tK 32 (i := 11) (v := .agg #[.int .i64 (1000 * a / c), .int .i64 (-(-1000 * b / c))]) rfl rfl (by kernel_rfl) ?_ hHeld ?_
  ·intro w hSw; (try dsimp only at hSw); go_simp; try with_reducible rfl
  simp only [uZ, uS]
  refine wpAnyH_ready (rs := [12]) (by kernel_rfl) (by simp) ?_
  refine AllReadyH.cons rfl (fun K hK => ?_) AllReadyH.nil
  rw [if_pos (by kernel_rfl)]
  have HKR : Hid (Blk (W0.drew.drew.setRow (G + 1 + 1) #[.int .i64 (1000 * a / c), .int .i64 (-(-1000 * b / c))]) (G + 1 + 1) 35 #[.int .i64 (1000 * a / c), .int .i64 (-(-1000 * b / c))]) := Lib.hid (setRow_heap W0.drew.drew (G + 1 + 1) _ _ 35 _ ((HK.out _ (.head _)).drew.drew))
  have HE6 := Lib.hid (below_setRow HE1.out (show w.heap.size ≤ G + 1 + 1 by have := HG.out; omega) #[.int .i64 (1000 * a / c), .int .i64 (-(-1000 * b / c))])
  have hS6 := And.intro (((HK.out _ (.tail _ (.tail _ (.head _)))).drew.drew.farRow (show G ≠ G + 1 + 1 by omega) #[.int .i64 (1000 * a / c), .int .i64 (-(-1000 * b / c))]).cell 0) (((HK.out _ (.tail _ (.tail _ (.head _)))).drew.drew.farRow (show G ≠ G + 1 + 1 by omega) #[.int .i64 (1000 * a / c), .int .i64 (-(-1000 * b / c))]).cell 1)
  refine wp_store_row 35 (.tmp 4) (.tmp 32) rfl (G + 1 + 1) #[.int .i64 (1000 * a / c), .int .i64 (-(-1000 * b / c))] rfl rfl 35 _ ((HK.out _ (.head _)).drew.drew) (by kernel_rfl) rfl (by kernel_rfl) ?_
  obtain ⟨W6, hW6⟩ : ∃ W6, W0.drew.drew.setRow (G + 1 + 1) #[.int .i64 (1000 * a / c), .int .i64 (-(-1000 * b / c))] = W6 := ⟨_, rfl⟩
  rw [hW6] at HKR HE6 hS6 ⊢
  refine hK.out _ _ hS6 (fun hHeld2 => ?_)
  clear hW6 hK K hHeld hHeld2 hS6
  refine wpAnyH_done (by kernel_rfl) ?_ _
  go_wp2
  exact bodyPost_ret (v := .agg #[.int .i64 (1000 * a / c), .int .i64 (-(-1000 * b / c))]) (results_cell_row Tryz.results54 _ _ (G + 1 + 1) 35 #[.int .i64 (1000 * a / c), .int .i64 (-(-1000 * b / c))] (0, 0) _ rfl HKR.out Tryz.underlying35 rfl (by kernel_rfl)) rfl ⟨rfl, HE6.out⟩
 ·omega
 ·rw [ea, eb]
  clear ea eb
  dsimp only
  have k4 := (k3 c).resolve_right (by omega)
  have F2 := Lib.hid (fun W => F1.out (1000 * a) d W (by omega) (by omega) (by omega))
  have F3 := Lib.hid (fun W => F1.out (-1000 * b) c W (by omega) (by omega) (by omega))
  clear k3 F1
  go_enter Tryz.func54, Tryz.ntmps54
  go_wp2_with fail
  obtain ⟨W0, hW0⟩ : ∃ W0, (((w.alloc (.cells #[.int .i64 a, .int .i64 b] 35)).alloc (.cells #[.int .i64 c, .int .i64 d] 35)).alloc (.cells #[.int .i64 0, .int .i64 0] 35)) = W0 := ⟨_, rfl⟩
  rw [hW0] at HE HK ⊢
  clear hW0
  obtain ⟨G, hG⟩ : ∃ G, w.heap.size = G := ⟨_, rfl⟩
  rw [hG] at HK ⊢
  have HG := Lib.hid hG; clear hG
  have p := HK.out _ (.tail _ (.tail _ (.head _)))
  have p0 := p.cell 0
  have p1 := p.cell 1
  simp at p0 p1
  clear p
  have q := HK.out _ (.tail _ (.head _))
  have q0 := q.cell 0
  have q1 := q.cell 1
  simp at q0 q1
  clear q
  go_region
  have p0 : W0.drew.cell? ⟨G, 0, none⟩ = some (.int .i64 a) := p0
  have p1 : W0.drew.cell? ⟨G, 1, none⟩ = some (.int .i64 b) := p1
  have q0 : W0.drew.cell? ⟨G + 1, 0, none⟩ = some (.int .i64 c) := q0
  have q1 : W0.drew.cell? ⟨G + 1, 1, none⟩ = some (.int .i64 d) := q1
  go_upto_region 6 with fail
  have HE1 := Lib.hid HE.out.drew.drew
  refine wp_region_held_drew (S := fun w' => w'.cell? ⟨G, 0, none⟩ = some (.int .i64 a) ∧ w'.cell? ⟨G, 1, none⟩ = some (.int .i64 b)) (by kernel_rfl) ⟨p0, p1⟩ (fun hHeld => ?_)
  refine tK 21 (i := 0) (v := .pointer (some ⟨G, 0, none⟩)) rfl rfl (by kernel_rfl) ?_ hHeld ?_
  ·intro w hSw; (try dsimp only at hSw); go_simp; try with_reducible rfl
  simp only [uZ, uS]
  refine tK 22 (i := 1) (v := .int .i64 a) rfl rfl (by kernel_rfl) ?_ hHeld ?_
  ·intro w hSw; (try dsimp only at hSw); go_simp; try with_reducible rfl
  simp only [uZ, uS]
  refine tK 23 (i := 2) (v := .int .i64 (1000 * a)) rfl rfl (by kernel_rfl) ?_ hHeld ?_
  ·intro w hSw; (try dsimp only at hSw); go_simp; try with_reducible rfl
  simp only [uZ, uS]
  refine tK 24 (i := 3) (v := .int .i64 d) rfl rfl (by kernel_rfl) ?_ hHeld ?_
  ·intro w hSw; (try dsimp only at hSw); go_simp; try with_reducible rfl
  simp only [uZ, uS]
  refine tK 26 (i := 5) (v := .pointer (some ⟨G, 1, none⟩)) rfl rfl (by kernel_rfl) ?_ hHeld ?_
  ·intro w hSw; (try dsimp only at hSw); go_simp; try with_reducible rfl
  simp only [uZ, uS]
  refine tK 27 (i := 6) (v := .int .i64 b) rfl rfl (by kernel_rfl) ?_ hHeld ?_
  ·intro w hSw; (try dsimp only at hSw); go_simp; try with_reducible rfl
  simp only [uZ, uS]
  refine tK 28 (i := 7) (v := .int .i64 (-1000 * b)) rfl rfl (by kernel_rfl) ?_ hHeld ?_
  ·intro w hSw; (try dsimp only at hSw); go_simp; try with_reducible rfl
  simp only [uZ, uS]
  refine tK 29 (i := 8) (v := .int .i64 c) rfl rfl (by kernel_rfl) ?_ hHeld ?_
  ·intro w hSw; (try dsimp only at hSw); go_simp; try with_reducible rfl
  simp only [uZ, uS]
  refine wpAnyH_ready (rs := [4]) (by kernel_rfl) (by simp) ?_
  refine AllReadyH.cons rfl (fun K hK => ?_) AllReadyH.nil
  go_simp
  (with_reducible refine (F2.out _).mono ?_)
  rintro e w2 ⟨rfl, rfl⟩
  refine hK.out _ _ (hHeld) (fun hHeld2 => ?_)
  try simp only [Act.put, uA, uZ, uS]
  clear hK K hHeld
  have hHeld := hHeld2
  clear hHeld2
  refine wpAnyH_ready (rs := [9]) (by kernel_rfl) (by simp) ?_
  refine AllReadyH.cons rfl (fun K hK => ?_) AllReadyH.nil
  go_simp
  (with_reducible refine (F3.out _).mono ?_)
  rintro e w2 ⟨rfl, rfl⟩
  refine hK.out _ _ (hHeld) (fun hHeld2 => ?_)
  try simp only [Act.put, uA, uZ, uS]
  clear hK K hHeld
  have hHeld := hHeld2
  clear hHeld2
  refine tK 31 (i := 10) (v := .int .i64 (-(-1000 * b / c))) rfl rfl (by kernel_rfl) ?_ hHeld ?_
  ·intro w hSw; (try dsimp only at hSw); go_simp; try with_reducible rfl
  simp only [uZ, uS]
  refine tK 32 (i := 11) (v := .agg #[.int .i64 (1000 * a / d), .int .i64 (-(-1000 * b / c))]) rfl rfl (by kernel_rfl) ?_ hHeld ?_
  ·intro w hSw; (try dsimp only at hSw); go_simp; try with_reducible rfl
  simp only [uZ, uS]
  refine wpAnyH_ready (rs := [12]) (by kernel_rfl) (by simp) ?_
  refine AllReadyH.cons rfl (fun K hK => ?_) AllReadyH.nil
  rw [if_pos (by kernel_rfl)]
  have HKR : Hid (Blk (W0.drew.drew.setRow (G + 1 + 1) #[.int .i64 (1000 * a / d), .int .i64 (-(-1000 * b / c))]) (G + 1 + 1) 35 #[.int .i64 (1000 * a / d), .int .i64 (-(-1000 * b / c))]) := Lib.hid (setRow_heap W0.drew.drew (G + 1 + 1) _ _ 35 _ ((HK.out _ (.head _)).drew.drew))
  have HE6 := Lib.hid (below_setRow HE1.out (show w.heap.size ≤ G + 1 + 1 by have := HG.out; omega) #[.int .i64 (1000 * a / d), .int .i64 (-(-1000 * b / c))])
  have hS6 := And.intro (((HK.out _ (.tail _ (.tail _ (.head _)))).drew.drew.farRow (show G ≠ G + 1 + 1 by omega) #[.int .i64 (1000 * a / d), .int .i64 (-(-1000 * b / c))]).cell 0) (((HK.out _ (.tail _ (.tail _ (.head _)))).drew.drew.farRow (show G ≠ G + 1 + 1 by omega) #[.int .i64 (1000 * a / d), .int .i64 (-(-1000 * b / c))]).cell 1)
  refine wp_store_row 35 (.tmp 4) (.tmp 32) rfl (G + 1 + 1) #[.int .i64 (1000 * a / d), .int .i64 (-(-1000 * b / c))] rfl rfl 35 _ ((HK.out _ (.head _)).drew.drew) (by kernel_rfl) rfl (by kernel_rfl) ?_
  obtain ⟨W6, hW6⟩ : ∃ W6, W0.drew.drew.setRow (G + 1 + 1) #[.int .i64 (1000 * a / d), .int .i64 (-(-1000 * b / c))] = W6 := ⟨_, rfl⟩
  rw [hW6] at HKR HE6 hS6 ⊢
  refine hK.out _ _ hS6 (fun hHeld2 => ?_)
  clear hW6 hK K hHeld hHeld2 hS6
  refine wpAnyH_done (by kernel_rfl) ?_ _
  go_wp2
  exact bodyPost_ret (v := .agg #[.int .i64 (1000 * a / d), .int .i64 (-(-1000 * b / c))]) (results_cell_row Tryz.results54 _ _ (G + 1 + 1) 35 #[.int .i64 (1000 * a / d), .int .i64 (-(-1000 * b / c))] (0, 0) _ rfl HKR.out Tryz.underlying35 rfl (by kernel_rfl)) rfl ⟨rfl, HE6.out⟩
end

section
open Go.RowKit

def LitresS (a b c d : Int) : Int × Int × Int := if massErr a b c d = 0 then ((litresS a b c d).1, (litresS a b c d).2, 0) else (0, 0, massErr a b c d)
theorem massErr_zero {a b c d : Int} (h : massErr a b c d = 0) : vR a b = true ∧ densS c d = true := by
  unfold massErr at h
  cases h1 : vR a b <;> cases h2 : densS c d <;> simp [h1, h2] at h
  exact ⟨rfl, rfl⟩

set_option maxRecDepth 100000 in
set_option maxHeartbeats 4000000 in
theorem hLitres_any (a b c d : Int) (w : World) :
  Calls Tryz.prog 78 #[rv a b, rv c d] w fun e w' => e = .returned (rt (LitresS a b c d)) ∧ Below w.heap.size w w' := by
 have HE := Lib.hid (show Below w.heap.size w (((w.alloc (.cells #[.int .i64 a, .int .i64 b] 35)).alloc (.cells #[.int .i64 c, .int .i64 d] 35)).alloc (.cells #[.int .i64 0, .int .i64 0] 35)) from below_a3 (Below.refl _ _))
 have HK := Lib.hid (boxes3' w 35 35 35 #[.int .i64 a, .int .i64 b] #[.int .i64 c, .int .i64 d] #[.int .i64 0, .int .i64 0])
 obtain ⟨E, hE⟩ : ∃ E, massErr a b c d = E := ⟨_, rfl⟩
 obtain ⟨R, hR⟩ : ∃ R, LitresS a b c d = R := ⟨_, rfl⟩
 rw [hR]
 have HR : Hid ((if E = 0 then ((litresS a b c d).1, (litresS a b c d).2, 0) else (0, 0, E)) = R) := Lib.hid (by rw [← hR]; unfold LitresS; rw [hE])
 have C1 : Hid (∀ W, Calls Tryz.prog 53 #[rv a b, rv c d] W fun e w' => e = .returned (.int .i64 E) ∧ Below W.heap.size W w') := Lib.hid fun W => int_to (checkMass_any a b c d W) hE
 have C2 : Hid (E = 0 → ∀ W, Calls Tryz.prog 54 #[rv a b, rv c d] W fun e w' => e = .returned (rv (litresS a b c d).1 (litresS a b c d).2) ∧ Below W.heap.size W w') := Lib.hid fun h W => by
  obtain ⟨m1, m2⟩ := massErr_zero (hE.trans h)
  exact hlitres_any a b c d W (vR_small m1) (dens_in m2)
 clear hE hR
 generalize (litresS a b c d).1 = p at *
 generalize (litresS a b c d).2 = q at *
 go_enter Tryz.func78, Tryz.ntmps78
 go_wp2_with fail
 obtain ⟨W0, hW0⟩ : ∃ W0, (((w.alloc (.cells #[.int .i64 a, .int .i64 b] 35)).alloc (.cells #[.int .i64 c, .int .i64 d] 35)).alloc (.cells #[.int .i64 0, .int .i64 0] 35)) = W0 := ⟨_, rfl⟩
 rw [hW0] at HE HK ⊢
 clear hW0
 obtain ⟨G, hG⟩ : ∃ G, w.heap.size = G := ⟨_, rfl⟩
 rw [hG] at HK ⊢
 have HG := Lib.hid hG; clear hG
 refine (C1.out _).mono ?_
 rintro e w1 ⟨rfl, hb⟩
 have HE1 := Lib.hid (below_then HE.out hb); have HK1 := Lib.hid (HK.out.on hb)
 clear hb HE HK C1
 by_cases g : E = 0
 ·subst g
  have e : R = (p, q, 0) := by rw [← HR.out]; rfl
  subst e
  have D2 := Lib.hid (C2.out rfl)
  clear HR C2
  have p := HK1.out _ (.tail _ (.tail _ (.head _)))
  have p0 := p.cell 0
  have p1 := p.cell 1
  simp at p0 p1
  clear p
  have q := HK1.out _ (.tail _ (.head _))
  have q0 := q.cell 0
  have q1 := q.cell 1
  simp at q0 q1
  clear q
  go_wp2_with fail
  refine (D2.out _).mono ?_
  rintro e w2 ⟨rfl, hb⟩
  have HE2 := Lib.hid (below_then HE1.out hb); have HK2 := Lib.hid (HK1.out.on hb)
  clear hb HE1 HK1 D2 p0 p1 q0 q1
  have z := HK2.out _ (.head _)
  have z0 := z.cell 0
  have zf0 := z.frozen 0
  have z1 := z.cell 1
  have zf1 := z.frozen 1
  have zl := z.lt
  simp at z0 zf0 z1 zf1
  clear z
  go_wp2
  refine bodyPost_ret (v := rt (p, q, 0)) (by simp [results, Tryz.results78, go_sem, z0, z1]) rfl ⟨rfl, ?_⟩
  have hg := HG.out
  repeat (first | exact HE2.out | refine Below.setCell ?_ (by simp <;> omega) _)
 ·have e : R = (0, 0, E) := by rw [← HR.out, if_neg g]
  subst e
  clear HR C2
  have z := HK1.out _ (.head _)
  have z0 := z.cell 0
  have zf0 := z.frozen 0
  have z1 := z.cell 1
  have zf1 := z.frozen 1
  have zl := z.lt
  simp at z0 zf0 z1 zf1
  clear z
  go_wp2
  refine bodyPost_ret (v := rt (0, 0, E)) (by simp [results, Tryz.results78, go_sem, z0, z1]) rfl ⟨rfl, ?_⟩
  have hg := HG.out
  repeat (first | exact HE1.out | refine Below.setCell ?_ (by simp <;> omega) _)

def ullS (ps : List P3) (x y : Int) : Int × Int × Int := invS (moreF ps y) (lessF ps x) (firstX ps) (lastX ps)

set_option maxRecDepth 100000 in
set_option maxHeartbeats 4000000 in
theorem ullages_any (ps : List P3) (id al ah t0 t1 u0 u1 v0 v1 h0 h1 : Int) (A B C : Option Addr) (n c mm d l ee : Nat) (x y : Int) (w : World) (hp : TabIn w A n ps) (ht : tabOk ps = true) (hle : firstX ps ≤ lastX ps) :
  Calls Tryz.prog 52 #[.agg #[.int .i64 id, .int .i64 al, .int .i64 ah, .slice A n c, .slice B mm d, .slice C l ee, .int .i64 t0, .int .i64 t1, .int .i64 u0, .int .i64 u1, .int .i64 v0, .int .i64 v1, .int .i64 h0, .int .i64 h1], rv x y] w fun e w' => e = .returned (rt (ullS ps x y)) ∧ Below w.heap.size w w' := by
 have HE := Lib.hid (show Below w.heap.size w (((w.alloc (.cells #[.int .i64 id, .int .i64 al, .int .i64 ah, .slice A n c, .slice B mm d, .slice C l ee, .int .i64 t0, .int .i64 t1, .int .i64 u0, .int .i64 u1, .int .i64 v0, .int .i64 v1, .int .i64 h0, .int .i64 h1] 40)).alloc (.cells #[.int .i64 x, .int .i64 y] 35)).alloc (.cells #[.int .i64 0, .int .i64 0] 35)) from below_a3 (Below.refl _ _))
 have HK := Lib.hid (boxes3' w 40 35 35 #[.int .i64 id, .int .i64 al, .int .i64 ah, .slice A n c, .slice B mm d, .slice C l ee, .int .i64 t0, .int .i64 t1, .int .i64 u0, .int .i64 u1, .int .i64 v0, .int .i64 v1, .int .i64 h0, .int .i64 h1] #[.int .i64 x, .int .i64 y] #[.int .i64 0, .int .i64 0])
 obtain ⟨R, hR⟩ : ∃ R, ullS ps x y = R := ⟨_, rfl⟩
 have CC : Hid (∀ W, Below w.heap.size w W → Calls Tryz.prog 79 #[tv A n c, rv x y, fnV 80, fnV 81] W fun e w' => e = .returned (rt R) ∧ Below W.heap.size W w') := Lib.hid fun W hW => by
  rw [← hR]; exact inverse_more A n c ps x y W (hp.below hW) ht hle
 rw [hR]
 clear hR hp ht hle
 obtain ⟨ra, rb, re⟩ := R
 go_enter Tryz.func52, Tryz.ntmps52
 go_wp2_with fail
 obtain ⟨W0, hW0⟩ : ∃ W0, (((w.alloc (.cells #[.int .i64 id, .int .i64 al, .int .i64 ah, .slice A n c, .slice B mm d, .slice C l ee, .int .i64 t0, .int .i64 t1, .int .i64 u0, .int .i64 u1, .int .i64 v0, .int .i64 v1, .int .i64 h0, .int .i64 h1] 40)).alloc (.cells #[.int .i64 x, .int .i64 y] 35)).alloc (.cells #[.int .i64 0, .int .i64 0] 35)) = W0 := ⟨_, rfl⟩
 rw [hW0] at HE HK ⊢
 clear hW0
 obtain ⟨G, hG⟩ : ∃ G, w.heap.size = G := ⟨_, rfl⟩
 rw [hG] at HK ⊢
 have HG := Lib.hid hG; clear hG
 refine (CC.out _ HE.out).mono ?_
 rintro e w1 ⟨rfl, hb⟩
 have HE1 := Lib.hid (below_then HE.out hb); have HK1 := Lib.hid (HK.out.on hb)
 clear hb HE HK CC
 have z := HK1.out _ (.head _)
 have z0 := z.cell 0
 have zf0 := z.frozen 0
 have z1 := z.cell 1
 have zf1 := z.frozen 1
 have zl := z.lt
 simp at z0 zf0 z1 zf1
 clear z
 go_wp2
 refine bodyPost_ret (v := rt (ra, rb, re)) (by simp [results, Tryz.results52, go_sem, z0, z1]) rfl ⟨rfl, ?_⟩
 have hg := HG.out
 repeat (first | exact HE1.out | refine Below.setCell ?_ (by simp <;> omega) _)

set_option maxRecDepth 100000 in
set_option maxHeartbeats 4000000 in
theorem ullage1_any (ps : List P3) (id al ah t0 t1 u0 u1 v0 v1 h0 h1 : Int) (A B C : Option Addr) (n c mm d l ee : Nat) (x y : Int) (Bh : Nat) (w : World) (hB : Blk w Bh 40 #[.int .i64 id, .int .i64 al, .int .i64 ah, .slice A n c, .slice B mm d, .slice C l ee, .int .i64 t0, .int .i64 t1, .int .i64 u0, .int .i64 u1, .int .i64 v0, .int .i64 v1, .int .i64 h0, .int .i64 h1]) (hp : TabIn w A n ps) (ht : tabOk ps = true) (hle : firstX ps ≤ lastX ps) :
  Calls Tryz.prog 51 #[rv x y, .pointer (some ⟨Bh, 0, none⟩)] w fun e w' => e = .returned (rt (ullS ps x y)) ∧ Below w.heap.size w w' := by
 have HE := Lib.hid (show Below w.heap.size w ((w.alloc (.cells #[.int .i64 x, .int .i64 y] 35)).alloc (.cells #[.int .i64 0, .int .i64 0] 35)) from below_a2 (Below.refl _ _))
 have HK := Lib.hid (boxes2' w 35 35 #[.int .i64 x, .int .i64 y] #[.int .i64 0, .int .i64 0])
 obtain ⟨R, hR⟩ : ∃ R, ullS ps x y = R := ⟨_, rfl⟩
 have CC : Hid (∀ W, Below w.heap.size w W → Calls Tryz.prog 52 #[.agg #[.int .i64 id, .int .i64 al, .int .i64 ah, .slice A n c, .slice B mm d, .slice C l ee, .int .i64 t0, .int .i64 t1, .int .i64 u0, .int .i64 u1, .int .i64 v0, .int .i64 v1, .int .i64 h0, .int .i64 h1], rv x y] W fun e w' => e = .returned (rt R) ∧ Below W.heap.size W w') := Lib.hid fun W hW => by
  rw [← hR]; exact ullages_any ps id al ah t0 t1 u0 u1 v0 v1 h0 h1 A B C n c mm d l ee x y W (hp.below hW) ht hle
 rw [hR]
 clear hR hp ht hle
 obtain ⟨ra, rb, re⟩ := R
 have HH := Lib.hid (blkOn hB HE.out)
 have HH0 := Lib.hid hB
 clear hB
 go_enter Tryz.func51, Tryz.ntmps51
 go_upto_region 1 with fail
 obtain ⟨W0, hW0⟩ : ∃ W0, ((w.alloc (.cells #[.int .i64 x, .int .i64 y] 35)).alloc (.cells #[.int .i64 0, .int .i64 0] 35)) = W0 := ⟨_, rfl⟩
 rw [hW0] at HE HK HH ⊢
 clear hW0
 obtain ⟨G, hG⟩ : ∃ G, w.heap.size = G := ⟨_, rfl⟩
 rw [hG] at HK ⊢
 have HG := Lib.hid hG; clear hG
 have hh := HH.out
 have s0 := hh.cell 0
 have s1 := hh.cell 1
 have s2 := hh.cell 2
 have s3 := hh.cell 3
 have s4 := hh.cell 4
 have s5 := hh.cell 5
 have s6 := hh.cell 6
 have s7 := hh.cell 7
 have s8 := hh.cell 8
 have s9 := hh.cell 9
 have s10 := hh.cell 10
 have s11 := hh.cell 11
 have s12 := hh.cell 12
 have s13 := hh.cell 13
 simp at s0 s1 s2 s3 s4 s5 s6 s7 s8 s9 s10 s11 s12 s13
 have p := HK.out _ (.tail _ (.head _))
 have p0 := p.cell 0
 have p1 := p.cell 1
 simp at p0 p1
 clear p
 clear hh HH HH0
 go_wp2_with fail
 refine (CC.out _ HE.out).mono ?_
 rintro e w1 ⟨rfl, hb⟩
 have HE1 := Lib.hid (below_then HE.out hb); have HK1 := Lib.hid (HK.out.on hb)
 clear hb HE HK CC p0 p1 s0 s1 s2 s3 s4 s5 s6 s7 s8 s9 s10 s11 s12 s13
 have z := HK1.out _ (.head _)
 have z0 := z.cell 0
 have zf0 := z.frozen 0
 have z1 := z.cell 1
 have zf1 := z.frozen 1
 have zl := z.lt
 simp at z0 zf0 z1 zf1
 clear z
 go_wp2
 refine bodyPost_ret (v := rt (ra, rb, re)) (by simp [results, Tryz.results51, go_sem, z0, z1]) rfl ⟨rfl, ?_⟩
 have hg := HG.out
 repeat (first | exact HE1.out | refine Below.setCell ?_ (by simp <;> omega) _)

set_option maxRecDepth 100000 in
set_option maxHeartbeats 4000000 in
theorem ofMass_ull (a b c d : Int) (Bh : Nat) (R : Int × Int × Int) (w : World) (hC : massErr a b c d = 0 → ∀ W, Below w.heap.size w W → Calls Tryz.prog 51 #[rv (litresS a b c d).1 (litresS a b c d).2, .pointer (some ⟨Bh, 0, none⟩)] W fun e w' => e = .returned (rt R) ∧ Below W.heap.size W w') :
  Calls Tryz.prog 50 #[rv a b, rv c d, .func (.func 51) #[] #[.pointer (some ⟨Bh, 0, none⟩)]] w fun e w' => e = .returned (rt (if massErr a b c d = 0 then R else (0, 0, massErr a b c d))) ∧ Below w.heap.size w w' := by
 have HE := Lib.hid (show Below w.heap.size w (((w.alloc (.cells #[.int .i64 a, .int .i64 b] 35)).alloc (.cells #[.int .i64 c, .int .i64 d] 35)).alloc (.cells #[.int .i64 0, .int .i64 0] 35)) from below_a3 (Below.refl _ _))
 have HK := Lib.hid (boxes3' w 35 35 35 #[.int .i64 a, .int .i64 b] #[.int .i64 c, .int .i64 d] #[.int .i64 0, .int .i64 0])
 obtain ⟨E, hE⟩ : ∃ E, massErr a b c d = E := ⟨_, rfl⟩
 obtain ⟨Q, hQ⟩ : ∃ Q, (if massErr a b c d = 0 then R else (0, 0, massErr a b c d)) = Q := ⟨_, rfl⟩
 rw [hQ]
 obtain ⟨p, hp⟩ : ∃ p, (litresS a b c d).1 = p := ⟨_, rfl⟩
 obtain ⟨q, hq⟩ : ∃ q, (litresS a b c d).2 = q := ⟨_, rfl⟩
 have HQ : Hid ((if E = 0 then R else (0, 0, E)) = Q) := Lib.hid (by rw [← hQ, hE])
 have C1 : Hid (E = 0 → ∀ W, Calls Tryz.prog 78 #[rv a b, rv c d] W fun e w' => e = .returned (.tuple #[rv p q, .int .i64 0]) ∧ Below W.heap.size W w') := Lib.hid fun h W => rt_to (hLitres_any a b c d W) (by unfold LitresS; rw [if_pos (hE.trans h), hp, hq])
 have C1' : Hid (¬ E = 0 → ∀ W, Calls Tryz.prog 78 #[rv a b, rv c d] W fun e w' => e = .returned (.tuple #[rv 0 0, .int .i64 E]) ∧ Below W.heap.size W w') := Lib.hid fun h W => rt_to (hLitres_any a b c d W) (by unfold LitresS; rw [if_neg (by rw [hE]; exact h), hE])
 have C2 : Hid (E = 0 → ∀ W, Below w.heap.size w W → Calls Tryz.prog 51 #[rv p q, .pointer (some ⟨Bh, 0, none⟩)] W fun e w' => e = .returned (rt R) ∧ Below W.heap.size W w') := Lib.hid fun h W hW => by
  have := hC (hE.trans h) W hW
  rw [hp, hq] at this; exact this
 clear hE hQ hp hq hC
 obtain ⟨ra, rb, re⟩ := R
 by_cases g : E = 0
 ·have e : Q = (ra, rb, re) := by rw [← HQ.out, if_pos g]
  subst e
  have C1 := Lib.hid (C1.out g)
  have C2 := Lib.hid (C2.out g)
  clear HQ C1' g
  go_enter Tryz.func50, Tryz.ntmps50
  go_wp2_with fail
  obtain ⟨W0, hW0⟩ : ∃ W0, (((w.alloc (.cells #[.int .i64 a, .int .i64 b] 35)).alloc (.cells #[.int .i64 c, .int .i64 d] 35)).alloc (.cells #[.int .i64 0, .int .i64 0] 35)) = W0 := ⟨_, rfl⟩
  rw [hW0] at HE HK ⊢
  clear hW0
  obtain ⟨G, hG⟩ : ∃ G, w.heap.size = G := ⟨_, rfl⟩
  rw [hG] at HK ⊢
  have HG := Lib.hid hG; clear hG
  refine (C1.out _).mono ?_
  rintro e w1 ⟨rfl, hb⟩
  have HE1 := Lib.hid (below_then (below_then HE.out hb) (below_alloc1 w1 (.cells #[.int .i64 p, .int .i64 q] 35))); have HK1 := Lib.hid ((HK.out.on hb).new 35 #[.int .i64 p, .int .i64 q])
  clear hb HE HK C1
  go_wp2_with fail
  refine (C2.out _ HE1.out).mono ?_
  rintro e w2 ⟨rfl, hb⟩
  have HE2 := Lib.hid (below_then HE1.out hb); have HK2 := Lib.hid (HK1.out.on hb)
  clear hb HE1 HK1 C2
  have z := HK2.out _ (.tail _ (.head _))
  have z0 := z.cell 0
  have zf0 := z.frozen 0
  have z1 := z.cell 1
  have zf1 := z.frozen 1
  have zl := z.lt
  simp at z0 zf0 z1 zf1
  clear z
  go_wp2
  refine bodyPost_ret (v := rt (ra, rb, re)) (by simp [results, Tryz.results50, go_sem, z0, z1]) rfl ⟨rfl, ?_⟩
  have hg := HG.out
  repeat (first | exact HE2.out | refine Below.setCell ?_ (by simp <;> omega) _)
 ·have e : Q = (0, 0, E) := by rw [← HQ.out, if_neg g]
  subst e
  have C1 := Lib.hid (C1'.out g)
  clear HQ C1' C2
  go_enter Tryz.func50, Tryz.ntmps50
  go_wp2_with fail
  obtain ⟨W0, hW0⟩ : ∃ W0, (((w.alloc (.cells #[.int .i64 a, .int .i64 b] 35)).alloc (.cells #[.int .i64 c, .int .i64 d] 35)).alloc (.cells #[.int .i64 0, .int .i64 0] 35)) = W0 := ⟨_, rfl⟩
  rw [hW0] at HE HK ⊢
  clear hW0
  obtain ⟨G, hG⟩ : ∃ G, w.heap.size = G := ⟨_, rfl⟩
  rw [hG] at HK ⊢
  have HG := Lib.hid hG; clear hG
  refine (C1.out _).mono ?_
  rintro e w1 ⟨rfl, hb⟩
  have HE1 := Lib.hid (below_then (below_then HE.out hb) (below_alloc1 w1 (.cells #[.int .i64 0, .int .i64 0] 35))); have HK1 := Lib.hid ((HK.out.on hb).new 35 #[.int .i64 0, .int .i64 0])
  have hlt := (HK.out.on hb _ (.head _)).lt
  have hl : G + 1 + 1 ≠ w1.heap.size := Nat.ne_of_lt hlt
  have hl2 : w1.heap.size ≠ G + 1 + 1 := Nat.ne_of_gt hlt
  clear hb HE HK C1
  go_upto_region 3 with fail
  obtain ⟨W1, hW1⟩ : ∃ W1, w1.alloc (.cells #[.int .i64 0, .int .i64 0] 35) = W1 := ⟨_, rfl⟩
  rw [hW1] at HE1 HK1 ⊢
  clear hW1
  have z := HK1.out _ (.tail _ (.head _))
  have z0 := z.cell 0
  have zf0 := z.frozen 0
  have z1 := z.cell 1
  have zf1 := z.frozen 1
  have zl := z.lt
  simp at z0 zf0 z1 zf1
  clear z
  go_wp2
  refine bodyPost_ret (v := rt (0, 0, E)) (by simp [results, Tryz.results50, go_sem, z0, z1]) rfl ⟨rfl, ?_⟩
  have hg := HG.out
  repeat (first | exact HE1.out | refine Below.setCell ?_ (by simp <;> omega) _)
end

section
open Go.RowKit
attribute [local go_sem ↓] eqlRange neqRange
theorem results_cell_tmp_row {P : Program} {fn : Func} {p q : Tmp} {ty : TypeId} (h : fn.results = #[.cell p ty, .tmp q]) (tmps : Array Value) (w : World) (g : Nat) (t : TypeId) (cs : Array Value) (fr : Nat × Nat) (d : TypeDesc) (x : Value)
    (hp : tmps.getD p undef = .pointer (some ⟨g, 0, none⟩)) (hq : tmps.getD q undef = x) (hg : w.heap[g]? = some (.cells cs t fr))
    (hu : P.underlying ty = some d) (hd : (match d with | .struct _ | .array _ _ => true | _ => false) = true) (hi : (P.info? ty).map (·.size) = some cs.size) :
    (results fn tmps).run P w = .ok (.tuple #[.agg cs, x]) w := by
  have hp' : tmps[p]?.getD undef = .pointer (some ⟨g, 0, none⟩) := by simpa using hp
  have hq' : tmps[q]?.getD undef = x := by simpa using hq
  simp [results, h, hp', hq', asAddr, run_loadVar_row w g t ty cs fr d hg hu hd hi]
theorem Boxes.set2 {W : World} {g : Nat} {t : TypeId} {x y : Value} {L : List (Nat × TypeId × Array Value)} (h : Boxes W ((g, t, #[x, y]) :: L)) (hg : ∀ p ∈ L, p.1 ≠ g) (a b : Value) :
    Boxes ((W.setCell ⟨g, 0, none⟩ a).setCell ⟨g, 1, none⟩ b) ((g, t, #[a, b]) :: L) := fun p hp => by
  rcases List.mem_cons.1 hp with rfl | hp
  · simpa using ((h _ (.head _)).set_ 0 a).set_ 1 b
  · exact ((h p (.tail _ hp)).far (p := ⟨g, 0, none⟩) (hg p hp) a).far (p := ⟨g, 1, none⟩) (hg p hp) b
def hulS (a b c d : Int) : Int × Int := ((hullS a b c d).1, (hullS a b c d).2.1)

set_option maxRecDepth 100000 in
set_option maxHeartbeats 4000000 in
theorem hhull_any (a b c d : Int) (w : World) :
  Calls Tryz.prog 85 #[rv a b, rv c d] w fun e w' => e = .returned (rv (hulS a b c d).1 (hulS a b c d).2) ∧ Below w.heap.size w w' := by
 have HE := Lib.hid (show Below w.heap.size w (((w.alloc (.cells #[.int .i64 a, .int .i64 b] 35)).alloc (.cells #[.int .i64 c, .int .i64 d] 35)).alloc (.cells #[.int .i64 0, .int .i64 0] 35)) from below_a3 (Below.refl _ _))
 have HK := Lib.hid (boxes3' w 35 35 35 #[.int .i64 a, .int .i64 b] #[.int .i64 c, .int .i64 d] #[.int .i64 0, .int .i64 0])
 have CC : Hid (∀ W, Calls Tryz.prog 120 #[rv a b, rv c d] W fun e w' => e = .returned (rt (hullS a b c d)) ∧ Below W.heap.size W w') := Lib.hid fun W => hull_any a b c d W
 unfold hulS
 generalize hullS a b c d = R at *
 obtain ⟨p, q, r⟩ := R
 go_enter Tryz.func85, Tryz.ntmps85
 go_wp2_with fail
 obtain ⟨W0, hW0⟩ : ∃ W0, (((w.alloc (.cells #[.int .i64 a, .int .i64 b] 35)).alloc (.cells #[.int .i64 c, .int .i64 d] 35)).alloc (.cells #[.int .i64 0, .int .i64 0] 35)) = W0 := ⟨_, rfl⟩
 rw [hW0] at HE HK ⊢
 clear hW0
 obtain ⟨G, hG⟩ : ∃ G, w.heap.size = G := ⟨_, rfl⟩
 rw [hG] at HK ⊢
 have HG := Lib.hid hG; clear hG
 refine (CC.out _).mono ?_
 rintro e w1 ⟨rfl, hb⟩
 have HE1 := Lib.hid (below_then (below_then HE.out hb) (below_alloc1 w1 (.cells #[.int .i64 p, .int .i64 q] 35))); have HK1 := Lib.hid ((HK.out.on hb).new 35 #[.int .i64 p, .int .i64 q])
 clear hb HE HK CC
 go_upto_region 2 with fail
 obtain ⟨W1, hW1⟩ : ∃ W1, w1.alloc (.cells #[.int .i64 p, .int .i64 q] 35) = W1 := ⟨_, rfl⟩
 rw [hW1] at HE1 HK1 ⊢
 clear hW1
 obtain ⟨N, hN⟩ : ∃ N, w1.heap.size = N := ⟨_, rfl⟩
 rw [hN] at HK1 ⊢
 clear hN
 have p := HK1.out _ (.head _)
 have p0 := p.cell 0
 have p1 := p.cell 1
 simp at p0 p1
 clear p
 have z := HK1.out _ (.tail _ (.head _))
 have z0 := z.cell 0
 have zf0 := z.frozen 0
 have z1 := z.cell 1
 have zf1 := z.frozen 1
 have zl := z.lt
 simp at z0 zf0 z1 zf1
 clear z
 go_wp2
 refine bodyPost_ret (v := rv p q) (by simp [results, Tryz.results85, go_sem, z0, z1]) rfl ⟨rfl, ?_⟩
 have hg := HG.out
 repeat (first | exact HE1.out | refine Below.setCell ?_ (by simp <;> omega) _)

def mixS (a b c d : Int) : Int × Int := if (a == 0 && b == 0) = true then (c, d) else if (c == 0 && d == 0) = true then (a, b) else hulS a b c d

set_option maxRecDepth 100000 in
set_option maxHeartbeats 4000000 in
theorem mix_any (a b c d : Int) (w : World) :
  Calls Tryz.prog 57 #[rv a b, rv c d] w fun e w' => e = .returned (rv (mixS a b c d).1 (mixS a b c d).2) ∧ Below w.heap.size w w' := by
 have HE := Lib.hid (show Below w.heap.size w (((w.alloc (.cells #[.int .i64 a, .int .i64 b] 35)).alloc (.cells #[.int .i64 c, .int .i64 d] 35)).alloc (.cells #[.int .i64 0, .int .i64 0] 35)) from below_a3 (Below.refl _ _))
 have HK := Lib.hid (boxes3' w 35 35 35 #[.int .i64 a, .int .i64 b] #[.int .i64 c, .int .i64 d] #[.int .i64 0, .int .i64 0])
 have CC : Hid (∀ W, Calls Tryz.prog 85 #[rv a b, rv c d] W fun e w' => e = .returned (rv (hulS a b c d).1 (hulS a b c d).2) ∧ Below W.heap.size W w') := Lib.hid fun W => hhull_any a b c d W
 cases g1 : (a == 0 && b == 0)
 ·cases g2 : (c == 0 && d == 0)
  ·have e : mixS a b c d = hulS a b c d := by unfold mixS; rw [g1, g2]; rfl
   rw [e]
   clear e
   generalize hulS a b c d = R at *
   obtain ⟨p, q⟩ := R
   go_enter Tryz.func57, Tryz.ntmps57
   go_wp2_with fail
   obtain ⟨W0, hW0⟩ : ∃ W0, (((w.alloc (.cells #[.int .i64 a, .int .i64 b] 35)).alloc (.cells #[.int .i64 c, .int .i64 d] 35)).alloc (.cells #[.int .i64 0, .int .i64 0] 35)) = W0 := ⟨_, rfl⟩
   rw [hW0] at HE HK ⊢
   clear hW0
   obtain ⟨G, hG⟩ : ∃ G, w.heap.size = G := ⟨_, rfl⟩
   rw [hG] at HK ⊢
   have HG := Lib.hid hG; clear hG
   refine (CC.out _).mono ?_
   rintro e w1 ⟨rfl, hb⟩
   have HE1 := Lib.hid (below_then HE.out hb); have HK1 := Lib.hid (HK.out.on hb)
   clear hb HE HK CC g1 g2
   have z := HK1.out _ (.head _)
   have z0 := z.cell 0
   have zf0 := z.frozen 0
   have z1 := z.cell 1
   have zf1 := z.frozen 1
   have zl := z.lt
   simp at z0 zf0 z1 zf1
   clear z
   go_wp2
   refine bodyPost_ret (v := rv p q) (by simp [results, Tryz.results57, go_sem, z0, z1]) rfl ⟨rfl, ?_⟩
   have hg := HG.out
   repeat (first | exact HE1.out | refine Below.setCell ?_ (by simp <;> omega) _)
  ·have e : mixS a b c d = (a, b) := by unfold mixS; rw [g1, g2]; rfl
   rw [e]
   clear e CC HK
   go_enter Tryz.func57, Tryz.ntmps57
   go_wp2
   refine bodyPost_ret (v := rv a b) (by simp [results, Tryz.results57, go_sem]) rfl ⟨rfl, ?_⟩
   repeat (first | exact HE.out | exact Below.refl _ _ | refine Below.setCell ?_ (by simp <;> omega) _ | refine Below.alloc ?_ (by simp <;> omega) _)
 ·have e : mixS a b c d = (c, d) := by unfold mixS; rw [g1]; rfl
  rw [e]
  clear e CC HK
  go_enter Tryz.func57, Tryz.ntmps57
  go_wp2
  refine bodyPost_ret (v := rv c d) (by simp [results, Tryz.results57, go_sem]) rfl ⟨rfl, ?_⟩
  repeat (first | exact HE.out | exact Below.refl _ _ | refine Below.setCell ?_ (by simp <;> omega) _ | refine Below.alloc ?_ (by simp <;> omega) _)

abbrev ft (r : FillD × Int) : Value := .tuple #[fillV r.1, .int .i64 r.2]
def noFill : FillD := ⟨0, 0, 0, 0, 0, 0⟩
def movedS (ps : List P3) (id x y a0 a1 d0 d1 : Int) : FillD × Int :=
  if (ullS ps x y).2.2 = 0 then (if (meetS (ullS ps x y).1 (ullS ps x y).2.1 a0 a1).2.2 = 0 then (⟨id, 3, (meetS (ullS ps x y).1 (ullS ps x y).2.1 a0 a1).1, (meetS (ullS ps x y).1 (ullS ps x y).2.1 a0 a1).2.1, d0, d1⟩, 0) else (noFill, 24)) else (noFill, (ullS ps x y).2.2)

set_option maxRecDepth 100000 in
set_option maxHeartbeats 4000000 in
theorem moved_any (ps : List P3) (id al ah t0 t1 u0 u1 v0 v1 h0 h1 : Int) (A B C : Option Addr) (n c mm d l ee : Nat) (x y a0 a1 d0 d1 : Int) (w : World) (hp : TabIn w A n ps) (ht : tabOk ps = true) (hle : firstX ps ≤ lastX ps) :
  Calls Tryz.prog 56 #[.agg #[.int .i64 id, .int .i64 al, .int .i64 ah, .slice A n c, .slice B mm d, .slice C l ee, .int .i64 t0, .int .i64 t1, .int .i64 u0, .int .i64 u1, .int .i64 v0, .int .i64 v1, .int .i64 h0, .int .i64 h1], rv x y, rv a0 a1, rv d0 d1] w fun e w' => e = .returned (ft (movedS ps id x y a0 a1 d0 d1)) ∧ Below w.heap.size w w' := by
 have HE := Lib.hid (show Below w.heap.size w (((((w.alloc (.cells #[.int .i64 id, .int .i64 al, .int .i64 ah, .slice A n c, .slice B mm d, .slice C l ee, .int .i64 t0, .int .i64 t1, .int .i64 u0, .int .i64 u1, .int .i64 v0, .int .i64 v1, .int .i64 h0, .int .i64 h1] 40)).alloc (.cells #[.int .i64 x, .int .i64 y] 35)).alloc (.cells #[.int .i64 a0, .int .i64 a1] 35)).alloc (.cells #[.int .i64 d0, .int .i64 d1] 35)).alloc (.cells #[.int .i64 0, .int .i64 0, .int .i64 0, .int .i64 0, .int .i64 0, .int .i64 0] 43)) from below_a5 (Below.refl _ _))
 have HK := Lib.hid (boxes5' w 40 35 35 35 43 #[.int .i64 id, .int .i64 al, .int .i64 ah, .slice A n c, .slice B mm d, .slice C l ee, .int .i64 t0, .int .i64 t1, .int .i64 u0, .int .i64 u1, .int .i64 v0, .int .i64 v1, .int .i64 h0, .int .i64 h1] #[.int .i64 x, .int .i64 y] #[.int .i64 a0, .int .i64 a1] #[.int .i64 d0, .int .i64 d1] #[.int .i64 0, .int .i64 0, .int .i64 0, .int .i64 0, .int .i64 0, .int .i64 0])
 obtain ⟨R, hR⟩ : ∃ R, movedS ps id x y a0 a1 d0 d1 = R := ⟨_, rfl⟩
 obtain ⟨U, hU⟩ : ∃ U, ullS ps x y = U := ⟨_, rfl⟩
 have C1 : Hid (∀ W, Below w.heap.size w W → Calls Tryz.prog 52 #[.agg #[.int .i64 id, .int .i64 al, .int .i64 ah, .slice A n c, .slice B mm d, .slice C l ee, .int .i64 t0, .int .i64 t1, .int .i64 u0, .int .i64 u1, .int .i64 v0, .int .i64 v1, .int .i64 h0, .int .i64 h1], rv x y] W fun e w' => e = .returned (rt U) ∧ Below W.heap.size W w') := Lib.hid fun W hW => by
  rw [← hU]; exact ullages_any ps id al ah t0 t1 u0 u1 v0 v1 h0 h1 A B C n c mm d l ee x y W (hp.below hW) ht hle
 have HR := Lib.hid hR
 rw [hR]
 unfold movedS at HR
 rw [hU] at HR
 clear hR hU hp ht hle
 obtain ⟨p, q, r⟩ := U
 have C2 : Hid (∀ W, Calls Tryz.prog 84 #[rv p q, rv a0 a1] W fun e w' => e = .returned (rt (meetS p q a0 a1)) ∧ Below W.heap.size W w') := Lib.hid fun W => meet_any p q a0 a1 W
 dsimp only at HR
 generalize meetS p q a0 a1 = M at *
 obtain ⟨j, k, e2⟩ := M
 dsimp only at HR
 go_enter Tryz.func56, Tryz.ntmps56
 go_wp2_with fail
 obtain ⟨W0, hW0⟩ : ∃ W0, (((((w.alloc (.cells #[.int .i64 id, .int .i64 al, .int .i64 ah, .slice A n c, .slice B mm d, .slice C l ee, .int .i64 t0, .int .i64 t1, .int .i64 u0, .int .i64 u1, .int .i64 v0, .int .i64 v1, .int .i64 h0, .int .i64 h1] 40)).alloc (.cells #[.int .i64 x, .int .i64 y] 35)).alloc (.cells #[.int .i64 a0, .int .i64 a1] 35)).alloc (.cells #[.int .i64 d0, .int .i64 d1] 35)).alloc (.cells #[.int .i64 0, .int .i64 0, .int .i64 0, .int .i64 0, .int .i64 0, .int .i64 0] 43)) = W0 := ⟨_, rfl⟩
 rw [hW0] at HE HK ⊢
 clear hW0
 obtain ⟨G, hG⟩ : ∃ G, w.heap.size = G := ⟨_, rfl⟩
 rw [hG] at HK ⊢
 have HG := Lib.hid hG; clear hG
 refine (C1.out _ HE.out).mono ?_
 rintro e w1 ⟨rfl, hb⟩
 have HE1 := Lib.hid (below_then (below_then HE.out hb) (below_alloc1 w1 (.cells #[.int .i64 p, .int .i64 q] 35))); have HK1 := Lib.hid ((HK.out.on hb).new 35 #[.int .i64 p, .int .i64 q])
 have hlt := (HK.out.on hb _ (.head _)).lt
 clear hb HE HK C1
 go_upto_region 2 with fail
 obtain ⟨W1, hW1⟩ : ∃ W1, w1.alloc (.cells #[.int .i64 p, .int .i64 q] 35) = W1 := ⟨_, rfl⟩
 rw [hW1] at HE1 HK1 ⊢
 clear hW1
 obtain ⟨N, hN⟩ : ∃ N, w1.heap.size = N := ⟨_, rfl⟩
 rw [hN] at HK1 hlt ⊢
 clear hN
 by_cases g : r = 0
 ·subst g
  have p := HK1.out _ (.head _)
  have p0 := p.cell 0
  have pf0 := p.frozen 0
  have p1 := p.cell 1
  have pf1 := p.frozen 1
  simp at p0 pf0 p1 pf1
  clear p
  have aa := HK1.out _ (.tail _ (.tail _ (.tail _ (.head _))))
  have aa0 := aa.cell 0
  have aa1 := aa.cell 1
  simp at aa0 aa1
  clear aa
  go_wp2_with fail
  refine (C2.out _).mono ?_
  rintro e w2 ⟨rfl, hb⟩
  have hne : ∀ p ∈ ([(G + 1 + 1 + 1 + 1, 43, #[.int .i64 0, .int .i64 0, .int .i64 0, .int .i64 0, .int .i64 0, .int .i64 0]), (G + 1 + 1 + 1, 35, #[.int .i64 d0, .int .i64 d1]), (G + 1 + 1, 35, #[.int .i64 a0, .int .i64 a1]), (G + 1, 35, #[.int .i64 x, .int .i64 y]), (G, 40, #[.int .i64 id, .int .i64 al, .int .i64 ah, .slice A n c, .slice B mm d, .slice C l ee, .int .i64 t0, .int .i64 t1, .int .i64 u0, .int .i64 u1, .int .i64 v0, .int .i64 v1, .int .i64 h0, .int .i64 h1])] : List (Nat × TypeId × Array Value)), p.1 ≠ N := by
   intro p hp
   simp only [List.mem_cons, List.not_mem_nil, or_false] at hp
   rcases hp with rfl | rfl | rfl | rfl | rfl <;> (dsimp only; omega)
  have HE2 := Lib.hid (((below_then HE1.out hb).setCell (p := ⟨N, 0, none⟩) (by have := HG.out; simp; omega) (.int .i64 j)).setCell (p := ⟨N, 1, none⟩) (by have := HG.out; simp; omega) (.int .i64 k))
  have HK2 := Lib.hid (Boxes.set2 (HK1.out.on hb) hne (.int .i64 j) (.int .i64 k))
  have HKb := Lib.hid (HK1.out.on hb)
  clear hb HE1 HK1 C2 hne p0 p1 pf0 pf1
  have b := HKb.out _ (.head _)
  have b0 := b.cell 0
  have bf0 := b.frozen 0
  have b1 := b.cell 1
  have bf1 := b.frozen 1
  simp at b0 bf0 b1 bf1
  clear b
  go_upto_region 5 with fail
  obtain ⟨W3, hW3⟩ : ∃ W3, (w2.setCell ⟨N, 0, none⟩ (.int .i64 j)).setCell ⟨N, 1, none⟩ (.int .i64 k) = W3 := ⟨_, rfl⟩
  rw [hW3] at HE2 HK2 ⊢
  clear hW3 HKb b0 b1 bf0 bf1
  by_cases g2 : e2 = 0
  ·have eR : R = (⟨id, 3, j, k, d0, d1⟩, 0) := by rw [← HR.out]; simp [g2]
   subst eR
   subst g2
   clear HR
   have p := HK2.out _ (.head _)
   have p0 := p.cell 0
   have p1 := p.cell 1
   simp at p0 p1
   clear p
   have r := HK2.out _ (.tail _ (.tail _ (.head _)))
   have r0 := r.cell 0
   have r1 := r.cell 1
   simp at r0 r1
   clear r
   have s := HK2.out _ (.tail _ (.tail _ (.tail _ (.tail _ (.tail _ (.head _))))))
   have s0 := s.cell 0
   simp at s0
   clear s
   go_upto_region 7 with fail
   refine wp_region_lit ?_
   refine wpList_plain rfl (fun K hK => ?_)
   go_simp
   refine hK _ _ ?_
   clear hK K
   refine wpList_plain rfl (fun K hK => ?_)
   go_simp
   refine hK _ _ ?_
   clear hK K
   refine wpList_plain rfl (fun K hK => ?_)
   go_simp
   refine hK _ _ ?_
   clear hK K
   refine wpList_plain rfl (fun K hK => ?_)
   go_simp
   refine hK _ _ ?_
   clear hK K
   refine wpList_plain rfl (fun K hK => ?_)
   go_simp
   refine hK _ _ ?_
   clear hK K
   have HKR : Hid (Blk (W3.setRow (G + 1 + 1 + 1 + 1) #[.int .i64 id, .int .i64 3, .int .i64 j, .int .i64 k, .int .i64 d0, .int .i64 d1]) (G + 1 + 1 + 1 + 1) 43 #[.int .i64 id, .int .i64 3, .int .i64 j, .int .i64 k, .int .i64 d0, .int .i64 d1]) := Lib.hid (setRow_heap W3 (G + 1 + 1 + 1 + 1) _ _ 43 _ (HK2.out _ (.tail _ (.head _))))
   have HE9 := Lib.hid (below_setRow HE2.out (show w.heap.size ≤ G + 1 + 1 + 1 + 1 by have := HG.out; omega) #[.int .i64 id, .int .i64 3, .int .i64 j, .int .i64 k, .int .i64 d0, .int .i64 d1])
   refine wpList_store_row rfl 43 (.tmp 8) (.tmp 35) rfl (G + 1 + 1 + 1 + 1) #[.int .i64 id, .int .i64 3, .int .i64 j, .int .i64 k, .int .i64 d0, .int .i64 d1] rfl rfl 43 _ (HK2.out _ (.tail _ (.head _))) (by kernel_rfl) rfl (by kernel_rfl) ?_
   obtain ⟨W9, hW9⟩ : ∃ W9, W3.setRow (G + 1 + 1 + 1 + 1) #[.int .i64 id, .int .i64 3, .int .i64 j, .int .i64 k, .int .i64 d0, .int .i64 d1] = W9 := ⟨_, rfl⟩
   rw [hW9] at HKR HE9 ⊢
   clear hW9
   go_wp2
   exact bodyPost_ret (v := .tuple #[.agg #[.int .i64 id, .int .i64 3, .int .i64 j, .int .i64 k, .int .i64 d0, .int .i64 d1], .int .i64 0]) (results_cell_tmp_row Tryz.results56 _ _ (G + 1 + 1 + 1 + 1) 43 #[.int .i64 id, .int .i64 3, .int .i64 j, .int .i64 k, .int .i64 d0, .int .i64 d1] (0, 0) _ _ rfl rfl HKR.out Tryz.underlying43 rfl (by kernel_rfl)) rfl ⟨rfl, HE9.out⟩
  ·have eR : R = (noFill, 24) := by rw [← HR.out]; simp [g2]
   subst eR
   clear HR
   go_upto_region 6 with fail
   refine wp_region_lit ?_
   refine wpList_plain rfl (fun K hK => ?_)
   go_simp
   refine hK _ _ ?_
   clear hK K
   have HKR : Hid (Blk (W3.setRow (G + 1 + 1 + 1 + 1) #[.int .i64 0, .int .i64 0, .int .i64 0, .int .i64 0, .int .i64 0, .int .i64 0]) (G + 1 + 1 + 1 + 1) 43 #[.int .i64 0, .int .i64 0, .int .i64 0, .int .i64 0, .int .i64 0, .int .i64 0]) := Lib.hid (setRow_heap W3 (G + 1 + 1 + 1 + 1) _ _ 43 _ (HK2.out _ (.tail _ (.head _))))
   have HE9 := Lib.hid (below_setRow HE2.out (show w.heap.size ≤ G + 1 + 1 + 1 + 1 by have := HG.out; omega) #[.int .i64 0, .int .i64 0, .int .i64 0, .int .i64 0, .int .i64 0, .int .i64 0])
   refine wpList_store_row rfl 43 (.tmp 8) (.tmp 30) rfl (G + 1 + 1 + 1 + 1) #[.int .i64 0, .int .i64 0, .int .i64 0, .int .i64 0, .int .i64 0, .int .i64 0] rfl rfl 43 _ (HK2.out _ (.tail _ (.head _))) (by kernel_rfl) rfl (by kernel_rfl) ?_
   obtain ⟨W9, hW9⟩ : ∃ W9, W3.setRow (G + 1 + 1 + 1 + 1) #[.int .i64 0, .int .i64 0, .int .i64 0, .int .i64 0, .int .i64 0, .int .i64 0] = W9 := ⟨_, rfl⟩
   rw [hW9] at HKR HE9 ⊢
   clear hW9
   go_wp2
   exact bodyPost_ret (v := .tuple #[.agg #[.int .i64 0, .int .i64 0, .int .i64 0, .int .i64 0, .int .i64 0, .int .i64 0], .int .i64 24]) (results_cell_tmp_row Tryz.results56 _ _ (G + 1 + 1 + 1 + 1) 43 #[.int .i64 0, .int .i64 0, .int .i64 0, .int .i64 0, .int .i64 0, .int .i64 0] (0, 0) _ _ rfl rfl HKR.out Tryz.underlying43 rfl (by kernel_rfl)) rfl ⟨rfl, HE9.out⟩
 ·have eR : R = (noFill, r) := by rw [← HR.out, if_neg g]
  subst eR
  clear HR C2
  go_upto_region 3 with fail
  refine wp_region_lit ?_
  refine wpList_plain rfl (fun K hK => ?_)
  go_simp
  refine hK _ _ ?_
  clear hK K
  refine wpList_plain rfl (fun K hK => ?_)
  go_simp
  refine hK _ _ ?_
  clear hK K
  have HKR : Hid (Blk (W1.setRow (G + 1 + 1 + 1 + 1) #[.int .i64 0, .int .i64 0, .int .i64 0, .int .i64 0, .int .i64 0, .int .i64 0]) (G + 1 + 1 + 1 + 1) 43 #[.int .i64 0, .int .i64 0, .int .i64 0, .int .i64 0, .int .i64 0, .int .i64 0]) := Lib.hid (setRow_heap W1 (G + 1 + 1 + 1 + 1) _ _ 43 _ (HK1.out _ (.tail _ (.head _))))
  have HE9 := Lib.hid (below_setRow HE1.out (show w.heap.size ≤ G + 1 + 1 + 1 + 1 by have := HG.out; omega) #[.int .i64 0, .int .i64 0, .int .i64 0, .int .i64 0, .int .i64 0, .int .i64 0])
  refine wpList_store_row rfl 43 (.tmp 8) (.tmp 20) rfl (G + 1 + 1 + 1 + 1) #[.int .i64 0, .int .i64 0, .int .i64 0, .int .i64 0, .int .i64 0, .int .i64 0] rfl rfl 43 _ (HK1.out _ (.tail _ (.head _))) (by kernel_rfl) rfl (by kernel_rfl) ?_
  obtain ⟨W9, hW9⟩ : ∃ W9, W1.setRow (G + 1 + 1 + 1 + 1) #[.int .i64 0, .int .i64 0, .int .i64 0, .int .i64 0, .int .i64 0, .int .i64 0] = W9 := ⟨_, rfl⟩
  rw [hW9] at HKR HE9 ⊢
  clear hW9
  go_wp2
  exact bodyPost_ret (v := .tuple #[.agg #[.int .i64 0, .int .i64 0, .int .i64 0, .int .i64 0, .int .i64 0, .int .i64 0], .int .i64 r]) (results_cell_tmp_row Tryz.results56 _ _ (G + 1 + 1 + 1 + 1) 43 #[.int .i64 0, .int .i64 0, .int .i64 0, .int .i64 0, .int .i64 0, .int .i64 0] (0, 0) _ _ rfl rfl HKR.out Tryz.underlying43 rfl (by kernel_rfl)) rfl ⟨rfl, HE9.out⟩
end

section
open Go.RowKit

theorem eqlFillS (a b c d e f a' b' c' d' e' f' : Int) (w : World) : (binOp .eql 43 (.agg #[.int .i64 a, .int .i64 b, .int .i64 c, .int .i64 d, .int .i64 e, .int .i64 f]) (.agg #[.int .i64 a', .int .i64 b', .int .i64 c', .int .i64 d', .int .i64 e', .int .i64 f'])).run Tryz.prog w = .ok (.bool ((a == a' && b == b') && ((c == c' && d == d') && (e == e' && f == f')))) w := eqlFill a b c d e f a' b' c' d' e' f' _ rfl w
attribute [local go_sem ↓] eqlFillS
set_option maxRecDepth 100000 in
set_option maxHeartbeats 4000000 in
theorem emptyVal_to (id al ah t0 t1 u0 u1 v0 v1 h0 h1 : Int) (A B C : Option Addr) (n c mm d l ee : Nat) (x0 x1 d0 d1 : Int) (ne nd : Bool) (w : World) (g1 : (x0 == 0 && x1 == 0) = ne) (g2 : (d0 == 0 && d1 == 0) = nd) :
  Calls Tryz.prog 127 #[.agg #[.int .i64 id, .int .i64 al, .int .i64 ah, .slice A n c, .slice B mm d, .slice C l ee, .int .i64 t0, .int .i64 t1, .int .i64 u0, .int .i64 u1, .int .i64 v0, .int .i64 v1, .int .i64 h0, .int .i64 h1], .agg #[.int .i64 id, .int .i64 0, .int .i64 x0, .int .i64 x1, .int .i64 d0, .int .i64 d1]] w fun e w' => e = .returned (.bool (ne && nd)) ∧ Below w.heap.size w w' := by
 cases ne <;> cases nd
 all_goals
  go_enter Tryz.func127, Tryz.ntmps127
  go_wp2
  go_ret
  exact ⟨rfl, below_a2 (Below.refl _ _)⟩

set_option maxRecDepth 100000 in
set_option maxHeartbeats 4000000 in
theorem filledVal_to (id al ah t0 t1 u0 u1 v0 v1 h0 h1 : Int) (A B C : Option Addr) (n c mm d l ee : Nat) (st x0 x1 d0 d1 : Int) (ne bd : Bool) (w : World) (g1 : (x0 == 0 && x1 == 0) = ne) (g2 : densS d0 d1 = bd) :
  Calls Tryz.prog 130 #[.agg #[.int .i64 id, .int .i64 al, .int .i64 ah, .slice A n c, .slice B mm d, .slice C l ee, .int .i64 t0, .int .i64 t1, .int .i64 u0, .int .i64 u1, .int .i64 v0, .int .i64 v1, .int .i64 h0, .int .i64 h1], .agg #[.int .i64 id, .int .i64 st, .int .i64 x0, .int .i64 x1, .int .i64 d0, .int .i64 d1]] w fun e w' => e = .returned (.bool (ne && bd)) ∧ Below w.heap.size w w' := by
 have HE := Lib.hid (show Below w.heap.size w ((w.alloc (.cells #[.int .i64 id, .int .i64 al, .int .i64 ah, .slice A n c, .slice B mm d, .slice C l ee, .int .i64 t0, .int .i64 t1, .int .i64 u0, .int .i64 u1, .int .i64 v0, .int .i64 v1, .int .i64 h0, .int .i64 h1] 40)).alloc (.cells #[.int .i64 id, .int .i64 st, .int .i64 x0, .int .i64 x1, .int .i64 d0, .int .i64 d1] 43)) from below_a2 (Below.refl _ _))
 have HK := Lib.hid (boxes2' w 40 43 #[.int .i64 id, .int .i64 al, .int .i64 ah, .slice A n c, .slice B mm d, .slice C l ee, .int .i64 t0, .int .i64 t1, .int .i64 u0, .int .i64 u1, .int .i64 v0, .int .i64 v1, .int .i64 h0, .int .i64 h1] #[.int .i64 id, .int .i64 st, .int .i64 x0, .int .i64 x1, .int .i64 d0, .int .i64 d1])
 have CC : Hid (∀ W, Calls Tryz.prog 68 #[rv d0 d1] W fun e w' => e = .returned (.bool bd) ∧ Below W.heap.size W w') := Lib.hid fun W => isDensity_to d0 d1 bd W g2
 clear g2
 cases ne
 ·clear HK CC
  go_enter Tryz.func130, Tryz.ntmps130
  go_wp2
  go_ret
  exact ⟨rfl, HE.out⟩
 ·go_enter Tryz.func130, Tryz.ntmps130
  go_wp2_with fail
  refine (CC.out _).mono ?_
  rintro e w1 ⟨rfl, hb⟩
  have HE1 := Lib.hid (below_then HE.out hb)
  clear hb HE HK CC g1
  cases bd
  all_goals
   go_wp2
   go_ret
   exact ⟨rfl, HE1.out⟩

set_option maxRecDepth 100000 in
set_option maxHeartbeats 4000000 in
theorem partlyVal_to (ps : List P3) (id al ah t0 t1 u0 u1 v0 v1 h0 h1 : Int) (A B C : Option Addr) (n c mm d l ee : Nat) (st x0 x1 d0 d1 : Int) (bi bd : Bool) (w : World) (hp : TabIn w A n ps) (ht : tabOk ps = true) (g1 : inB x0 x1 (firstX ps) (lastX ps) = bi) (g2 : densS d0 d1 = bd) :
  Calls Tryz.prog 134 #[.agg #[.int .i64 id, .int .i64 al, .int .i64 ah, .slice A n c, .slice B mm d, .slice C l ee, .int .i64 t0, .int .i64 t1, .int .i64 u0, .int .i64 u1, .int .i64 v0, .int .i64 v1, .int .i64 h0, .int .i64 h1], .agg #[.int .i64 id, .int .i64 st, .int .i64 x0, .int .i64 x1, .int .i64 d0, .int .i64 d1]] w fun e w' => e = .returned (.bool (bi && bd)) ∧ Below w.heap.size w w' := by
 have HE := Lib.hid (show Below w.heap.size w ((w.alloc (.cells #[.int .i64 id, .int .i64 al, .int .i64 ah, .slice A n c, .slice B mm d, .slice C l ee, .int .i64 t0, .int .i64 t1, .int .i64 u0, .int .i64 u1, .int .i64 v0, .int .i64 v1, .int .i64 h0, .int .i64 h1] 40)).alloc (.cells #[.int .i64 id, .int .i64 st, .int .i64 x0, .int .i64 x1, .int .i64 d0, .int .i64 d1] 43)) from below_a2 (Below.refl _ _))
 have HK := Lib.hid (boxes2' w 40 43 #[.int .i64 id, .int .i64 al, .int .i64 ah, .slice A n c, .slice B mm d, .slice C l ee, .int .i64 t0, .int .i64 t1, .int .i64 u0, .int .i64 u1, .int .i64 v0, .int .i64 v1, .int .i64 h0, .int .i64 h1] #[.int .i64 id, .int .i64 st, .int .i64 x0, .int .i64 x1, .int .i64 d0, .int .i64 d1])
 have C1 : Hid (∀ W, Below w.heap.size w W → Calls Tryz.prog 69 #[rv x0 x1, tv A n c] W fun e w' => e = .returned (.bool bi) ∧ Below W.heap.size W w') := Lib.hid fun W hW => inPlaces_to A n c ps x0 x1 bi W (hp.below hW) ht g1
 have C2 : Hid (∀ W, Calls Tryz.prog 68 #[rv d0 d1] W fun e w' => e = .returned (.bool bd) ∧ Below W.heap.size W w') := Lib.hid fun W => isDensity_to d0 d1 bd W g2
 clear g2 g1 ht hp
 go_enter Tryz.func134, Tryz.ntmps134
 go_wp2_with fail
 obtain ⟨W0, hW0⟩ : ∃ W0, ((w.alloc (.cells #[.int .i64 id, .int .i64 al, .int .i64 ah, .slice A n c, .slice B mm d, .slice C l ee, .int .i64 t0, .int .i64 t1, .int .i64 u0, .int .i64 u1, .int .i64 v0, .int .i64 v1, .int .i64 h0, .int .i64 h1] 40)).alloc (.cells #[.int .i64 id, .int .i64 st, .int .i64 x0, .int .i64 x1, .int .i64 d0, .int .i64 d1] 43)) = W0 := ⟨_, rfl⟩
 rw [hW0] at HE HK ⊢
 clear hW0
 obtain ⟨G, hG⟩ : ∃ G, w.heap.size = G := ⟨_, rfl⟩
 rw [hG] at HK ⊢
 have HG := Lib.hid hG; clear hG
 refine (C1.out _ HE.out).mono ?_
 rintro e w1 ⟨rfl, hb⟩
 have HE1 := Lib.hid (below_then HE.out hb)
 have HK1 := Lib.hid (HK.out.on hb)
 clear hb HE HK C1
 cases bi
 ·clear HK1
  go_wp2
  go_ret
  exact ⟨rfl, HE1.out⟩
 have q := HK1.out _ (.head _)
 have q4 := q.cell 4
 have q5 := q.cell 5
 simp at q4 q5
 clear q
 go_wp2_with fail
 refine (C2.out _).mono ?_
 rintro e w2 ⟨rfl, hb⟩
 have HE2 := Lib.hid (below_then HE1.out hb)
 clear hb HE1 HK1 C2 q4 q5
 cases bd
 all_goals
  go_wp2
  go_ret
  exact ⟨rfl, HE2.out⟩
end

section
open Go.RowKit

def validF (st : Int) : Nat := if st = 0 then 127 else if st ≤ 2 then 130 else 134
def stB (st : Int) (ne nd bi bd : Bool) : Bool := if st = 0 then (ne && nd) else if st ≤ 2 then (ne && bd) else (bi && bd)
theorem stB_of {st : Int} (h0 : 0 ≤ st) (h5 : st ≤ 5) (ne nd bi bd : Bool) : stateS st ne nd bi bd = stB st ne nd bi bd := by
  rcases st_cases h0 h5 with rfl | rfl | rfl | rfl | rfl | rfl <;> simp [stateS, stB]
theorem valid_to (ps : List P3) (id al ah t0 t1 u0 u1 v0 v1 h0 h1 : Int) (A B C : Option Addr) (n c mm d l ee : Nat) (st x0 x1 d0 d1 : Int) (ne nd bi bd : Bool) (w : World) (q0 : 0 ≤ st) (q5 : st ≤ 5) (hp : TabIn w A n ps) (ht : tabOk ps = true) (g1 : (x0 == 0 && x1 == 0) = ne) (g2 : (d0 == 0 && d1 == 0) = nd) (g3 : inB x0 x1 (firstX ps) (lastX ps) = bi) (g4 : densS d0 d1 = bd) :
    Calls Tryz.prog (validF st) #[.agg #[.int .i64 id, .int .i64 al, .int .i64 ah, .slice A n c, .slice B mm d, .slice C l ee, .int .i64 t0, .int .i64 t1, .int .i64 u0, .int .i64 u1, .int .i64 v0, .int .i64 v1, .int .i64 h0, .int .i64 h1], .agg #[.int .i64 id, .int .i64 st, .int .i64 x0, .int .i64 x1, .int .i64 d0, .int .i64 d1]] w fun e w' => e = .returned (.bool (stB st ne nd bi bd)) ∧ Below w.heap.size w w' := by
  rcases st_cases q0 q5 with rfl | rfl | rfl | rfl | rfl | rfl
  · exact emptyVal_to id al ah t0 t1 u0 u1 v0 v1 h0 h1 A B C n c mm d l ee x0 x1 d0 d1 ne nd w g1 g2
  · exact filledVal_to id al ah t0 t1 u0 u1 v0 v1 h0 h1 A B C n c mm d l ee 1 x0 x1 d0 d1 ne bd w g1 g4
  · exact filledVal_to id al ah t0 t1 u0 u1 v0 v1 h0 h1 A B C n c mm d l ee 2 x0 x1 d0 d1 ne bd w g1 g4
  · exact partlyVal_to ps id al ah t0 t1 u0 u1 v0 v1 h0 h1 A B C n c mm d l ee 3 x0 x1 d0 d1 bi bd w hp ht g3 g4
  · exact partlyVal_to ps id al ah t0 t1 u0 u1 v0 v1 h0 h1 A B C n c mm d l ee 4 x0 x1 d0 d1 bi bd w hp ht g3 g4
  · exact partlyVal_to ps id al ah t0 t1 u0 u1 v0 v1 h0 h1 A B C n c mm d l ee 5 x0 x1 d0 d1 bi bd w hp ht g3 g4

set_option maxRecDepth 100000 in
set_option maxHeartbeats 16000000 in
theorem checkFill_any (h : HoldD) (m : HoldM) (f : FillD) (w : World) (hi : HoldIn w h m) :
  Calls Tryz.prog 35 #[holdV h m, fillV f] w fun e w' => e = .returned (.int .i64 (fillErr h f)) ∧ Below w.heap.size w w' := by
 have CC : Hid (∀ W, Below w.heap.size w W → Calls Tryz.prog 49 #[holdV h m] W fun e w' => e = .returned (.int .i64 (holdErr h)) ∧ Below W.heap.size W w') := Lib.hid fun W hW => checkHold_any h m W (hi.below hW)
 obtain ⟨bt, hbt⟩ : ∃ b, holdS h = b := ⟨_, rfl⟩
 obtain ⟨R, hR⟩ : ∃ R, fillErr h f = R := ⟨_, rfl⟩
 obtain ⟨bl, hbl⟩ : ∃ b, fillS h f = b := ⟨_, rfl⟩
 rw [holdErr_of hbt] at CC
 have HRR := Lib.hid ((fillErr_of hbt hbl).symm.trans hR)
 rw [hR]
 have HV : Hid (bt = true → tabOk h.vol = true) := Lib.hid fun x => hold_tab (hbt.trans x)
 clear hR hbt
 obtain ⟨id, al, ah, vol, mom, hei, t0, t1, u0, u1, v0, v1, h0, h1⟩ := h
 obtain ⟨A, n, c, B, mm, d, C, l, ee⟩ := m
 obtain ⟨fh, st, x0, x1, d0, d1⟩ := f
 obtain ⟨i1, i2, i3⟩ := hi
 dsimp only at i1 i2 i3 HV
 have HE := Lib.hid (show Below w.heap.size w ((w.alloc (.cells #[.int .i64 id, .int .i64 al, .int .i64 ah, .slice A n c, .slice B mm d, .slice C l ee, .int .i64 t0, .int .i64 t1, .int .i64 u0, .int .i64 u1, .int .i64 v0, .int .i64 v1, .int .i64 h0, .int .i64 h1] 40)).alloc (.cells #[.int .i64 fh, .int .i64 st, .int .i64 x0, .int .i64 x1, .int .i64 d0, .int .i64 d1] 43)) from below_a2 (Below.refl _ _))
 have HK := Lib.hid (boxes2' w 40 43 #[.int .i64 id, .int .i64 al, .int .i64 ah, .slice A n c, .slice B mm d, .slice C l ee, .int .i64 t0, .int .i64 t1, .int .i64 u0, .int .i64 u1, .int .i64 v0, .int .i64 v1, .int .i64 h0, .int .i64 h1] #[.int .i64 fh, .int .i64 st, .int .i64 x0, .int .i64 x1, .int .i64 d0, .int .i64 d1])
 obtain ⟨bd, ebd⟩ : ∃ b, densS d0 d1 = b := ⟨_, rfl⟩
 obtain ⟨bi, ebi⟩ : ∃ b, inB x0 x1 (firstX vol) (lastX vol) = b := ⟨_, rfl⟩
 obtain ⟨ne, ene⟩ : ∃ b, (x0 == 0 && x1 == 0) = b := ⟨_, rfl⟩
 obtain ⟨nd, end'⟩ : ∃ b, (d0 == 0 && d1 == 0) = b := ⟨_, rfl⟩
 have HBL : Hid (bl = (decide (fh = id) && stateS st ne nd bi bd)) := Lib.hid (by rw [← hbl, ← ebd, ← ebi, ← ene, ← end']; rfl)
 have CV : Hid (bt = true → 0 ≤ st → st ≤ 5 → ∀ W, Below w.heap.size w W → Calls Tryz.prog (validF st) #[.agg #[.int .i64 id, .int .i64 al, .int .i64 ah, .slice A n c, .slice B mm d, .slice C l ee, .int .i64 t0, .int .i64 t1, .int .i64 u0, .int .i64 u1, .int .i64 v0, .int .i64 v1, .int .i64 h0, .int .i64 h1], .agg #[.int .i64 id, .int .i64 st, .int .i64 x0, .int .i64 x1, .int .i64 d0, .int .i64 d1]] W fun e w' => e = .returned (.bool (stB st ne nd bi bd)) ∧ Below W.heap.size W w') := Lib.hid fun x q0 q5 W hW =>
  valid_to vol id al ah t0 t1 u0 u1 v0 v1 h0 h1 A B C n c mm d l ee st x0 x1 d0 d1 ne nd bi bd W q0 q5 (i1.below hW) (HV.out x) ene end' ebi ebd
 clear hbl i1 i2 i3 HV ebd ebi ene end'
 go_enter Tryz.func35, Tryz.ntmps35
 go_wp2_with fail
 obtain ⟨W0, hW0⟩ : ∃ W0, ((w.alloc (.cells #[.int .i64 id, .int .i64 al, .int .i64 ah, .slice A n c, .slice B mm d, .slice C l ee, .int .i64 t0, .int .i64 t1, .int .i64 u0, .int .i64 u1, .int .i64 v0, .int .i64 v1, .int .i64 h0, .int .i64 h1] 40)).alloc (.cells #[.int .i64 fh, .int .i64 st, .int .i64 x0, .int .i64 x1, .int .i64 d0, .int .i64 d1] 43)) = W0 := ⟨_, rfl⟩
 rw [hW0] at HE HK ⊢
 clear hW0
 obtain ⟨G, hG⟩ : ∃ G, w.heap.size = G := ⟨_, rfl⟩
 rw [hG] at HK ⊢
 have HG := Lib.hid hG; clear hG
 refine (CC.out _ HE.out).mono ?_
 rintro e w1 ⟨rfl, hb⟩
 have HE1 := Lib.hid (below_then HE.out hb); have HK1 := Lib.hid (HK.out.on hb)
 clear hb HE HK CC
 cases bt
 ·have e : R = 20 := by rw [← HRR.out]; rfl
  subst e
  simp only [Bool.false_eq_true, if_false]
  clear HRR HBL CV
  go_wp2
  go_ret
  exact ⟨rfl, HE1.out⟩
 simp only [if_true]
 have HRQ : Hid ((if bl = true then 0 else 22) = R) := Lib.hid (by rw [← HRR.out]; rfl)
 have CW := Lib.hid (CV.out (by trivial))
 clear HRR CV
 go_wp2_with fail
 refine (meanings_any _).mono ?_
 rintro e w2 ⟨rfl, hb⟩
 have HE2 := Lib.hid (below_then (below_then HE1.out hb) (below_alloc1 w2 (.cells allM 120)))
 have HK2 := Lib.hid ((HK1.out.on hb).new 120 allM)
 clear hb HE1 HK1
 rename_i hK
 refine hK _ _ ?_
 refine wpList_plain rfl (fun K2 hK2 => ?_)
 go_simp
 refine hK2 _ _ ?_
 clear hK2 K2
 refine wpList_store_row rfl 120 (.tmp 5) (.tmp 9) rfl w2.heap.size allM rfl rfl 120 _ (heap_alloc_new w2 _) (by kernel_rfl) rfl (by kernel_rfl) ?_
 rw [World.setRow_alloc_new]
 go_upto_region 4 with fail
 obtain ⟨W2, hW2⟩ : ∃ W2, w2.alloc (.cells allM 120) = W2 := ⟨_, rfl⟩
 rw [hW2] at HE2 HK2 ⊢
 clear hW2
 obtain ⟨N, hN⟩ : ∃ N, w2.heap.size = N := ⟨_, rfl⟩
 rw [hN] at HK2 ⊢
 clear hN
 by_cases g : fh = id
 ·subst g
  have HBM : Hid (bl = stateS st ne nd bi bd) := Lib.hid (by rw [HBL.out]; simp)
  clear HBL
  by_cases q0 : 0 ≤ st
  ·by_cases q5 : st ≤ 5
   ·have HR : Hid ((if stB st ne nd bi bd = true then 0 else 22) = R) := Lib.hid (by rw [← HRQ.out, HBM.out, stB_of q0 q5])
    have CX := Lib.hid (CW.out q0 q5)
    clear HRQ HBM CW
    generalize hbv : stB st ne nd bi bd = bv at *
    clear hbv
    rcases st_cases q0 q5 with rfl | rfl | rfl | rfl | rfl | rfl
    all_goals
     first | rw [show validF 0 = 127 from rfl] at CX | rw [show validF 1 = 130 from rfl] at CX | rw [show validF 2 = 130 from rfl] at CX | rw [show validF 3 = 134 from rfl] at CX | rw [show validF 4 = 134 from rfl] at CX | rw [show validF 5 = 134 from rfl] at CX
     have HKM := HK2
     refine wp_region_held_drew (S := fun w' => Boxes w' _) (by kernel_rfl) HKM.out (fun hHeld => ?_)
     refine tK 10 (i := 0) (v := .pointer (some ⟨G + 1, 0, none⟩)) rfl rfl (by kernel_rfl) ?_ hHeld ?_
     ·intro w hSw; clear hSw; go_simp; try with_reducible rfl
     simp only [uZ, uS]
     refine tK 11 (i := 1) (v := .int .i64 fh) rfl rfl (by kernel_rfl) ?_ hHeld ?_
     ·intro w hSw; have c0 := (hSw _ (.tail _ (.head _))).cell 0; simp at c0; clear hSw; go_simp; try with_reducible rfl
     simp only [uZ, uS]
     refine tK 12 (i := 2) (v := .pointer (some ⟨G, 0, none⟩)) rfl rfl (by kernel_rfl) ?_ hHeld ?_
     ·intro w hSw; clear hSw; go_simp; try with_reducible rfl
     simp only [uZ, uS]
     refine tK 13 (i := 3) (v := .int .i64 fh) rfl rfl (by kernel_rfl) ?_ hHeld ?_
     ·intro w hSw; have c0 := (hSw _ (.tail _ (.tail _ (.head _)))).cell 0; simp at c0; clear hSw; go_simp; try with_reducible rfl
     simp only [uZ, uS]
     refine tK 14 (i := 4) (v := .bool false) rfl rfl (by kernel_rfl) ?_ hHeld ?_
     ·intro w hSw; clear hSw; go_simp; try with_reducible rfl
     simp only [uZ, uS]
     refine tK 15 (i := 5) (v := .bool false) rfl rfl (by kernel_rfl) ?_ hHeld ?_
     ·intro w hSw; clear hSw; go_simp; try with_reducible rfl
     simp only [uZ, uS]
     refine tK 16 (i := 6) (v := .pointer (some ⟨G + 1, 1, none⟩)) rfl rfl (by kernel_rfl) ?_ hHeld ?_
     ·intro w hSw; clear hSw; go_simp; try with_reducible rfl
     simp only [uZ, uS]
     refine wpAnyH_take (i := 7) (v := ?_) rfl (by kernel_rfl) (by kernel_rfl) (by kernel_rfl) (fun _ _ _ h => h) (Or.inl ⟨by kernel_rfl, ?_⟩) hHeld ?_
     rotate_left
     ·intro w hSw; have c1 := (hSw _ (.tail _ (.head _))).cell 1; simp at c1; clear hSw; go_simp; try with_reducible rfl
     change wpAnyH _ _ _ _ _ _ _ (Act.put _ (some 17) _) _
     try simp only [Act.put, uA, uZ, uS]
     refine tK 18 (i := 8) (v := .bool false) rfl rfl (by kernel_rfl) ?_ hHeld ?_
     ·intro w hSw; clear hSw; go_simp; try with_reducible rfl
     simp only [uZ, uS]
     refine tK 19 (i := 9) (v := .bool false) rfl rfl (by kernel_rfl) ?_ hHeld ?_
     ·intro w hSw; clear hSw; go_simp; try with_reducible rfl
     simp only [uZ, uS]
     refine tK 20 (i := 10) (v := .bool false) rfl rfl (by kernel_rfl) ?_ hHeld ?_
     ·intro w hSw; clear hSw; go_simp; try with_reducible rfl
     simp only [uZ, uS]
     refine tK 21 (i := 11) (v := .pointer (some ⟨G + 1, 1, none⟩)) rfl rfl (by kernel_rfl) ?_ hHeld ?_
     ·intro w hSw; clear hSw; go_simp; try with_reducible rfl
     simp only [uZ, uS]
     refine wpAnyH_take (i := 12) (v := ?_) rfl (by kernel_rfl) (by kernel_rfl) (by kernel_rfl) (fun _ _ _ h => h) (Or.inl ⟨by kernel_rfl, ?_⟩) hHeld ?_
     rotate_left
     ·intro w hSw; have c1 := (hSw _ (.tail _ (.head _))).cell 1; simp at c1; clear hSw; go_simp; try with_reducible rfl
     change wpAnyH _ _ _ _ _ _ _ (Act.put _ (some 22) _) _
     try simp only [Act.put, uA, uZ, uS]
     refine tK 23 (i := 13) (v := .bool false) rfl rfl (by kernel_rfl) ?_ hHeld ?_
     ·intro w hSw; clear hSw; go_simp; try with_reducible rfl
     simp only [uZ, uS]
     refine tK 24 (i := 14) (v := .bool false) rfl rfl (by kernel_rfl) ?_ hHeld ?_
     ·intro w hSw; clear hSw; go_simp; try with_reducible rfl
     simp only [uZ, uS]
     refine tK 25 (i := 15) (v := .bool false) rfl rfl (by kernel_rfl) ?_ hHeld ?_
     ·intro w hSw; clear hSw; go_simp; try with_reducible rfl
     simp only [uZ, uS]
     refine tK 26 (i := 16) (v := .pointer (some ⟨G + 1, 1, none⟩)) rfl rfl (by kernel_rfl) ?_ hHeld ?_
     ·intro w hSw; clear hSw; go_simp; try with_reducible rfl
     simp only [uZ, uS]
     refine wpAnyH_take (i := 17) (v := ?_) rfl (by kernel_rfl) (by kernel_rfl) (by kernel_rfl) (fun _ _ _ h => h) (Or.inl ⟨by kernel_rfl, ?_⟩) hHeld ?_
     rotate_left
     ·intro w hSw; have c1 := (hSw _ (.tail _ (.head _))).cell 1; simp at c1; clear hSw; go_simp; try with_reducible rfl
     change wpAnyH _ _ _ _ _ _ _ (Act.put _ (some 27) _) _
     try simp only [Act.put, uA, uZ, uS]
     refine wpAnyH_take (i := 18) (v := ?_) rfl (by kernel_rfl) (by kernel_rfl) (by kernel_rfl) (fun _ _ _ h => h) (Or.inl ⟨by kernel_rfl, ?_⟩) hHeld ?_
     rotate_left
     ·intro w hSw; clear hSw; go_simp; try with_reducible rfl
     change wpAnyH _ _ _ _ _ _ _ (Act.put _ (some 28) _) _
     try simp only [Act.put, uA, uZ, uS]
     refine wpAnyH_take (i := 19) (v := ?_) rfl (by kernel_rfl) (by kernel_rfl) (by kernel_rfl) (fun _ _ _ h => h) (Or.inl ⟨by kernel_rfl, ?_⟩) hHeld ?_
     rotate_left
     ·intro w hSw; clear hSw; go_simp; try with_reducible rfl
     change wpAnyH _ _ _ _ _ _ _ (Act.put _ (some 29) _) _
     try simp only [Act.put, uA, uZ, uS]
     refine wpAnyH_take (i := 20) (v := ?_) rfl (by kernel_rfl) (by kernel_rfl) (by kernel_rfl) (fun _ _ _ h => h) (Or.inl ⟨by kernel_rfl, ?_⟩) hHeld ?_
     rotate_left
     ·intro w hSw; have hz := (hSw _ (.head _)); have c0 := hz.cell 0; have c8 := hz.cell 8; have c16 := hz.cell 16; have c24 := hz.cell 24; have c32 := hz.cell 32; have c40 := hz.cell 40; simp at c0 c8 c16 c24 c32 c40; clear hz hSw; go_simp; try with_reducible rfl
     change wpAnyH _ _ _ _ _ _ _ (Act.put _ (some 30) _) _
     try simp only [Act.put, uA, uZ, uS]
     refine wpAnyH_take (i := 21) (v := ?_) rfl (by kernel_rfl) (by kernel_rfl) (by kernel_rfl) (fun _ _ _ h => h) (Or.inl ⟨by kernel_rfl, ?_⟩) hHeld ?_
     rotate_left
     ·intro w hSw; have hz := (hSw _ (.tail _ (.tail _ (.head _)))); have c0 := hz.cell 0; have c1 := hz.cell 1; have c2 := hz.cell 2; have c3 := hz.cell 3; have c4 := hz.cell 4; have c5 := hz.cell 5; have c6 := hz.cell 6; have c7 := hz.cell 7; have c8 := hz.cell 8; have c9 := hz.cell 9; have c10 := hz.cell 10; have c11 := hz.cell 11; have c12 := hz.cell 12; have c13 := hz.cell 13; simp at c0 c1 c2 c3 c4 c5 c6 c7 c8 c9 c10 c11 c12 c13; clear hz hSw; go_simp; try with_reducible rfl
     change wpAnyH _ _ _ _ _ _ _ (Act.put _ (some 31) _) _
     try simp only [Act.put, uA, uZ, uS]
     refine wpAnyH_take (i := 22) (v := ?_) rfl (by kernel_rfl) (by kernel_rfl) (by kernel_rfl) (fun _ _ _ h => h) (Or.inl ⟨by kernel_rfl, ?_⟩) hHeld ?_
     rotate_left
     ·intro w hSw; have hz := (hSw _ (.tail _ (.head _))); have c0 := hz.cell 0; have c1 := hz.cell 1; have c2 := hz.cell 2; have c3 := hz.cell 3; have c4 := hz.cell 4; have c5 := hz.cell 5; simp at c0 c1 c2 c3 c4 c5; clear hz hSw; go_simp; try with_reducible rfl
     change wpAnyH _ _ _ _ _ _ _ (Act.put _ (some 32) _) _
     try simp only [Act.put, uA, uZ, uS]
     refine wpAnyH_ready (rs := [23]) (by kernel_rfl) (by simp) ?_
     refine AllReadyH.cons rfl (fun K hK => ?_) AllReadyH.nil
     go_simp
     (with_reducible refine (CX.out _ (below_then HE2.out (below_drew1 _))).mono ?_)
     rintro e v1 ⟨rfl, hb⟩
     have HE3 := Lib.hid (below_then (below_then HE2.out (below_drew1 _)) hb)
     have hS3 := hHeld.on hb
     clear hb
     refine hK.out _ _ (hS3) (fun hHeld2 => ?_)
     try simp only [Act.put, uA, uZ, uS]
     clear hK K hHeld
     have hHeld := hHeld2
     clear hHeld2
     clear hS3
     cases bv
     ·have e : R = 22 := by rw [← HR.out]; rfl
      subst e
      clear HR
      refine tK 34 (i := 24) (v := .bool true) rfl rfl (by kernel_rfl) ?_ hHeld ?_
      ·intro w hSw; clear hSw; go_simp; try with_reducible rfl
      simp only [uZ, uS]
      refine tK 35 (i := 25) (v := .bool true) rfl rfl (by kernel_rfl) ?_ hHeld ?_
      ·intro w hSw; clear hSw; go_simp; try with_reducible rfl
      simp only [uZ, uS]
      refine wpAnyH_done (by kernel_rfl) ?_ _
      clear hHeld HKM HK2 HE2
      go_wp2
      go_ret
      exact ⟨rfl, HE3.out⟩
     ·have e : R = 0 := by rw [← HR.out]; rfl
      subst e
      clear HR
      refine tK 34 (i := 24) (v := .bool false) rfl rfl (by kernel_rfl) ?_ hHeld ?_
      ·intro w hSw; clear hSw; go_simp; try with_reducible rfl
      simp only [uZ, uS]
      refine tK 35 (i := 25) (v := .bool false) rfl rfl (by kernel_rfl) ?_ hHeld ?_
      ·intro w hSw; clear hSw; go_simp; try with_reducible rfl
      simp only [uZ, uS]
      refine wpAnyH_done (by kernel_rfl) ?_ _
      clear hHeld HKM HK2 HE2
      go_wp2
      go_ret
      exact ⟨rfl, HE3.out⟩
   ·have e : R = 22 := by rw [← HRQ.out, HBM.out]; simp [stateS]; omega
    subst e
    have k0 : decide (st < 0) = false := decide_eq_false (by omega)
    have k1 : decide (6 ≤ st) = true := decide_eq_true (by omega)
    clear HRQ HBM CW
    have HKM : Hid (Boxes W2.drew [(N, 120, allM), (G + 1, 43, #[.int .i64 fh, .int .i64 st, .int .i64 x0, .int .i64 x1, .int .i64 d0, .int .i64 d1]), (G, 40, #[.int .i64 fh, .int .i64 al, .int .i64 ah, .slice A n c, .slice B mm d, .slice C l ee, .int .i64 t0, .int .i64 t1, .int .i64 u0, .int .i64 u1, .int .i64 v0, .int .i64 v1, .int .i64 h0, .int .i64 h1])]) := Lib.hid HK2.out
    refine wp_region_held_drew (S := fun w' => Boxes w' [(N, 120, allM), (G + 1, 43, #[.int .i64 fh, .int .i64 st, .int .i64 x0, .int .i64 x1, .int .i64 d0, .int .i64 d1]), (G, 40, #[.int .i64 fh, .int .i64 al, .int .i64 ah, .slice A n c, .slice B mm d, .slice C l ee, .int .i64 t0, .int .i64 t1, .int .i64 u0, .int .i64 u1, .int .i64 v0, .int .i64 v1, .int .i64 h0, .int .i64 h1])]) (by kernel_rfl) HKM.out (fun hHeld => ?_)
    refine tK 10 (i := 0) (v := .pointer (some ⟨G + 1, 0, none⟩)) rfl rfl (by kernel_rfl) ?_ hHeld ?_
    ·intro w hSw; clear hSw; go_simp; try with_reducible rfl
    simp only [uZ, uS]
    refine tK 11 (i := 1) (v := .int .i64 fh) rfl rfl (by kernel_rfl) ?_ hHeld ?_
    ·intro w hSw; have c0 := (hSw _ (.tail _ (.head _))).cell 0; simp at c0; clear hSw; go_simp; try with_reducible rfl
    simp only [uZ, uS]
    refine tK 12 (i := 2) (v := .pointer (some ⟨G, 0, none⟩)) rfl rfl (by kernel_rfl) ?_ hHeld ?_
    ·intro w hSw; clear hSw; go_simp; try with_reducible rfl
    simp only [uZ, uS]
    refine tK 13 (i := 3) (v := .int .i64 fh) rfl rfl (by kernel_rfl) ?_ hHeld ?_
    ·intro w hSw; have c0 := (hSw _ (.tail _ (.tail _ (.head _)))).cell 0; simp at c0; clear hSw; go_simp; try with_reducible rfl
    simp only [uZ, uS]
    refine tK 14 (i := 4) (v := .bool false) rfl rfl (by kernel_rfl) ?_ hHeld ?_
    ·intro w hSw; clear hSw; go_simp; try with_reducible rfl
    simp only [uZ, uS]
    refine tK 15 (i := 5) (v := .bool false) rfl rfl (by kernel_rfl) ?_ hHeld ?_
    ·intro w hSw; clear hSw; go_simp; try with_reducible rfl
    simp only [uZ, uS]
    refine tK 16 (i := 6) (v := .pointer (some ⟨G + 1, 1, none⟩)) rfl rfl (by kernel_rfl) ?_ hHeld ?_
    ·intro w hSw; clear hSw; go_simp; try with_reducible rfl
    simp only [uZ, uS]
    refine tK 17 (i := 7) (v := .int .i64 st) rfl rfl (by kernel_rfl) ?_ hHeld ?_
    ·intro w hSw; have c1 := (hSw _ (.tail _ (.head _))).cell 1; simp at c1; clear hSw; go_simp; try with_reducible rfl
    simp only [uZ, uS]
    refine tK 18 (i := 8) (v := .bool false) rfl rfl (by kernel_rfl) ?_ hHeld ?_
    ·intro w hSw; clear hSw; go_simp; try with_reducible rfl
    simp only [uZ, uS]
    refine tK 19 (i := 9) (v := .bool false) rfl rfl (by kernel_rfl) ?_ hHeld ?_
    ·intro w hSw; clear hSw; go_simp; try with_reducible rfl
    simp only [uZ, uS]
    refine tK 20 (i := 10) (v := .bool false) rfl rfl (by kernel_rfl) ?_ hHeld ?_
    ·intro w hSw; clear hSw; go_simp; try with_reducible rfl
    simp only [uZ, uS]
    refine tK 21 (i := 11) (v := .pointer (some ⟨G + 1, 1, none⟩)) rfl rfl (by kernel_rfl) ?_ hHeld ?_
    ·intro w hSw; clear hSw; go_simp; try with_reducible rfl
    simp only [uZ, uS]
    refine tK 22 (i := 12) (v := .int .i64 st) rfl rfl (by kernel_rfl) ?_ hHeld ?_
    ·intro w hSw; have c1 := (hSw _ (.tail _ (.head _))).cell 1; simp at c1; clear hSw; go_simp; try with_reducible rfl
    simp only [uZ, uS]
    refine tK 23 (i := 13) (v := .bool true) rfl rfl (by kernel_rfl) ?_ hHeld ?_
    ·intro w hSw; clear hSw; go_simp; try with_reducible rfl
    simp only [uZ, uS]
    refine tK 24 (i := 14) (v := .bool true) rfl rfl (by kernel_rfl) ?_ hHeld ?_
    ·intro w hSw; clear hSw; go_simp; try with_reducible rfl
    simp only [uZ, uS]
    refine tK 25 (i := 15) (v := .bool true) rfl rfl (by kernel_rfl) ?_ hHeld ?_
    ·intro w hSw; clear hSw; go_simp; try with_reducible rfl
    simp only [uZ, uS]
    refine wpAnyH_take (i := 16) (v := undef) rfl (by kernel_rfl) (by kernel_rfl) (by kernel_rfl) (fun _ _ _ h => h) (Or.inr ⟨by kernel_rfl, rfl⟩) hHeld ?_
    change wpAnyH _ _ _ _ _ _ _ (Act.put _ (some 26) _) _
    try simp only [Act.put, uA, uZ, uS]
    refine wpAnyH_take (i := 17) (v := undef) rfl (by kernel_rfl) (by kernel_rfl) (by kernel_rfl) (fun _ _ _ h => h) (Or.inr ⟨by kernel_rfl, rfl⟩) hHeld ?_
    change wpAnyH _ _ _ _ _ _ _ (Act.put _ (some 27) _) _
    try simp only [Act.put, uA, uZ, uS]
    refine wpAnyH_take (i := 18) (v := undef) rfl (by kernel_rfl) (by kernel_rfl) (by kernel_rfl) (fun _ _ _ h => h) (Or.inr ⟨by kernel_rfl, rfl⟩) hHeld ?_
    change wpAnyH _ _ _ _ _ _ _ (Act.put _ (some 28) _) _
    try simp only [Act.put, uA, uZ, uS]
    refine wpAnyH_take (i := 19) (v := undef) rfl (by kernel_rfl) (by kernel_rfl) (by kernel_rfl) (fun _ _ _ h => h) (Or.inr ⟨by kernel_rfl, rfl⟩) hHeld ?_
    change wpAnyH _ _ _ _ _ _ _ (Act.put _ (some 29) _) _
    try simp only [Act.put, uA, uZ, uS]
    refine wpAnyH_take (i := 20) (v := undef) rfl (by kernel_rfl) (by kernel_rfl) (by kernel_rfl) (fun _ _ _ h => h) (Or.inr ⟨by kernel_rfl, rfl⟩) hHeld ?_
    change wpAnyH _ _ _ _ _ _ _ (Act.put _ (some 30) _) _
    try simp only [Act.put, uA, uZ, uS]
    refine wpAnyH_take (i := 21) (v := undef) rfl (by kernel_rfl) (by kernel_rfl) (by kernel_rfl) (fun _ _ _ h => h) (Or.inr ⟨by kernel_rfl, rfl⟩) hHeld ?_
    change wpAnyH _ _ _ _ _ _ _ (Act.put _ (some 31) _) _
    try simp only [Act.put, uA, uZ, uS]
    refine wpAnyH_take (i := 22) (v := undef) rfl (by kernel_rfl) (by kernel_rfl) (by kernel_rfl) (fun _ _ _ h => h) (Or.inr ⟨by kernel_rfl, rfl⟩) hHeld ?_
    change wpAnyH _ _ _ _ _ _ _ (Act.put _ (some 32) _) _
    try simp only [Act.put, uA, uZ, uS]
    refine wpAnyH_take (i := 23) (v := undef) rfl (by kernel_rfl) (by kernel_rfl) (by kernel_rfl) (fun _ _ _ h => h) (Or.inr ⟨by kernel_rfl, rfl⟩) hHeld ?_
    change wpAnyH _ _ _ _ _ _ _ (Act.put _ (some 33) _) _
    try simp only [Act.put, uA, uZ, uS]
    refine wpAnyH_take (i := 24) (v := undef) rfl (by kernel_rfl) (by kernel_rfl) (by kernel_rfl) (fun _ _ _ h => h) (Or.inr ⟨by kernel_rfl, rfl⟩) hHeld ?_
    change wpAnyH _ _ _ _ _ _ _ (Act.put _ (some 34) _) _
    try simp only [Act.put, uA, uZ, uS]
    refine tK 35 (i := 25) (v := .bool true) rfl rfl (by kernel_rfl) ?_ hHeld ?_
    ·intro w hSw; clear hSw; go_simp; try with_reducible rfl
    simp only [uZ, uS]
    refine wpAnyH_done (by kernel_rfl) ?_ _
    have HE3 := Lib.hid HE2.out.drew
    clear hHeld HKM HK2 HE2
    go_wp2
    go_ret
    exact ⟨rfl, HE3.out⟩
  ·have e : R = 22 := by rw [← HRQ.out, HBM.out]; simp [stateS]; omega
   subst e
   have k0 : decide (st < 0) = true := decide_eq_true (by omega)
   clear HRQ HBM CW
   have HKM : Hid (Boxes W2.drew [(N, 120, allM), (G + 1, 43, #[.int .i64 fh, .int .i64 st, .int .i64 x0, .int .i64 x1, .int .i64 d0, .int .i64 d1]), (G, 40, #[.int .i64 fh, .int .i64 al, .int .i64 ah, .slice A n c, .slice B mm d, .slice C l ee, .int .i64 t0, .int .i64 t1, .int .i64 u0, .int .i64 u1, .int .i64 v0, .int .i64 v1, .int .i64 h0, .int .i64 h1])]) := Lib.hid HK2.out
   refine wp_region_held_drew (S := fun w' => Boxes w' [(N, 120, allM), (G + 1, 43, #[.int .i64 fh, .int .i64 st, .int .i64 x0, .int .i64 x1, .int .i64 d0, .int .i64 d1]), (G, 40, #[.int .i64 fh, .int .i64 al, .int .i64 ah, .slice A n c, .slice B mm d, .slice C l ee, .int .i64 t0, .int .i64 t1, .int .i64 u0, .int .i64 u1, .int .i64 v0, .int .i64 v1, .int .i64 h0, .int .i64 h1])]) (by kernel_rfl) HKM.out (fun hHeld => ?_)
   refine tK 10 (i := 0) (v := .pointer (some ⟨G + 1, 0, none⟩)) rfl rfl (by kernel_rfl) ?_ hHeld ?_
   ·intro w hSw; clear hSw; go_simp; try with_reducible rfl
   simp only [uZ, uS]
   refine tK 11 (i := 1) (v := .int .i64 fh) rfl rfl (by kernel_rfl) ?_ hHeld ?_
   ·intro w hSw; have c0 := (hSw _ (.tail _ (.head _))).cell 0; simp at c0; clear hSw; go_simp; try with_reducible rfl
   simp only [uZ, uS]
   refine tK 12 (i := 2) (v := .pointer (some ⟨G, 0, none⟩)) rfl rfl (by kernel_rfl) ?_ hHeld ?_
   ·intro w hSw; clear hSw; go_simp; try with_reducible rfl
   simp only [uZ, uS]
   refine tK 13 (i := 3) (v := .int .i64 fh) rfl rfl (by kernel_rfl) ?_ hHeld ?_
   ·intro w hSw; have c0 := (hSw _ (.tail _ (.tail _ (.head _)))).cell 0; simp at c0; clear hSw; go_simp; try with_reducible rfl
   simp only [uZ, uS]
   refine tK 14 (i := 4) (v := .bool false) rfl rfl (by kernel_rfl) ?_ hHeld ?_
   ·intro w hSw; clear hSw; go_simp; try with_reducible rfl
   simp only [uZ, uS]
   refine tK 15 (i := 5) (v := .bool false) rfl rfl (by kernel_rfl) ?_ hHeld ?_
   ·intro w hSw; clear hSw; go_simp; try with_reducible rfl
   simp only [uZ, uS]
   refine tK 16 (i := 6) (v := .pointer (some ⟨G + 1, 1, none⟩)) rfl rfl (by kernel_rfl) ?_ hHeld ?_
   ·intro w hSw; clear hSw; go_simp; try with_reducible rfl
   simp only [uZ, uS]
   refine tK 17 (i := 7) (v := .int .i64 st) rfl rfl (by kernel_rfl) ?_ hHeld ?_
   ·intro w hSw; have c1 := (hSw _ (.tail _ (.head _))).cell 1; simp at c1; clear hSw; go_simp; try with_reducible rfl
   simp only [uZ, uS]
   refine tK 18 (i := 8) (v := .bool true) rfl rfl (by kernel_rfl) ?_ hHeld ?_
   ·intro w hSw; clear hSw; go_simp; try with_reducible rfl
   simp only [uZ, uS]
   refine tK 19 (i := 9) (v := .bool true) rfl rfl (by kernel_rfl) ?_ hHeld ?_
   ·intro w hSw; clear hSw; go_simp; try with_reducible rfl
   simp only [uZ, uS]
   refine tK 20 (i := 10) (v := .bool true) rfl rfl (by kernel_rfl) ?_ hHeld ?_
   ·intro w hSw; clear hSw; go_simp; try with_reducible rfl
   simp only [uZ, uS]
   refine wpAnyH_take (i := 11) (v := undef) rfl (by kernel_rfl) (by kernel_rfl) (by kernel_rfl) (fun _ _ _ h => h) (Or.inr ⟨by kernel_rfl, rfl⟩) hHeld ?_
   change wpAnyH _ _ _ _ _ _ _ (Act.put _ (some 21) _) _
   try simp only [Act.put, uA, uZ, uS]
   refine wpAnyH_take (i := 12) (v := undef) rfl (by kernel_rfl) (by kernel_rfl) (by kernel_rfl) (fun _ _ _ h => h) (Or.inr ⟨by kernel_rfl, rfl⟩) hHeld ?_
   change wpAnyH _ _ _ _ _ _ _ (Act.put _ (some 22) _) _
   try simp only [Act.put, uA, uZ, uS]
   refine wpAnyH_take (i := 13) (v := undef) rfl (by kernel_rfl) (by kernel_rfl) (by kernel_rfl) (fun _ _ _ h => h) (Or.inr ⟨by kernel_rfl, rfl⟩) hHeld ?_
   change wpAnyH _ _ _ _ _ _ _ (Act.put _ (some 23) _) _
   try simp only [Act.put, uA, uZ, uS]
   refine tK 24 (i := 14) (v := .bool true) rfl rfl (by kernel_rfl) ?_ hHeld ?_
   ·intro w hSw; clear hSw; go_simp; try with_reducible rfl
   simp only [uZ, uS]
   refine tK 25 (i := 15) (v := .bool true) rfl rfl (by kernel_rfl) ?_ hHeld ?_
   ·intro w hSw; clear hSw; go_simp; try with_reducible rfl
   simp only [uZ, uS]
   refine wpAnyH_take (i := 16) (v := undef) rfl (by kernel_rfl) (by kernel_rfl) (by kernel_rfl) (fun _ _ _ h => h) (Or.inr ⟨by kernel_rfl, rfl⟩) hHeld ?_
   change wpAnyH _ _ _ _ _ _ _ (Act.put _ (some 26) _) _
   try simp only [Act.put, uA, uZ, uS]
   refine wpAnyH_take (i := 17) (v := undef) rfl (by kernel_rfl) (by kernel_rfl) (by kernel_rfl) (fun _ _ _ h => h) (Or.inr ⟨by kernel_rfl, rfl⟩) hHeld ?_
   change wpAnyH _ _ _ _ _ _ _ (Act.put _ (some 27) _) _
   try simp only [Act.put, uA, uZ, uS]
   refine wpAnyH_take (i := 18) (v := undef) rfl (by kernel_rfl) (by kernel_rfl) (by kernel_rfl) (fun _ _ _ h => h) (Or.inr ⟨by kernel_rfl, rfl⟩) hHeld ?_
   change wpAnyH _ _ _ _ _ _ _ (Act.put _ (some 28) _) _
   try simp only [Act.put, uA, uZ, uS]
   refine wpAnyH_take (i := 19) (v := undef) rfl (by kernel_rfl) (by kernel_rfl) (by kernel_rfl) (fun _ _ _ h => h) (Or.inr ⟨by kernel_rfl, rfl⟩) hHeld ?_
   change wpAnyH _ _ _ _ _ _ _ (Act.put _ (some 29) _) _
   try simp only [Act.put, uA, uZ, uS]
   refine wpAnyH_take (i := 20) (v := undef) rfl (by kernel_rfl) (by kernel_rfl) (by kernel_rfl) (fun _ _ _ h => h) (Or.inr ⟨by kernel_rfl, rfl⟩) hHeld ?_
   change wpAnyH _ _ _ _ _ _ _ (Act.put _ (some 30) _) _
   try simp only [Act.put, uA, uZ, uS]
   refine wpAnyH_take (i := 21) (v := undef) rfl (by kernel_rfl) (by kernel_rfl) (by kernel_rfl) (fun _ _ _ h => h) (Or.inr ⟨by kernel_rfl, rfl⟩) hHeld ?_
   change wpAnyH _ _ _ _ _ _ _ (Act.put _ (some 31) _) _
   try simp only [Act.put, uA, uZ, uS]
   refine wpAnyH_take (i := 22) (v := undef) rfl (by kernel_rfl) (by kernel_rfl) (by kernel_rfl) (fun _ _ _ h => h) (Or.inr ⟨by kernel_rfl, rfl⟩) hHeld ?_
   change wpAnyH _ _ _ _ _ _ _ (Act.put _ (some 32) _) _
   try simp only [Act.put, uA, uZ, uS]
   refine wpAnyH_take (i := 23) (v := undef) rfl (by kernel_rfl) (by kernel_rfl) (by kernel_rfl) (fun _ _ _ h => h) (Or.inr ⟨by kernel_rfl, rfl⟩) hHeld ?_
   change wpAnyH _ _ _ _ _ _ _ (Act.put _ (some 33) _) _
   try simp only [Act.put, uA, uZ, uS]
   refine wpAnyH_take (i := 24) (v := undef) rfl (by kernel_rfl) (by kernel_rfl) (by kernel_rfl) (fun _ _ _ h => h) (Or.inr ⟨by kernel_rfl, rfl⟩) hHeld ?_
   change wpAnyH _ _ _ _ _ _ _ (Act.put _ (some 34) _) _
   try simp only [Act.put, uA, uZ, uS]
   refine tK 35 (i := 25) (v := .bool true) rfl rfl (by kernel_rfl) ?_ hHeld ?_
   ·intro w hSw; clear hSw; go_simp; try with_reducible rfl
   simp only [uZ, uS]
   refine wpAnyH_done (by kernel_rfl) ?_ _
   have HE3 := Lib.hid HE2.out.drew
   clear hHeld HKM HK2 HE2
   go_wp2
   go_ret
   exact ⟨rfl, HE3.out⟩
 ·have e : R = 22 := by rw [← HRQ.out, HBL.out]; simp [g]
  subst e
  have k0 : (fh == id) = false := beq_eq_false_iff_ne.2 g
  clear HRQ HBL CW
  have HKM : Hid (Boxes W2.drew [(N, 120, allM), (G + 1, 43, #[.int .i64 fh, .int .i64 st, .int .i64 x0, .int .i64 x1, .int .i64 d0, .int .i64 d1]), (G, 40, #[.int .i64 id, .int .i64 al, .int .i64 ah, .slice A n c, .slice B mm d, .slice C l ee, .int .i64 t0, .int .i64 t1, .int .i64 u0, .int .i64 u1, .int .i64 v0, .int .i64 v1, .int .i64 h0, .int .i64 h1])]) := Lib.hid HK2.out
  refine wp_region_held_drew (S := fun w' => Boxes w' [(N, 120, allM), (G + 1, 43, #[.int .i64 fh, .int .i64 st, .int .i64 x0, .int .i64 x1, .int .i64 d0, .int .i64 d1]), (G, 40, #[.int .i64 id, .int .i64 al, .int .i64 ah, .slice A n c, .slice B mm d, .slice C l ee, .int .i64 t0, .int .i64 t1, .int .i64 u0, .int .i64 u1, .int .i64 v0, .int .i64 v1, .int .i64 h0, .int .i64 h1])]) (by kernel_rfl) HKM.out (fun hHeld => ?_)
  refine tK 10 (i := 0) (v := .pointer (some ⟨G + 1, 0, none⟩)) rfl rfl (by kernel_rfl) ?_ hHeld ?_
  ·intro w hSw; clear hSw; go_simp; try with_reducible rfl
  simp only [uZ, uS]
  refine tK 11 (i := 1) (v := .int .i64 fh) rfl rfl (by kernel_rfl) ?_ hHeld ?_
  ·intro w hSw; have c0 := (hSw _ (.tail _ (.head _))).cell 0; simp at c0; clear hSw; go_simp; try with_reducible rfl
  simp only [uZ, uS]
  refine tK 12 (i := 2) (v := .pointer (some ⟨G, 0, none⟩)) rfl rfl (by kernel_rfl) ?_ hHeld ?_
  ·intro w hSw; clear hSw; go_simp; try with_reducible rfl
  simp only [uZ, uS]
  refine tK 13 (i := 3) (v := .int .i64 id) rfl rfl (by kernel_rfl) ?_ hHeld ?_
  ·intro w hSw; have c0 := (hSw _ (.tail _ (.tail _ (.head _)))).cell 0; simp at c0; clear hSw; go_simp; try with_reducible rfl
  simp only [uZ, uS]
  refine tK 14 (i := 4) (v := .bool true) rfl rfl (by kernel_rfl) ?_ hHeld ?_
  ·intro w hSw; clear hSw; go_simp; try with_reducible rfl
  simp only [uZ, uS]
  refine tK 15 (i := 5) (v := .bool true) rfl rfl (by kernel_rfl) ?_ hHeld ?_
  ·intro w hSw; clear hSw; go_simp; try with_reducible rfl
  simp only [uZ, uS]
  refine wpAnyH_take (i := 6) (v := undef) rfl (by kernel_rfl) (by kernel_rfl) (by kernel_rfl) (fun _ _ _ h => h) (Or.inr ⟨by kernel_rfl, rfl⟩) hHeld ?_
  change wpAnyH _ _ _ _ _ _ _ (Act.put _ (some 16) _) _
  try simp only [Act.put, uA, uZ, uS]
  refine wpAnyH_take (i := 7) (v := undef) rfl (by kernel_rfl) (by kernel_rfl) (by kernel_rfl) (fun _ _ _ h => h) (Or.inr ⟨by kernel_rfl, rfl⟩) hHeld ?_
  change wpAnyH _ _ _ _ _ _ _ (Act.put _ (some 17) _) _
  try simp only [Act.put, uA, uZ, uS]
  refine wpAnyH_take (i := 8) (v := undef) rfl (by kernel_rfl) (by kernel_rfl) (by kernel_rfl) (fun _ _ _ h => h) (Or.inr ⟨by kernel_rfl, rfl⟩) hHeld ?_
  change wpAnyH _ _ _ _ _ _ _ (Act.put _ (some 18) _) _
  try simp only [Act.put, uA, uZ, uS]
  refine tK 19 (i := 9) (v := .bool true) rfl rfl (by kernel_rfl) ?_ hHeld ?_
  ·intro w hSw; clear hSw; go_simp; try with_reducible rfl
  simp only [uZ, uS]
  refine tK 20 (i := 10) (v := .bool true) rfl rfl (by kernel_rfl) ?_ hHeld ?_
  ·intro w hSw; clear hSw; go_simp; try with_reducible rfl
  simp only [uZ, uS]
  refine wpAnyH_take (i := 11) (v := undef) rfl (by kernel_rfl) (by kernel_rfl) (by kernel_rfl) (fun _ _ _ h => h) (Or.inr ⟨by kernel_rfl, rfl⟩) hHeld ?_
  change wpAnyH _ _ _ _ _ _ _ (Act.put _ (some 21) _) _
  try simp only [Act.put, uA, uZ, uS]
  refine wpAnyH_take (i := 12) (v := undef) rfl (by kernel_rfl) (by kernel_rfl) (by kernel_rfl) (fun _ _ _ h => h) (Or.inr ⟨by kernel_rfl, rfl⟩) hHeld ?_
  change wpAnyH _ _ _ _ _ _ _ (Act.put _ (some 22) _) _
  try simp only [Act.put, uA, uZ, uS]
  refine wpAnyH_take (i := 13) (v := undef) rfl (by kernel_rfl) (by kernel_rfl) (by kernel_rfl) (fun _ _ _ h => h) (Or.inr ⟨by kernel_rfl, rfl⟩) hHeld ?_
  change wpAnyH _ _ _ _ _ _ _ (Act.put _ (some 23) _) _
  try simp only [Act.put, uA, uZ, uS]
  refine tK 24 (i := 14) (v := .bool true) rfl rfl (by kernel_rfl) ?_ hHeld ?_
  ·intro w hSw; clear hSw; go_simp; try with_reducible rfl
  simp only [uZ, uS]
  refine tK 25 (i := 15) (v := .bool true) rfl rfl (by kernel_rfl) ?_ hHeld ?_
  ·intro w hSw; clear hSw; go_simp; try with_reducible rfl
  simp only [uZ, uS]
  refine wpAnyH_take (i := 16) (v := undef) rfl (by kernel_rfl) (by kernel_rfl) (by kernel_rfl) (fun _ _ _ h => h) (Or.inr ⟨by kernel_rfl, rfl⟩) hHeld ?_
  change wpAnyH _ _ _ _ _ _ _ (Act.put _ (some 26) _) _
  try simp only [Act.put, uA, uZ, uS]
  refine wpAnyH_take (i := 17) (v := undef) rfl (by kernel_rfl) (by kernel_rfl) (by kernel_rfl) (fun _ _ _ h => h) (Or.inr ⟨by kernel_rfl, rfl⟩) hHeld ?_
  change wpAnyH _ _ _ _ _ _ _ (Act.put _ (some 27) _) _
  try simp only [Act.put, uA, uZ, uS]
  refine wpAnyH_take (i := 18) (v := undef) rfl (by kernel_rfl) (by kernel_rfl) (by kernel_rfl) (fun _ _ _ h => h) (Or.inr ⟨by kernel_rfl, rfl⟩) hHeld ?_
  change wpAnyH _ _ _ _ _ _ _ (Act.put _ (some 28) _) _
  try simp only [Act.put, uA, uZ, uS]
  refine wpAnyH_take (i := 19) (v := undef) rfl (by kernel_rfl) (by kernel_rfl) (by kernel_rfl) (fun _ _ _ h => h) (Or.inr ⟨by kernel_rfl, rfl⟩) hHeld ?_
  change wpAnyH _ _ _ _ _ _ _ (Act.put _ (some 29) _) _
  try simp only [Act.put, uA, uZ, uS]
  refine wpAnyH_take (i := 20) (v := undef) rfl (by kernel_rfl) (by kernel_rfl) (by kernel_rfl) (fun _ _ _ h => h) (Or.inr ⟨by kernel_rfl, rfl⟩) hHeld ?_
  change wpAnyH _ _ _ _ _ _ _ (Act.put _ (some 30) _) _
  try simp only [Act.put, uA, uZ, uS]
  refine wpAnyH_take (i := 21) (v := undef) rfl (by kernel_rfl) (by kernel_rfl) (by kernel_rfl) (fun _ _ _ h => h) (Or.inr ⟨by kernel_rfl, rfl⟩) hHeld ?_
  change wpAnyH _ _ _ _ _ _ _ (Act.put _ (some 31) _) _
  try simp only [Act.put, uA, uZ, uS]
  refine wpAnyH_take (i := 22) (v := undef) rfl (by kernel_rfl) (by kernel_rfl) (by kernel_rfl) (fun _ _ _ h => h) (Or.inr ⟨by kernel_rfl, rfl⟩) hHeld ?_
  change wpAnyH _ _ _ _ _ _ _ (Act.put _ (some 32) _) _
  try simp only [Act.put, uA, uZ, uS]
  refine wpAnyH_take (i := 23) (v := undef) rfl (by kernel_rfl) (by kernel_rfl) (by kernel_rfl) (fun _ _ _ h => h) (Or.inr ⟨by kernel_rfl, rfl⟩) hHeld ?_
  change wpAnyH _ _ _ _ _ _ _ (Act.put _ (some 33) _) _
  try simp only [Act.put, uA, uZ, uS]
  refine wpAnyH_take (i := 24) (v := undef) rfl (by kernel_rfl) (by kernel_rfl) (by kernel_rfl) (fun _ _ _ h => h) (Or.inr ⟨by kernel_rfl, rfl⟩) hHeld ?_
  change wpAnyH _ _ _ _ _ _ _ (Act.put _ (some 34) _) _
  try simp only [Act.put, uA, uZ, uS]
  refine tK 35 (i := 25) (v := .bool true) rfl rfl (by kernel_rfl) ?_ hHeld ?_
  ·intro w hSw; clear hSw; go_simp; try with_reducible rfl
  simp only [uZ, uS]
  refine wpAnyH_done (by kernel_rfl) ?_ _
  have HE3 := Lib.hid HE2.out.drew
  clear hHeld HKM HK2 HE2
  go_wp2
  go_ret
  exact ⟨rfl, HE3.out⟩
end

end Go.Proofs.YtpcmcicnciejpaaGreat
