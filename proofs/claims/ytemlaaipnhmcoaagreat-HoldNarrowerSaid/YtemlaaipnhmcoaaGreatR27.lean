/- The contracts of the functions by which a meaning is valid, and of CheckFill (hold). Their condition: the hold's tables lie in memory. -/
import Derived.Test.YtemlaaipnhmcoaaGreatR20
import Derived.Test.YtemlaaipnhmcoaaGreatR23
import Derived.Test.YtemlaaipnhmcoaaGreatR14
set_option linter.unusedVariables false
set_option linter.unusedSimpArgs false
set_option linter.constructorNameAsVariable false
namespace Go.Proofs.YtemlaaipnhmcoaaGreat

section
open Go.RowKit

theorem eqlFillS (a b c d e f a' b' c' d' e' f' : Int) (w : World) : (binOp .eql 55 (.agg #[.int .i64 a, .int .i64 b, .int .i64 c, .int .i64 d, .int .i64 e, .int .i64 f]) (.agg #[.int .i64 a', .int .i64 b', .int .i64 c', .int .i64 d', .int .i64 e', .int .i64 f'])).run Tryz.prog w = .ok (.bool ((a == a' && b == b') && ((c == c' && d == d') && (e == e' && f == f')))) w := eqlFill a b c d e f a' b' c' d' e' f' _ rfl w
attribute [local go_sem ↓] eqlFillS
set_option maxRecDepth 100000 in
set_option maxHeartbeats 4000000 in
theorem emptyVal_to (id al ah t0 t1 u0 u1 v0 v1 h0 h1 : Int) (A B C : Option Addr) (n c mm d l ee : Nat) (x0 x1 d0 d1 : Int) (ne nd : Bool) (w : World) (g1 : (x0 == 0 && x1 == 0) = ne) (g2 : (d0 == 0 && d1 == 0) = nd) :
  Calls Tryz.prog 187 #[.agg #[.int .i64 id, .int .i64 al, .int .i64 ah, .slice A n c, .slice B mm d, .slice C l ee, .int .i64 t0, .int .i64 t1, .int .i64 u0, .int .i64 u1, .int .i64 v0, .int .i64 v1, .int .i64 h0, .int .i64 h1], .agg #[.int .i64 id, .int .i64 0, .int .i64 x0, .int .i64 x1, .int .i64 d0, .int .i64 d1]] w fun e w' => e = .returned (.bool (ne && nd)) ∧ Below w.heap.size w w' := by
 cases ne <;> cases nd
 all_goals
  go_enter Tryz.func187, Tryz.ntmps187
  go_wp2
  go_ret
  exact ⟨rfl, below_a2 (Below.refl _ _)⟩

set_option maxRecDepth 100000 in
set_option maxHeartbeats 4000000 in
theorem filledVal_to (id al ah t0 t1 u0 u1 v0 v1 h0 h1 : Int) (A B C : Option Addr) (n c mm d l ee : Nat) (st x0 x1 d0 d1 : Int) (ne bd : Bool) (w : World) (g1 : (x0 == 0 && x1 == 0) = ne) (g2 : densS d0 d1 = bd) :
  Calls Tryz.prog 190 #[.agg #[.int .i64 id, .int .i64 al, .int .i64 ah, .slice A n c, .slice B mm d, .slice C l ee, .int .i64 t0, .int .i64 t1, .int .i64 u0, .int .i64 u1, .int .i64 v0, .int .i64 v1, .int .i64 h0, .int .i64 h1], .agg #[.int .i64 id, .int .i64 st, .int .i64 x0, .int .i64 x1, .int .i64 d0, .int .i64 d1]] w fun e w' => e = .returned (.bool (ne && bd)) ∧ Below w.heap.size w w' := by
 have HE := Lib.hid (show Below w.heap.size w ((w.alloc (.cells #[.int .i64 id, .int .i64 al, .int .i64 ah, .slice A n c, .slice B mm d, .slice C l ee, .int .i64 t0, .int .i64 t1, .int .i64 u0, .int .i64 u1, .int .i64 v0, .int .i64 v1, .int .i64 h0, .int .i64 h1] 35)).alloc (.cells #[.int .i64 id, .int .i64 st, .int .i64 x0, .int .i64 x1, .int .i64 d0, .int .i64 d1] 55)) from below_a2 (Below.refl _ _))
 have HK := Lib.hid (boxes2' w 35 55 #[.int .i64 id, .int .i64 al, .int .i64 ah, .slice A n c, .slice B mm d, .slice C l ee, .int .i64 t0, .int .i64 t1, .int .i64 u0, .int .i64 u1, .int .i64 v0, .int .i64 v1, .int .i64 h0, .int .i64 h1] #[.int .i64 id, .int .i64 st, .int .i64 x0, .int .i64 x1, .int .i64 d0, .int .i64 d1])
 have CC : Hid (∀ W, Calls Tryz.prog 128 #[rv d0 d1] W fun e w' => e = .returned (.bool bd) ∧ Below W.heap.size W w') := Lib.hid fun W => isDensity_to d0 d1 bd W g2
 clear g2
 cases ne
 ·clear HK CC
  go_enter Tryz.func190, Tryz.ntmps190
  go_wp2
  go_ret
  exact ⟨rfl, HE.out⟩
 ·go_enter Tryz.func190, Tryz.ntmps190
  go_wp2_with fail
  refine (CC.out _).mono ?_
  rintro e w1 ⟨rfl, hb⟩
  have HE1 := Lib.hid (below_then HE.out hb)
  clear hb HE HK CC g1
  cases bd
  all_goals
   go_wp2
   go_ret
   exact ⟨rfl, HE1.out⟩

set_option maxRecDepth 100000 in
set_option maxHeartbeats 4000000 in
theorem partlyVal_to (ps : List P3) (id al ah t0 t1 u0 u1 v0 v1 h0 h1 : Int) (A B C : Option Addr) (n c mm d l ee : Nat) (st x0 x1 d0 d1 : Int) (bi bd : Bool) (w : World) (hp : TabIn w A n ps) (ht : tabOk ps = true) (g1 : inB x0 x1 (firstX ps) (lastX ps) = bi) (g2 : densS d0 d1 = bd) :
  Calls Tryz.prog 194 #[.agg #[.int .i64 id, .int .i64 al, .int .i64 ah, .slice A n c, .slice B mm d, .slice C l ee, .int .i64 t0, .int .i64 t1, .int .i64 u0, .int .i64 u1, .int .i64 v0, .int .i64 v1, .int .i64 h0, .int .i64 h1], .agg #[.int .i64 id, .int .i64 st, .int .i64 x0, .int .i64 x1, .int .i64 d0, .int .i64 d1]] w fun e w' => e = .returned (.bool (bi && bd)) ∧ Below w.heap.size w w' := by
 have HE := Lib.hid (show Below w.heap.size w ((w.alloc (.cells #[.int .i64 id, .int .i64 al, .int .i64 ah, .slice A n c, .slice B mm d, .slice C l ee, .int .i64 t0, .int .i64 t1, .int .i64 u0, .int .i64 u1, .int .i64 v0, .int .i64 v1, .int .i64 h0, .int .i64 h1] 35)).alloc (.cells #[.int .i64 id, .int .i64 st, .int .i64 x0, .int .i64 x1, .int .i64 d0, .int .i64 d1] 55)) from below_a2 (Below.refl _ _))
 have HK := Lib.hid (boxes2' w 35 55 #[.int .i64 id, .int .i64 al, .int .i64 ah, .slice A n c, .slice B mm d, .slice C l ee, .int .i64 t0, .int .i64 t1, .int .i64 u0, .int .i64 u1, .int .i64 v0, .int .i64 v1, .int .i64 h0, .int .i64 h1] #[.int .i64 id, .int .i64 st, .int .i64 x0, .int .i64 x1, .int .i64 d0, .int .i64 d1])
 have C1 : Hid (∀ W, Below w.heap.size w W → Calls Tryz.prog 183 #[rv x0 x1, tv A n c] W fun e w' => e = .returned (.bool bi) ∧ Below W.heap.size W w') := Lib.hid fun W hW => inPlaces_to A n c ps x0 x1 bi W (hp.below hW) ht g1
 have C2 : Hid (∀ W, Calls Tryz.prog 128 #[rv d0 d1] W fun e w' => e = .returned (.bool bd) ∧ Below W.heap.size W w') := Lib.hid fun W => isDensity_to d0 d1 bd W g2
 clear g2 g1 ht hp
 go_enter Tryz.func194, Tryz.ntmps194
 go_wp2_with fail
 obtain ⟨W0, hW0⟩ : ∃ W0, ((w.alloc (.cells #[.int .i64 id, .int .i64 al, .int .i64 ah, .slice A n c, .slice B mm d, .slice C l ee, .int .i64 t0, .int .i64 t1, .int .i64 u0, .int .i64 u1, .int .i64 v0, .int .i64 v1, .int .i64 h0, .int .i64 h1] 35)).alloc (.cells #[.int .i64 id, .int .i64 st, .int .i64 x0, .int .i64 x1, .int .i64 d0, .int .i64 d1] 55)) = W0 := ⟨_, rfl⟩
 rw [hW0] at HE HK ⊢
 clear hW0
 obtain ⟨G, hG⟩ : ∃ G, w.heap.size = G := ⟨_, rfl⟩
 rw [hG] at HK ⊢
 have HG := Lib.hid hG; clear hG
 refine (C1.out _ HE.out).mono ?_
 rintro e w1 ⟨rfl, hb⟩
 have HE1 := Lib.hid (below_then HE.out hb)
 have HK1 := Lib.hid (HK.out.on hb)
 clear hb HE HK C1
 cases bi
 ·clear HK1
  go_wp2
  go_ret
  exact ⟨rfl, HE1.out⟩
 have q := HK1.out _ (.head _)
 have q4 := q.cell 4
 have q5 := q.cell 5
 simp at q4 q5
 clear q
 go_wp2_with fail
 refine (C2.out _).mono ?_
 rintro e w2 ⟨rfl, hb⟩
 have HE2 := Lib.hid (below_then HE1.out hb)
 clear hb HE1 HK1 C2 q4 q5
 cases bd
 all_goals
  go_wp2
  go_ret
  exact ⟨rfl, HE2.out⟩
end

end Go.Proofs.YtemlaaipnhmcoaaGreat
