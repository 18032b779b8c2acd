/- The contract of dense (hold): for all ranges. -/
import Derived.Test.YtemlaaipnhmcoaaGreatR10
import Derived.Test.YtemlaaipnhmcoaaGreatR29
import Derived.Test.YtemlaaipnhmcoaaGreatR05
set_option linter.unusedVariables false
set_option linter.unusedSimpArgs false
set_option linter.constructorNameAsVariable false
namespace Go.Proofs.YtemlaaipnhmcoaaGreat

section
open Go.RowKit

def denseS (a b c d : Int) : Int × Int × Int := scaleS (mulS a b c d).1 (mulS a b c d).2.1 1 1000

set_option maxRecDepth 100000 in
set_option maxHeartbeats 2000000 in
theorem dense_any (a b c d : Int) (w : World) :
  Calls Tryz.prog 87 #[rv a b, rv c d] w fun e w' => e = .returned (rv (denseS a b c d).1 (denseS a b c d).2.1) ∧ Below w.heap.size w w' := by
 have HE := Lib.hid (show Below w.heap.size w (((w.alloc (.cells #[.int .i64 a, .int .i64 b] 30)).alloc (.cells #[.int .i64 c, .int .i64 d] 30)).alloc (.cells #[.int .i64 0, .int .i64 0] 30)) from below_a3 (Below.refl _ _))
 have HK := Lib.hid (boxes3' w 30 30 30 #[.int .i64 a, .int .i64 b] #[.int .i64 c, .int .i64 d] #[.int .i64 0, .int .i64 0])
 have C : Hid (∀ W, Calls Tryz.prog 134 #[rv a b, rv c d] W fun e w' => e = .returned (rt (mulS a b c d)) ∧ Below W.heap.size W w') := Lib.hid fun W => mul_any a b c d W
 unfold denseS
 generalize mulS a b c d = g at *
 obtain ⟨g0, g1, e⟩ := g
 dsimp only
 have C2 : Hid (∀ W, Calls Tryz.prog 135 #[rv g0 g1, .int .i64 1, .int .i64 1000] W fun e w' => e = .returned (rt (scaleS g0 g1 1 1000)) ∧ Below W.heap.size W w') := Lib.hid fun W => scale_any g0 g1 1 1000 W
 generalize scaleS g0 g1 1 1000 = k at *
 obtain ⟨k0, k1, e'⟩ := k
 go_enter Tryz.func87, Tryz.ntmps87
 go_wp2_with fail
 obtain ⟨W0, hW0⟩ : ∃ W0, (((w.alloc (.cells #[.int .i64 a, .int .i64 b] 30)).alloc (.cells #[.int .i64 c, .int .i64 d] 30)).alloc (.cells #[.int .i64 0, .int .i64 0] 30)) = W0 := ⟨_, rfl⟩
 rw [hW0] at HE HK ⊢
 clear hW0
 refine (C.out _).mono ?_
 rintro e1 w1 ⟨rfl, hb⟩
 have HE1 := Lib.hid (below_then (below_then HE.out hb) (below_alloc1 w1 (.cells #[.int .i64 g0, .int .i64 g1] 30)))
 have HK1 := Lib.hid ((HK.out.on hb).new 30 #[.int .i64 g0, .int .i64 g1])
 clear hb HE HK C
 go_wp2_with fail
 refine (C2.out _).mono ?_
 rintro e2 w2 ⟨rfl, hb⟩
 have HE2 := Lib.hid (below_then (below_then HE1.out hb) (below_alloc1 w2 (.cells #[.int .i64 k0, .int .i64 k1] 30)))
 have HKN := Lib.hid ((HK1.out.on hb).new 30 #[.int .i64 k0, .int .i64 k1])
 have z := HKN.out _ (.tail _ (.tail _ (.head _)))
 have z0 := z.cell 0
 have z1 := z.cell 1
 have f0 := z.frozen 0
 have f1 := z.frozen 1
 have l0 := (HK1.out.on hb _ (.tail _ (.head _))).lt
 simp at z0 z1 f0 f1 l0
 have hl : w.heap.size + 1 + 1 ≠ w2.heap.size := by omega
 have hl2 : w2.heap.size ≠ w.heap.size + 1 + 1 := by omega
 clear hb HE1 HK1 C2 z l0
 go_wp2
 refine bodyPost_ret (v := rv k0 k1) (by simp [results, Tryz.results87, go_sem, z0, z1, hl, hl2]) rfl ⟨rfl, ?_⟩
 repeat (first | exact HE2.out | refine Below.setCell ?_ (by simp <;> omega) _)
end

end Go.Proofs.YtemlaaipnhmcoaaGreat
