/- The walk of FixRanges (the law package): it returns true, for all ranges and numbers. No conditions. -/
import Derived.Test.YthhcejcpopgkiaaI1
import Derived.Test.YthhcejcpopgkiaaA4
import Derived.Test.YthhcejcpopgkiaaA5
import Derived.Test.YthhcejcpopgkiaaA7
import Derived.Test.YthhcejcpopgkiaaA8
import Derived.Test.YthhcejcpopgkiaaA9
import Derived.Test.YthhcejcpopgkiaaA10
import Derived.Deep.RegionHeld3
set_option linter.unusedVariables false
set_option linter.unusedSimpArgs false
set_option linter.constructorNameAsVariable false
namespace Go.Proofs.Ythhcejcpopgkiaa
open Go.RowKit
attribute [local go_sem ↓] eqlRange neqRange

/-- Blocks with their cells. -/
def Boxes (W : World) (L : List (Nat × TypeId × Array Value)) : Prop := ∀ p ∈ L, Blk W p.1 p.2.1 p.2.2
theorem Boxes.on {W W' : World} {L : List (Nat × TypeId × Array Value)} (h : Boxes W L) (hb : Below W.heap.size W W') : Boxes W' L := fun p hp => blkOn (h p hp) hb
theorem Boxes.new {W : World} {L : List (Nat × TypeId × Array Value)} (h : Boxes W L) (t : TypeId) (cs : Array Value) : Boxes (W.alloc (.cells cs t)) ((W.heap.size, t, cs) :: L) := fun p hp => by
  rcases List.mem_cons.1 hp with rfl | hp
  · exact Blk.new W t cs
  · exact (h p hp).alloc _
theorem rt_to {P : Program} {f : FuncId} {args : Array Value} {w : World} {r : Int × Int × Int} {x y z : Int} (h : Calls P f args w fun e w' => e = .returned (rt r) ∧ Below w.heap.size w w') (hr : r = (x, y, z)) :
    Calls P f args w fun e w' => e = .returned (.tuple #[rv x y, .int .i64 z]) ∧ Below w.heap.size w w' := by
  subst hr; exact h
theorem int_to {P : Program} {f : FuncId} {args : Array Value} {w : World} {r x : Int} (h : Calls P f args w fun e w' => e = .returned (.int .i64 r) ∧ Below w.heap.size w w') (hr : r = x) :
    Calls P f args w fun e w' => e = .returned (.int .i64 x) ∧ Below w.heap.size w w' := by
  subst hr; exact h
theorem bool_to {P : Program} {f : FuncId} {args : Array Value} {w : World} {r x : Bool} (h : Calls P f args w fun e w' => e = .returned (.bool r) ∧ Below w.heap.size w w') (hr : r = x) :
    Calls P f args w fun e w' => e = .returned (.bool x) ∧ Below w.heap.size w w' := by
  subst hr; exact h
theorem keepG {W2 w0 w1 : World} {x0 x1 x2 x3 x4 x5 : Value} {A : Nat} (hb : Below w0.heap.size w0 w1)
    (h : w0.cell? ⟨A, 0, none⟩ = some x0 ∧ w0.cell? ⟨A, 1, none⟩ = some x1 ∧ w0.cell? ⟨A, 2, none⟩ = some x2 ∧ w0.cell? ⟨A, 3, none⟩ = some x3 ∧ w0.cell? ⟨A, 4, none⟩ = some x4 ∧ w0.cell? ⟨A, 5, none⟩ = some x5 ∧ Below W2.heap.size W2 w0) (h1 : A < W2.heap.size) :
    w1.cell? ⟨A, 0, none⟩ = some x0 ∧ w1.cell? ⟨A, 1, none⟩ = some x1 ∧ w1.cell? ⟨A, 2, none⟩ = some x2 ∧ w1.cell? ⟨A, 3, none⟩ = some x3 ∧ w1.cell? ⟨A, 4, none⟩ = some x4 ∧ w1.cell? ⟨A, 5, none⟩ = some x5 ∧ Below W2.heap.size W2 w1 := by
  obtain ⟨q0, q1, q2, q3, q4, q5, q6⟩ := h
  have hl := Nat.lt_of_lt_of_le h1 q6.size
  obtain ⟨p, _⟩ := bcell hb
  exact ⟨(p _ _ hl).trans q0, (p _ _ hl).trans q1, (p _ _ hl).trans q2, (p _ _ hl).trans q3, (p _ _ hl).trans q4, (p _ _ hl).trans q5, below_then q6 hb⟩

set_option maxRecDepth 100000 in
set_option maxHeartbeats 8000000 in
theorem fixRanges_walk (a b c d n m : Int) (w : World) :
    Calls Try.prog 3 #[.agg #[.int .i64 a, .int .i64 b, .int .i64 c, .int .i64 d, .int .i64 n, .int .i64 m]] w fun e w' => e = .returned (.bool true) ∧ Below w.heap.size w w' := by
  obtain ⟨⟨x1, y1, z1⟩, hr1⟩ : ∃ r, addS a b c d = r := ⟨_, rfl⟩
  have HR1 := Lib.hid hr1; clear hr1
  obtain ⟨⟨x2, y2, z2⟩, hr2⟩ : ∃ r, subS a b c d = r := ⟨_, rfl⟩
  have HR2 := Lib.hid hr2; clear hr2
  obtain ⟨⟨x3, y3, z3⟩, hr3⟩ : ∃ r, negS a b = r := ⟨_, rfl⟩
  have HR3 := Lib.hid hr3; clear hr3
  obtain ⟨⟨x4, y4, z4⟩, hr4⟩ : ∃ r, mulS a b c d = r := ⟨_, rfl⟩
  have HR4 := Lib.hid hr4; clear hr4
  obtain ⟨⟨x5, y5, z5⟩, hr5⟩ : ∃ r, scaleS a b n m = r := ⟨_, rfl⟩
  have HR5 := Lib.hid hr5; clear hr5
  obtain ⟨⟨x6, y6, z6⟩, hr6⟩ : ∃ r, hullS a b c d = r := ⟨_, rfl⟩
  have HR6 := Lib.hid hr6; clear hr6
  obtain ⟨⟨x7, y7, z7⟩, hr7⟩ : ∃ r, meetS a b c d = r := ⟨_, rfl⟩
  have HR7 := Lib.hid hr7; clear hr7
  have hK : Boxes (w.alloc (.cells #[.int .i64 a, .int .i64 b, .int .i64 c, .int .i64 d, .int .i64 n, .int .i64 m] 25)) [(w.heap.size, 25, #[.int .i64 a, .int .i64 b, .int .i64 c, .int .i64 d, .int .i64 n, .int .i64 m])] := fun p hp => by
    have := List.mem_singleton.1 hp; subst this; exact Blk.new w _ _
  have HK0 := Lib.hid hK; clear hK
  have HE0 := Lib.hid (below_alloc1 w (.cells #[.int .i64 a, .int .i64 b, .int .i64 c, .int .i64 d, .int .i64 n, .int .i64 m] 25))
  go_enter Try.func3, Try.ntmps3
  go_wp2_with fail
  obtain ⟨A, hA⟩ : ∃ A, w.heap.size = A := ⟨_, rfl⟩
  obtain ⟨W0, hW⟩ : ∃ W, w.alloc (.cells #[.int .i64 a, .int .i64 b, .int .i64 c, .int .i64 d, .int .i64 n, .int .i64 m] 25) = W := ⟨_, rfl⟩
  rw [hW] at HK0 HE0 ⊢
  rw [hA] at HK0 ⊢
  clear hW
  -- 1
  refine (rt_to (add_any a b c d W0) HR1.out).mono ?_
  rintro e v ⟨rfl, hb⟩
  have HK := Lib.hid (HK0.out.on hb); have HE := Lib.hid (below_then HE0.out hb)
  clear hb HK0 HE0
  have q0 := (HK.out _ (.head _)).cell 0
  have q1 := (HK.out _ (.head _)).cell 1
  have q2 := (HK.out _ (.head _)).cell 2
  have q3 := (HK.out _ (.head _)).cell 3
  have q4 := (HK.out _ (.head _)).cell 4
  have q5 := (HK.out _ (.head _)).cell 5
  have lA := (HK.out _ (.head _)).lt
  simp at q0 q1 q2 q3 q4 q5 lA
  have HK1 := Lib.hid (HK.out.new 23 #[.int .i64 x1, .int .i64 y1]); have HE1 := Lib.hid (below_then HE.out (below_alloc1 v (.cells #[.int .i64 x1, .int .i64 y1] 23)))
  clear HK HE
  go_wp2_with fail
  obtain ⟨B1, hB⟩ : ∃ B, v.heap.size = B := ⟨_, rfl⟩
  obtain ⟨W1, hW⟩ : ∃ W, v.alloc (.cells #[.int .i64 x1, .int .i64 y1] 23) = W := ⟨_, rfl⟩
  rw [hW] at HK1 HE1 ⊢
  rw [hB] at HK1 ⊢
  clear hW hB v q0 q1 q2 q3 q4 q5 lA
  -- 2
  refine (rt_to (rAdd_any a b c d W1) HR1.out).mono ?_
  rintro e v ⟨rfl, hb⟩
  have HK := Lib.hid (HK1.out.on hb); have HE := Lib.hid (below_then HE1.out hb)
  clear hb HK1 HE1
  have q0 := (HK.out _ (.tail _ (.head _))).cell 0
  have q1 := (HK.out _ (.tail _ (.head _))).cell 1
  have q2 := (HK.out _ (.tail _ (.head _))).cell 2
  have q3 := (HK.out _ (.tail _ (.head _))).cell 3
  have q4 := (HK.out _ (.tail _ (.head _))).cell 4
  have q5 := (HK.out _ (.tail _ (.head _))).cell 5
  have lA := (HK.out _ (.tail _ (.head _))).lt
  simp at q0 q1 q2 q3 q4 q5 lA
  have HK2 := Lib.hid (HK.out.new 23 #[.int .i64 x1, .int .i64 y1]); have HE2 := Lib.hid (below_then HE.out (below_alloc1 v (.cells #[.int .i64 x1, .int .i64 y1] 23)))
  clear HK HE
  go_wp2_with fail
  obtain ⟨B2, hB⟩ : ∃ B, v.heap.size = B := ⟨_, rfl⟩
  obtain ⟨W2, hW⟩ : ∃ W, v.alloc (.cells #[.int .i64 x1, .int .i64 y1] 23) = W := ⟨_, rfl⟩
  rw [hW] at HK2 HE2 ⊢
  rw [hB] at HK2 ⊢
  clear hW hB v q0 q1 q2 q3 q4 q5 lA
  -- 3
  refine (rt_to (sub_any a b c d W2) HR2.out).mono ?_
  rintro e v ⟨rfl, hb⟩
  have HK := Lib.hid (HK2.out.on hb); have HE := Lib.hid (below_then HE2.out hb)
  clear hb HK2 HE2
  have q0 := (HK.out _ (.tail _ (.tail _ (.head _)))).cell 0
  have q1 := (HK.out _ (.tail _ (.tail _ (.head _)))).cell 1
  have q2 := (HK.out _ (.tail _ (.tail _ (.head _)))).cell 2
  have q3 := (HK.out _ (.tail _ (.tail _ (.head _)))).cell 3
  have q4 := (HK.out _ (.tail _ (.tail _ (.head _)))).cell 4
  have q5 := (HK.out _ (.tail _ (.tail _ (.head _)))).cell 5
  have lA := (HK.out _ (.tail _ (.tail _ (.head _)))).lt
  simp at q0 q1 q2 q3 q4 q5 lA
  have HK3 := Lib.hid (HK.out.new 23 #[.int .i64 x2, .int .i64 y2]); have HE3 := Lib.hid (below_then HE.out (below_alloc1 v (.cells #[.int .i64 x2, .int .i64 y2] 23)))
  clear HK HE
  go_wp2_with fail
  obtain ⟨B3, hB⟩ : ∃ B, v.heap.size = B := ⟨_, rfl⟩
  obtain ⟨W3, hW⟩ : ∃ W, v.alloc (.cells #[.int .i64 x2, .int .i64 y2] 23) = W := ⟨_, rfl⟩
  rw [hW] at HK3 HE3 ⊢
  rw [hB] at HK3 ⊢
  clear hW hB v q0 q1 q2 q3 q4 q5 lA
  -- 4
  refine (rt_to (rSub_any a b c d W3) HR2.out).mono ?_
  rintro e v ⟨rfl, hb⟩
  have HK := Lib.hid (HK3.out.on hb); have HE := Lib.hid (below_then HE3.out hb)
  clear hb HK3 HE3
  have q0 := (HK.out _ (.tail _ (.tail _ (.tail _ (.head _))))).cell 0
  have q1 := (HK.out _ (.tail _ (.tail _ (.tail _ (.head _))))).cell 1
  have q2 := (HK.out _ (.tail _ (.tail _ (.tail _ (.head _))))).cell 2
  have q3 := (HK.out _ (.tail _ (.tail _ (.tail _ (.head _))))).cell 3
  have q4 := (HK.out _ (.tail _ (.tail _ (.tail _ (.head _))))).cell 4
  have q5 := (HK.out _ (.tail _ (.tail _ (.tail _ (.head _))))).cell 5
  have lA := (HK.out _ (.tail _ (.tail _ (.tail _ (.head _))))).lt
  simp at q0 q1 q2 q3 q4 q5 lA
  have HK4 := Lib.hid (HK.out.new 23 #[.int .i64 x2, .int .i64 y2]); have HE4 := Lib.hid (below_then HE.out (below_alloc1 v (.cells #[.int .i64 x2, .int .i64 y2] 23)))
  clear HK HE
  go_wp2_with fail
  obtain ⟨B4, hB⟩ : ∃ B, v.heap.size = B := ⟨_, rfl⟩
  obtain ⟨W4, hW⟩ : ∃ W, v.alloc (.cells #[.int .i64 x2, .int .i64 y2] 23) = W := ⟨_, rfl⟩
  rw [hW] at HK4 HE4 ⊢
  rw [hB] at HK4 ⊢
  clear hW hB v q0 q1 q2 q3 q4 q5 lA
  -- 5
  refine (rt_to (neg_any a b W4) HR3.out).mono ?_
  rintro e v ⟨rfl, hb⟩
  have HK := Lib.hid (HK4.out.on hb); have HE := Lib.hid (below_then HE4.out hb)
  clear hb HK4 HE4
  have q0 := (HK.out _ (.tail _ (.tail _ (.tail _ (.tail _ (.head _)))))).cell 0
  have q1 := (HK.out _ (.tail _ (.tail _ (.tail _ (.tail _ (.head _)))))).cell 1
  have q2 := (HK.out _ (.tail _ (.tail _ (.tail _ (.tail _ (.head _)))))).cell 2
  have q3 := (HK.out _ (.tail _ (.tail _ (.tail _ (.tail _ (.head _)))))).cell 3
  have q4 := (HK.out _ (.tail _ (.tail _ (.tail _ (.tail _ (.head _)))))).cell 4
  have q5 := (HK.out _ (.tail _ (.tail _ (.tail _ (.tail _ (.head _)))))).cell 5
  have lA := (HK.out _ (.tail _ (.tail _ (.tail _ (.tail _ (.head _)))))).lt
  simp at q0 q1 q2 q3 q4 q5 lA
  have HK5 := Lib.hid (HK.out.new 23 #[.int .i64 x3, .int .i64 y3]); have HE5 := Lib.hid (below_then HE.out (below_alloc1 v (.cells #[.int .i64 x3, .int .i64 y3] 23)))
  clear HK HE
  go_wp2_with fail
  obtain ⟨B5, hB⟩ : ∃ B, v.heap.size = B := ⟨_, rfl⟩
  obtain ⟨W5, hW⟩ : ∃ W, v.alloc (.cells #[.int .i64 x3, .int .i64 y3] 23) = W := ⟨_, rfl⟩
  rw [hW] at HK5 HE5 ⊢
  rw [hB] at HK5 ⊢
  clear hW hB v q0 q1 q2 q3 q4 q5 lA
  -- 6
  refine (rt_to (rNeg_any a b W5) HR3.out).mono ?_
  rintro e v ⟨rfl, hb⟩
  have HK := Lib.hid (HK5.out.on hb); have HE := Lib.hid (below_then HE5.out hb)
  clear hb HK5 HE5
  have q0 := (HK.out _ (.tail _ (.tail _ (.tail _ (.tail _ (.tail _ (.head _))))))).cell 0
  have q1 := (HK.out _ (.tail _ (.tail _ (.tail _ (.tail _ (.tail _ (.head _))))))).cell 1
  have q2 := (HK.out _ (.tail _ (.tail _ (.tail _ (.tail _ (.tail _ (.head _))))))).cell 2
  have q3 := (HK.out _ (.tail _ (.tail _ (.tail _ (.tail _ (.tail _ (.head _))))))).cell 3
  have q4 := (HK.out _ (.tail _ (.tail _ (.tail _ (.tail _ (.tail _ (.head _))))))).cell 4
  have q5 := (HK.out _ (.tail _ (.tail _ (.tail _ (.tail _ (.tail _ (.head _))))))).cell 5
  have lA := (HK.out _ (.tail _ (.tail _ (.tail _ (.tail _ (.tail _ (.head _))))))).lt
  simp at q0 q1 q2 q3 q4 q5 lA
  have HK6 := Lib.hid (HK.out.new 23 #[.int .i64 x3, .int .i64 y3]); have HE6 := Lib.hid (below_then HE.out (below_alloc1 v (.cells #[.int .i64 x3, .int .i64 y3] 23)))
  clear HK HE
  go_wp2_with fail
  obtain ⟨B6, hB⟩ : ∃ B, v.heap.size = B := ⟨_, rfl⟩
  obtain ⟨W6, hW⟩ : ∃ W, v.alloc (.cells #[.int .i64 x3, .int .i64 y3] 23) = W := ⟨_, rfl⟩
  rw [hW] at HK6 HE6 ⊢
  rw [hB] at HK6 ⊢
  clear hW hB v q0 q1 q2 q3 q4 q5 lA
  -- 7
  refine (rt_to (mul_any a b c d W6) HR4.out).mono ?_
  rintro e v ⟨rfl, hb⟩
  have HK := Lib.hid (HK6.out.on hb); have HE := Lib.hid (below_then HE6.out hb)
  clear hb HK6 HE6
  have q0 := (HK.out _ (.tail _ (.tail _ (.tail _ (.tail _ (.tail _ (.tail _ (.head _)))))))).cell 0
  have q1 := (HK.out _ (.tail _ (.tail _ (.tail _ (.tail _ (.tail _ (.tail _ (.head _)))))))).cell 1
  have q2 := (HK.out _ (.tail _ (.tail _ (.tail _ (.tail _ (.tail _ (.tail _ (.head _)))))))).cell 2
  have q3 := (HK.out _ (.tail _ (.tail _ (.tail _ (.tail _ (.tail _ (.tail _ (.head _)))))))).cell 3
  have q4 := (HK.out _ (.tail _ (.tail _ (.tail _ (.tail _ (.tail _ (.tail _ (.head _)))))))).cell 4
  have q5 := (HK.out _ (.tail _ (.tail _ (.tail _ (.tail _ (.tail _ (.tail _ (.head _)))))))).cell 5
  have lA := (HK.out _ (.tail _ (.tail _ (.tail _ (.tail _ (.tail _ (.tail _ (.head _)))))))).lt
  simp at q0 q1 q2 q3 q4 q5 lA
  have HK7 := Lib.hid (HK.out.new 23 #[.int .i64 x4, .int .i64 y4]); have HE7 := Lib.hid (below_then HE.out (below_alloc1 v (.cells #[.int .i64 x4, .int .i64 y4] 23)))
  clear HK HE
  go_wp2_with fail
  obtain ⟨B7, hB⟩ : ∃ B, v.heap.size = B := ⟨_, rfl⟩
  obtain ⟨W7, hW⟩ : ∃ W, v.alloc (.cells #[.int .i64 x4, .int .i64 y4] 23) = W := ⟨_, rfl⟩
  rw [hW] at HK7 HE7 ⊢
  rw [hB] at HK7 ⊢
  clear hW hB v q0 q1 q2 q3 q4 q5 lA
  -- 8
  refine (rt_to (rMul_any a b c d W7) HR4.out).mono ?_
  rintro e v ⟨rfl, hb⟩
  have HK := Lib.hid (HK7.out.on hb); have HE := Lib.hid (below_then HE7.out hb)
  clear hb HK7 HE7
  have q0 := (HK.out _ (.tail _ (.tail _ (.tail _ (.tail _ (.tail _ (.tail _ (.tail _ (.head _))))))))).cell 0
  have q1 := (HK.out _ (.tail _ (.tail _ (.tail _ (.tail _ (.tail _ (.tail _ (.tail _ (.head _))))))))).cell 1
  have q2 := (HK.out _ (.tail _ (.tail _ (.tail _ (.tail _ (.tail _ (.tail _ (.tail _ (.head _))))))))).cell 2
  have q3 := (HK.out _ (.tail _ (.tail _ (.tail _ (.tail _ (.tail _ (.tail _ (.tail _ (.head _))))))))).cell 3
  have q4 := (HK.out _ (.tail _ (.tail _ (.tail _ (.tail _ (.tail _ (.tail _ (.tail _ (.head _))))))))).cell 4
  have q5 := (HK.out _ (.tail _ (.tail _ (.tail _ (.tail _ (.tail _ (.tail _ (.tail _ (.head _))))))))).cell 5
  have lA := (HK.out _ (.tail _ (.tail _ (.tail _ (.tail _ (.tail _ (.tail _ (.tail _ (.head _))))))))).lt
  simp at q0 q1 q2 q3 q4 q5 lA
  have HK8 := Lib.hid (HK.out.new 23 #[.int .i64 x4, .int .i64 y4]); have HE8 := Lib.hid (below_then HE.out (below_alloc1 v (.cells #[.int .i64 x4, .int .i64 y4] 23)))
  clear HK HE
  go_wp2_with fail
  obtain ⟨B8, hB⟩ : ∃ B, v.heap.size = B := ⟨_, rfl⟩
  obtain ⟨W8, hW⟩ : ∃ W, v.alloc (.cells #[.int .i64 x4, .int .i64 y4] 23) = W := ⟨_, rfl⟩
  rw [hW] at HK8 HE8 ⊢
  rw [hB] at HK8 ⊢
  clear hW hB v q0 q1 q2 q3 q4 q5 lA
  -- 9
  refine (rt_to (scale_any a b n m W8) HR5.out).mono ?_
  rintro e v ⟨rfl, hb⟩
  have HK := Lib.hid (HK8.out.on hb); have HE := Lib.hid (below_then HE8.out hb)
  clear hb HK8 HE8
  have q0 := (HK.out _ (.tail _ (.tail _ (.tail _ (.tail _ (.tail _ (.tail _ (.tail _ (.tail _ (.head _)))))))))).cell 0
  have q1 := (HK.out _ (.tail _ (.tail _ (.tail _ (.tail _ (.tail _ (.tail _ (.tail _ (.tail _ (.head _)))))))))).cell 1
  have q2 := (HK.out _ (.tail _ (.tail _ (.tail _ (.tail _ (.tail _ (.tail _ (.tail _ (.tail _ (.head _)))))))))).cell 2
  have q3 := (HK.out _ (.tail _ (.tail _ (.tail _ (.tail _ (.tail _ (.tail _ (.tail _ (.tail _ (.head _)))))))))).cell 3
  have q4 := (HK.out _ (.tail _ (.tail _ (.tail _ (.tail _ (.tail _ (.tail _ (.tail _ (.tail _ (.head _)))))))))).cell 4
  have q5 := (HK.out _ (.tail _ (.tail _ (.tail _ (.tail _ (.tail _ (.tail _ (.tail _ (.tail _ (.head _)))))))))).cell 5
  have lA := (HK.out _ (.tail _ (.tail _ (.tail _ (.tail _ (.tail _ (.tail _ (.tail _ (.tail _ (.head _)))))))))).lt
  simp at q0 q1 q2 q3 q4 q5 lA
  have HK9 := Lib.hid (HK.out.new 23 #[.int .i64 x5, .int .i64 y5]); have HE9 := Lib.hid (below_then HE.out (below_alloc1 v (.cells #[.int .i64 x5, .int .i64 y5] 23)))
  clear HK HE
  go_wp2_with fail
  obtain ⟨B9, hB⟩ : ∃ B, v.heap.size = B := ⟨_, rfl⟩
  obtain ⟨W9, hW⟩ : ∃ W, v.alloc (.cells #[.int .i64 x5, .int .i64 y5] 23) = W := ⟨_, rfl⟩
  rw [hW] at HK9 HE9 ⊢
  rw [hB] at HK9 ⊢
  clear hW hB v q0 q1 q2 q3 q4 q5 lA
  -- 10
  refine (rt_to (rScale_any a b n m W9) HR5.out).mono ?_
  rintro e v ⟨rfl, hb⟩
  have HK := Lib.hid (HK9.out.on hb); have HE := Lib.hid (below_then HE9.out hb)
  clear hb HK9 HE9
  have q0 := (HK.out _ (.tail _ (.tail _ (.tail _ (.tail _ (.tail _ (.tail _ (.tail _ (.tail _ (.tail _ (.head _))))))))))).cell 0
  have q1 := (HK.out _ (.tail _ (.tail _ (.tail _ (.tail _ (.tail _ (.tail _ (.tail _ (.tail _ (.tail _ (.head _))))))))))).cell 1
  have q2 := (HK.out _ (.tail _ (.tail _ (.tail _ (.tail _ (.tail _ (.tail _ (.tail _ (.tail _ (.tail _ (.head _))))))))))).cell 2
  have q3 := (HK.out _ (.tail _ (.tail _ (.tail _ (.tail _ (.tail _ (.tail _ (.tail _ (.tail _ (.tail _ (.head _))))))))))).cell 3
  have q4 := (HK.out _ (.tail _ (.tail _ (.tail _ (.tail _ (.tail _ (.tail _ (.tail _ (.tail _ (.tail _ (.head _))))))))))).cell 4
  have q5 := (HK.out _ (.tail _ (.tail _ (.tail _ (.tail _ (.tail _ (.tail _ (.tail _ (.tail _ (.tail _ (.head _))))))))))).cell 5
  have lA := (HK.out _ (.tail _ (.tail _ (.tail _ (.tail _ (.tail _ (.tail _ (.tail _ (.tail _ (.tail _ (.head _))))))))))).lt
  simp at q0 q1 q2 q3 q4 q5 lA
  have HK10 := Lib.hid (HK.out.new 23 #[.int .i64 x5, .int .i64 y5]); have HE10 := Lib.hid (below_then HE.out (below_alloc1 v (.cells #[.int .i64 x5, .int .i64 y5] 23)))
  clear HK HE
  go_wp2_with fail
  obtain ⟨B10, hB⟩ : ∃ B, v.heap.size = B := ⟨_, rfl⟩
  obtain ⟨W10, hW⟩ : ∃ W, v.alloc (.cells #[.int .i64 x5, .int .i64 y5] 23) = W := ⟨_, rfl⟩
  rw [hW] at HK10 HE10 ⊢
  rw [hB] at HK10 ⊢
  clear hW hB v q0 q1 q2 q3 q4 q5 lA
  -- 11
  refine (rt_to (hull_any a b c d W10) HR6.out).mono ?_
  rintro e v ⟨rfl, hb⟩
  have HK := Lib.hid (HK10.out.on hb); have HE := Lib.hid (below_then HE10.out hb)
  clear hb HK10 HE10
  have q0 := (HK.out _ (.tail _ (.tail _ (.tail _ (.tail _ (.tail _ (.tail _ (.tail _ (.tail _ (.tail _ (.tail _ (.head _)))))))))))).cell 0
  have q1 := (HK.out _ (.tail _ (.tail _ (.tail _ (.tail _ (.tail _ (.tail _ (.tail _ (.tail _ (.tail _ (.tail _ (.head _)))))))))))).cell 1
  have q2 := (HK.out _ (.tail _ (.tail _ (.tail _ (.tail _ (.tail _ (.tail _ (.tail _ (.tail _ (.tail _ (.tail _ (.head _)))))))))))).cell 2
  have q3 := (HK.out _ (.tail _ (.tail _ (.tail _ (.tail _ (.tail _ (.tail _ (.tail _ (.tail _ (.tail _ (.tail _ (.head _)))))))))))).cell 3
  have q4 := (HK.out _ (.tail _ (.tail _ (.tail _ (.tail _ (.tail _ (.tail _ (.tail _ (.tail _ (.tail _ (.tail _ (.head _)))))))))))).cell 4
  have q5 := (HK.out _ (.tail _ (.tail _ (.tail _ (.tail _ (.tail _ (.tail _ (.tail _ (.tail _ (.tail _ (.tail _ (.head _)))))))))))).cell 5
  have lA := (HK.out _ (.tail _ (.tail _ (.tail _ (.tail _ (.tail _ (.tail _ (.tail _ (.tail _ (.tail _ (.tail _ (.head _)))))))))))).lt
  simp at q0 q1 q2 q3 q4 q5 lA
  have HK11 := Lib.hid (HK.out.new 23 #[.int .i64 x6, .int .i64 y6]); have HE11 := Lib.hid (below_then HE.out (below_alloc1 v (.cells #[.int .i64 x6, .int .i64 y6] 23)))
  clear HK HE
  go_wp2_with fail
  obtain ⟨B11, hB⟩ : ∃ B, v.heap.size = B := ⟨_, rfl⟩
  obtain ⟨W11, hW⟩ : ∃ W, v.alloc (.cells #[.int .i64 x6, .int .i64 y6] 23) = W := ⟨_, rfl⟩
  rw [hW] at HK11 HE11 ⊢
  rw [hB] at HK11 ⊢
  clear hW hB v q0 q1 q2 q3 q4 q5 lA
  -- 12
  refine (rt_to (rHull_any a b c d W11) HR6.out).mono ?_
  rintro e v ⟨rfl, hb⟩
  have HK := Lib.hid (HK11.out.on hb); have HE := Lib.hid (below_then HE11.out hb)
  clear hb HK11 HE11
  have q0 := (HK.out _ (.tail _ (.tail _ (.tail _ (.tail _ (.tail _ (.tail _ (.tail _ (.tail _ (.tail _ (.tail _ (.tail _ (.head _))))))))))))).cell 0
  have q1 := (HK.out _ (.tail _ (.tail _ (.tail _ (.tail _ (.tail _ (.tail _ (.tail _ (.tail _ (.tail _ (.tail _ (.tail _ (.head _))))))))))))).cell 1
  have q2 := (HK.out _ (.tail _ (.tail _ (.tail _ (.tail _ (.tail _ (.tail _ (.tail _ (.tail _ (.tail _ (.tail _ (.tail _ (.head _))))))))))))).cell 2
  have q3 := (HK.out _ (.tail _ (.tail _ (.tail _ (.tail _ (.tail _ (.tail _ (.tail _ (.tail _ (.tail _ (.tail _ (.tail _ (.head _))))))))))))).cell 3
  have q4 := (HK.out _ (.tail _ (.tail _ (.tail _ (.tail _ (.tail _ (.tail _ (.tail _ (.tail _ (.tail _ (.tail _ (.tail _ (.head _))))))))))))).cell 4
  have q5 := (HK.out _ (.tail _ (.tail _ (.tail _ (.tail _ (.tail _ (.tail _ (.tail _ (.tail _ (.tail _ (.tail _ (.tail _ (.head _))))))))))))).cell 5
  have lA := (HK.out _ (.tail _ (.tail _ (.tail _ (.tail _ (.tail _ (.tail _ (.tail _ (.tail _ (.tail _ (.tail _ (.tail _ (.head _))))))))))))).lt
  simp at q0 q1 q2 q3 q4 q5 lA
  have HK12 := Lib.hid (HK.out.new 23 #[.int .i64 x6, .int .i64 y6]); have HE12 := Lib.hid (below_then HE.out (below_alloc1 v (.cells #[.int .i64 x6, .int .i64 y6] 23)))
  clear HK HE
  go_wp2_with fail
  obtain ⟨B12, hB⟩ : ∃ B, v.heap.size = B := ⟨_, rfl⟩
  obtain ⟨W12, hW⟩ : ∃ W, v.alloc (.cells #[.int .i64 x6, .int .i64 y6] 23) = W := ⟨_, rfl⟩
  rw [hW] at HK12 HE12 ⊢
  rw [hB] at HK12 ⊢
  clear hW hB v q0 q1 q2 q3 q4 q5 lA
  -- 13
  refine (rt_to (meet_any a b c d W12) HR7.out).mono ?_
  rintro e v ⟨rfl, hb⟩
  have HK := Lib.hid (HK12.out.on hb); have HE := Lib.hid (below_then HE12.out hb)
  clear hb HK12 HE12
  have q0 := (HK.out _ (.tail _ (.tail _ (.tail _ (.tail _ (.tail _ (.tail _ (.tail _ (.tail _ (.tail _ (.tail _ (.tail _ (.tail _ (.head _)))))))))))))).cell 0
  have q1 := (HK.out _ (.tail _ (.tail _ (.tail _ (.tail _ (.tail _ (.tail _ (.tail _ (.tail _ (.tail _ (.tail _ (.tail _ (.tail _ (.head _)))))))))))))).cell 1
  have q2 := (HK.out _ (.tail _ (.tail _ (.tail _ (.tail _ (.tail _ (.tail _ (.tail _ (.tail _ (.tail _ (.tail _ (.tail _ (.tail _ (.head _)))))))))))))).cell 2
  have q3 := (HK.out _ (.tail _ (.tail _ (.tail _ (.tail _ (.tail _ (.tail _ (.tail _ (.tail _ (.tail _ (.tail _ (.tail _ (.tail _ (.head _)))))))))))))).cell 3
  have q4 := (HK.out _ (.tail _ (.tail _ (.tail _ (.tail _ (.tail _ (.tail _ (.tail _ (.tail _ (.tail _ (.tail _ (.tail _ (.tail _ (.head _)))))))))))))).cell 4
  have q5 := (HK.out _ (.tail _ (.tail _ (.tail _ (.tail _ (.tail _ (.tail _ (.tail _ (.tail _ (.tail _ (.tail _ (.tail _ (.tail _ (.head _)))))))))))))).cell 5
  have lA := (HK.out _ (.tail _ (.tail _ (.tail _ (.tail _ (.tail _ (.tail _ (.tail _ (.tail _ (.tail _ (.tail _ (.tail _ (.tail _ (.head _)))))))))))))).lt
  simp at q0 q1 q2 q3 q4 q5 lA
  have HK13 := Lib.hid (HK.out.new 23 #[.int .i64 x7, .int .i64 y7]); have HE13 := Lib.hid (below_then HE.out (below_alloc1 v (.cells #[.int .i64 x7, .int .i64 y7] 23)))
  clear HK HE
  go_wp2_with fail
  obtain ⟨B13, hB⟩ : ∃ B, v.heap.size = B := ⟨_, rfl⟩
  obtain ⟨W13, hW⟩ : ∃ W, v.alloc (.cells #[.int .i64 x7, .int .i64 y7] 23) = W := ⟨_, rfl⟩
  rw [hW] at HK13 HE13 ⊢
  rw [hB] at HK13 ⊢
  clear hW hB v q0 q1 q2 q3 q4 q5 lA
  -- 14
  refine (rt_to (rMeet_any a b c d W13) HR7.out).mono ?_
  rintro e v ⟨rfl, hb⟩
  have HK := Lib.hid (HK13.out.on hb); have HE := Lib.hid (below_then HE13.out hb)
  clear hb HK13 HE13
  have q0 := (HK.out _ (.tail _ (.tail _ (.tail _ (.tail _ (.tail _ (.tail _ (.tail _ (.tail _ (.tail _ (.tail _ (.tail _ (.tail _ (.tail _ (.head _))))))))))))))).cell 0
  have q1 := (HK.out _ (.tail _ (.tail _ (.tail _ (.tail _ (.tail _ (.tail _ (.tail _ (.tail _ (.tail _ (.tail _ (.tail _ (.tail _ (.tail _ (.head _))))))))))))))).cell 1
  have q2 := (HK.out _ (.tail _ (.tail _ (.tail _ (.tail _ (.tail _ (.tail _ (.tail _ (.tail _ (.tail _ (.tail _ (.tail _ (.tail _ (.tail _ (.head _))))))))))))))).cell 2
  have q3 := (HK.out _ (.tail _ (.tail _ (.tail _ (.tail _ (.tail _ (.tail _ (.tail _ (.tail _ (.tail _ (.tail _ (.tail _ (.tail _ (.tail _ (.head _))))))))))))))).cell 3
  have q4 := (HK.out _ (.tail _ (.tail _ (.tail _ (.tail _ (.tail _ (.tail _ (.tail _ (.tail _ (.tail _ (.tail _ (.tail _ (.tail _ (.tail _ (.head _))))))))))))))).cell 4
  have q5 := (HK.out _ (.tail _ (.tail _ (.tail _ (.tail _ (.tail _ (.tail _ (.tail _ (.tail _ (.tail _ (.tail _ (.tail _ (.tail _ (.tail _ (.head _))))))))))))))).cell 5
  have lA := (HK.out _ (.tail _ (.tail _ (.tail _ (.tail _ (.tail _ (.tail _ (.tail _ (.tail _ (.tail _ (.tail _ (.tail _ (.tail _ (.tail _ (.head _))))))))))))))).lt
  simp at q0 q1 q2 q3 q4 q5 lA
  have HK14 := Lib.hid (HK.out.new 23 #[.int .i64 x7, .int .i64 y7]); have HE14 := Lib.hid (below_then HE.out (below_alloc1 v (.cells #[.int .i64 x7, .int .i64 y7] 23)))
  clear HK HE
  have f1 := (HK14.out _ (.tail _ (.tail _ (.tail _ (.tail _ (.tail _ (.tail _ (.tail _ (.tail _ (.tail _ (.tail _ (.tail _ (.tail _ (.tail _ (.head _))))))))))))))).cell 0; have g1 := (HK14.out _ (.tail _ (.tail _ (.tail _ (.tail _ (.tail _ (.tail _ (.tail _ (.tail _ (.tail _ (.tail _ (.tail _ (.tail _ (.tail _ (.head _))))))))))))))).cell 1
  have f2 := (HK14.out _ (.tail _ (.tail _ (.tail _ (.tail _ (.tail _ (.tail _ (.tail _ (.tail _ (.tail _ (.tail _ (.tail _ (.tail _ (.head _)))))))))))))).cell 0; have g2 := (HK14.out _ (.tail _ (.tail _ (.tail _ (.tail _ (.tail _ (.tail _ (.tail _ (.tail _ (.tail _ (.tail _ (.tail _ (.tail _ (.head _)))))))))))))).cell 1
  have f3 := (HK14.out _ (.tail _ (.tail _ (.tail _ (.tail _ (.tail _ (.tail _ (.tail _ (.tail _ (.tail _ (.tail _ (.tail _ (.head _))))))))))))).cell 0; have g3 := (HK14.out _ (.tail _ (.tail _ (.tail _ (.tail _ (.tail _ (.tail _ (.tail _ (.tail _ (.tail _ (.tail _ (.tail _ (.head _))))))))))))).cell 1
  have f4 := (HK14.out _ (.tail _ (.tail _ (.tail _ (.tail _ (.tail _ (.tail _ (.tail _ (.tail _ (.tail _ (.tail _ (.head _)))))))))))).cell 0; have g4 := (HK14.out _ (.tail _ (.tail _ (.tail _ (.tail _ (.tail _ (.tail _ (.tail _ (.tail _ (.tail _ (.tail _ (.head _)))))))))))).cell 1
  have f5 := (HK14.out _ (.tail _ (.tail _ (.tail _ (.tail _ (.tail _ (.tail _ (.tail _ (.tail _ (.tail _ (.head _))))))))))).cell 0; have g5 := (HK14.out _ (.tail _ (.tail _ (.tail _ (.tail _ (.tail _ (.tail _ (.tail _ (.tail _ (.tail _ (.head _))))))))))).cell 1
  have f6 := (HK14.out _ (.tail _ (.tail _ (.tail _ (.tail _ (.tail _ (.tail _ (.tail _ (.tail _ (.head _)))))))))).cell 0; have g6 := (HK14.out _ (.tail _ (.tail _ (.tail _ (.tail _ (.tail _ (.tail _ (.tail _ (.tail _ (.head _)))))))))).cell 1
  have f7 := (HK14.out _ (.tail _ (.tail _ (.tail _ (.tail _ (.tail _ (.tail _ (.tail _ (.head _))))))))).cell 0; have g7 := (HK14.out _ (.tail _ (.tail _ (.tail _ (.tail _ (.tail _ (.tail _ (.tail _ (.head _))))))))).cell 1
  have f8 := (HK14.out _ (.tail _ (.tail _ (.tail _ (.tail _ (.tail _ (.tail _ (.head _)))))))).cell 0; have g8 := (HK14.out _ (.tail _ (.tail _ (.tail _ (.tail _ (.tail _ (.tail _ (.head _)))))))).cell 1
  have f9 := (HK14.out _ (.tail _ (.tail _ (.tail _ (.tail _ (.tail _ (.head _))))))).cell 0; have g9 := (HK14.out _ (.tail _ (.tail _ (.tail _ (.tail _ (.tail _ (.head _))))))).cell 1
  have f10 := (HK14.out _ (.tail _ (.tail _ (.tail _ (.tail _ (.head _)))))).cell 0; have g10 := (HK14.out _ (.tail _ (.tail _ (.tail _ (.tail _ (.head _)))))).cell 1
  have f11 := (HK14.out _ (.tail _ (.tail _ (.tail _ (.head _))))).cell 0; have g11 := (HK14.out _ (.tail _ (.tail _ (.tail _ (.head _))))).cell 1
  have f12 := (HK14.out _ (.tail _ (.tail _ (.head _)))).cell 0; have g12 := (HK14.out _ (.tail _ (.tail _ (.head _)))).cell 1
  have f13 := (HK14.out _ (.tail _ (.head _))).cell 0; have g13 := (HK14.out _ (.tail _ (.head _))).cell 1
  have f14 := (HK14.out _ (.head _)).cell 0; have g14 := (HK14.out _ (.head _)).cell 1
  have p0 := (HK14.out _ (.tail _ (.tail _ (.tail _ (.tail _ (.tail _ (.tail _ (.tail _ (.tail _ (.tail _ (.tail _ (.tail _ (.tail _ (.tail _ (.tail _ (.head _)))))))))))))))).cell 0
  have p1 := (HK14.out _ (.tail _ (.tail _ (.tail _ (.tail _ (.tail _ (.tail _ (.tail _ (.tail _ (.tail _ (.tail _ (.tail _ (.tail _ (.tail _ (.tail _ (.head _)))))))))))))))).cell 1
  have p2 := (HK14.out _ (.tail _ (.tail _ (.tail _ (.tail _ (.tail _ (.tail _ (.tail _ (.tail _ (.tail _ (.tail _ (.tail _ (.tail _ (.tail _ (.tail _ (.head _)))))))))))))))).cell 2
  have p3 := (HK14.out _ (.tail _ (.tail _ (.tail _ (.tail _ (.tail _ (.tail _ (.tail _ (.tail _ (.tail _ (.tail _ (.tail _ (.tail _ (.tail _ (.tail _ (.head _)))))))))))))))).cell 3
  have p4 := (HK14.out _ (.tail _ (.tail _ (.tail _ (.tail _ (.tail _ (.tail _ (.tail _ (.tail _ (.tail _ (.tail _ (.tail _ (.tail _ (.tail _ (.tail _ (.head _)))))))))))))))).cell 4
  have p5 := (HK14.out _ (.tail _ (.tail _ (.tail _ (.tail _ (.tail _ (.tail _ (.tail _ (.tail _ (.tail _ (.tail _ (.tail _ (.tail _ (.tail _ (.tail _ (.head _)))))))))))))))).cell 5
  have lA14 := (HK14.out _ (.tail _ (.tail _ (.tail _ (.tail _ (.tail _ (.tail _ (.tail _ (.tail _ (.tail _ (.tail _ (.tail _ (.tail _ (.tail _ (.tail _ (.head _)))))))))))))))).lt
  clear q0 q1 q2 q3 q4 q5 lA HK14
  go_upto_region 15 with fail
  obtain ⟨B14, hB⟩ : ∃ B, v.heap.size = B := ⟨_, rfl⟩
  obtain ⟨W14, hW⟩ : ∃ W, v.alloc (.cells #[.int .i64 x7, .int .i64 y7] 23) = W := ⟨_, rfl⟩
  rw [hW] at HE14 f1 g1 f2 g2 f3 g3 f4 g4 f5 g5 f6 g6 f7 g7 f8 g8 f9 g9 f10 g10 f11 g11 f12 g12 f13 g13 f14 g14 p0 p1 p2 p3 p4 p5 lA14 ⊢
  rw [hB] at f14 g14 ⊢
  clear hW hB v
  simp at f1 g1 f2 g2 f3 g3 f4 g4 f5 g5 f6 g6 f7 g7 f8 g8 f9 g9 f10 g10 f11 g11 f12 g12 f13 g13 f14 g14 p0 p1 p2 p3 p4 p5
  go_wp2_with fail
  clear f1 g1 f2 g2 f3 g3 f4 g4 f5 g5 f6 g6 f7 g7 f8 g8 f9 g9 f10 g10 f11 g11 f12 g12 f13 g13 f14 g14
  obtain ⟨ee, he⟩ : ∃ r, errR a b = r := ⟨_, rfl⟩
  obtain ⟨hh, hh'⟩ : ∃ r, hasS a b n = r := ⟨_, rfl⟩
  obtain ⟨bb, hbb⟩ : ∃ r, beforeS a b c d = r := ⟨_, rfl⟩
  have HX := Lib.hid (And.intro he (And.intro hh' hbb)); clear he hh' hbb
  go_region_held3 (fun w' => w'.cell? ⟨A, 0, none⟩ = some (.int .i64 a) ∧ w'.cell? ⟨A, 1, none⟩ = some (.int .i64 b) ∧ w'.cell? ⟨A, 2, none⟩ = some (.int .i64 c) ∧ w'.cell? ⟨A, 3, none⟩ = some (.int .i64 d) ∧ w'.cell? ⟨A, 4, none⟩ = some (.int .i64 n) ∧ w'.cell? ⟨A, 5, none⟩ = some (.int .i64 m) ∧ Below W14.heap.size W14 w')
    (first | exact ⟨p0, p1, p2, p3, p4, p5, (Below.refl _ _).drew⟩ | exact keepG (by assumption) (by assumption) lA14)
    (first
      | (go_at_call 26; refine (int_to (checkRange_any a b _) HX.out.1).mono ?_; rintro e v1 ⟨rfl, hb1⟩)
      | (go_at_call 27; refine (int_to (rCheckRange_any a b _) HX.out.1).mono ?_; rintro e v2 ⟨rfl, hb2⟩)
      | (go_at_call 28; refine (bool_to (has_any a b n _) HX.out.2.1).mono ?_; rintro e v3 ⟨rfl, hb3⟩)
      | (go_at_call 29; refine (bool_to (rHas_any a b n _) HX.out.2.1).mono ?_; rintro e v4 ⟨rfl, hb4⟩)
      | (go_at_call 30; refine (bool_to (before_any a b c d _) HX.out.2.2).mono ?_; rintro e v5 ⟨rfl, hb5⟩)
      | (go_at_call 31; refine (bool_to (rBefore_any a b c d _) HX.out.2.2).mono ?_; rintro e v6 ⟨rfl, hb6⟩)
      | (go_at_call 32; refine (sane_any _).mono ?_; rintro e v7 ⟨rfl, hb7⟩; have T7 := keepG (W2 := W14) (A := A) hb7 (by assumption) lA14)
      | fail)
  all_goals go_wp2
  all_goals go_ret
  all_goals exact ⟨rfl, below_then HE14.out T7.2.2.2.2.2.2⟩
end Go.Proofs.Ythhcejcpopgkiaa
