/- The walk of HoldTanks: whatever tank, level and mass come in, the law returns true. Its condition: the tank's tables lie in memory. -/
import Derived.Test.YtbcefdaflnlhoaaGreatQ34
import Derived.Test.YtbcefdaflnlhoaaGreatQ36
set_option linter.unusedVariables false
set_option linter.unusedSimpArgs false
set_option linter.constructorNameAsVariable false
namespace Go.Proofs.YtbcefdaflnlhoaaGreat

section
open Go.RowKit
section
attribute [local go_sem ↓] eqRange9
set_option maxRecDepth 100000 in
set_option maxHeartbeats 4000000 in
theorem eqWeight (a b c e f g : Int) (w : World) : (Op.equalIn 10000 35 (.agg #[.int .i64 a, .int .i64 b, .int .i64 c, .int .i64 e, .int .i64 f, .int .i64 g]) (.agg #[.int .i64 a, .int .i64 b, .int .i64 c, .int .i64 e, .int .i64 f, .int .i64 g])).run Tryz.prog w = .ok true w := by
  have u3 := Tryz.underlying3
  have hS : Tryz.prog.underlying 35 = some (.struct (Tryz.prog.fieldsOf 35)) := by kernel_rfl
  have hp : Tryz.prog.stoodInHeld 35 = false := by kernel_rfl
  rw [show (10000 : Nat) = 9999 + 1 from rfl, run_equalIn_agg w 9999 35 _ _ hS hp]
  clear hS hp
  simp only [Program.fieldsOf, Tryz.underlying35]
  go_simp
end
@[go_sem] theorem eqGuardWeight (op : BinOp) (x y : Operand) (xs ys : Array Value) (w : World) : (eqGuard op 35 x y (.agg xs) (.agg ys)).run Tryz.prog w = .ok () w :=
  run_eqGuard_agg w op 35 x y xs ys (by kernel_rfl)
theorem eqlWeight (a b c e f g : Int) (w : World) : (binOp .eql 35 (.agg #[.int .i64 a, .int .i64 b, .int .i64 c, .int .i64 e, .int .i64 f, .int .i64 g]) (.agg #[.int .i64 a, .int .i64 b, .int .i64 c, .int .i64 e, .int .i64 f, .int .i64 g])).run Tryz.prog w = .ok (.bool true) w := by
  rw [run_eql_struct, eqWeight]; rfl
section
attribute [local go_sem ↓] eqRange9
set_option maxRecDepth 100000 in
set_option maxHeartbeats 4000000 in
theorem eqLevel (a : Int) (b : Bool) (c e f g : Int) (w : World) : (Op.equalIn 10000 30 (.agg #[.int .i64 a, .bool b, .int .i64 c, .int .i64 e, .int .i64 f, .int .i64 g]) (.agg #[.int .i64 a, .bool b, .int .i64 c, .int .i64 e, .int .i64 f, .int .i64 g])).run Tryz.prog w = .ok true w := by
  have u3 := Tryz.underlying3
  have u4 := Tryz.underlying4
  have hS : Tryz.prog.underlying 30 = some (.struct (Tryz.prog.fieldsOf 30)) := by kernel_rfl
  have hp : Tryz.prog.stoodInHeld 30 = false := by kernel_rfl
  rw [show (10000 : Nat) = 9999 + 1 from rfl, run_equalIn_agg w 9999 30 _ _ hS hp]
  clear hS hp
  simp only [Program.fieldsOf, Tryz.underlying30]
  go_simp
end
@[go_sem] theorem eqGuardLevel (op : BinOp) (x y : Operand) (xs ys : Array Value) (w : World) : (eqGuard op 30 x y (.agg xs) (.agg ys)).run Tryz.prog w = .ok () w :=
  run_eqGuard_agg w op 30 x y xs ys (by kernel_rfl)
theorem eqlLevel (a : Int) (b : Bool) (c e f g : Int) (w : World) : (binOp .eql 30 (.agg #[.int .i64 a, .bool b, .int .i64 c, .int .i64 e, .int .i64 f, .int .i64 g]) (.agg #[.int .i64 a, .bool b, .int .i64 c, .int .i64 e, .int .i64 f, .int .i64 g])).run Tryz.prog w = .ok (.bool true) w := by
  rw [run_eql_struct, eqLevel]; rfl
attribute [local go_sem ↓] eqlRange neqRange eqlWeight eqlLevel
set_option maxRecDepth 100000 in
set_option maxHeartbeats 4000000 in
theorem holdTanks_walk (t : TankD) (m : HoldM) (lv : LevelD) (a b : Int) (w : World) (hi : TankIn w t m) :
    Calls Tryz.prog 3 #[tankV t m, levelV lv, rv a b] w fun e w' => e = .returned (.bool true) ∧ Below w.heap.size w w' := by
  obtain ⟨⟨qa, qb, qe⟩, hr0⟩ : ∃ r, liqS t lv = r := ⟨_, rfl⟩
  obtain ⟨⟨ra, rb, re⟩, hr1⟩ : ∃ r, srfS t lv = r := ⟨_, rfl⟩
  obtain ⟨w1, w2, w3, w4, w5, w6, w7, hw⟩ : ∃ w1 w2 w3 w4 w5 w6 w7 : Int, balV t lv = wt w1 w2 w3 w4 w5 w6 w7 := by
    unfold balV; split
    · exact ⟨_, _, _, _, _, _, _, rfl⟩
    · exact ⟨_, _, _, _, _, _, _, rfl⟩
  obtain ⟨p1, p2, p3, p4, p5, p6, p7, hp⟩ : ∃ (p1 : Int) (p2 : Bool) (p3 p4 p5 p6 p7 : Int), pumS t lv a b = lvV p1 p2 p3 p4 p5 p6 p7 := by
    unfold pumS
    split
    · split
      · split
        · exact ⟨_, _, _, _, _, _, _, rfl⟩
        · exact ⟨_, _, _, _, _, _, _, rfl⟩
      · exact ⟨_, _, _, _, _, _, _, rfl⟩
    · exact ⟨_, _, _, _, _, _, _, rfl⟩
  have CA0 : Hid (∀ W, Below w.heap.size w W → Calls Tryz.prog 8 #[tankV t m, levelV lv] W fun e w' => e = .returned (.tuple #[rv qa qb, .int .i64 qe]) ∧ Below W.heap.size W w') := Lib.hid fun W hW => rt_to (hLiquid_any t m lv W (hi.below hW)) hr0
  have CA1 : Hid (∀ W, Below w.heap.size w W → Calls Tryz.prog 10 #[tankV t m, levelV lv] W fun e w' => e = .returned (.tuple #[rv ra rb, .int .i64 re]) ∧ Below W.heap.size W w') := Lib.hid fun W hW => rt_to (hSurface_any t m lv W (hi.below hW)) hr1
  have CA2 : Hid (∀ W, Below w.heap.size w W → Calls Tryz.prog 12 #[tankV t m, levelV lv] W fun e w' => e = .returned (.tuple #[.agg #[.int .i64 w1, .int .i64 w2, .int .i64 w3, .int .i64 w4, .int .i64 w5, .int .i64 w6], .int .i64 w7]) ∧ Below W.heap.size W w') := Lib.hid fun W hW => by rw [show (Value.tuple #[.agg #[.int .i64 w1, .int .i64 w2, .int .i64 w3, .int .i64 w4, .int .i64 w5, .int .i64 w6], .int .i64 w7]) = balV t lv from hw.symm]; exact hBallast_any t m lv W (hi.below hW)
  have CA3 : Hid (∀ W, Below w.heap.size w W → Calls Tryz.prog 14 #[tankV t m, levelV lv, rv a b] W fun e w' => e = .returned (.tuple #[.agg #[.int .i64 p1, .bool p2, .int .i64 p3, .int .i64 p4, .int .i64 p5, .int .i64 p6], .int .i64 p7]) ∧ Below W.heap.size W w') := Lib.hid fun W hW => by rw [show (Value.tuple #[.agg #[.int .i64 p1, .bool p2, .int .i64 p3, .int .i64 p4, .int .i64 p5, .int .i64 p6], .int .i64 p7]) = pumS t lv a b from hp.symm]; exact hPump_any t m lv a b W (hi.below hW)
  have CB0 : Hid (∀ W, Below w.heap.size w W → Calls Tryz.prog 9 #[tankV t m, levelV lv] W fun e w' => e = .returned (.tuple #[rv qa qb, .int .i64 qe]) ∧ Below W.heap.size W w') := Lib.hid fun W hW => rt_to (sLiquid_any t m lv W (hi.below hW)) hr0
  have CB1 : Hid (∀ W, Below w.heap.size w W → Calls Tryz.prog 11 #[tankV t m, levelV lv] W fun e w' => e = .returned (.tuple #[rv ra rb, .int .i64 re]) ∧ Below W.heap.size W w') := Lib.hid fun W hW => rt_to (sSurface_any t m lv W (hi.below hW)) hr1
  have CB2 : Hid (∀ W, Below w.heap.size w W → Calls Tryz.prog 13 #[tankV t m, levelV lv] W fun e w' => e = .returned (.tuple #[.agg #[.int .i64 w1, .int .i64 w2, .int .i64 w3, .int .i64 w4, .int .i64 w5, .int .i64 w6], .int .i64 w7]) ∧ Below W.heap.size W w') := Lib.hid fun W hW => by rw [show (Value.tuple #[.agg #[.int .i64 w1, .int .i64 w2, .int .i64 w3, .int .i64 w4, .int .i64 w5, .int .i64 w6], .int .i64 w7]) = balV t lv from hw.symm]; exact sBallast_any t m lv W (hi.below hW)
  have CB3 : Hid (∀ W, Below w.heap.size w W → Calls Tryz.prog 15 #[tankV t m, levelV lv, rv a b] W fun e w' => e = .returned (.tuple #[.agg #[.int .i64 p1, .bool p2, .int .i64 p3, .int .i64 p4, .int .i64 p5, .int .i64 p6], .int .i64 p7]) ∧ Below W.heap.size W w') := Lib.hid fun W hW => by rw [show (Value.tuple #[.agg #[.int .i64 p1, .bool p2, .int .i64 p3, .int .i64 p4, .int .i64 p5, .int .i64 p6], .int .i64 p7]) = pumS t lv a b from hp.symm]; exact sPump_any t m lv a b W (hi.below hW)
  obtain ⟨E1, hE1⟩ : ∃ E, tankErr t = E := ⟨_, rfl⟩
  obtain ⟨E2, hE2⟩ : ∃ E, levelErr t lv = E := ⟨_, rfl⟩
  have CA6 : Hid (∀ W, Below w.heap.size w W → Calls Tryz.prog 16 #[tankV t m] W fun e w' => e = .returned (.int .i64 E1) ∧ Below W.heap.size W w') := Lib.hid fun W hW => int_to (checkTank_any t m W (hi.below hW)) hE1
  have CB6 : Hid (∀ W, Below w.heap.size w W → Calls Tryz.prog 17 #[tankV t m] W fun e w' => e = .returned (.int .i64 E1) ∧ Below W.heap.size W w') := Lib.hid fun W hW => int_to (sCheckTank_any t m W (hi.below hW)) hE1
  have CA7 : Hid (∀ W, Below w.heap.size w W → Calls Tryz.prog 18 #[tankV t m, levelV lv] W fun e w' => e = .returned (.int .i64 E2) ∧ Below W.heap.size W w') := Lib.hid fun W hW => int_to (checkLevel_any t m lv W (hi.below hW)) hE2
  have CB7 : Hid (∀ W, Below w.heap.size w W → Calls Tryz.prog 19 #[tankV t m, levelV lv] W fun e w' => e = .returned (.int .i64 E2) ∧ Below W.heap.size W w') := Lib.hid fun W hW => int_to (sCheckLevel_any t m lv W (hi.below hW)) hE2
  clear hr0 hr1 hw hp hE1 hE2 hi
  obtain ⟨id, al, ah, vol, sur, hei⟩ := t
  obtain ⟨A, n, c, B, mm, d, C, l, ee⟩ := m
  obtain ⟨tk, pr, s0, s1, d0, d1⟩ := lv
  have HE := Lib.hid (show Below w.heap.size w (((w.alloc (.cells #[.int .i64 id, .int .i64 al, .int .i64 ah, .slice A n c, .slice B mm d, .slice C l ee] 28)).alloc (.cells #[.int .i64 tk, .bool pr, .int .i64 s0, .int .i64 s1, .int .i64 d0, .int .i64 d1] 30)).alloc (.cells #[.int .i64 a, .int .i64 b] 23)) from below_a3 (Below.refl _ _))
  have HK := Lib.hid (boxes3' w 28 30 23 #[.int .i64 id, .int .i64 al, .int .i64 ah, .slice A n c, .slice B mm d, .slice C l ee] #[.int .i64 tk, .bool pr, .int .i64 s0, .int .i64 s1, .int .i64 d0, .int .i64 d1] #[.int .i64 a, .int .i64 b])
  go_enter Tryz.func3, Tryz.ntmps3
  go_upto_region 1 with fail
  obtain ⟨W0, hW0⟩ : ∃ W0 : World, (((w.alloc (.cells #[.int .i64 id, .int .i64 al, .int .i64 ah, .slice A n c, .slice B mm d, .slice C l ee] 28)).alloc (.cells #[.int .i64 tk, .bool pr, .int .i64 s0, .int .i64 s1, .int .i64 d0, .int .i64 d1] 30)).alloc (.cells #[.int .i64 a, .int .i64 b] 23)) = W0 := ⟨_, rfl⟩
  rw [hW0] at HE HK ⊢
  clear hW0
  obtain ⟨G, hG⟩ : ∃ G, w.heap.size = G := ⟨_, rfl⟩
  rw [hG] at HK ⊢
  have HG := Lib.hid hG; clear hG
  have x := HK.out _ (.tail _ (.tail _ (.head _)))
  have x0 := x.cell 0
  have x1 := x.cell 1
  have x2 := x.cell 2
  have x3 := x.cell 3
  have x4 := x.cell 4
  have x5 := x.cell 5
  simp at x0 x1 x2 x3 x4 x5
  clear x
  have f := HK.out _ (.tail _ (.head _))
  have f0 := f.cell 0
  have f1 := f.cell 1
  have f2 := f.cell 2
  have f3 := f.cell 3
  have f4 := f.cell 4
  have f5 := f.cell 5
  simp at f0 f1 f2 f3 f4 f5
  clear f
  go_wp2_with fail
  refine (CA0.out _ HE.out).mono ?_
  rintro e y1 ⟨rfl, hq⟩
  have HE1 := Lib.hid (below_then (below_then HE.out hq) (below_alloc1 y1 (.cells #[.int .i64 qa, .int .i64 qb] 23))); have HK1 := Lib.hid ((HK.out.on hq).new 23 #[.int .i64 qa, .int .i64 qb])
  clear hq HE HK x0 x1 x2 x3 x4 x5 f0 f1 f2 f3 f4 f5 CA0
  go_upto_region 2 with fail
  obtain ⟨W1, hW⟩ : ∃ W1 : World, y1.alloc (.cells #[.int .i64 qa, .int .i64 qb] 23) = W1 := ⟨_, rfl⟩
  rw [hW] at HE1 HK1 ⊢
  clear hW
  obtain ⟨N1, hN⟩ : ∃ N, y1.heap.size = N := ⟨_, rfl⟩
  rw [hN] at HK1 ⊢
  clear hN
  have x := HK1.out _ (.tail _ (.tail _ (.tail _ (.head _))))
  have x0 := x.cell 0
  have x1 := x.cell 1
  have x2 := x.cell 2
  have x3 := x.cell 3
  have x4 := x.cell 4
  have x5 := x.cell 5
  simp at x0 x1 x2 x3 x4 x5
  clear x
  have f := HK1.out _ (.tail _ (.tail _ (.head _)))
  have f0 := f.cell 0
  have f1 := f.cell 1
  have f2 := f.cell 2
  have f3 := f.cell 3
  have f4 := f.cell 4
  have f5 := f.cell 5
  simp at f0 f1 f2 f3 f4 f5
  clear f
  go_wp2_with fail
  refine (CB0.out _ HE1.out).mono ?_
  rintro e y2 ⟨rfl, hq⟩
  have HE2 := Lib.hid (below_then (below_then HE1.out hq) (below_alloc1 y2 (.cells #[.int .i64 qa, .int .i64 qb] 23))); have HK2 := Lib.hid ((HK1.out.on hq).new 23 #[.int .i64 qa, .int .i64 qb])
  clear hq HE1 HK1 x0 x1 x2 x3 x4 x5 f0 f1 f2 f3 f4 f5 CB0
  go_upto_region 3 with fail
  obtain ⟨W2, hW⟩ : ∃ W2 : World, y2.alloc (.cells #[.int .i64 qa, .int .i64 qb] 23) = W2 := ⟨_, rfl⟩
  rw [hW] at HE2 HK2 ⊢
  clear hW
  obtain ⟨N2, hN⟩ : ∃ N, y2.heap.size = N := ⟨_, rfl⟩
  rw [hN] at HK2 ⊢
  clear hN
  as_aux_lemma =>
    have x := HK2.out _ (.tail _ (.tail _ (.tail _ (.tail _ (.head _)))))
    have x0 := x.cell 0
    have x1 := x.cell 1
    have x2 := x.cell 2
    have x3 := x.cell 3
    have x4 := x.cell 4
    have x5 := x.cell 5
    simp at x0 x1 x2 x3 x4 x5
    clear x
    have f := HK2.out _ (.tail _ (.tail _ (.tail _ (.head _))))
    have f0 := f.cell 0
    have f1 := f.cell 1
    have f2 := f.cell 2
    have f3 := f.cell 3
    have f4 := f.cell 4
    have f5 := f.cell 5
    simp at f0 f1 f2 f3 f4 f5
    clear f
    go_wp2_with fail
    refine (CA1.out _ HE2.out).mono ?_
    rintro e y3 ⟨rfl, hq⟩
    have HE3 := Lib.hid (below_then (below_then HE2.out hq) (below_alloc1 y3 (.cells #[.int .i64 ra, .int .i64 rb] 23))); have HK3 := Lib.hid ((HK2.out.on hq).new 23 #[.int .i64 ra, .int .i64 rb])
    clear hq HE2 HK2 x0 x1 x2 x3 x4 x5 f0 f1 f2 f3 f4 f5 CA1
    go_upto_region 4 with fail
    obtain ⟨W3, hW⟩ : ∃ W3 : World, y3.alloc (.cells #[.int .i64 ra, .int .i64 rb] 23) = W3 := ⟨_, rfl⟩
    rw [hW] at HE3 HK3 ⊢
    clear hW
    obtain ⟨N3, hN⟩ : ∃ N, y3.heap.size = N := ⟨_, rfl⟩
    rw [hN] at HK3 ⊢
    clear hN
    have x := HK3.out _ (.tail _ (.tail _ (.tail _ (.tail _ (.tail _ (.head _))))))
    have x0 := x.cell 0
    have x1 := x.cell 1
    have x2 := x.cell 2
    have x3 := x.cell 3
    have x4 := x.cell 4
    have x5 := x.cell 5
    simp at x0 x1 x2 x3 x4 x5
    clear x
    have f := HK3.out _ (.tail _ (.tail _ (.tail _ (.tail _ (.head _)))))
    have f0 := f.cell 0
    have f1 := f.cell 1
    have f2 := f.cell 2
    have f3 := f.cell 3
    have f4 := f.cell 4
    have f5 := f.cell 5
    simp at f0 f1 f2 f3 f4 f5
    clear f
    go_wp2_with fail
    refine (CB1.out _ HE3.out).mono ?_
    rintro e y4 ⟨rfl, hq⟩
    have HE4 := Lib.hid (below_then (below_then HE3.out hq) (below_alloc1 y4 (.cells #[.int .i64 ra, .int .i64 rb] 23))); have HK4 := Lib.hid ((HK3.out.on hq).new 23 #[.int .i64 ra, .int .i64 rb])
    clear hq HE3 HK3 x0 x1 x2 x3 x4 x5 f0 f1 f2 f3 f4 f5 CB1
    go_upto_region 5 with fail
    obtain ⟨W4, hW⟩ : ∃ W4 : World, y4.alloc (.cells #[.int .i64 ra, .int .i64 rb] 23) = W4 := ⟨_, rfl⟩
    rw [hW] at HE4 HK4 ⊢
    clear hW
    obtain ⟨N4, hN⟩ : ∃ N, y4.heap.size = N := ⟨_, rfl⟩
    rw [hN] at HK4 ⊢
    clear hN
    as_aux_lemma =>
      have x := HK4.out _ (.tail _ (.tail _ (.tail _ (.tail _ (.tail _ (.tail _ (.head _)))))))
      have x0 := x.cell 0
      have x1 := x.cell 1
      have x2 := x.cell 2
      have x3 := x.cell 3
      have x4 := x.cell 4
      have x5 := x.cell 5
      simp at x0 x1 x2 x3 x4 x5
      clear x
      have f := HK4.out _ (.tail _ (.tail _ (.tail _ (.tail _ (.tail _ (.head _))))))
      have f0 := f.cell 0
      have f1 := f.cell 1
      have f2 := f.cell 2
      have f3 := f.cell 3
      have f4 := f.cell 4
      have f5 := f.cell 5
      simp at f0 f1 f2 f3 f4 f5
      clear f
      go_wp2_with fail
      refine (CA2.out _ HE4.out).mono ?_
      rintro e y5 ⟨rfl, hq⟩
      have HE5 := Lib.hid (below_then (below_then HE4.out hq) (below_alloc1 y5 (.cells #[.int .i64 w1, .int .i64 w2, .int .i64 w3, .int .i64 w4, .int .i64 w5, .int .i64 w6] 35))); have HK5 := Lib.hid ((HK4.out.on hq).new 35 #[.int .i64 w1, .int .i64 w2, .int .i64 w3, .int .i64 w4, .int .i64 w5, .int .i64 w6])
      clear hq HE4 HK4 x0 x1 x2 x3 x4 x5 f0 f1 f2 f3 f4 f5 CA2
      go_upto_region 6 with fail
      obtain ⟨W5, hW⟩ : ∃ W5 : World, y5.alloc (.cells #[.int .i64 w1, .int .i64 w2, .int .i64 w3, .int .i64 w4, .int .i64 w5, .int .i64 w6] 35) = W5 := ⟨_, rfl⟩
      rw [hW] at HE5 HK5 ⊢
      clear hW
      obtain ⟨N5, hN⟩ : ∃ N, y5.heap.size = N := ⟨_, rfl⟩
      rw [hN] at HK5 ⊢
      clear hN
      have x := HK5.out _ (.tail _ (.tail _ (.tail _ (.tail _ (.tail _ (.tail _ (.tail _ (.head _))))))))
      have x0 := x.cell 0
      have x1 := x.cell 1
      have x2 := x.cell 2
      have x3 := x.cell 3
      have x4 := x.cell 4
      have x5 := x.cell 5
      simp at x0 x1 x2 x3 x4 x5
      clear x
      have f := HK5.out _ (.tail _ (.tail _ (.tail _ (.tail _ (.tail _ (.tail _ (.head _)))))))
      have f0 := f.cell 0
      have f1 := f.cell 1
      have f2 := f.cell 2
      have f3 := f.cell 3
      have f4 := f.cell 4
      have f5 := f.cell 5
      simp at f0 f1 f2 f3 f4 f5
      clear f
      go_wp2_with fail
      refine (CB2.out _ HE5.out).mono ?_
      rintro e y6 ⟨rfl, hq⟩
      have HE6 := Lib.hid (below_then (below_then HE5.out hq) (below_alloc1 y6 (.cells #[.int .i64 w1, .int .i64 w2, .int .i64 w3, .int .i64 w4, .int .i64 w5, .int .i64 w6] 35))); have HK6 := Lib.hid ((HK5.out.on hq).new 35 #[.int .i64 w1, .int .i64 w2, .int .i64 w3, .int .i64 w4, .int .i64 w5, .int .i64 w6])
      clear hq HE5 HK5 x0 x1 x2 x3 x4 x5 f0 f1 f2 f3 f4 f5 CB2
      go_upto_region 7 with fail
      obtain ⟨W6, hW⟩ : ∃ W6 : World, y6.alloc (.cells #[.int .i64 w1, .int .i64 w2, .int .i64 w3, .int .i64 w4, .int .i64 w5, .int .i64 w6] 35) = W6 := ⟨_, rfl⟩
      rw [hW] at HE6 HK6 ⊢
      clear hW
      obtain ⟨N6, hN⟩ : ∃ N, y6.heap.size = N := ⟨_, rfl⟩
      rw [hN] at HK6 ⊢
      clear hN
      as_aux_lemma =>
        have x := HK6.out _ (.tail _ (.tail _ (.tail _ (.tail _ (.tail _ (.tail _ (.tail _ (.tail _ (.head _)))))))))
        have x0 := x.cell 0
        have x1 := x.cell 1
        have x2 := x.cell 2
        have x3 := x.cell 3
        have x4 := x.cell 4
        have x5 := x.cell 5
        simp at x0 x1 x2 x3 x4 x5
        clear x
        have f := HK6.out _ (.tail _ (.tail _ (.tail _ (.tail _ (.tail _ (.tail _ (.tail _ (.head _))))))))
        have f0 := f.cell 0
        have f1 := f.cell 1
        have f2 := f.cell 2
        have f3 := f.cell 3
        have f4 := f.cell 4
        have f5 := f.cell 5
        simp at f0 f1 f2 f3 f4 f5
        clear f
        have g := HK6.out _ (.tail _ (.tail _ (.tail _ (.tail _ (.tail _ (.tail _ (.head _)))))))
        have g0 := g.cell 0
        have g1 := g.cell 1
        simp at g0 g1
        clear g
        go_wp2_with fail
        refine (CA3.out _ HE6.out).mono ?_
        rintro e y7 ⟨rfl, hq⟩
        have HE7 := Lib.hid (below_then (below_then HE6.out hq) (below_alloc1 y7 (.cells #[.int .i64 p1, .bool p2, .int .i64 p3, .int .i64 p4, .int .i64 p5, .int .i64 p6] 30))); have HK7 := Lib.hid ((HK6.out.on hq).new 30 #[.int .i64 p1, .bool p2, .int .i64 p3, .int .i64 p4, .int .i64 p5, .int .i64 p6])
        clear hq HE6 HK6 x0 x1 x2 x3 x4 x5 f0 f1 f2 f3 f4 f5 g0 g1 CA3
        go_upto_region 8 with fail
        obtain ⟨W7, hW⟩ : ∃ W7 : World, y7.alloc (.cells #[.int .i64 p1, .bool p2, .int .i64 p3, .int .i64 p4, .int .i64 p5, .int .i64 p6] 30) = W7 := ⟨_, rfl⟩
        rw [hW] at HE7 HK7 ⊢
        clear hW
        obtain ⟨N7, hN⟩ : ∃ N, y7.heap.size = N := ⟨_, rfl⟩
        rw [hN] at HK7 ⊢
        clear hN
        have x := HK7.out _ (.tail _ (.tail _ (.tail _ (.tail _ (.tail _ (.tail _ (.tail _ (.tail _ (.tail _ (.head _))))))))))
        have x0 := x.cell 0
        have x1 := x.cell 1
        have x2 := x.cell 2
        have x3 := x.cell 3
        have x4 := x.cell 4
        have x5 := x.cell 5
        simp at x0 x1 x2 x3 x4 x5
        clear x
        have f := HK7.out _ (.tail _ (.tail _ (.tail _ (.tail _ (.tail _ (.tail _ (.tail _ (.tail _ (.head _)))))))))
        have f0 := f.cell 0
        have f1 := f.cell 1
        have f2 := f.cell 2
        have f3 := f.cell 3
        have f4 := f.cell 4
        have f5 := f.cell 5
        simp at f0 f1 f2 f3 f4 f5
        clear f
        have g := HK7.out _ (.tail _ (.tail _ (.tail _ (.tail _ (.tail _ (.tail _ (.tail _ (.head _))))))))
        have g0 := g.cell 0
        have g1 := g.cell 1
        simp at g0 g1
        clear g
        go_wp2_with fail
        refine (CB3.out _ HE7.out).mono ?_
        rintro e y8 ⟨rfl, hq⟩
        have HE8 := Lib.hid (below_then (below_then HE7.out hq) (below_alloc1 y8 (.cells #[.int .i64 p1, .bool p2, .int .i64 p3, .int .i64 p4, .int .i64 p5, .int .i64 p6] 30))); have HK8 := Lib.hid ((HK7.out.on hq).new 30 #[.int .i64 p1, .bool p2, .int .i64 p3, .int .i64 p4, .int .i64 p5, .int .i64 p6])
        clear hq HE7 HK7 x0 x1 x2 x3 x4 x5 f0 f1 f2 f3 f4 f5 g0 g1 CB3
        go_upto_region 9 with fail
        obtain ⟨W8, hW⟩ : ∃ W8 : World, y8.alloc (.cells #[.int .i64 p1, .bool p2, .int .i64 p3, .int .i64 p4, .int .i64 p5, .int .i64 p6] 30) = W8 := ⟨_, rfl⟩
        rw [hW] at HE8 HK8 ⊢
        clear hW
        obtain ⟨N8, hN⟩ : ∃ N, y8.heap.size = N := ⟨_, rfl⟩
        rw [hN] at HK8 ⊢
        clear hN
        as_aux_lemma =>
          have hS0 : Boxes W8.drew [(N8, 30, #[.int .i64 p1, .bool p2, .int .i64 p3, .int .i64 p4, .int .i64 p5, .int .i64 p6]), (N7, 30, #[.int .i64 p1, .bool p2, .int .i64 p3, .int .i64 p4, .int .i64 p5, .int .i64 p6]), (N6, 35, #[.int .i64 w1, .int .i64 w2, .int .i64 w3, .int .i64 w4, .int .i64 w5, .int .i64 w6]), (N5, 35, #[.int .i64 w1, .int .i64 w2, .int .i64 w3, .int .i64 w4, .int .i64 w5, .int .i64 w6]), (N4, 23, #[.int .i64 ra, .int .i64 rb]), (N3, 23, #[.int .i64 ra, .int .i64 rb]), (N2, 23, #[.int .i64 qa, .int .i64 qb]), (N1, 23, #[.int .i64 qa, .int .i64 qb]), (G + 1 + 1, 23, #[.int .i64 a, .int .i64 b]), (G + 1, 30, #[.int .i64 tk, .bool pr, .int .i64 s0, .int .i64 s1, .int .i64 d0, .int .i64 d1]), (G, 28, #[.int .i64 id, .int .i64 al, .int .i64 ah, .slice A n c, .slice B mm d, .slice C l ee])] := HK8.out
          have HEd := Lib.hid HE8.out.drew
          refine wp_region_held_drew (S := fun w' => Boxes w' [(N8, 30, #[.int .i64 p1, .bool p2, .int .i64 p3, .int .i64 p4, .int .i64 p5, .int .i64 p6]), (N7, 30, #[.int .i64 p1, .bool p2, .int .i64 p3, .int .i64 p4, .int .i64 p5, .int .i64 p6]), (N6, 35, #[.int .i64 w1, .int .i64 w2, .int .i64 w3, .int .i64 w4, .int .i64 w5, .int .i64 w6]), (N5, 35, #[.int .i64 w1, .int .i64 w2, .int .i64 w3, .int .i64 w4, .int .i64 w5, .int .i64 w6]), (N4, 23, #[.int .i64 ra, .int .i64 rb]), (N3, 23, #[.int .i64 ra, .int .i64 rb]), (N2, 23, #[.int .i64 qa, .int .i64 qb]), (N1, 23, #[.int .i64 qa, .int .i64 qb]), (G + 1 + 1, 23, #[.int .i64 a, .int .i64 b]), (G + 1, 30, #[.int .i64 tk, .bool pr, .int .i64 s0, .int .i64 s1, .int .i64 d0, .int .i64 d1]), (G, 28, #[.int .i64 id, .int .i64 al, .int .i64 ah, .slice A n c, .slice B mm d, .slice C l ee])]) (by kernel_rfl) hS0 (fun hHeld => ?_)
          obtain ⟨W9, hW⟩ : ∃ W', W8.drew = W' := ⟨_, rfl⟩
          rw [hW] at HEd hHeld ⊢
          clear hW hS0 HE8 HK8
          refine wpAnyH_take (i := 0) (v := rv qa qb) rfl (by kernel_rfl) (by kernel_rfl) (by kernel_rfl) (fun _ _ _ h => h) (Or.inl ⟨by kernel_rfl, ?_⟩) hHeld ?_
          · intro w hSw; have hz := (hSw _ (.tail _ (.tail _ (.tail _ (.tail _ (.tail _ (.tail _ (.tail _ (.head _))))))))); have c0 := hz.cell 0; have c1 := hz.cell 1; simp at c0 c1; clear hz hSw; go_simp; try with_reducible rfl
          change wpAnyH _ _ _ _ _ _ _ (Act.put _ (some 73) _) _
          try simp only [Act.put, List.setIfInBounds_toArray, List.set_cons_zero, List.set_cons_succ]
          refine wpAnyH_take (i := 1) (v := rv qa qb) rfl (by kernel_rfl) (by kernel_rfl) (by kernel_rfl) (fun _ _ _ h => h) (Or.inl ⟨by kernel_rfl, ?_⟩) hHeld ?_
          · intro w hSw; have hz := (hSw _ (.tail _ (.tail _ (.tail _ (.tail _ (.tail _ (.tail _ (.head _)))))))); have c0 := hz.cell 0; have c1 := hz.cell 1; simp at c0 c1; clear hz hSw; go_simp; try with_reducible rfl
          change wpAnyH _ _ _ _ _ _ _ (Act.put _ (some 74) _) _
          try simp only [Act.put, List.setIfInBounds_toArray, List.set_cons_zero, List.set_cons_succ]
          refine wpAnyH_take (i := 2) (v := .bool true) rfl (by kernel_rfl) (by kernel_rfl) (by kernel_rfl) (fun _ _ _ h => h) (Or.inl ⟨by kernel_rfl, ?_⟩) hHeld ?_
          · intro w hSw; clear hSw; go_simp; try with_reducible rfl
          change wpAnyH _ _ _ _ _ _ _ (Act.put _ (some 75) _) _
          try simp only [Act.put, List.setIfInBounds_toArray, List.set_cons_zero, List.set_cons_succ]
          refine wpAnyH_take (i := 3) (v := .bool true) rfl (by kernel_rfl) (by kernel_rfl) (by kernel_rfl) (fun _ _ _ h => h) (Or.inl ⟨by kernel_rfl, ?_⟩) hHeld ?_
          · intro w hSw; clear hSw; go_simp; try with_reducible rfl
          change wpAnyH _ _ _ _ _ _ _ (Act.put _ (some 76) _) _
          try simp only [Act.put, List.setIfInBounds_toArray, List.set_cons_zero, List.set_cons_succ]
          refine wpAnyH_take (i := 4) (v := rv ra rb) rfl (by kernel_rfl) (by kernel_rfl) (by kernel_rfl) (fun _ _ _ h => h) (Or.inl ⟨by kernel_rfl, ?_⟩) hHeld ?_
          · intro w hSw; have hz := (hSw _ (.tail _ (.tail _ (.tail _ (.tail _ (.tail _ (.head _))))))); have c0 := hz.cell 0; have c1 := hz.cell 1; simp at c0 c1; clear hz hSw; go_simp; try with_reducible rfl
          change wpAnyH _ _ _ _ _ _ _ (Act.put _ (some 77) _) _
          try simp only [Act.put, List.setIfInBounds_toArray, List.set_cons_zero, List.set_cons_succ]
          refine wpAnyH_take (i := 5) (v := rv ra rb) rfl (by kernel_rfl) (by kernel_rfl) (by kernel_rfl) (fun _ _ _ h => h) (Or.inl ⟨by kernel_rfl, ?_⟩) hHeld ?_
          · intro w hSw; have hz := (hSw _ (.tail _ (.tail _ (.tail _ (.tail _ (.head _)))))); have c0 := hz.cell 0; have c1 := hz.cell 1; simp at c0 c1; clear hz hSw; go_simp; try with_reducible rfl
          change wpAnyH _ _ _ _ _ _ _ (Act.put _ (some 78) _) _
          try simp only [Act.put, List.setIfInBounds_toArray, List.set_cons_zero, List.set_cons_succ]
          refine wpAnyH_take (i := 6) (v := .bool true) rfl (by kernel_rfl) (by kernel_rfl) (by kernel_rfl) (fun _ _ _ h => h) (Or.inl ⟨by kernel_rfl, ?_⟩) hHeld ?_
          · intro w hSw; clear hSw; go_simp; try with_reducible rfl
          change wpAnyH _ _ _ _ _ _ _ (Act.put _ (some 79) _) _
          try simp only [Act.put, List.setIfInBounds_toArray, List.set_cons_zero, List.set_cons_succ]
          refine wpAnyH_take (i := 7) (v := .bool true) rfl (by kernel_rfl) (by kernel_rfl) (by kernel_rfl) (fun _ _ _ h => h) (Or.inl ⟨by kernel_rfl, ?_⟩) hHeld ?_
          · intro w hSw; clear hSw; go_simp; try with_reducible rfl
          change wpAnyH _ _ _ _ _ _ _ (Act.put _ (some 80) _) _
          try simp only [Act.put, List.setIfInBounds_toArray, List.set_cons_zero, List.set_cons_succ]
          refine wpAnyH_take (i := 8) (v := .bool true) rfl (by kernel_rfl) (by kernel_rfl) (by kernel_rfl) (fun _ _ _ h => h) (Or.inl ⟨by kernel_rfl, ?_⟩) hHeld ?_
          · intro w hSw; clear hSw; go_simp; try with_reducible rfl
          change wpAnyH _ _ _ _ _ _ _ (Act.put _ (some 81) _) _
          try simp only [Act.put, List.setIfInBounds_toArray, List.set_cons_zero, List.set_cons_succ]
          as_aux_lemma =>
            refine wpAnyH_take (i := 9) (v := .agg #[.int .i64 w1, .int .i64 w2, .int .i64 w3, .int .i64 w4, .int .i64 w5, .int .i64 w6]) rfl (by kernel_rfl) (by kernel_rfl) (by kernel_rfl) (fun _ _ _ h => h) (Or.inl ⟨by kernel_rfl, ?_⟩) hHeld ?_
            · intro w hSw; have hz := (hSw _ (.tail _ (.tail _ (.tail _ (.head _))))); have c0 := hz.cell 0; have c1 := hz.cell 1; have c2 := hz.cell 2; have c3 := hz.cell 3; have c4 := hz.cell 4; have c5 := hz.cell 5; simp at c0 c1 c2 c3 c4 c5; clear hz hSw; go_simp; try with_reducible rfl
            change wpAnyH _ _ _ _ _ _ _ (Act.put _ (some 82) _) _
            try simp only [Act.put, List.setIfInBounds_toArray, List.set_cons_zero, List.set_cons_succ]
            refine wpAnyH_take (i := 10) (v := .agg #[.int .i64 w1, .int .i64 w2, .int .i64 w3, .int .i64 w4, .int .i64 w5, .int .i64 w6]) rfl (by kernel_rfl) (by kernel_rfl) (by kernel_rfl) (fun _ _ _ h => h) (Or.inl ⟨by kernel_rfl, ?_⟩) hHeld ?_
            · intro w hSw; have hz := (hSw _ (.tail _ (.tail _ (.head _)))); have c0 := hz.cell 0; have c1 := hz.cell 1; have c2 := hz.cell 2; have c3 := hz.cell 3; have c4 := hz.cell 4; have c5 := hz.cell 5; simp at c0 c1 c2 c3 c4 c5; clear hz hSw; go_simp; try with_reducible rfl
            change wpAnyH _ _ _ _ _ _ _ (Act.put _ (some 83) _) _
            try simp only [Act.put, List.setIfInBounds_toArray, List.set_cons_zero, List.set_cons_succ]
            refine wpAnyH_take (i := 11) (v := .bool true) rfl (by kernel_rfl) (by kernel_rfl) (by kernel_rfl) (fun _ _ _ h => h) (Or.inl ⟨by kernel_rfl, ?_⟩) hHeld ?_
            · intro w hSw; clear hSw; go_simp; try with_reducible rfl
            change wpAnyH _ _ _ _ _ _ _ (Act.put _ (some 84) _) _
            try simp only [Act.put, List.setIfInBounds_toArray, List.set_cons_zero, List.set_cons_succ]
            refine wpAnyH_take (i := 12) (v := .bool true) rfl (by kernel_rfl) (by kernel_rfl) (by kernel_rfl) (fun _ _ _ h => h) (Or.inl ⟨by kernel_rfl, ?_⟩) hHeld ?_
            · intro w hSw; clear hSw; go_simp; try with_reducible rfl
            change wpAnyH _ _ _ _ _ _ _ (Act.put _ (some 85) _) _
            try simp only [Act.put, List.setIfInBounds_toArray, List.set_cons_zero, List.set_cons_succ]
            refine wpAnyH_take (i := 13) (v := .bool true) rfl (by kernel_rfl) (by kernel_rfl) (by kernel_rfl) (fun _ _ _ h => h) (Or.inl ⟨by kernel_rfl, ?_⟩) hHeld ?_
            · intro w hSw; clear hSw; go_simp; try with_reducible rfl
            change wpAnyH _ _ _ _ _ _ _ (Act.put _ (some 86) _) _
            try simp only [Act.put, List.setIfInBounds_toArray, List.set_cons_zero, List.set_cons_succ]
            as_aux_lemma =>
              refine wpAnyH_take (i := 14) (v := .agg #[.int .i64 p1, .bool p2, .int .i64 p3, .int .i64 p4, .int .i64 p5, .int .i64 p6]) rfl (by kernel_rfl) (by kernel_rfl) (by kernel_rfl) (fun _ _ _ h => h) (Or.inl ⟨by kernel_rfl, ?_⟩) hHeld ?_
              · intro w hSw; have hz := (hSw _ (.tail _ (.head _))); have c0 := hz.cell 0; have c1 := hz.cell 1; have c2 := hz.cell 2; have c3 := hz.cell 3; have c4 := hz.cell 4; have c5 := hz.cell 5; simp at c0 c1 c2 c3 c4 c5; clear hz hSw; go_simp; try with_reducible rfl
              change wpAnyH _ _ _ _ _ _ _ (Act.put _ (some 87) _) _
              try simp only [Act.put, List.setIfInBounds_toArray, List.set_cons_zero, List.set_cons_succ]
              refine wpAnyH_take (i := 15) (v := .agg #[.int .i64 p1, .bool p2, .int .i64 p3, .int .i64 p4, .int .i64 p5, .int .i64 p6]) rfl (by kernel_rfl) (by kernel_rfl) (by kernel_rfl) (fun _ _ _ h => h) (Or.inl ⟨by kernel_rfl, ?_⟩) hHeld ?_
              · intro w hSw; have hz := (hSw _ (.head _)); have c0 := hz.cell 0; have c1 := hz.cell 1; have c2 := hz.cell 2; have c3 := hz.cell 3; have c4 := hz.cell 4; have c5 := hz.cell 5; simp at c0 c1 c2 c3 c4 c5; clear hz hSw; go_simp; try with_reducible rfl
              change wpAnyH _ _ _ _ _ _ _ (Act.put _ (some 88) _) _
              try simp only [Act.put, List.setIfInBounds_toArray, List.set_cons_zero, List.set_cons_succ]
              refine wpAnyH_take (i := 16) (v := .bool true) rfl (by kernel_rfl) (by kernel_rfl) (by kernel_rfl) (fun _ _ _ h => h) (Or.inl ⟨by kernel_rfl, ?_⟩) hHeld ?_
              · intro w hSw; clear hSw; go_simp; try with_reducible rfl
              change wpAnyH _ _ _ _ _ _ _ (Act.put _ (some 89) _) _
              try simp only [Act.put, List.setIfInBounds_toArray, List.set_cons_zero, List.set_cons_succ]
              refine wpAnyH_take (i := 17) (v := .bool true) rfl (by kernel_rfl) (by kernel_rfl) (by kernel_rfl) (fun _ _ _ h => h) (Or.inl ⟨by kernel_rfl, ?_⟩) hHeld ?_
              · intro w hSw; clear hSw; go_simp; try with_reducible rfl
              change wpAnyH _ _ _ _ _ _ _ (Act.put _ (some 90) _) _
              try simp only [Act.put, List.setIfInBounds_toArray, List.set_cons_zero, List.set_cons_succ]
              refine wpAnyH_take (i := 18) (v := .bool true) rfl (by kernel_rfl) (by kernel_rfl) (by kernel_rfl) (fun _ _ _ h => h) (Or.inl ⟨by kernel_rfl, ?_⟩) hHeld ?_
              · intro w hSw; clear hSw; go_simp; try with_reducible rfl
              change wpAnyH _ _ _ _ _ _ _ (Act.put _ (some 91) _) _
              try simp only [Act.put, List.setIfInBounds_toArray, List.set_cons_zero, List.set_cons_succ]
              as_aux_lemma =>
                refine wpAnyH_take (i := 19) (v := .int .i64 qe) rfl (by kernel_rfl) (by kernel_rfl) (by kernel_rfl) (fun _ _ _ h => h) (Or.inl ⟨by kernel_rfl, ?_⟩) hHeld ?_
                · intro w hSw; clear hSw; go_simp; try with_reducible rfl
                change wpAnyH _ _ _ _ _ _ _ (Act.put _ (some 92) _) _
                try simp only [Act.put, List.setIfInBounds_toArray, List.set_cons_zero, List.set_cons_succ]
                refine wpAnyH_take (i := 20) (v := .int .i64 qe) rfl (by kernel_rfl) (by kernel_rfl) (by kernel_rfl) (fun _ _ _ h => h) (Or.inl ⟨by kernel_rfl, ?_⟩) hHeld ?_
                · intro w hSw; clear hSw; go_simp; try with_reducible rfl
                change wpAnyH _ _ _ _ _ _ _ (Act.put _ (some 93) _) _
                try simp only [Act.put, List.setIfInBounds_toArray, List.set_cons_zero, List.set_cons_succ]
                refine wpAnyH_take (i := 21) (v := .bool true) rfl (by kernel_rfl) (by kernel_rfl) (by kernel_rfl) (fun _ _ _ h => h) (Or.inl ⟨by kernel_rfl, ?_⟩) hHeld ?_
                · intro w hSw; clear hSw; go_simp; try with_reducible rfl
                change wpAnyH _ _ _ _ _ _ _ (Act.put _ (some 94) _) _
                try simp only [Act.put, List.setIfInBounds_toArray, List.set_cons_zero, List.set_cons_succ]
                refine wpAnyH_take (i := 22) (v := .bool true) rfl (by kernel_rfl) (by kernel_rfl) (by kernel_rfl) (fun _ _ _ h => h) (Or.inl ⟨by kernel_rfl, ?_⟩) hHeld ?_
                · intro w hSw; clear hSw; go_simp; try with_reducible rfl
                change wpAnyH _ _ _ _ _ _ _ (Act.put _ (some 95) _) _
                try simp only [Act.put, List.setIfInBounds_toArray, List.set_cons_zero, List.set_cons_succ]
                refine wpAnyH_take (i := 23) (v := .bool true) rfl (by kernel_rfl) (by kernel_rfl) (by kernel_rfl) (fun _ _ _ h => h) (Or.inl ⟨by kernel_rfl, ?_⟩) hHeld ?_
                · intro w hSw; clear hSw; go_simp; try with_reducible rfl
                change wpAnyH _ _ _ _ _ _ _ (Act.put _ (some 96) _) _
                try simp only [Act.put, List.setIfInBounds_toArray, List.set_cons_zero, List.set_cons_succ]
                refine wpAnyH_take (i := 24) (v := .int .i64 re) rfl (by kernel_rfl) (by kernel_rfl) (by kernel_rfl) (fun _ _ _ h => h) (Or.inl ⟨by kernel_rfl, ?_⟩) hHeld ?_
                · intro w hSw; clear hSw; go_simp; try with_reducible rfl
                change wpAnyH _ _ _ _ _ _ _ (Act.put _ (some 97) _) _
                try simp only [Act.put, List.setIfInBounds_toArray, List.set_cons_zero, List.set_cons_succ]
                refine wpAnyH_take (i := 25) (v := .int .i64 re) rfl (by kernel_rfl) (by kernel_rfl) (by kernel_rfl) (fun _ _ _ h => h) (Or.inl ⟨by kernel_rfl, ?_⟩) hHeld ?_
                · intro w hSw; clear hSw; go_simp; try with_reducible rfl
                change wpAnyH _ _ _ _ _ _ _ (Act.put _ (some 98) _) _
                try simp only [Act.put, List.setIfInBounds_toArray, List.set_cons_zero, List.set_cons_succ]
                refine wpAnyH_take (i := 26) (v := .bool true) rfl (by kernel_rfl) (by kernel_rfl) (by kernel_rfl) (fun _ _ _ h => h) (Or.inl ⟨by kernel_rfl, ?_⟩) hHeld ?_
                · intro w hSw; clear hSw; go_simp; try with_reducible rfl
                change wpAnyH _ _ _ _ _ _ _ (Act.put _ (some 99) _) _
                try simp only [Act.put, List.setIfInBounds_toArray, List.set_cons_zero, List.set_cons_succ]
                refine wpAnyH_take (i := 27) (v := .bool true) rfl (by kernel_rfl) (by kernel_rfl) (by kernel_rfl) (fun _ _ _ h => h) (Or.inl ⟨by kernel_rfl, ?_⟩) hHeld ?_
                · intro w hSw; clear hSw; go_simp; try with_reducible rfl
                change wpAnyH _ _ _ _ _ _ _ (Act.put _ (some 100) _) _
                try simp only [Act.put, List.setIfInBounds_toArray, List.set_cons_zero, List.set_cons_succ]
                refine wpAnyH_take (i := 28) (v := .bool true) rfl (by kernel_rfl) (by kernel_rfl) (by kernel_rfl) (fun _ _ _ h => h) (Or.inl ⟨by kernel_rfl, ?_⟩) hHeld ?_
                · intro w hSw; clear hSw; go_simp; try with_reducible rfl
                change wpAnyH _ _ _ _ _ _ _ (Act.put _ (some 101) _) _
                try simp only [Act.put, List.setIfInBounds_toArray, List.set_cons_zero, List.set_cons_succ]
                refine wpAnyH_take (i := 29) (v := .int .i64 w7) rfl (by kernel_rfl) (by kernel_rfl) (by kernel_rfl) (fun _ _ _ h => h) (Or.inl ⟨by kernel_rfl, ?_⟩) hHeld ?_
                · intro w hSw; clear hSw; go_simp; try with_reducible rfl
                change wpAnyH _ _ _ _ _ _ _ (Act.put _ (some 102) _) _
                try simp only [Act.put, List.setIfInBounds_toArray, List.set_cons_zero, List.set_cons_succ]
                refine wpAnyH_take (i := 30) (v := .int .i64 w7) rfl (by kernel_rfl) (by kernel_rfl) (by kernel_rfl) (fun _ _ _ h => h) (Or.inl ⟨by kernel_rfl, ?_⟩) hHeld ?_
                · intro w hSw; clear hSw; go_simp; try with_reducible rfl
                change wpAnyH _ _ _ _ _ _ _ (Act.put _ (some 103) _) _
                try simp only [Act.put, List.setIfInBounds_toArray, List.set_cons_zero, List.set_cons_succ]
                refine wpAnyH_take (i := 31) (v := .bool true) rfl (by kernel_rfl) (by kernel_rfl) (by kernel_rfl) (fun _ _ _ h => h) (Or.inl ⟨by kernel_rfl, ?_⟩) hHeld ?_
                · intro w hSw; clear hSw; go_simp; try with_reducible rfl
                change wpAnyH _ _ _ _ _ _ _ (Act.put _ (some 104) _) _
                try simp only [Act.put, List.setIfInBounds_toArray, List.set_cons_zero, List.set_cons_succ]
                refine wpAnyH_take (i := 32) (v := .bool true) rfl (by kernel_rfl) (by kernel_rfl) (by kernel_rfl) (fun _ _ _ h => h) (Or.inl ⟨by kernel_rfl, ?_⟩) hHeld ?_
                · intro w hSw; clear hSw; go_simp; try with_reducible rfl
                change wpAnyH _ _ _ _ _ _ _ (Act.put _ (some 105) _) _
                try simp only [Act.put, List.setIfInBounds_toArray, List.set_cons_zero, List.set_cons_succ]
                refine wpAnyH_take (i := 33) (v := .bool true) rfl (by kernel_rfl) (by kernel_rfl) (by kernel_rfl) (fun _ _ _ h => h) (Or.inl ⟨by kernel_rfl, ?_⟩) hHeld ?_
                · intro w hSw; clear hSw; go_simp; try with_reducible rfl
                change wpAnyH _ _ _ _ _ _ _ (Act.put _ (some 106) _) _
                try simp only [Act.put, List.setIfInBounds_toArray, List.set_cons_zero, List.set_cons_succ]
                refine wpAnyH_take (i := 34) (v := .int .i64 p7) rfl (by kernel_rfl) (by kernel_rfl) (by kernel_rfl) (fun _ _ _ h => h) (Or.inl ⟨by kernel_rfl, ?_⟩) hHeld ?_
                · intro w hSw; clear hSw; go_simp; try with_reducible rfl
                change wpAnyH _ _ _ _ _ _ _ (Act.put _ (some 107) _) _
                try simp only [Act.put, List.setIfInBounds_toArray, List.set_cons_zero, List.set_cons_succ]
                refine wpAnyH_take (i := 35) (v := .int .i64 p7) rfl (by kernel_rfl) (by kernel_rfl) (by kernel_rfl) (fun _ _ _ h => h) (Or.inl ⟨by kernel_rfl, ?_⟩) hHeld ?_
                · intro w hSw; clear hSw; go_simp; try with_reducible rfl
                change wpAnyH _ _ _ _ _ _ _ (Act.put _ (some 108) _) _
                try simp only [Act.put, List.setIfInBounds_toArray, List.set_cons_zero, List.set_cons_succ]
                refine wpAnyH_take (i := 36) (v := .bool true) rfl (by kernel_rfl) (by kernel_rfl) (by kernel_rfl) (fun _ _ _ h => h) (Or.inl ⟨by kernel_rfl, ?_⟩) hHeld ?_
                · intro w hSw; clear hSw; go_simp; try with_reducible rfl
                change wpAnyH _ _ _ _ _ _ _ (Act.put _ (some 109) _) _
                try simp only [Act.put, List.setIfInBounds_toArray, List.set_cons_zero, List.set_cons_succ]
                refine wpAnyH_take (i := 37) (v := .bool true) rfl (by kernel_rfl) (by kernel_rfl) (by kernel_rfl) (fun _ _ _ h => h) (Or.inl ⟨by kernel_rfl, ?_⟩) hHeld ?_
                · intro w hSw; clear hSw; go_simp; try with_reducible rfl
                change wpAnyH _ _ _ _ _ _ _ (Act.put _ (some 110) _) _
                try simp only [Act.put, List.setIfInBounds_toArray, List.set_cons_zero, List.set_cons_succ]
                refine wpAnyH_take (i := 38) (v := .bool true) rfl (by kernel_rfl) (by kernel_rfl) (by kernel_rfl) (fun _ _ _ h => h) (Or.inl ⟨by kernel_rfl, ?_⟩) hHeld ?_
                · intro w hSw; clear hSw; go_simp; try with_reducible rfl
                change wpAnyH _ _ _ _ _ _ _ (Act.put _ (some 111) _) _
                try simp only [Act.put, List.setIfInBounds_toArray, List.set_cons_zero, List.set_cons_succ]
                as_aux_lemma =>
                  refine wpAnyH_take (i := 39) (v := .agg #[.int .i64 id, .int .i64 al, .int .i64 ah, .slice A n c, .slice B mm d, .slice C l ee]) rfl (by kernel_rfl) (by kernel_rfl) (by kernel_rfl) (fun _ _ _ h => h) (Or.inl ⟨by kernel_rfl, ?_⟩) hHeld ?_
                  · intro w hSw; have hz := (hSw _ (.tail _ (.tail _ (.tail _ (.tail _ (.tail _ (.tail _ (.tail _ (.tail _ (.tail _ (.tail _ (.head _)))))))))))); have c0 := hz.cell 0; have c1 := hz.cell 1; have c2 := hz.cell 2; have c3 := hz.cell 3; have c4 := hz.cell 4; have c5 := hz.cell 5; simp at c0 c1 c2 c3 c4 c5; clear hz hSw; go_simp; try with_reducible rfl
                  change wpAnyH _ _ _ _ _ _ _ (Act.put _ (some 112) _) _
                  try simp only [Act.put, List.setIfInBounds_toArray, List.set_cons_zero, List.set_cons_succ]
                  refine wpAnyH_take (i := 41) (v := .agg #[.int .i64 id, .int .i64 al, .int .i64 ah, .slice A n c, .slice B mm d, .slice C l ee]) rfl (by kernel_rfl) (by kernel_rfl) (by kernel_rfl) (fun _ _ _ h => h) (Or.inl ⟨by kernel_rfl, ?_⟩) hHeld ?_
                  · intro w hSw; have hz := (hSw _ (.tail _ (.tail _ (.tail _ (.tail _ (.tail _ (.tail _ (.tail _ (.tail _ (.tail _ (.tail _ (.head _)))))))))))); have c0 := hz.cell 0; have c1 := hz.cell 1; have c2 := hz.cell 2; have c3 := hz.cell 3; have c4 := hz.cell 4; have c5 := hz.cell 5; simp at c0 c1 c2 c3 c4 c5; clear hz hSw; go_simp; try with_reducible rfl
                  change wpAnyH _ _ _ _ _ _ _ (Act.put _ (some 114) _) _
                  try simp only [Act.put, List.setIfInBounds_toArray, List.set_cons_zero, List.set_cons_succ]
                  refine wpAnyH_ready (rs := [40]) (by kernel_rfl) (by simp) ?_
                  refine AllReadyH.cons rfl (fun K hK => ?_) AllReadyH.nil
                  go_simp
                  (with_reducible refine (CA6.out _ HEd.out).mono ?_)
                  rintro e z1 ⟨rfl, hq⟩
                  have HE_1 := Lib.hid (below_then HEd.out hq)
                  have hS := hHeld.on hq
                  clear hq
                  refine hK.out _ _ (hS) (fun hHeld2 => ?_)
                  try simp only [Act.put, List.setIfInBounds_toArray, List.set_cons_zero, List.set_cons_succ]
                  clear hK K hHeld
                  have hHeld := hHeld2
                  clear hHeld2
                  clear hS HEd CA6
                  refine wpAnyH_ready (rs := [42]) (by kernel_rfl) (by simp) ?_
                  refine AllReadyH.cons rfl (fun K hK => ?_) AllReadyH.nil
                  go_simp
                  (with_reducible refine (CB6.out _ HE_1.out).mono ?_)
                  rintro e z2 ⟨rfl, hq⟩
                  have HE_2 := Lib.hid (below_then HE_1.out hq)
                  have hS := hHeld.on hq
                  clear hq
                  refine hK.out _ _ (hS) (fun hHeld2 => ?_)
                  try simp only [Act.put, List.setIfInBounds_toArray, List.set_cons_zero, List.set_cons_succ]
                  clear hK K hHeld
                  have hHeld := hHeld2
                  clear hHeld2
                  clear hS HE_1 CB6
                  as_aux_lemma =>
                    refine wpAnyH_take (i := 43) (v := .bool true) rfl (by kernel_rfl) (by kernel_rfl) (by kernel_rfl) (fun _ _ _ h => h) (Or.inl ⟨by kernel_rfl, ?_⟩) hHeld ?_
                    · intro w hSw; clear hSw; go_simp; try with_reducible rfl
                    change wpAnyH _ _ _ _ _ _ _ (Act.put _ (some 116) _) _
                    try simp only [Act.put, List.setIfInBounds_toArray, List.set_cons_zero, List.set_cons_succ]
                    refine wpAnyH_take (i := 44) (v := .bool true) rfl (by kernel_rfl) (by kernel_rfl) (by kernel_rfl) (fun _ _ _ h => h) (Or.inl ⟨by kernel_rfl, ?_⟩) hHeld ?_
                    · intro w hSw; clear hSw; go_simp; try with_reducible rfl
                    change wpAnyH _ _ _ _ _ _ _ (Act.put _ (some 117) _) _
                    try simp only [Act.put, List.setIfInBounds_toArray, List.set_cons_zero, List.set_cons_succ]
                    refine wpAnyH_take (i := 45) (v := .bool true) rfl (by kernel_rfl) (by kernel_rfl) (by kernel_rfl) (fun _ _ _ h => h) (Or.inl ⟨by kernel_rfl, ?_⟩) hHeld ?_
                    · intro w hSw; clear hSw; go_simp; try with_reducible rfl
                    change wpAnyH _ _ _ _ _ _ _ (Act.put _ (some 118) _) _
                    try simp only [Act.put, List.setIfInBounds_toArray, List.set_cons_zero, List.set_cons_succ]
                    refine wpAnyH_take (i := 46) (v := .agg #[.int .i64 id, .int .i64 al, .int .i64 ah, .slice A n c, .slice B mm d, .slice C l ee]) rfl (by kernel_rfl) (by kernel_rfl) (by kernel_rfl) (fun _ _ _ h => h) (Or.inl ⟨by kernel_rfl, ?_⟩) hHeld ?_
                    · intro w hSw; have hz := (hSw _ (.tail _ (.tail _ (.tail _ (.tail _ (.tail _ (.tail _ (.tail _ (.tail _ (.tail _ (.tail _ (.head _)))))))))))); have c0 := hz.cell 0; have c1 := hz.cell 1; have c2 := hz.cell 2; have c3 := hz.cell 3; have c4 := hz.cell 4; have c5 := hz.cell 5; simp at c0 c1 c2 c3 c4 c5; clear hz hSw; go_simp; try with_reducible rfl
                    change wpAnyH _ _ _ _ _ _ _ (Act.put _ (some 119) _) _
                    try simp only [Act.put, List.setIfInBounds_toArray, List.set_cons_zero, List.set_cons_succ]
                    refine wpAnyH_take (i := 47) (v := .agg #[.int .i64 tk, .bool pr, .int .i64 s0, .int .i64 s1, .int .i64 d0, .int .i64 d1]) rfl (by kernel_rfl) (by kernel_rfl) (by kernel_rfl) (fun _ _ _ h => h) (Or.inl ⟨by kernel_rfl, ?_⟩) hHeld ?_
                    · intro w hSw; have hz := (hSw _ (.tail _ (.tail _ (.tail _ (.tail _ (.tail _ (.tail _ (.tail _ (.tail _ (.tail _ (.head _))))))))))); have c0 := hz.cell 0; have c1 := hz.cell 1; have c2 := hz.cell 2; have c3 := hz.cell 3; have c4 := hz.cell 4; have c5 := hz.cell 5; simp at c0 c1 c2 c3 c4 c5; clear hz hSw; go_simp; try with_reducible rfl
                    change wpAnyH _ _ _ _ _ _ _ (Act.put _ (some 120) _) _
                    try simp only [Act.put, List.setIfInBounds_toArray, List.set_cons_zero, List.set_cons_succ]
                    refine wpAnyH_take (i := 49) (v := .agg #[.int .i64 id, .int .i64 al, .int .i64 ah, .slice A n c, .slice B mm d, .slice C l ee]) rfl (by kernel_rfl) (by kernel_rfl) (by kernel_rfl) (fun _ _ _ h => h) (Or.inl ⟨by kernel_rfl, ?_⟩) hHeld ?_
                    · intro w hSw; have hz := (hSw _ (.tail _ (.tail _ (.tail _ (.tail _ (.tail _ (.tail _ (.tail _ (.tail _ (.tail _ (.tail _ (.head _)))))))))))); have c0 := hz.cell 0; have c1 := hz.cell 1; have c2 := hz.cell 2; have c3 := hz.cell 3; have c4 := hz.cell 4; have c5 := hz.cell 5; simp at c0 c1 c2 c3 c4 c5; clear hz hSw; go_simp; try with_reducible rfl
                    change wpAnyH _ _ _ _ _ _ _ (Act.put _ (some 122) _) _
                    try simp only [Act.put, List.setIfInBounds_toArray, List.set_cons_zero, List.set_cons_succ]
                    refine wpAnyH_take (i := 50) (v := .agg #[.int .i64 tk, .bool pr, .int .i64 s0, .int .i64 s1, .int .i64 d0, .int .i64 d1]) rfl (by kernel_rfl) (by kernel_rfl) (by kernel_rfl) (fun _ _ _ h => h) (Or.inl ⟨by kernel_rfl, ?_⟩) hHeld ?_
                    · intro w hSw; have hz := (hSw _ (.tail _ (.tail _ (.tail _ (.tail _ (.tail _ (.tail _ (.tail _ (.tail _ (.tail _ (.head _))))))))))); have c0 := hz.cell 0; have c1 := hz.cell 1; have c2 := hz.cell 2; have c3 := hz.cell 3; have c4 := hz.cell 4; have c5 := hz.cell 5; simp at c0 c1 c2 c3 c4 c5; clear hz hSw; go_simp; try with_reducible rfl
                    change wpAnyH _ _ _ _ _ _ _ (Act.put _ (some 123) _) _
                    try simp only [Act.put, List.setIfInBounds_toArray, List.set_cons_zero, List.set_cons_succ]
                    as_aux_lemma =>
                      refine wpAnyH_ready (rs := [48]) (by kernel_rfl) (by simp) ?_
                      refine AllReadyH.cons rfl (fun K hK => ?_) AllReadyH.nil
                      go_simp
                      (with_reducible refine (CA7.out _ HE_2.out).mono ?_)
                      rintro e z3 ⟨rfl, hq⟩
                      have HE_3 := Lib.hid (below_then HE_2.out hq)
                      have hS := hHeld.on hq
                      clear hq
                      refine hK.out _ _ (hS) (fun hHeld2 => ?_)
                      try simp only [Act.put, List.setIfInBounds_toArray, List.set_cons_zero, List.set_cons_succ]
                      clear hK K hHeld
                      have hHeld := hHeld2
                      clear hHeld2
                      clear hS HE_2 CA7
                      refine wpAnyH_ready (rs := [51]) (by kernel_rfl) (by simp) ?_
                      refine AllReadyH.cons rfl (fun K hK => ?_) AllReadyH.nil
                      go_simp
                      (with_reducible refine (CB7.out _ HE_3.out).mono ?_)
                      rintro e z4 ⟨rfl, hq⟩
                      have HE_4 := Lib.hid (below_then HE_3.out hq)
                      have hS := hHeld.on hq
                      clear hq
                      refine hK.out _ _ (hS) (fun hHeld2 => ?_)
                      try simp only [Act.put, List.setIfInBounds_toArray, List.set_cons_zero, List.set_cons_succ]
                      clear hK K hHeld
                      have hHeld := hHeld2
                      clear hHeld2
                      clear hS HE_3 CB7
                      as_aux_lemma =>
                        refine wpAnyH_take (i := 52) (v := .bool true) rfl (by kernel_rfl) (by kernel_rfl) (by kernel_rfl) (fun _ _ _ h => h) (Or.inl ⟨by kernel_rfl, ?_⟩) hHeld ?_
                        · intro w hSw; clear hSw; go_simp; try with_reducible rfl
                        change wpAnyH _ _ _ _ _ _ _ (Act.put _ (some 125) _) _
                        try simp only [Act.put, List.setIfInBounds_toArray, List.set_cons_zero, List.set_cons_succ]
                        refine wpAnyH_take (i := 53) (v := .bool true) rfl (by kernel_rfl) (by kernel_rfl) (by kernel_rfl) (fun _ _ _ h => h) (Or.inl ⟨by kernel_rfl, ?_⟩) hHeld ?_
                        · intro w hSw; clear hSw; go_simp; try with_reducible rfl
                        change wpAnyH _ _ _ _ _ _ _ (Act.put _ (some 126) _) _
                        try simp only [Act.put, List.setIfInBounds_toArray, List.set_cons_zero, List.set_cons_succ]
                        refine wpAnyH_take (i := 54) (v := .bool true) rfl (by kernel_rfl) (by kernel_rfl) (by kernel_rfl) (fun _ _ _ h => h) (Or.inl ⟨by kernel_rfl, ?_⟩) hHeld ?_
                        · intro w hSw; clear hSw; go_simp; try with_reducible rfl
                        change wpAnyH _ _ _ _ _ _ _ (Act.put _ (some 127) _) _
                        try simp only [Act.put, List.setIfInBounds_toArray, List.set_cons_zero, List.set_cons_succ]
                        refine wpAnyH_ready (rs := [55]) (by kernel_rfl) (by simp) ?_
                        refine AllReadyH.cons rfl (fun K hK => ?_) AllReadyH.nil
                        go_simp
                        (with_reducible refine (msane_any _).mono ?_)
                        rintro e z5 ⟨rfl, hq⟩
                        have HE_5 := Lib.hid (below_then HE_4.out hq)
                        have hS := hHeld.on hq
                        clear hq
                        refine hK.out _ _ (hS) (fun hHeld2 => ?_)
                        try simp only [Act.put, List.setIfInBounds_toArray, List.set_cons_zero, List.set_cons_succ]
                        clear hK K hHeld
                        have hHeld := hHeld2
                        clear hHeld2
                        clear hS HE_4
                        refine wpAnyH_take (i := 56) (v := .bool true) rfl (by kernel_rfl) (by kernel_rfl) (by kernel_rfl) (fun _ _ _ h => h) (Or.inl ⟨by kernel_rfl, ?_⟩) hHeld ?_
                        · intro w hSw; clear hSw; go_simp; try with_reducible rfl
                        change wpAnyH _ _ _ _ _ _ _ (Act.put _ (some 129) _) _
                        try simp only [Act.put, List.setIfInBounds_toArray, List.set_cons_zero, List.set_cons_succ]
                        refine wpAnyH_take (i := 57) (v := .bool true) rfl (by kernel_rfl) (by kernel_rfl) (by kernel_rfl) (fun _ _ _ h => h) (Or.inl ⟨by kernel_rfl, ?_⟩) hHeld ?_
                        · intro w hSw; clear hSw; go_simp; try with_reducible rfl
                        change wpAnyH _ _ _ _ _ _ _ (Act.put _ (some 6) _) _
                        try simp only [Act.put, List.setIfInBounds_toArray, List.set_cons_zero, List.set_cons_succ]
                        refine wpAnyH_done (by kernel_rfl) ?_ _
                        clear hHeld
                        go_wp2
                        go_ret
                        exact ⟨rfl, HE_5.out⟩
end

end Go.Proofs.YtbcefdaflnlhoaaGreat
