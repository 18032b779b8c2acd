/- The walk of HoldChecks: whatever hold and fill come in, the law returns true. Its condition: the hold's tables lie in memory. -/
import Derived.Test.YtmdilbmgopggaaaGreatQ44
import Derived.Test.YtmdilbmgopggaaaGreatQ47
set_option linter.unusedVariables false
set_option linter.unusedSimpArgs false
set_option linter.constructorNameAsVariable false
namespace Go.Proofs.YtmdilbmgopggaaaGreat

section
open Go.RowKit
section
attribute [local go_sem ↓] eqRange9
set_option maxRecDepth 100000 in
set_option maxHeartbeats 4000000 in
theorem eqWeight (a b c e f g : Int) (w : World) : (Op.equalIn 10000 35 (.agg #[.int .i64 a, .int .i64 b, .int .i64 c, .int .i64 e, .int .i64 f, .int .i64 g]) (.agg #[.int .i64 a, .int .i64 b, .int .i64 c, .int .i64 e, .int .i64 f, .int .i64 g])).run Tryz.prog w = .ok true w := by
  have u3 := Tryz.underlying3
  have hS : Tryz.prog.underlying 35 = some (.struct (Tryz.prog.fieldsOf 35)) := by kernel_rfl
  have hp : Tryz.prog.stoodInHeld 35 = false := by kernel_rfl
  rw [show (10000 : Nat) = 9999 + 1 from rfl, run_equalIn_agg w 9999 35 _ _ hS hp]
  clear hS hp
  simp only [Program.fieldsOf, Tryz.underlying35]
  go_simp
end
@[go_sem] theorem eqGuardWeight (op : BinOp) (x y : Operand) (xs ys : Array Value) (w : World) : (eqGuard op 35 x y (.agg xs) (.agg ys)).run Tryz.prog w = .ok () w :=
  run_eqGuard_agg w op 35 x y xs ys (by kernel_rfl)
theorem eqlWeight (a b c e f g : Int) (w : World) : (binOp .eql 35 (.agg #[.int .i64 a, .int .i64 b, .int .i64 c, .int .i64 e, .int .i64 f, .int .i64 g]) (.agg #[.int .i64 a, .int .i64 b, .int .i64 c, .int .i64 e, .int .i64 f, .int .i64 g])).run Tryz.prog w = .ok (.bool true) w := by
  rw [run_eql_struct, eqWeight]; rfl
attribute [local go_sem ↓] eqlRange neqRange eqlWeight
set_option maxRecDepth 100000 in
set_option maxHeartbeats 4000000 in
theorem holdChecks_walk (h : HoldD) (m : HoldM) (f : FillD) (w : World) (hi : HoldIn w h m) :
    Calls Tryz.prog 3 #[holdV h m, fillV f] w fun e w' => e = .returned (.bool true) ∧ Below w.heap.size w w' := by
  obtain ⟨⟨r0a, r0b, r0e⟩, hr0⟩ : ∃ r, tellS h f (volS h f) = r := ⟨_, rfl⟩
  have CA0 : Hid (∀ W, Below w.heap.size w W → Calls Tryz.prog 15 #[holdV h m, fillV f] W fun e w' => e = .returned (.tuple #[rv r0a r0b, .int .i64 r0e]) ∧ Below W.heap.size W w') := Lib.hid fun W hW => rt_to (hVolume_any h m f W (hi.below hW)) hr0
  have CB0 : Hid (∀ W, Below w.heap.size w W → Calls Tryz.prog 16 #[holdV h m, fillV f] W fun e w' => e = .returned (.tuple #[rv r0a r0b, .int .i64 r0e]) ∧ Below W.heap.size W w') := Lib.hid fun W hW => rt_to (sVolume_any h m f W (hi.below hW)) hr0
  obtain ⟨⟨r1a, r1b, r1e⟩, hr1⟩ : ∃ r, tellS h f (denS h f (volS h f)) = r := ⟨_, rfl⟩
  have CA1 : Hid (∀ W, Below w.heap.size w W → Calls Tryz.prog 17 #[holdV h m, fillV f] W fun e w' => e = .returned (.tuple #[rv r1a r1b, .int .i64 r1e]) ∧ Below W.heap.size W w') := Lib.hid fun W hW => rt_to (hMass_any h m f W (hi.below hW)) hr1
  have CB1 : Hid (∀ W, Below w.heap.size w W → Calls Tryz.prog 18 #[holdV h m, fillV f] W fun e w' => e = .returned (.tuple #[rv r1a r1b, .int .i64 r1e]) ∧ Below W.heap.size W w') := Lib.hid fun W hW => rt_to (sMass_any h m f W (hi.below hW)) hr1
  obtain ⟨⟨r2a, r2b, r2e⟩, hr2⟩ : ∃ r, tellS h f (momS h f) = r := ⟨_, rfl⟩
  have CA2 : Hid (∀ W, Below w.heap.size w W → Calls Tryz.prog 19 #[holdV h m, fillV f] W fun e w' => e = .returned (.tuple #[rv r2a r2b, .int .i64 r2e]) ∧ Below W.heap.size W w') := Lib.hid fun W hW => rt_to (hMoment_any h m f W (hi.below hW)) hr2
  have CB2 : Hid (∀ W, Below w.heap.size w W → Calls Tryz.prog 20 #[holdV h m, fillV f] W fun e w' => e = .returned (.tuple #[rv r2a r2b, .int .i64 r2e]) ∧ Below W.heap.size W w') := Lib.hid fun W hW => rt_to (sMoment_any h m f W (hi.below hW)) hr2
  obtain ⟨⟨r3a, r3b, r3e⟩, hr3⟩ : ∃ r, tellS h f (denS h f (momS h f)) = r := ⟨_, rfl⟩
  have CA3 : Hid (∀ W, Below w.heap.size w W → Calls Tryz.prog 21 #[holdV h m, fillV f] W fun e w' => e = .returned (.tuple #[rv r3a r3b, .int .i64 r3e]) ∧ Below W.heap.size W w') := Lib.hid fun W hW => rt_to (hHeel_any h m f W (hi.below hW)) hr3
  have CB3 : Hid (∀ W, Below w.heap.size w W → Calls Tryz.prog 22 #[holdV h m, fillV f] W fun e w' => e = .returned (.tuple #[rv r3a r3b, .int .i64 r3e]) ∧ Below W.heap.size W w') := Lib.hid fun W hW => rt_to (sHeel_any h m f W (hi.below hW)) hr3
  obtain ⟨⟨r4a, r4b, r4e⟩, hr4⟩ : ∃ r, tellS h f (heiS h f) = r := ⟨_, rfl⟩
  have CA4 : Hid (∀ W, Below w.heap.size w W → Calls Tryz.prog 23 #[holdV h m, fillV f] W fun e w' => e = .returned (.tuple #[rv r4a r4b, .int .i64 r4e]) ∧ Below W.heap.size W w') := Lib.hid fun W hW => rt_to (hHeight_any h m f W (hi.below hW)) hr4
  have CB4 : Hid (∀ W, Below w.heap.size w W → Calls Tryz.prog 24 #[holdV h m, fillV f] W fun e w' => e = .returned (.tuple #[rv r4a r4b, .int .i64 r4e]) ∧ Below W.heap.size W w') := Lib.hid fun W hW => rt_to (sHeight_any h m f W (hi.below hW)) hr4
  obtain ⟨w1, w2, w3, w4, w5, w6, w7, hw⟩ : ∃ w1 w2 w3 w4 w5 w6 w7 : Int, weightV h f = .tuple #[.agg #[.int .i64 w1, .int .i64 w2, .int .i64 w3, .int .i64 w4, .int .i64 w5, .int .i64 w6], .int .i64 w7] := by
    unfold weightV; split
    · exact ⟨_, _, _, _, _, _, _, rfl⟩
    · exact ⟨_, _, _, _, _, _, _, rfl⟩
  have CA5 : Hid (∀ W, Below w.heap.size w W → Calls Tryz.prog 25 #[holdV h m, fillV f] W fun e w' => e = .returned (.tuple #[.agg #[.int .i64 w1, .int .i64 w2, .int .i64 w3, .int .i64 w4, .int .i64 w5, .int .i64 w6], .int .i64 w7]) ∧ Below W.heap.size W w') := Lib.hid fun W hW => by rw [← hw]; exact hWeight_any h m f W (hi.below hW)
  have CB5 : Hid (∀ W, Below w.heap.size w W → Calls Tryz.prog 26 #[holdV h m, fillV f] W fun e w' => e = .returned (.tuple #[.agg #[.int .i64 w1, .int .i64 w2, .int .i64 w3, .int .i64 w4, .int .i64 w5, .int .i64 w6], .int .i64 w7]) ∧ Below W.heap.size W w') := Lib.hid fun W hW => by rw [← hw]; exact sWeight_any h m f W (hi.below hW)
  obtain ⟨E1, hE1⟩ : ∃ E, holdErr h = E := ⟨_, rfl⟩
  obtain ⟨E2, hE2⟩ : ∃ E, fillErr h f = E := ⟨_, rfl⟩
  have CA6 : Hid (∀ W, Below w.heap.size w W → Calls Tryz.prog 27 #[holdV h m] W fun e w' => e = .returned (.int .i64 E1) ∧ Below W.heap.size W w') := Lib.hid fun W hW => int_to (checkHold_any h m W (hi.below hW)) hE1
  have CB6 : Hid (∀ W, Below w.heap.size w W → Calls Tryz.prog 28 #[holdV h m] W fun e w' => e = .returned (.int .i64 E1) ∧ Below W.heap.size W w') := Lib.hid fun W hW => int_to (sCheckHold_any h m W (hi.below hW)) hE1
  have CA7 : Hid (∀ W, Below w.heap.size w W → Calls Tryz.prog 29 #[holdV h m, fillV f] W fun e w' => e = .returned (.int .i64 E2) ∧ Below W.heap.size W w') := Lib.hid fun W hW => int_to (checkFill_any h m f W (hi.below hW)) hE2
  have CB7 : Hid (∀ W, Below w.heap.size w W → Calls Tryz.prog 30 #[holdV h m, fillV f] W fun e w' => e = .returned (.int .i64 E2) ∧ Below W.heap.size W w') := Lib.hid fun W hW => int_to (sCheckFill_any h m f W (hi.below hW)) hE2
  clear hr0 hr1 hr2 hr3 hr4 hw hE1 hE2 hi
  obtain ⟨id, al, ah, vol, mom, hei, t0, t1, u0, u1, v0, v1, h0, h1⟩ := h
  obtain ⟨A, n, c, B, mm, d, C, l, ee⟩ := m
  obtain ⟨fh, st, x0, x1, d0, d1⟩ := f
  have HE := Lib.hid (show Below w.heap.size w ((w.alloc (.cells #[.int .i64 id, .int .i64 al, .int .i64 ah, .slice A n c, .slice B mm d, .slice C l ee, .int .i64 t0, .int .i64 t1, .int .i64 u0, .int .i64 u1, .int .i64 v0, .int .i64 v1, .int .i64 h0, .int .i64 h1] 28)).alloc (.cells #[.int .i64 fh, .int .i64 st, .int .i64 x0, .int .i64 x1, .int .i64 d0, .int .i64 d1] 30)) from below_a2 (Below.refl _ _))
  have HK := Lib.hid (boxes2' w 28 30 #[.int .i64 id, .int .i64 al, .int .i64 ah, .slice A n c, .slice B mm d, .slice C l ee, .int .i64 t0, .int .i64 t1, .int .i64 u0, .int .i64 u1, .int .i64 v0, .int .i64 v1, .int .i64 h0, .int .i64 h1] #[.int .i64 fh, .int .i64 st, .int .i64 x0, .int .i64 x1, .int .i64 d0, .int .i64 d1])
  go_enter Tryz.func3, Tryz.ntmps3
  go_upto_region 1 with fail
  obtain ⟨W0, hW0⟩ : ∃ W0 : World, ((w.alloc (.cells #[.int .i64 id, .int .i64 al, .int .i64 ah, .slice A n c, .slice B mm d, .slice C l ee, .int .i64 t0, .int .i64 t1, .int .i64 u0, .int .i64 u1, .int .i64 v0, .int .i64 v1, .int .i64 h0, .int .i64 h1] 28)).alloc (.cells #[.int .i64 fh, .int .i64 st, .int .i64 x0, .int .i64 x1, .int .i64 d0, .int .i64 d1] 30)) = W0 := ⟨_, rfl⟩
  rw [hW0] at HE HK ⊢
  clear hW0
  obtain ⟨G, hG⟩ : ∃ G, w.heap.size = G := ⟨_, rfl⟩
  rw [hG] at HK ⊢
  have HG := Lib.hid hG; clear hG
  have s := HK.out _ (.tail _ (.head _))
  have s0 := s.cell 0
  have s1 := s.cell 1
  have s2 := s.cell 2
  have s3 := s.cell 3
  have s4 := s.cell 4
  have s5 := s.cell 5
  have s6 := s.cell 6
  have s7 := s.cell 7
  have s8 := s.cell 8
  have s9 := s.cell 9
  have s10 := s.cell 10
  have s11 := s.cell 11
  have s12 := s.cell 12
  have s13 := s.cell 13
  simp at s0 s1 s2 s3 s4 s5 s6 s7 s8 s9 s10 s11 s12 s13
  clear s
  have f := HK.out _ (.head _)
  have f0 := f.cell 0
  have f1 := f.cell 1
  have f2 := f.cell 2
  have f3 := f.cell 3
  have f4 := f.cell 4
  have f5 := f.cell 5
  simp at f0 f1 f2 f3 f4 f5
  clear f
  go_wp2_with fail
  refine (CA0.out _ HE.out).mono ?_
  rintro e y1 ⟨rfl, hb⟩
  have HE1 := Lib.hid (below_then (below_then HE.out hb) (below_alloc1 y1 (.cells #[.int .i64 r0a, .int .i64 r0b] 23))); have HK1 := Lib.hid ((HK.out.on hb).new 23 #[.int .i64 r0a, .int .i64 r0b])
  clear hb HE HK s0 s1 s2 s3 s4 s5 s6 s7 s8 s9 s10 s11 s12 s13 f0 f1 f2 f3 f4 f5 CA0
  go_upto_region 2 with fail
  obtain ⟨W1, hW⟩ : ∃ W1 : World, y1.alloc (.cells #[.int .i64 r0a, .int .i64 r0b] 23) = W1 := ⟨_, rfl⟩
  rw [hW] at HE1 HK1 ⊢
  clear hW
  obtain ⟨N1, hN⟩ : ∃ N, y1.heap.size = N := ⟨_, rfl⟩
  rw [hN] at HK1 ⊢
  clear hN
  have s := HK1.out _ (.tail _ (.tail _ (.head _)))
  have s0 := s.cell 0
  have s1 := s.cell 1
  have s2 := s.cell 2
  have s3 := s.cell 3
  have s4 := s.cell 4
  have s5 := s.cell 5
  have s6 := s.cell 6
  have s7 := s.cell 7
  have s8 := s.cell 8
  have s9 := s.cell 9
  have s10 := s.cell 10
  have s11 := s.cell 11
  have s12 := s.cell 12
  have s13 := s.cell 13
  simp at s0 s1 s2 s3 s4 s5 s6 s7 s8 s9 s10 s11 s12 s13
  clear s
  have f := HK1.out _ (.tail _ (.head _))
  have f0 := f.cell 0
  have f1 := f.cell 1
  have f2 := f.cell 2
  have f3 := f.cell 3
  have f4 := f.cell 4
  have f5 := f.cell 5
  simp at f0 f1 f2 f3 f4 f5
  clear f
  go_wp2_with fail
  refine (CB0.out _ HE1.out).mono ?_
  rintro e y2 ⟨rfl, hb⟩
  have HE2 := Lib.hid (below_then (below_then HE1.out hb) (below_alloc1 y2 (.cells #[.int .i64 r0a, .int .i64 r0b] 23))); have HK2 := Lib.hid ((HK1.out.on hb).new 23 #[.int .i64 r0a, .int .i64 r0b])
  clear hb HE1 HK1 s0 s1 s2 s3 s4 s5 s6 s7 s8 s9 s10 s11 s12 s13 f0 f1 f2 f3 f4 f5 CB0
  go_upto_region 3 with fail
  obtain ⟨W2, hW⟩ : ∃ W2 : World, y2.alloc (.cells #[.int .i64 r0a, .int .i64 r0b] 23) = W2 := ⟨_, rfl⟩
  rw [hW] at HE2 HK2 ⊢
  clear hW
  obtain ⟨N2, hN⟩ : ∃ N, y2.heap.size = N := ⟨_, rfl⟩
  rw [hN] at HK2 ⊢
  clear hN
  as_aux_lemma =>
    have s := HK2.out _ (.tail _ (.tail _ (.tail _ (.head _))))
    have s0 := s.cell 0
    have s1 := s.cell 1
    have s2 := s.cell 2
    have s3 := s.cell 3
    have s4 := s.cell 4
    have s5 := s.cell 5
    have s6 := s.cell 6
    have s7 := s.cell 7
    have s8 := s.cell 8
    have s9 := s.cell 9
    have s10 := s.cell 10
    have s11 := s.cell 11
    have s12 := s.cell 12
    have s13 := s.cell 13
    simp at s0 s1 s2 s3 s4 s5 s6 s7 s8 s9 s10 s11 s12 s13
    clear s
    have f := HK2.out _ (.tail _ (.tail _ (.head _)))
    have f0 := f.cell 0
    have f1 := f.cell 1
    have f2 := f.cell 2
    have f3 := f.cell 3
    have f4 := f.cell 4
    have f5 := f.cell 5
    simp at f0 f1 f2 f3 f4 f5
    clear f
    go_wp2_with fail
    refine (CA1.out _ HE2.out).mono ?_
    rintro e y3 ⟨rfl, hb⟩
    have HE3 := Lib.hid (below_then (below_then HE2.out hb) (below_alloc1 y3 (.cells #[.int .i64 r1a, .int .i64 r1b] 23))); have HK3 := Lib.hid ((HK2.out.on hb).new 23 #[.int .i64 r1a, .int .i64 r1b])
    clear hb HE2 HK2 s0 s1 s2 s3 s4 s5 s6 s7 s8 s9 s10 s11 s12 s13 f0 f1 f2 f3 f4 f5 CA1
    go_upto_region 4 with fail
    obtain ⟨W3, hW⟩ : ∃ W3 : World, y3.alloc (.cells #[.int .i64 r1a, .int .i64 r1b] 23) = W3 := ⟨_, rfl⟩
    rw [hW] at HE3 HK3 ⊢
    clear hW
    obtain ⟨N3, hN⟩ : ∃ N, y3.heap.size = N := ⟨_, rfl⟩
    rw [hN] at HK3 ⊢
    clear hN
    have s := HK3.out _ (.tail _ (.tail _ (.tail _ (.tail _ (.head _)))))
    have s0 := s.cell 0
    have s1 := s.cell 1
    have s2 := s.cell 2
    have s3 := s.cell 3
    have s4 := s.cell 4
    have s5 := s.cell 5
    have s6 := s.cell 6
    have s7 := s.cell 7
    have s8 := s.cell 8
    have s9 := s.cell 9
    have s10 := s.cell 10
    have s11 := s.cell 11
    have s12 := s.cell 12
    have s13 := s.cell 13
    simp at s0 s1 s2 s3 s4 s5 s6 s7 s8 s9 s10 s11 s12 s13
    clear s
    have f := HK3.out _ (.tail _ (.tail _ (.tail _ (.head _))))
    have f0 := f.cell 0
    have f1 := f.cell 1
    have f2 := f.cell 2
    have f3 := f.cell 3
    have f4 := f.cell 4
    have f5 := f.cell 5
    simp at f0 f1 f2 f3 f4 f5
    clear f
    go_wp2_with fail
    refine (CB1.out _ HE3.out).mono ?_
    rintro e y4 ⟨rfl, hb⟩
    have HE4 := Lib.hid (below_then (below_then HE3.out hb) (below_alloc1 y4 (.cells #[.int .i64 r1a, .int .i64 r1b] 23))); have HK4 := Lib.hid ((HK3.out.on hb).new 23 #[.int .i64 r1a, .int .i64 r1b])
    clear hb HE3 HK3 s0 s1 s2 s3 s4 s5 s6 s7 s8 s9 s10 s11 s12 s13 f0 f1 f2 f3 f4 f5 CB1
    go_upto_region 5 with fail
    obtain ⟨W4, hW⟩ : ∃ W4 : World, y4.alloc (.cells #[.int .i64 r1a, .int .i64 r1b] 23) = W4 := ⟨_, rfl⟩
    rw [hW] at HE4 HK4 ⊢
    clear hW
    obtain ⟨N4, hN⟩ : ∃ N, y4.heap.size = N := ⟨_, rfl⟩
    rw [hN] at HK4 ⊢
    clear hN
    as_aux_lemma =>
      have s := HK4.out _ (.tail _ (.tail _ (.tail _ (.tail _ (.tail _ (.head _))))))
      have s0 := s.cell 0
      have s1 := s.cell 1
      have s2 := s.cell 2
      have s3 := s.cell 3
      have s4 := s.cell 4
      have s5 := s.cell 5
      have s6 := s.cell 6
      have s7 := s.cell 7
      have s8 := s.cell 8
      have s9 := s.cell 9
      have s10 := s.cell 10
      have s11 := s.cell 11
      have s12 := s.cell 12
      have s13 := s.cell 13
      simp at s0 s1 s2 s3 s4 s5 s6 s7 s8 s9 s10 s11 s12 s13
      clear s
      have f := HK4.out _ (.tail _ (.tail _ (.tail _ (.tail _ (.head _)))))
      have f0 := f.cell 0
      have f1 := f.cell 1
      have f2 := f.cell 2
      have f3 := f.cell 3
      have f4 := f.cell 4
      have f5 := f.cell 5
      simp at f0 f1 f2 f3 f4 f5
      clear f
      go_wp2_with fail
      refine (CA2.out _ HE4.out).mono ?_
      rintro e y5 ⟨rfl, hb⟩
      have HE5 := Lib.hid (below_then (below_then HE4.out hb) (below_alloc1 y5 (.cells #[.int .i64 r2a, .int .i64 r2b] 23))); have HK5 := Lib.hid ((HK4.out.on hb).new 23 #[.int .i64 r2a, .int .i64 r2b])
      clear hb HE4 HK4 s0 s1 s2 s3 s4 s5 s6 s7 s8 s9 s10 s11 s12 s13 f0 f1 f2 f3 f4 f5 CA2
      go_upto_region 6 with fail
      obtain ⟨W5, hW⟩ : ∃ W5 : World, y5.alloc (.cells #[.int .i64 r2a, .int .i64 r2b] 23) = W5 := ⟨_, rfl⟩
      rw [hW] at HE5 HK5 ⊢
      clear hW
      obtain ⟨N5, hN⟩ : ∃ N, y5.heap.size = N := ⟨_, rfl⟩
      rw [hN] at HK5 ⊢
      clear hN
      have s := HK5.out _ (.tail _ (.tail _ (.tail _ (.tail _ (.tail _ (.tail _ (.head _)))))))
      have s0 := s.cell 0
      have s1 := s.cell 1
      have s2 := s.cell 2
      have s3 := s.cell 3
      have s4 := s.cell 4
      have s5 := s.cell 5
      have s6 := s.cell 6
      have s7 := s.cell 7
      have s8 := s.cell 8
      have s9 := s.cell 9
      have s10 := s.cell 10
      have s11 := s.cell 11
      have s12 := s.cell 12
      have s13 := s.cell 13
      simp at s0 s1 s2 s3 s4 s5 s6 s7 s8 s9 s10 s11 s12 s13
      clear s
      have f := HK5.out _ (.tail _ (.tail _ (.tail _ (.tail _ (.tail _ (.head _))))))
      have f0 := f.cell 0
      have f1 := f.cell 1
      have f2 := f.cell 2
      have f3 := f.cell 3
      have f4 := f.cell 4
      have f5 := f.cell 5
      simp at f0 f1 f2 f3 f4 f5
      clear f
      go_wp2_with fail
      refine (CB2.out _ HE5.out).mono ?_
      rintro e y6 ⟨rfl, hb⟩
      have HE6 := Lib.hid (below_then (below_then HE5.out hb) (below_alloc1 y6 (.cells #[.int .i64 r2a, .int .i64 r2b] 23))); have HK6 := Lib.hid ((HK5.out.on hb).new 23 #[.int .i64 r2a, .int .i64 r2b])
      clear hb HE5 HK5 s0 s1 s2 s3 s4 s5 s6 s7 s8 s9 s10 s11 s12 s13 f0 f1 f2 f3 f4 f5 CB2
      go_upto_region 7 with fail
      obtain ⟨W6, hW⟩ : ∃ W6 : World, y6.alloc (.cells #[.int .i64 r2a, .int .i64 r2b] 23) = W6 := ⟨_, rfl⟩
      rw [hW] at HE6 HK6 ⊢
      clear hW
      obtain ⟨N6, hN⟩ : ∃ N, y6.heap.size = N := ⟨_, rfl⟩
      rw [hN] at HK6 ⊢
      clear hN
      as_aux_lemma =>
        have s := HK6.out _ (.tail _ (.tail _ (.tail _ (.tail _ (.tail _ (.tail _ (.tail _ (.head _))))))))
        have s0 := s.cell 0
        have s1 := s.cell 1
        have s2 := s.cell 2
        have s3 := s.cell 3
        have s4 := s.cell 4
        have s5 := s.cell 5
        have s6 := s.cell 6
        have s7 := s.cell 7
        have s8 := s.cell 8
        have s9 := s.cell 9
        have s10 := s.cell 10
        have s11 := s.cell 11
        have s12 := s.cell 12
        have s13 := s.cell 13
        simp at s0 s1 s2 s3 s4 s5 s6 s7 s8 s9 s10 s11 s12 s13
        clear s
        have f := HK6.out _ (.tail _ (.tail _ (.tail _ (.tail _ (.tail _ (.tail _ (.head _)))))))
        have f0 := f.cell 0
        have f1 := f.cell 1
        have f2 := f.cell 2
        have f3 := f.cell 3
        have f4 := f.cell 4
        have f5 := f.cell 5
        simp at f0 f1 f2 f3 f4 f5
        clear f
        go_wp2_with fail
        refine (CA3.out _ HE6.out).mono ?_
        rintro e y7 ⟨rfl, hb⟩
        have HE7 := Lib.hid (below_then (below_then HE6.out hb) (below_alloc1 y7 (.cells #[.int .i64 r3a, .int .i64 r3b] 23))); have HK7 := Lib.hid ((HK6.out.on hb).new 23 #[.int .i64 r3a, .int .i64 r3b])
        clear hb HE6 HK6 s0 s1 s2 s3 s4 s5 s6 s7 s8 s9 s10 s11 s12 s13 f0 f1 f2 f3 f4 f5 CA3
        go_upto_region 8 with fail
        obtain ⟨W7, hW⟩ : ∃ W7 : World, y7.alloc (.cells #[.int .i64 r3a, .int .i64 r3b] 23) = W7 := ⟨_, rfl⟩
        rw [hW] at HE7 HK7 ⊢
        clear hW
        obtain ⟨N7, hN⟩ : ∃ N, y7.heap.size = N := ⟨_, rfl⟩
        rw [hN] at HK7 ⊢
        clear hN
        have s := HK7.out _ (.tail _ (.tail _ (.tail _ (.tail _ (.tail _ (.tail _ (.tail _ (.tail _ (.head _)))))))))
        have s0 := s.cell 0
        have s1 := s.cell 1
        have s2 := s.cell 2
        have s3 := s.cell 3
        have s4 := s.cell 4
        have s5 := s.cell 5
        have s6 := s.cell 6
        have s7 := s.cell 7
        have s8 := s.cell 8
        have s9 := s.cell 9
        have s10 := s.cell 10
        have s11 := s.cell 11
        have s12 := s.cell 12
        have s13 := s.cell 13
        simp at s0 s1 s2 s3 s4 s5 s6 s7 s8 s9 s10 s11 s12 s13
        clear s
        have f := HK7.out _ (.tail _ (.tail _ (.tail _ (.tail _ (.tail _ (.tail _ (.tail _ (.head _))))))))
        have f0 := f.cell 0
        have f1 := f.cell 1
        have f2 := f.cell 2
        have f3 := f.cell 3
        have f4 := f.cell 4
        have f5 := f.cell 5
        simp at f0 f1 f2 f3 f4 f5
        clear f
        go_wp2_with fail
        refine (CB3.out _ HE7.out).mono ?_
        rintro e y8 ⟨rfl, hb⟩
        have HE8 := Lib.hid (below_then (below_then HE7.out hb) (below_alloc1 y8 (.cells #[.int .i64 r3a, .int .i64 r3b] 23))); have HK8 := Lib.hid ((HK7.out.on hb).new 23 #[.int .i64 r3a, .int .i64 r3b])
        clear hb HE7 HK7 s0 s1 s2 s3 s4 s5 s6 s7 s8 s9 s10 s11 s12 s13 f0 f1 f2 f3 f4 f5 CB3
        go_upto_region 9 with fail
        obtain ⟨W8, hW⟩ : ∃ W8 : World, y8.alloc (.cells #[.int .i64 r3a, .int .i64 r3b] 23) = W8 := ⟨_, rfl⟩
        rw [hW] at HE8 HK8 ⊢
        clear hW
        obtain ⟨N8, hN⟩ : ∃ N, y8.heap.size = N := ⟨_, rfl⟩
        rw [hN] at HK8 ⊢
        clear hN
        as_aux_lemma =>
          have s := HK8.out _ (.tail _ (.tail _ (.tail _ (.tail _ (.tail _ (.tail _ (.tail _ (.tail _ (.tail _ (.head _))))))))))
          have s0 := s.cell 0
          have s1 := s.cell 1
          have s2 := s.cell 2
          have s3 := s.cell 3
          have s4 := s.cell 4
          have s5 := s.cell 5
          have s6 := s.cell 6
          have s7 := s.cell 7
          have s8 := s.cell 8
          have s9 := s.cell 9
          have s10 := s.cell 10
          have s11 := s.cell 11
          have s12 := s.cell 12
          have s13 := s.cell 13
          simp at s0 s1 s2 s3 s4 s5 s6 s7 s8 s9 s10 s11 s12 s13
          clear s
          have f := HK8.out _ (.tail _ (.tail _ (.tail _ (.tail _ (.tail _ (.tail _ (.tail _ (.tail _ (.head _)))))))))
          have f0 := f.cell 0
          have f1 := f.cell 1
          have f2 := f.cell 2
          have f3 := f.cell 3
          have f4 := f.cell 4
          have f5 := f.cell 5
          simp at f0 f1 f2 f3 f4 f5
          clear f
          go_wp2_with fail
          refine (CA4.out _ HE8.out).mono ?_
          rintro e y9 ⟨rfl, hb⟩
          have HE9 := Lib.hid (below_then (below_then HE8.out hb) (below_alloc1 y9 (.cells #[.int .i64 r4a, .int .i64 r4b] 23))); have HK9 := Lib.hid ((HK8.out.on hb).new 23 #[.int .i64 r4a, .int .i64 r4b])
          clear hb HE8 HK8 s0 s1 s2 s3 s4 s5 s6 s7 s8 s9 s10 s11 s12 s13 f0 f1 f2 f3 f4 f5 CA4
          go_upto_region 10 with fail
          obtain ⟨W9, hW⟩ : ∃ W9 : World, y9.alloc (.cells #[.int .i64 r4a, .int .i64 r4b] 23) = W9 := ⟨_, rfl⟩
          rw [hW] at HE9 HK9 ⊢
          clear hW
          obtain ⟨N9, hN⟩ : ∃ N, y9.heap.size = N := ⟨_, rfl⟩
          rw [hN] at HK9 ⊢
          clear hN
          have s := HK9.out _ (.tail _ (.tail _ (.tail _ (.tail _ (.tail _ (.tail _ (.tail _ (.tail _ (.tail _ (.tail _ (.head _)))))))))))
          have s0 := s.cell 0
          have s1 := s.cell 1
          have s2 := s.cell 2
          have s3 := s.cell 3
          have s4 := s.cell 4
          have s5 := s.cell 5
          have s6 := s.cell 6
          have s7 := s.cell 7
          have s8 := s.cell 8
          have s9 := s.cell 9
          have s10 := s.cell 10
          have s11 := s.cell 11
          have s12 := s.cell 12
          have s13 := s.cell 13
          simp at s0 s1 s2 s3 s4 s5 s6 s7 s8 s9 s10 s11 s12 s13
          clear s
          have f := HK9.out _ (.tail _ (.tail _ (.tail _ (.tail _ (.tail _ (.tail _ (.tail _ (.tail _ (.tail _ (.head _))))))))))
          have f0 := f.cell 0
          have f1 := f.cell 1
          have f2 := f.cell 2
          have f3 := f.cell 3
          have f4 := f.cell 4
          have f5 := f.cell 5
          simp at f0 f1 f2 f3 f4 f5
          clear f
          go_wp2_with fail
          refine (CB4.out _ HE9.out).mono ?_
          rintro e y10 ⟨rfl, hb⟩
          have HE10 := Lib.hid (below_then (below_then HE9.out hb) (below_alloc1 y10 (.cells #[.int .i64 r4a, .int .i64 r4b] 23))); have HK10 := Lib.hid ((HK9.out.on hb).new 23 #[.int .i64 r4a, .int .i64 r4b])
          clear hb HE9 HK9 s0 s1 s2 s3 s4 s5 s6 s7 s8 s9 s10 s11 s12 s13 f0 f1 f2 f3 f4 f5 CB4
          go_upto_region 11 with fail
          obtain ⟨W10, hW⟩ : ∃ W10 : World, y10.alloc (.cells #[.int .i64 r4a, .int .i64 r4b] 23) = W10 := ⟨_, rfl⟩
          rw [hW] at HE10 HK10 ⊢
          clear hW
          obtain ⟨N10, hN⟩ : ∃ N, y10.heap.size = N := ⟨_, rfl⟩
          rw [hN] at HK10 ⊢
          clear hN
          as_aux_lemma =>
            have s := HK10.out _ (.tail _ (.tail _ (.tail _ (.tail _ (.tail _ (.tail _ (.tail _ (.tail _ (.tail _ (.tail _ (.tail _ (.head _))))))))))))
            have s0 := s.cell 0
            have s1 := s.cell 1
            have s2 := s.cell 2
            have s3 := s.cell 3
            have s4 := s.cell 4
            have s5 := s.cell 5
            have s6 := s.cell 6
            have s7 := s.cell 7
            have s8 := s.cell 8
            have s9 := s.cell 9
            have s10 := s.cell 10
            have s11 := s.cell 11
            have s12 := s.cell 12
            have s13 := s.cell 13
            simp at s0 s1 s2 s3 s4 s5 s6 s7 s8 s9 s10 s11 s12 s13
            clear s
            have f := HK10.out _ (.tail _ (.tail _ (.tail _ (.tail _ (.tail _ (.tail _ (.tail _ (.tail _ (.tail _ (.tail _ (.head _)))))))))))
            have f0 := f.cell 0
            have f1 := f.cell 1
            have f2 := f.cell 2
            have f3 := f.cell 3
            have f4 := f.cell 4
            have f5 := f.cell 5
            simp at f0 f1 f2 f3 f4 f5
            clear f
            go_wp2_with fail
            refine (CA5.out _ HE10.out).mono ?_
            rintro e y11 ⟨rfl, hb⟩
            have HE11 := Lib.hid (below_then (below_then HE10.out hb) (below_alloc1 y11 (.cells #[.int .i64 w1, .int .i64 w2, .int .i64 w3, .int .i64 w4, .int .i64 w5, .int .i64 w6] 35))); have HK11 := Lib.hid ((HK10.out.on hb).new 35 #[.int .i64 w1, .int .i64 w2, .int .i64 w3, .int .i64 w4, .int .i64 w5, .int .i64 w6])
            clear hb HE10 HK10 s0 s1 s2 s3 s4 s5 s6 s7 s8 s9 s10 s11 s12 s13 f0 f1 f2 f3 f4 f5 CA5
            go_upto_region 12 with fail
            obtain ⟨W11, hW⟩ : ∃ W11 : World, y11.alloc (.cells #[.int .i64 w1, .int .i64 w2, .int .i64 w3, .int .i64 w4, .int .i64 w5, .int .i64 w6] 35) = W11 := ⟨_, rfl⟩
            rw [hW] at HE11 HK11 ⊢
            clear hW
            obtain ⟨N11, hN⟩ : ∃ N, y11.heap.size = N := ⟨_, rfl⟩
            rw [hN] at HK11 ⊢
            clear hN
            have s := HK11.out _ (.tail _ (.tail _ (.tail _ (.tail _ (.tail _ (.tail _ (.tail _ (.tail _ (.tail _ (.tail _ (.tail _ (.tail _ (.head _)))))))))))))
            have s0 := s.cell 0
            have s1 := s.cell 1
            have s2 := s.cell 2
            have s3 := s.cell 3
            have s4 := s.cell 4
            have s5 := s.cell 5
            have s6 := s.cell 6
            have s7 := s.cell 7
            have s8 := s.cell 8
            have s9 := s.cell 9
            have s10 := s.cell 10
            have s11 := s.cell 11
            have s12 := s.cell 12
            have s13 := s.cell 13
            simp at s0 s1 s2 s3 s4 s5 s6 s7 s8 s9 s10 s11 s12 s13
            clear s
            have f := HK11.out _ (.tail _ (.tail _ (.tail _ (.tail _ (.tail _ (.tail _ (.tail _ (.tail _ (.tail _ (.tail _ (.tail _ (.head _))))))))))))
            have f0 := f.cell 0
            have f1 := f.cell 1
            have f2 := f.cell 2
            have f3 := f.cell 3
            have f4 := f.cell 4
            have f5 := f.cell 5
            simp at f0 f1 f2 f3 f4 f5
            clear f
            go_wp2_with fail
            refine (CB5.out _ HE11.out).mono ?_
            rintro e y12 ⟨rfl, hb⟩
            have HE12 := Lib.hid (below_then (below_then HE11.out hb) (below_alloc1 y12 (.cells #[.int .i64 w1, .int .i64 w2, .int .i64 w3, .int .i64 w4, .int .i64 w5, .int .i64 w6] 35))); have HK12 := Lib.hid ((HK11.out.on hb).new 35 #[.int .i64 w1, .int .i64 w2, .int .i64 w3, .int .i64 w4, .int .i64 w5, .int .i64 w6])
            clear hb HE11 HK11 s0 s1 s2 s3 s4 s5 s6 s7 s8 s9 s10 s11 s12 s13 f0 f1 f2 f3 f4 f5 CB5
            go_upto_region 13 with fail
            obtain ⟨W12, hW⟩ : ∃ W12 : World, y12.alloc (.cells #[.int .i64 w1, .int .i64 w2, .int .i64 w3, .int .i64 w4, .int .i64 w5, .int .i64 w6] 35) = W12 := ⟨_, rfl⟩
            rw [hW] at HE12 HK12 ⊢
            clear hW
            obtain ⟨N12, hN⟩ : ∃ N, y12.heap.size = N := ⟨_, rfl⟩
            rw [hN] at HK12 ⊢
            clear hN
            as_aux_lemma =>
              have a2_ := HK12.out _ (.tail _ (.tail _ (.tail _ (.tail _ (.tail _ (.tail _ (.tail _ (.tail _ (.tail _ (.tail _ (.tail _ (.head _))))))))))))
              have a2_0 := a2_.cell 0
              have a2_1 := a2_.cell 1
              simp at a2_0 a2_1
              clear a2_
              have a3_ := HK12.out _ (.tail _ (.tail _ (.tail _ (.tail _ (.tail _ (.tail _ (.tail _ (.tail _ (.tail _ (.tail _ (.head _)))))))))))
              have a3_0 := a3_.cell 0
              have a3_1 := a3_.cell 1
              simp at a3_0 a3_1
              clear a3_
              have a4_ := HK12.out _ (.tail _ (.tail _ (.tail _ (.tail _ (.tail _ (.tail _ (.tail _ (.tail _ (.tail _ (.head _))))))))))
              have a4_0 := a4_.cell 0
              have a4_1 := a4_.cell 1
              simp at a4_0 a4_1
              clear a4_
              have a5_ := HK12.out _ (.tail _ (.tail _ (.tail _ (.tail _ (.tail _ (.tail _ (.tail _ (.tail _ (.head _)))))))))
              have a5_0 := a5_.cell 0
              have a5_1 := a5_.cell 1
              simp at a5_0 a5_1
              clear a5_
              have a6_ := HK12.out _ (.tail _ (.tail _ (.tail _ (.tail _ (.tail _ (.tail _ (.tail _ (.head _))))))))
              have a6_0 := a6_.cell 0
              have a6_1 := a6_.cell 1
              simp at a6_0 a6_1
              clear a6_
              have a7_ := HK12.out _ (.tail _ (.tail _ (.tail _ (.tail _ (.tail _ (.tail _ (.head _)))))))
              have a7_0 := a7_.cell 0
              have a7_1 := a7_.cell 1
              simp at a7_0 a7_1
              clear a7_
              have a8_ := HK12.out _ (.tail _ (.tail _ (.tail _ (.tail _ (.tail _ (.head _))))))
              have a8_0 := a8_.cell 0
              have a8_1 := a8_.cell 1
              simp at a8_0 a8_1
              clear a8_
              have a9_ := HK12.out _ (.tail _ (.tail _ (.tail _ (.tail _ (.head _)))))
              have a9_0 := a9_.cell 0
              have a9_1 := a9_.cell 1
              simp at a9_0 a9_1
              clear a9_
              have a10_ := HK12.out _ (.tail _ (.tail _ (.tail _ (.head _))))
              have a10_0 := a10_.cell 0
              have a10_1 := a10_.cell 1
              simp at a10_0 a10_1
              clear a10_
              have a11_ := HK12.out _ (.tail _ (.tail _ (.head _)))
              have a11_0 := a11_.cell 0
              have a11_1 := a11_.cell 1
              simp at a11_0 a11_1
              clear a11_
              have a12_ := HK12.out _ (.tail _ (.head _))
              have a12_0 := a12_.cell 0
              have a12_1 := a12_.cell 1
              have a12_2 := a12_.cell 2
              have a12_3 := a12_.cell 3
              have a12_4 := a12_.cell 4
              have a12_5 := a12_.cell 5
              simp at a12_0 a12_1 a12_2 a12_3 a12_4 a12_5
              clear a12_
              have a13_ := HK12.out _ (.head _)
              have a13_0 := a13_.cell 0
              have a13_1 := a13_.cell 1
              have a13_2 := a13_.cell 2
              have a13_3 := a13_.cell 3
              have a13_4 := a13_.cell 4
              have a13_5 := a13_.cell 5
              simp at a13_0 a13_1 a13_2 a13_3 a13_4 a13_5
              clear a13_
              go_upto_region 15 with fail
              clear a2_0 a2_1 a3_0 a3_1 a4_0 a4_1 a5_0 a5_1 a6_0 a6_1 a7_0 a7_1 a8_0 a8_1 a9_0 a9_1 a10_0 a10_1 a11_0 a11_1 a12_0 a12_1 a12_2 a12_3 a12_4 a12_5 a13_0 a13_1 a13_2 a13_3 a13_4 a13_5
              as_aux_lemma =>
                have HKs : Hid (Boxes W12 [(G + 1, 30, #[.int .i64 fh, .int .i64 st, .int .i64 x0, .int .i64 x1, .int .i64 d0, .int .i64 d1]), (G, 28, #[.int .i64 id, .int .i64 al, .int .i64 ah, .slice A n c, .slice B mm d, .slice C l ee, .int .i64 t0, .int .i64 t1, .int .i64 u0, .int .i64 u1, .int .i64 v0, .int .i64 v1, .int .i64 h0, .int .i64 h1])]) := Lib.hid (fun x hx => by
                  rcases List.mem_cons.1 hx with h | hx
                  · rw [h]; exact HK12.out _ (.tail _ (.tail _ (.tail _ (.tail _ (.tail _ (.tail _ (.tail _ (.tail _ (.tail _ (.tail _ (.tail _ (.tail _ (.head _)))))))))))))
                  · rw [List.mem_singleton.1 hx]; exact HK12.out _ (.tail _ (.tail _ (.tail _ (.tail _ (.tail _ (.tail _ (.tail _ (.tail _ (.tail _ (.tail _ (.tail _ (.tail _ (.tail _ (.head _)))))))))))))))
                clear HK12
                have hS0 : Boxes W12.drew [(G + 1, 30, #[.int .i64 fh, .int .i64 st, .int .i64 x0, .int .i64 x1, .int .i64 d0, .int .i64 d1]), (G, 28, #[.int .i64 id, .int .i64 al, .int .i64 ah, .slice A n c, .slice B mm d, .slice C l ee, .int .i64 t0, .int .i64 t1, .int .i64 u0, .int .i64 u1, .int .i64 v0, .int .i64 v1, .int .i64 h0, .int .i64 h1])] := HKs.out
                have HEd := Lib.hid HE12.out.drew
                refine wp_region_held_drew (S := fun w' => Boxes w' [(G + 1, 30, #[.int .i64 fh, .int .i64 st, .int .i64 x0, .int .i64 x1, .int .i64 d0, .int .i64 d1]), (G, 28, #[.int .i64 id, .int .i64 al, .int .i64 ah, .slice A n c, .slice B mm d, .slice C l ee, .int .i64 t0, .int .i64 t1, .int .i64 u0, .int .i64 u1, .int .i64 v0, .int .i64 v1, .int .i64 h0, .int .i64 h1])]) (by kernel_rfl) hS0 (fun hHeld => ?_)
                obtain ⟨W13, hW⟩ : ∃ W', W12.drew = W' := ⟨_, rfl⟩
                rw [hW] at HEd hHeld ⊢
                clear hW hS0 HE12 HKs
                refine wpAnyH_take (i := 0) (v := .bool true) rfl (by kernel_rfl) (by kernel_rfl) (by kernel_rfl) (fun _ _ _ h => h) (Or.inl ⟨by kernel_rfl, ?_⟩) hHeld ?_
                · intro w hSw; clear hSw; go_simp; try with_reducible rfl
                change wpAnyH _ _ _ _ _ _ _ (Act.put _ (some 159) _) _
                try simp only [Act.put, List.setIfInBounds_toArray, List.set_cons_zero, List.set_cons_succ]
                refine wpAnyH_take (i := 1) (v := .bool true) rfl (by kernel_rfl) (by kernel_rfl) (by kernel_rfl) (fun _ _ _ h => h) (Or.inl ⟨by kernel_rfl, ?_⟩) hHeld ?_
                · intro w hSw; clear hSw; go_simp; try with_reducible rfl
                change wpAnyH _ _ _ _ _ _ _ (Act.put _ (some 160) _) _
                try simp only [Act.put, List.setIfInBounds_toArray, List.set_cons_zero, List.set_cons_succ]
                refine wpAnyH_take (i := 2) (v := .bool true) rfl (by kernel_rfl) (by kernel_rfl) (by kernel_rfl) (fun _ _ _ h => h) (Or.inl ⟨by kernel_rfl, ?_⟩) hHeld ?_
                · intro w hSw; clear hSw; go_simp; try with_reducible rfl
                change wpAnyH _ _ _ _ _ _ _ (Act.put _ (some 161) _) _
                try simp only [Act.put, List.setIfInBounds_toArray, List.set_cons_zero, List.set_cons_succ]
                refine wpAnyH_take (i := 3) (v := .bool true) rfl (by kernel_rfl) (by kernel_rfl) (by kernel_rfl) (fun _ _ _ h => h) (Or.inl ⟨by kernel_rfl, ?_⟩) hHeld ?_
                · intro w hSw; clear hSw; go_simp; try with_reducible rfl
                change wpAnyH _ _ _ _ _ _ _ (Act.put _ (some 162) _) _
                try simp only [Act.put, List.setIfInBounds_toArray, List.set_cons_zero, List.set_cons_succ]
                refine wpAnyH_take (i := 4) (v := .bool true) rfl (by kernel_rfl) (by kernel_rfl) (by kernel_rfl) (fun _ _ _ h => h) (Or.inl ⟨by kernel_rfl, ?_⟩) hHeld ?_
                · intro w hSw; clear hSw; go_simp; try with_reducible rfl
                change wpAnyH _ _ _ _ _ _ _ (Act.put _ (some 163) _) _
                try simp only [Act.put, List.setIfInBounds_toArray, List.set_cons_zero, List.set_cons_succ]
                refine wpAnyH_take (i := 5) (v := .agg #[.int .i64 id, .int .i64 al, .int .i64 ah, .slice A n c, .slice B mm d, .slice C l ee, .int .i64 t0, .int .i64 t1, .int .i64 u0, .int .i64 u1, .int .i64 v0, .int .i64 v1, .int .i64 h0, .int .i64 h1]) rfl (by kernel_rfl) (by kernel_rfl) (by kernel_rfl) (fun _ _ _ h => h) (Or.inl ⟨by kernel_rfl, ?_⟩) hHeld ?_
                · intro w hSw; have hz := (hSw _ (.tail _ (.head _))); have c0 := hz.cell 0; have c1 := hz.cell 1; have c2 := hz.cell 2; have c3 := hz.cell 3; have c4 := hz.cell 4; have c5 := hz.cell 5; have c6 := hz.cell 6; have c7 := hz.cell 7; have c8 := hz.cell 8; have c9 := hz.cell 9; have c10 := hz.cell 10; have c11 := hz.cell 11; have c12 := hz.cell 12; have c13 := hz.cell 13; simp at c0 c1 c2 c3 c4 c5 c6 c7 c8 c9 c10 c11 c12 c13; clear hz hSw; go_simp; try with_reducible rfl
                change wpAnyH _ _ _ _ _ _ _ (Act.put _ (some 164) _) _
                try simp only [Act.put, List.setIfInBounds_toArray, List.set_cons_zero, List.set_cons_succ]
                refine wpAnyH_take (i := 7) (v := .agg #[.int .i64 id, .int .i64 al, .int .i64 ah, .slice A n c, .slice B mm d, .slice C l ee, .int .i64 t0, .int .i64 t1, .int .i64 u0, .int .i64 u1, .int .i64 v0, .int .i64 v1, .int .i64 h0, .int .i64 h1]) rfl (by kernel_rfl) (by kernel_rfl) (by kernel_rfl) (fun _ _ _ h => h) (Or.inl ⟨by kernel_rfl, ?_⟩) hHeld ?_
                · intro w hSw; have hz := (hSw _ (.tail _ (.head _))); have c0 := hz.cell 0; have c1 := hz.cell 1; have c2 := hz.cell 2; have c3 := hz.cell 3; have c4 := hz.cell 4; have c5 := hz.cell 5; have c6 := hz.cell 6; have c7 := hz.cell 7; have c8 := hz.cell 8; have c9 := hz.cell 9; have c10 := hz.cell 10; have c11 := hz.cell 11; have c12 := hz.cell 12; have c13 := hz.cell 13; simp at c0 c1 c2 c3 c4 c5 c6 c7 c8 c9 c10 c11 c12 c13; clear hz hSw; go_simp; try with_reducible rfl
                change wpAnyH _ _ _ _ _ _ _ (Act.put _ (some 166) _) _
                try simp only [Act.put, List.setIfInBounds_toArray, List.set_cons_zero, List.set_cons_succ]
                as_aux_lemma =>
                  refine wpAnyH_ready (rs := [6]) (by kernel_rfl) (by simp) ?_
                  refine AllReadyH.cons rfl (fun K hK => ?_) AllReadyH.nil
                  go_simp
                  (with_reducible refine (CA6.out _ HEd.out).mono ?_)
                  rintro e z1 ⟨rfl, hb⟩
                  have HE_1 := Lib.hid (below_then HEd.out hb)
                  have hS := hHeld.on hb
                  clear hb
                  refine hK.out _ _ (hS) (fun hHeld2 => ?_)
                  try simp only [Act.put, List.setIfInBounds_toArray, List.set_cons_zero, List.set_cons_succ]
                  clear hK K hHeld
                  have hHeld := hHeld2
                  clear hHeld2
                  clear hS HEd CA6
                  refine wpAnyH_ready (rs := [8]) (by kernel_rfl) (by simp) ?_
                  refine AllReadyH.cons rfl (fun K hK => ?_) AllReadyH.nil
                  go_simp
                  (with_reducible refine (CB6.out _ HE_1.out).mono ?_)
                  rintro e z2 ⟨rfl, hb⟩
                  have HE_2 := Lib.hid (below_then HE_1.out hb)
                  have hS := hHeld.on hb
                  clear hb
                  refine hK.out _ _ (hS) (fun hHeld2 => ?_)
                  try simp only [Act.put, List.setIfInBounds_toArray, List.set_cons_zero, List.set_cons_succ]
                  clear hK K hHeld
                  have hHeld := hHeld2
                  clear hHeld2
                  clear hS HE_1 CB6
                  as_aux_lemma =>
                    refine wpAnyH_take (i := 9) (v := .bool true) rfl (by kernel_rfl) (by kernel_rfl) (by kernel_rfl) (fun _ _ _ h => h) (Or.inl ⟨by kernel_rfl, ?_⟩) hHeld ?_
                    · intro w hSw; clear hSw; go_simp; try with_reducible rfl
                    change wpAnyH _ _ _ _ _ _ _ (Act.put _ (some 168) _) _
                    try simp only [Act.put, List.setIfInBounds_toArray, List.set_cons_zero, List.set_cons_succ]
                    refine wpAnyH_take (i := 10) (v := .bool true) rfl (by kernel_rfl) (by kernel_rfl) (by kernel_rfl) (fun _ _ _ h => h) (Or.inl ⟨by kernel_rfl, ?_⟩) hHeld ?_
                    · intro w hSw; clear hSw; go_simp; try with_reducible rfl
                    change wpAnyH _ _ _ _ _ _ _ (Act.put _ (some 169) _) _
                    try simp only [Act.put, List.setIfInBounds_toArray, List.set_cons_zero, List.set_cons_succ]
                    refine wpAnyH_take (i := 11) (v := .bool true) rfl (by kernel_rfl) (by kernel_rfl) (by kernel_rfl) (fun _ _ _ h => h) (Or.inl ⟨by kernel_rfl, ?_⟩) hHeld ?_
                    · intro w hSw; clear hSw; go_simp; try with_reducible rfl
                    change wpAnyH _ _ _ _ _ _ _ (Act.put _ (some 170) _) _
                    try simp only [Act.put, List.setIfInBounds_toArray, List.set_cons_zero, List.set_cons_succ]
                    refine wpAnyH_take (i := 12) (v := .agg #[.int .i64 id, .int .i64 al, .int .i64 ah, .slice A n c, .slice B mm d, .slice C l ee, .int .i64 t0, .int .i64 t1, .int .i64 u0, .int .i64 u1, .int .i64 v0, .int .i64 v1, .int .i64 h0, .int .i64 h1]) rfl (by kernel_rfl) (by kernel_rfl) (by kernel_rfl) (fun _ _ _ h => h) (Or.inl ⟨by kernel_rfl, ?_⟩) hHeld ?_
                    · intro w hSw; have hz := (hSw _ (.tail _ (.head _))); have c0 := hz.cell 0; have c1 := hz.cell 1; have c2 := hz.cell 2; have c3 := hz.cell 3; have c4 := hz.cell 4; have c5 := hz.cell 5; have c6 := hz.cell 6; have c7 := hz.cell 7; have c8 := hz.cell 8; have c9 := hz.cell 9; have c10 := hz.cell 10; have c11 := hz.cell 11; have c12 := hz.cell 12; have c13 := hz.cell 13; simp at c0 c1 c2 c3 c4 c5 c6 c7 c8 c9 c10 c11 c12 c13; clear hz hSw; go_simp; try with_reducible rfl
                    change wpAnyH _ _ _ _ _ _ _ (Act.put _ (some 171) _) _
                    try simp only [Act.put, List.setIfInBounds_toArray, List.set_cons_zero, List.set_cons_succ]
                    refine wpAnyH_take (i := 13) (v := .agg #[.int .i64 fh, .int .i64 st, .int .i64 x0, .int .i64 x1, .int .i64 d0, .int .i64 d1]) rfl (by kernel_rfl) (by kernel_rfl) (by kernel_rfl) (fun _ _ _ h => h) (Or.inl ⟨by kernel_rfl, ?_⟩) hHeld ?_
                    · intro w hSw; have hz := (hSw _ (.head _)); have c0 := hz.cell 0; have c1 := hz.cell 1; have c2 := hz.cell 2; have c3 := hz.cell 3; have c4 := hz.cell 4; have c5 := hz.cell 5; simp at c0 c1 c2 c3 c4 c5; clear hz hSw; go_simp; try with_reducible rfl
                    change wpAnyH _ _ _ _ _ _ _ (Act.put _ (some 172) _) _
                    try simp only [Act.put, List.setIfInBounds_toArray, List.set_cons_zero, List.set_cons_succ]
                    refine wpAnyH_take (i := 15) (v := .agg #[.int .i64 id, .int .i64 al, .int .i64 ah, .slice A n c, .slice B mm d, .slice C l ee, .int .i64 t0, .int .i64 t1, .int .i64 u0, .int .i64 u1, .int .i64 v0, .int .i64 v1, .int .i64 h0, .int .i64 h1]) rfl (by kernel_rfl) (by kernel_rfl) (by kernel_rfl) (fun _ _ _ h => h) (Or.inl ⟨by kernel_rfl, ?_⟩) hHeld ?_
                    · intro w hSw; have hz := (hSw _ (.tail _ (.head _))); have c0 := hz.cell 0; have c1 := hz.cell 1; have c2 := hz.cell 2; have c3 := hz.cell 3; have c4 := hz.cell 4; have c5 := hz.cell 5; have c6 := hz.cell 6; have c7 := hz.cell 7; have c8 := hz.cell 8; have c9 := hz.cell 9; have c10 := hz.cell 10; have c11 := hz.cell 11; have c12 := hz.cell 12; have c13 := hz.cell 13; simp at c0 c1 c2 c3 c4 c5 c6 c7 c8 c9 c10 c11 c12 c13; clear hz hSw; go_simp; try with_reducible rfl
                    change wpAnyH _ _ _ _ _ _ _ (Act.put _ (some 174) _) _
                    try simp only [Act.put, List.setIfInBounds_toArray, List.set_cons_zero, List.set_cons_succ]
                    refine wpAnyH_take (i := 16) (v := .agg #[.int .i64 fh, .int .i64 st, .int .i64 x0, .int .i64 x1, .int .i64 d0, .int .i64 d1]) rfl (by kernel_rfl) (by kernel_rfl) (by kernel_rfl) (fun _ _ _ h => h) (Or.inl ⟨by kernel_rfl, ?_⟩) hHeld ?_
                    · intro w hSw; have hz := (hSw _ (.head _)); have c0 := hz.cell 0; have c1 := hz.cell 1; have c2 := hz.cell 2; have c3 := hz.cell 3; have c4 := hz.cell 4; have c5 := hz.cell 5; simp at c0 c1 c2 c3 c4 c5; clear hz hSw; go_simp; try with_reducible rfl
                    change wpAnyH _ _ _ _ _ _ _ (Act.put _ (some 175) _) _
                    try simp only [Act.put, List.setIfInBounds_toArray, List.set_cons_zero, List.set_cons_succ]
                    as_aux_lemma =>
                      refine wpAnyH_ready (rs := [14]) (by kernel_rfl) (by simp) ?_
                      refine AllReadyH.cons rfl (fun K hK => ?_) AllReadyH.nil
                      go_simp
                      (with_reducible refine (CA7.out _ HE_2.out).mono ?_)
                      rintro e z3 ⟨rfl, hb⟩
                      have HE_3 := Lib.hid (below_then HE_2.out hb)
                      have hS := hHeld.on hb
                      clear hb
                      refine hK.out _ _ (hS) (fun hHeld2 => ?_)
                      try simp only [Act.put, List.setIfInBounds_toArray, List.set_cons_zero, List.set_cons_succ]
                      clear hK K hHeld
                      have hHeld := hHeld2
                      clear hHeld2
                      clear hS HE_2 CA7
                      refine wpAnyH_ready (rs := [17]) (by kernel_rfl) (by simp) ?_
                      refine AllReadyH.cons rfl (fun K hK => ?_) AllReadyH.nil
                      go_simp
                      (with_reducible refine (CB7.out _ HE_3.out).mono ?_)
                      rintro e z4 ⟨rfl, hb⟩
                      have HE_4 := Lib.hid (below_then HE_3.out hb)
                      have hS := hHeld.on hb
                      clear hb
                      refine hK.out _ _ (hS) (fun hHeld2 => ?_)
                      try simp only [Act.put, List.setIfInBounds_toArray, List.set_cons_zero, List.set_cons_succ]
                      clear hK K hHeld
                      have hHeld := hHeld2
                      clear hHeld2
                      clear hS HE_3 CB7
                      as_aux_lemma =>
                        refine wpAnyH_take (i := 18) (v := .bool true) rfl (by kernel_rfl) (by kernel_rfl) (by kernel_rfl) (fun _ _ _ h => h) (Or.inl ⟨by kernel_rfl, ?_⟩) hHeld ?_
                        · intro w hSw; clear hSw; go_simp; try with_reducible rfl
                        change wpAnyH _ _ _ _ _ _ _ (Act.put _ (some 177) _) _
                        try simp only [Act.put, List.setIfInBounds_toArray, List.set_cons_zero, List.set_cons_succ]
                        refine wpAnyH_take (i := 19) (v := .bool true) rfl (by kernel_rfl) (by kernel_rfl) (by kernel_rfl) (fun _ _ _ h => h) (Or.inl ⟨by kernel_rfl, ?_⟩) hHeld ?_
                        · intro w hSw; clear hSw; go_simp; try with_reducible rfl
                        change wpAnyH _ _ _ _ _ _ _ (Act.put _ (some 178) _) _
                        try simp only [Act.put, List.setIfInBounds_toArray, List.set_cons_zero, List.set_cons_succ]
                        refine wpAnyH_take (i := 20) (v := .bool true) rfl (by kernel_rfl) (by kernel_rfl) (by kernel_rfl) (fun _ _ _ h => h) (Or.inl ⟨by kernel_rfl, ?_⟩) hHeld ?_
                        · intro w hSw; clear hSw; go_simp; try with_reducible rfl
                        change wpAnyH _ _ _ _ _ _ _ (Act.put _ (some 179) _) _
                        try simp only [Act.put, List.setIfInBounds_toArray, List.set_cons_zero, List.set_cons_succ]
                        refine wpAnyH_ready (rs := [21]) (by kernel_rfl) (by simp) ?_
                        refine AllReadyH.cons rfl (fun K hK => ?_) AllReadyH.nil
                        go_simp
                        (with_reducible refine (msane_any _).mono ?_)
                        rintro e z5 ⟨rfl, hb⟩
                        have HE_5 := Lib.hid (below_then HE_4.out hb)
                        have hS := hHeld.on hb
                        clear hb
                        refine hK.out _ _ (hS) (fun hHeld2 => ?_)
                        try simp only [Act.put, List.setIfInBounds_toArray, List.set_cons_zero, List.set_cons_succ]
                        clear hK K hHeld
                        have hHeld := hHeld2
                        clear hHeld2
                        clear hS HE_4
                        refine wpAnyH_take (i := 22) (v := .bool true) rfl (by kernel_rfl) (by kernel_rfl) (by kernel_rfl) (fun _ _ _ h => h) (Or.inl ⟨by kernel_rfl, ?_⟩) hHeld ?_
                        · intro w hSw; clear hSw; go_simp; try with_reducible rfl
                        change wpAnyH _ _ _ _ _ _ _ (Act.put _ (some 181) _) _
                        try simp only [Act.put, List.setIfInBounds_toArray, List.set_cons_zero, List.set_cons_succ]
                        refine wpAnyH_take (i := 23) (v := .bool true) rfl (by kernel_rfl) (by kernel_rfl) (by kernel_rfl) (fun _ _ _ h => h) (Or.inl ⟨by kernel_rfl, ?_⟩) hHeld ?_
                        · intro w hSw; clear hSw; go_simp; try with_reducible rfl
                        change wpAnyH _ _ _ _ _ _ _ (Act.put _ (some 4) _) _
                        try simp only [Act.put, List.setIfInBounds_toArray, List.set_cons_zero, List.set_cons_succ]
                        refine wpAnyH_done (by kernel_rfl) ?_ _
                        clear hHeld
                        go_wp2
                        go_ret
                        exact ⟨rfl, HE_5.out⟩
end

end Go.Proofs.YtmdilbmgopggaaaGreat
