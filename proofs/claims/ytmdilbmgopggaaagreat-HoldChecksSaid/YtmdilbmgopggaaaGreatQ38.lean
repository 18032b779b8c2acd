/- The contracts of Volume, Mass, Moment, Heel and Height (the specification of layer 2). Their condition: the hold's tables lie in memory. -/
import Derived.Test.YtmdilbmgopggaaaGreatQ37
set_option linter.unusedVariables false
set_option linter.unusedSimpArgs false
set_option linter.constructorNameAsVariable false
namespace Go.Proofs.YtmdilbmgopggaaaGreat

section
open Go.RowKit

set_option maxRecDepth 100000 in
set_option maxHeartbeats 4000000 in
theorem sVolume_any (h : HoldD) (m : HoldM) (f : FillD) (w : World) (hi : HoldIn w h m) :
    Calls Tryz.prog 16 #[holdV h m, fillV f] w fun e w' => e = .returned (rt (tellS h f (volS h f))) ∧ Below w.heap.size w w' := by
  obtain ⟨E, hE⟩ : ∃ E, fillErr h f = E := ⟨_, rfl⟩
  obtain ⟨R, hR⟩ : ∃ R, tellS h f (volS h f) = R := ⟨_, rfl⟩
  obtain ⟨⟨va, vb⟩, hV⟩ : ∃ v, volS h f = v := ⟨_, rfl⟩
  have HR : Hid ((if E = 0 then (va, vb, 0) else (0, 0, E)) = R) := Lib.hid (by rw [← hR]; unfold tellS; rw [hE, hV])
  have C1 : Hid (∀ W, Below w.heap.size w W → Calls Tryz.prog 30 #[holdV h m, fillV f] W fun e w' => e = .returned (.int .i64 E) ∧ Below W.heap.size W w') := Lib.hid fun W hW => int_to (sCheckFill_any h m f W (hi.below hW)) hE
  have C2 : Hid (E = 0 → ∀ W, Below w.heap.size w W → Calls Tryz.prog 84 #[holdV h m, fillV f] W fun e w' => e = .returned (rv va vb) ∧ Below W.heap.size W w') := Lib.hid fun e W hW => by
    have := svol_to h m f W (hi.below hW) (fill_state (hE.trans e)).1 (fill_state (hE.trans e)).2
    rw [hV] at this; exact this
  rw [hR]
  clear hR hE hV hi
  obtain ⟨id, al, ah, vol, mom, hei, t0, t1, u0, u1, v0, v1, h0, h1⟩ := h
  obtain ⟨A, n, c, B, mm, d, C, l, ee⟩ := m
  obtain ⟨fh, st, x0, x1, d0, d1⟩ := f
  have HE := Lib.hid (show Below w.heap.size w (((w.alloc (.cells #[.int .i64 id, .int .i64 al, .int .i64 ah, .slice A n c, .slice B mm d, .slice C l ee, .int .i64 t0, .int .i64 t1, .int .i64 u0, .int .i64 u1, .int .i64 v0, .int .i64 v1, .int .i64 h0, .int .i64 h1] 28)).alloc (.cells #[.int .i64 fh, .int .i64 st, .int .i64 x0, .int .i64 x1, .int .i64 d0, .int .i64 d1] 30)).alloc (.cells #[.int .i64 0, .int .i64 0] 23)) from below_a3 (Below.refl _ _))
  have HK := Lib.hid (boxes3' w 28 30 23 #[.int .i64 id, .int .i64 al, .int .i64 ah, .slice A n c, .slice B mm d, .slice C l ee, .int .i64 t0, .int .i64 t1, .int .i64 u0, .int .i64 u1, .int .i64 v0, .int .i64 v1, .int .i64 h0, .int .i64 h1] #[.int .i64 fh, .int .i64 st, .int .i64 x0, .int .i64 x1, .int .i64 d0, .int .i64 d1] #[.int .i64 0, .int .i64 0])
  go_enter Tryz.func16, Tryz.ntmps16
  go_wp2_with fail
  obtain ⟨W0, hW0⟩ : ∃ W0, (((w.alloc (.cells #[.int .i64 id, .int .i64 al, .int .i64 ah, .slice A n c, .slice B mm d, .slice C l ee, .int .i64 t0, .int .i64 t1, .int .i64 u0, .int .i64 u1, .int .i64 v0, .int .i64 v1, .int .i64 h0, .int .i64 h1] 28)).alloc (.cells #[.int .i64 fh, .int .i64 st, .int .i64 x0, .int .i64 x1, .int .i64 d0, .int .i64 d1] 30)).alloc (.cells #[.int .i64 0, .int .i64 0] 23)) = W0 := ⟨_, rfl⟩
  rw [hW0] at HE HK ⊢
  clear hW0
  obtain ⟨G, hG⟩ : ∃ G, w.heap.size = G := ⟨_, rfl⟩
  rw [hG] at HK ⊢
  have HG := Lib.hid hG; clear hG
  refine (C1.out _ HE.out).mono ?_
  rintro e w1 ⟨rfl, hb⟩
  have HE1 := Lib.hid (below_then HE.out hb); have HK1 := Lib.hid (HK.out.on hb)
  clear hb HE HK C1
  by_cases g : E = 0
  · have eR := HR.out
    rw [if_pos g] at eR
    subst eR
    have D2 := Lib.hid (C2.out g)
    clear HR C2
    subst g
    have hc := HK1.out _ (.tail _ (.tail _ (.head _)))
    have hc0 := hc.cell 0
    have hc1 := hc.cell 1
    have hc2 := hc.cell 2
    have hc3 := hc.cell 3
    have hc4 := hc.cell 4
    have hc5 := hc.cell 5
    have hc6 := hc.cell 6
    have hc7 := hc.cell 7
    have hc8 := hc.cell 8
    have hc9 := hc.cell 9
    have hc10 := hc.cell 10
    have hc11 := hc.cell 11
    have hc12 := hc.cell 12
    have hc13 := hc.cell 13
    simp at hc0 hc1 hc2 hc3 hc4 hc5 hc6 hc7 hc8 hc9 hc10 hc11 hc12 hc13
    clear hc
    have f := HK1.out _ (.tail _ (.head _))
    have f0 := f.cell 0
    have f1 := f.cell 1
    have f2 := f.cell 2
    have f3 := f.cell 3
    have f4 := f.cell 4
    have f5 := f.cell 5
    simp at f0 f1 f2 f3 f4 f5
    clear f
    go_wp2_with fail
    refine (D2.out _ HE1.out).mono ?_
    rintro e y1 ⟨rfl, hb⟩
    have HE2 := Lib.hid (below_then (below_then HE1.out hb) (below_alloc1 y1 (.cells #[.int .i64 va, .int .i64 vb] 23))); have HK2 := Lib.hid ((HK1.out.on hb).new 23 #[.int .i64 va, .int .i64 vb])
    clear hb HE1 HK1 D2 hc0 hc1 hc2 hc3 hc4 hc5 hc6 hc7 hc8 hc9 hc10 hc11 hc12 hc13 f0 f1 f2 f3 f4 f5
    go_upto_region 5 with fail
    obtain ⟨W2, hW⟩ : ∃ W2, y1.alloc (.cells #[.int .i64 va, .int .i64 vb] 23) = W2 := ⟨_, rfl⟩
    rw [hW] at HE2 HK2 ⊢
    clear hW
    obtain ⟨N2, hN⟩ : ∃ N, y1.heap.size = N := ⟨_, rfl⟩
    rw [hN] at HK2 ⊢
    clear hN
    have a := HK2.out _ (.head _)
    have a0 := a.cell 0
    have a1 := a.cell 1
    simp at a0 a1
    clear a
    have z := HK2.out _ (.tail _ (.head _))
    have z0 := z.cell 0
    have zf0 := z.frozen 0
    have z1 := z.cell 1
    have zf1 := z.frozen 1
    have zl := z.lt
    simp at z0 zf0 z1 zf1
    clear z
    go_wp2
    refine bodyPost_ret (v := rt (va, vb, 0)) (by simp [results, Tryz.results16, go_sem, z0, z1]) rfl ⟨rfl, ?_⟩
    have hg := HG.out
    repeat (first | exact HE2.out | refine Below.setCell ?_ (by simp <;> omega) _)
  · have eR := HR.out
    rw [if_neg g] at eR
    subst eR
    clear HR C2 
    have z := HK1.out _ (.head _)
    have z0 := z.cell 0
    have zf0 := z.frozen 0
    have z1 := z.cell 1
    have zf1 := z.frozen 1
    have zl := z.lt
    simp at z0 zf0 z1 zf1
    clear z
    go_wp2
    refine bodyPost_ret (v := rt (0, 0, E)) (by simp [results, Tryz.results16, go_sem, z0, z1]) rfl ⟨rfl, ?_⟩
    have hg := HG.out
    repeat (first | exact HE1.out | refine Below.setCell ?_ (by simp <;> omega) _)

set_option maxRecDepth 100000 in
set_option maxHeartbeats 4000000 in
theorem sMass_any (h : HoldD) (m : HoldM) (f : FillD) (w : World) (hi : HoldIn w h m) :
    Calls Tryz.prog 18 #[holdV h m, fillV f] w fun e w' => e = .returned (rt (tellS h f (denS h f (volS h f)))) ∧ Below w.heap.size w w' := by
  obtain ⟨E, hE⟩ : ∃ E, fillErr h f = E := ⟨_, rfl⟩
  obtain ⟨R, hR⟩ : ∃ R, tellS h f (denS h f (volS h f)) = R := ⟨_, rfl⟩
  obtain ⟨⟨va, vb⟩, hV⟩ : ∃ v, volS h f = v := ⟨_, rfl⟩
  obtain ⟨⟨ka, kb⟩, hD⟩ : ∃ k, denS h f (volS h f) = k := ⟨_, rfl⟩
  have HR : Hid ((if E = 0 then (ka, kb, 0) else (0, 0, E)) = R) := Lib.hid (by rw [← hR]; unfold tellS; rw [hE, hD])
  have C3 : Hid (E = 0 → ∀ W, Calls Tryz.prog 87 #[rv va vb, rv f.d0 f.d1] W fun e w' => e = .returned (rv ka kb) ∧ Below W.heap.size W w') := Lib.hid fun e W => by
    have hA : Amt (va, vb) := by rw [← hV]; exact vol_amt (hE.trans e)
    obtain ⟨d1, d2, d3⟩ := fill_dens (hE.trans e)
    have q := den_heavy (hE.trans e) hA
    rw [hV] at hD
    rw [hD] at q
    dsimp only at q
    have := sheavy_any va vb f.d0 f.d1 W (heavy_small hA.1 (by have := hA.2.1; have := hA.2.2; dsimp only at *; omega) d1 (by omega)) (heavy_small (by have := hA.1; have := hA.2.1; dsimp only at *; omega) hA.2.2 (by omega) d3)
    rw [q] at this
    exact this
  have C1 : Hid (∀ W, Below w.heap.size w W → Calls Tryz.prog 30 #[holdV h m, fillV f] W fun e w' => e = .returned (.int .i64 E) ∧ Below W.heap.size W w') := Lib.hid fun W hW => int_to (sCheckFill_any h m f W (hi.below hW)) hE
  have C2 : Hid (E = 0 → ∀ W, Below w.heap.size w W → Calls Tryz.prog 84 #[holdV h m, fillV f] W fun e w' => e = .returned (rv va vb) ∧ Below W.heap.size W w') := Lib.hid fun e W hW => by
    have := svol_to h m f W (hi.below hW) (fill_state (hE.trans e)).1 (fill_state (hE.trans e)).2
    rw [hV] at this; exact this
  rw [hR]
  clear hR hE hV hi hD
  obtain ⟨id, al, ah, vol, mom, hei, t0, t1, u0, u1, v0, v1, h0, h1⟩ := h
  obtain ⟨A, n, c, B, mm, d, C, l, ee⟩ := m
  obtain ⟨fh, st, x0, x1, d0, d1⟩ := f
  have HE := Lib.hid (show Below w.heap.size w (((w.alloc (.cells #[.int .i64 id, .int .i64 al, .int .i64 ah, .slice A n c, .slice B mm d, .slice C l ee, .int .i64 t0, .int .i64 t1, .int .i64 u0, .int .i64 u1, .int .i64 v0, .int .i64 v1, .int .i64 h0, .int .i64 h1] 28)).alloc (.cells #[.int .i64 fh, .int .i64 st, .int .i64 x0, .int .i64 x1, .int .i64 d0, .int .i64 d1] 30)).alloc (.cells #[.int .i64 0, .int .i64 0] 23)) from below_a3 (Below.refl _ _))
  have HK := Lib.hid (boxes3' w 28 30 23 #[.int .i64 id, .int .i64 al, .int .i64 ah, .slice A n c, .slice B mm d, .slice C l ee, .int .i64 t0, .int .i64 t1, .int .i64 u0, .int .i64 u1, .int .i64 v0, .int .i64 v1, .int .i64 h0, .int .i64 h1] #[.int .i64 fh, .int .i64 st, .int .i64 x0, .int .i64 x1, .int .i64 d0, .int .i64 d1] #[.int .i64 0, .int .i64 0])
  go_enter Tryz.func18, Tryz.ntmps18
  go_wp2_with fail
  obtain ⟨W0, hW0⟩ : ∃ W0, (((w.alloc (.cells #[.int .i64 id, .int .i64 al, .int .i64 ah, .slice A n c, .slice B mm d, .slice C l ee, .int .i64 t0, .int .i64 t1, .int .i64 u0, .int .i64 u1, .int .i64 v0, .int .i64 v1, .int .i64 h0, .int .i64 h1] 28)).alloc (.cells #[.int .i64 fh, .int .i64 st, .int .i64 x0, .int .i64 x1, .int .i64 d0, .int .i64 d1] 30)).alloc (.cells #[.int .i64 0, .int .i64 0] 23)) = W0 := ⟨_, rfl⟩
  rw [hW0] at HE HK ⊢
  clear hW0
  obtain ⟨G, hG⟩ : ∃ G, w.heap.size = G := ⟨_, rfl⟩
  rw [hG] at HK ⊢
  have HG := Lib.hid hG; clear hG
  refine (C1.out _ HE.out).mono ?_
  rintro e w1 ⟨rfl, hb⟩
  have HE1 := Lib.hid (below_then HE.out hb); have HK1 := Lib.hid (HK.out.on hb)
  clear hb HE HK C1
  by_cases g : E = 0
  · have eR := HR.out
    rw [if_pos g] at eR
    subst eR
    have D2 := Lib.hid (C2.out g)
    clear HR C2
    have D3 := Lib.hid (C3.out g)
    clear C3
    subst g
    have hc := HK1.out _ (.tail _ (.tail _ (.head _)))
    have hc0 := hc.cell 0
    have hc1 := hc.cell 1
    have hc2 := hc.cell 2
    have hc3 := hc.cell 3
    have hc4 := hc.cell 4
    have hc5 := hc.cell 5
    have hc6 := hc.cell 6
    have hc7 := hc.cell 7
    have hc8 := hc.cell 8
    have hc9 := hc.cell 9
    have hc10 := hc.cell 10
    have hc11 := hc.cell 11
    have hc12 := hc.cell 12
    have hc13 := hc.cell 13
    simp at hc0 hc1 hc2 hc3 hc4 hc5 hc6 hc7 hc8 hc9 hc10 hc11 hc12 hc13
    clear hc
    have f := HK1.out _ (.tail _ (.head _))
    have f0 := f.cell 0
    have f1 := f.cell 1
    have f2 := f.cell 2
    have f3 := f.cell 3
    have f4 := f.cell 4
    have f5 := f.cell 5
    simp at f0 f1 f2 f3 f4 f5
    clear f
    go_wp2_with fail
    refine (D2.out _ HE1.out).mono ?_
    rintro e y1 ⟨rfl, hb⟩
    have HE2 := Lib.hid (below_then (below_then HE1.out hb) (below_alloc1 y1 (.cells #[.int .i64 va, .int .i64 vb] 23))); have HK2 := Lib.hid ((HK1.out.on hb).new 23 #[.int .i64 va, .int .i64 vb])
    clear hb HE1 HK1 D2 hc0 hc1 hc2 hc3 hc4 hc5 hc6 hc7 hc8 hc9 hc10 hc11 hc12 hc13 f0 f1 f2 f3 f4 f5
    go_upto_region 5 with fail
    obtain ⟨W2, hW⟩ : ∃ W2, y1.alloc (.cells #[.int .i64 va, .int .i64 vb] 23) = W2 := ⟨_, rfl⟩
    rw [hW] at HE2 HK2 ⊢
    clear hW
    obtain ⟨N2, hN⟩ : ∃ N, y1.heap.size = N := ⟨_, rfl⟩
    rw [hN] at HK2 ⊢
    clear hN
    have a := HK2.out _ (.head _)
    have a0 := a.cell 0
    have a1 := a.cell 1
    simp at a0 a1
    clear a
    have f := HK2.out _ (.tail _ (.tail _ (.head _)))
    have f4 := f.cell 4
    have f5 := f.cell 5
    simp at f4 f5
    clear f
    go_wp2_with fail
    refine (D3.out _).mono ?_
    rintro e y2 ⟨rfl, hb⟩
    have HE3 := Lib.hid (below_then HE2.out hb); have HK3 := Lib.hid (HK2.out.on hb)
    clear hb HE2 HK2 D3 a0 a1 f4 f5
    have z := HK3.out _ (.tail _ (.head _))
    have z0 := z.cell 0
    have zf0 := z.frozen 0
    have z1 := z.cell 1
    have zf1 := z.frozen 1
    have zl := z.lt
    simp at z0 zf0 z1 zf1
    clear z
    go_wp2
    refine bodyPost_ret (v := rt (ka, kb, 0)) (by simp [results, Tryz.results18, go_sem, z0, z1]) rfl ⟨rfl, ?_⟩
    have hg := HG.out
    repeat (first | exact HE3.out | refine Below.setCell ?_ (by simp <;> omega) _)
  · have eR := HR.out
    rw [if_neg g] at eR
    subst eR
    clear HR C2 C3
    have z := HK1.out _ (.head _)
    have z0 := z.cell 0
    have zf0 := z.frozen 0
    have z1 := z.cell 1
    have zf1 := z.frozen 1
    have zl := z.lt
    simp at z0 zf0 z1 zf1
    clear z
    go_wp2
    refine bodyPost_ret (v := rt (0, 0, E)) (by simp [results, Tryz.results18, go_sem, z0, z1]) rfl ⟨rfl, ?_⟩
    have hg := HG.out
    repeat (first | exact HE1.out | refine Below.setCell ?_ (by simp <;> omega) _)

set_option maxRecDepth 100000 in
set_option maxHeartbeats 4000000 in
theorem sMoment_any (h : HoldD) (m : HoldM) (f : FillD) (w : World) (hi : HoldIn w h m) :
    Calls Tryz.prog 20 #[holdV h m, fillV f] w fun e w' => e = .returned (rt (tellS h f (momS h f))) ∧ Below w.heap.size w w' := by
  obtain ⟨E, hE⟩ : ∃ E, fillErr h f = E := ⟨_, rfl⟩
  obtain ⟨R, hR⟩ : ∃ R, tellS h f (momS h f) = R := ⟨_, rfl⟩
  obtain ⟨⟨va, vb⟩, hV⟩ : ∃ v, momS h f = v := ⟨_, rfl⟩
  have HR : Hid ((if E = 0 then (va, vb, 0) else (0, 0, E)) = R) := Lib.hid (by rw [← hR]; unfold tellS; rw [hE, hV])
  have C1 : Hid (∀ W, Below w.heap.size w W → Calls Tryz.prog 30 #[holdV h m, fillV f] W fun e w' => e = .returned (.int .i64 E) ∧ Below W.heap.size W w') := Lib.hid fun W hW => int_to (sCheckFill_any h m f W (hi.below hW)) hE
  have C2 : Hid (E = 0 → ∀ W, Below w.heap.size w W → Calls Tryz.prog 89 #[holdV h m, fillV f] W fun e w' => e = .returned (rv va vb) ∧ Below W.heap.size W w') := Lib.hid fun e W hW => by
    have := smom_to h m f W (hi.below hW) (fill_state (hE.trans e)).1 (fill_state (hE.trans e)).2
    rw [hV] at this; exact this
  rw [hR]
  clear hR hE hV hi
  obtain ⟨id, al, ah, vol, mom, hei, t0, t1, u0, u1, v0, v1, h0, h1⟩ := h
  obtain ⟨A, n, c, B, mm, d, C, l, ee⟩ := m
  obtain ⟨fh, st, x0, x1, d0, d1⟩ := f
  have HE := Lib.hid (show Below w.heap.size w (((w.alloc (.cells #[.int .i64 id, .int .i64 al, .int .i64 ah, .slice A n c, .slice B mm d, .slice C l ee, .int .i64 t0, .int .i64 t1, .int .i64 u0, .int .i64 u1, .int .i64 v0, .int .i64 v1, .int .i64 h0, .int .i64 h1] 28)).alloc (.cells #[.int .i64 fh, .int .i64 st, .int .i64 x0, .int .i64 x1, .int .i64 d0, .int .i64 d1] 30)).alloc (.cells #[.int .i64 0, .int .i64 0] 23)) from below_a3 (Below.refl _ _))
  have HK := Lib.hid (boxes3' w 28 30 23 #[.int .i64 id, .int .i64 al, .int .i64 ah, .slice A n c, .slice B mm d, .slice C l ee, .int .i64 t0, .int .i64 t1, .int .i64 u0, .int .i64 u1, .int .i64 v0, .int .i64 v1, .int .i64 h0, .int .i64 h1] #[.int .i64 fh, .int .i64 st, .int .i64 x0, .int .i64 x1, .int .i64 d0, .int .i64 d1] #[.int .i64 0, .int .i64 0])
  go_enter Tryz.func20, Tryz.ntmps20
  go_wp2_with fail
  obtain ⟨W0, hW0⟩ : ∃ W0, (((w.alloc (.cells #[.int .i64 id, .int .i64 al, .int .i64 ah, .slice A n c, .slice B mm d, .slice C l ee, .int .i64 t0, .int .i64 t1, .int .i64 u0, .int .i64 u1, .int .i64 v0, .int .i64 v1, .int .i64 h0, .int .i64 h1] 28)).alloc (.cells #[.int .i64 fh, .int .i64 st, .int .i64 x0, .int .i64 x1, .int .i64 d0, .int .i64 d1] 30)).alloc (.cells #[.int .i64 0, .int .i64 0] 23)) = W0 := ⟨_, rfl⟩
  rw [hW0] at HE HK ⊢
  clear hW0
  obtain ⟨G, hG⟩ : ∃ G, w.heap.size = G := ⟨_, rfl⟩
  rw [hG] at HK ⊢
  have HG := Lib.hid hG; clear hG
  refine (C1.out _ HE.out).mono ?_
  rintro e w1 ⟨rfl, hb⟩
  have HE1 := Lib.hid (below_then HE.out hb); have HK1 := Lib.hid (HK.out.on hb)
  clear hb HE HK C1
  by_cases g : E = 0
  · have eR := HR.out
    rw [if_pos g] at eR
    subst eR
    have D2 := Lib.hid (C2.out g)
    clear HR C2
    subst g
    have hc := HK1.out _ (.tail _ (.tail _ (.head _)))
    have hc0 := hc.cell 0
    have hc1 := hc.cell 1
    have hc2 := hc.cell 2
    have hc3 := hc.cell 3
    have hc4 := hc.cell 4
    have hc5 := hc.cell 5
    have hc6 := hc.cell 6
    have hc7 := hc.cell 7
    have hc8 := hc.cell 8
    have hc9 := hc.cell 9
    have hc10 := hc.cell 10
    have hc11 := hc.cell 11
    have hc12 := hc.cell 12
    have hc13 := hc.cell 13
    simp at hc0 hc1 hc2 hc3 hc4 hc5 hc6 hc7 hc8 hc9 hc10 hc11 hc12 hc13
    clear hc
    have f := HK1.out _ (.tail _ (.head _))
    have f0 := f.cell 0
    have f1 := f.cell 1
    have f2 := f.cell 2
    have f3 := f.cell 3
    have f4 := f.cell 4
    have f5 := f.cell 5
    simp at f0 f1 f2 f3 f4 f5
    clear f
    go_wp2_with fail
    refine (D2.out _ HE1.out).mono ?_
    rintro e y1 ⟨rfl, hb⟩
    have HE2 := Lib.hid (below_then (below_then HE1.out hb) (below_alloc1 y1 (.cells #[.int .i64 va, .int .i64 vb] 23))); have HK2 := Lib.hid ((HK1.out.on hb).new 23 #[.int .i64 va, .int .i64 vb])
    clear hb HE1 HK1 D2 hc0 hc1 hc2 hc3 hc4 hc5 hc6 hc7 hc8 hc9 hc10 hc11 hc12 hc13 f0 f1 f2 f3 f4 f5
    go_upto_region 5 with fail
    obtain ⟨W2, hW⟩ : ∃ W2, y1.alloc (.cells #[.int .i64 va, .int .i64 vb] 23) = W2 := ⟨_, rfl⟩
    rw [hW] at HE2 HK2 ⊢
    clear hW
    obtain ⟨N2, hN⟩ : ∃ N, y1.heap.size = N := ⟨_, rfl⟩
    rw [hN] at HK2 ⊢
    clear hN
    have a := HK2.out _ (.head _)
    have a0 := a.cell 0
    have a1 := a.cell 1
    simp at a0 a1
    clear a
    have z := HK2.out _ (.tail _ (.head _))
    have z0 := z.cell 0
    have zf0 := z.frozen 0
    have z1 := z.cell 1
    have zf1 := z.frozen 1
    have zl := z.lt
    simp at z0 zf0 z1 zf1
    clear z
    go_wp2
    refine bodyPost_ret (v := rt (va, vb, 0)) (by simp [results, Tryz.results20, go_sem, z0, z1]) rfl ⟨rfl, ?_⟩
    have hg := HG.out
    repeat (first | exact HE2.out | refine Below.setCell ?_ (by simp <;> omega) _)
  · have eR := HR.out
    rw [if_neg g] at eR
    subst eR
    clear HR C2 
    have z := HK1.out _ (.head _)
    have z0 := z.cell 0
    have zf0 := z.frozen 0
    have z1 := z.cell 1
    have zf1 := z.frozen 1
    have zl := z.lt
    simp at z0 zf0 z1 zf1
    clear z
    go_wp2
    refine bodyPost_ret (v := rt (0, 0, E)) (by simp [results, Tryz.results20, go_sem, z0, z1]) rfl ⟨rfl, ?_⟩
    have hg := HG.out
    repeat (first | exact HE1.out | refine Below.setCell ?_ (by simp <;> omega) _)

set_option maxRecDepth 100000 in
set_option maxHeartbeats 4000000 in
theorem sHeel_any (h : HoldD) (m : HoldM) (f : FillD) (w : World) (hi : HoldIn w h m) :
    Calls Tryz.prog 22 #[holdV h m, fillV f] w fun e w' => e = .returned (rt (tellS h f (denS h f (momS h f)))) ∧ Below w.heap.size w w' := by
  obtain ⟨E, hE⟩ : ∃ E, fillErr h f = E := ⟨_, rfl⟩
  obtain ⟨R, hR⟩ : ∃ R, tellS h f (denS h f (momS h f)) = R := ⟨_, rfl⟩
  obtain ⟨⟨va, vb⟩, hV⟩ : ∃ v, momS h f = v := ⟨_, rfl⟩
  obtain ⟨⟨ka, kb⟩, hD⟩ : ∃ k, denS h f (momS h f) = k := ⟨_, rfl⟩
  have HR : Hid ((if E = 0 then (ka, kb, 0) else (0, 0, E)) = R) := Lib.hid (by rw [← hR]; unfold tellS; rw [hE, hD])
  have C3 : Hid (E = 0 → ∀ W, Calls Tryz.prog 87 #[rv va vb, rv f.d0 f.d1] W fun e w' => e = .returned (rv ka kb) ∧ Below W.heap.size W w') := Lib.hid fun e W => by
    have hA : Amt (va, vb) := by rw [← hV]; exact mom_amt (hE.trans e)
    obtain ⟨d1, d2, d3⟩ := fill_dens (hE.trans e)
    have q := den_heavy (hE.trans e) hA
    rw [hV] at hD
    rw [hD] at q
    dsimp only at q
    have := sheavy_any va vb f.d0 f.d1 W (heavy_small hA.1 (by have := hA.2.1; have := hA.2.2; dsimp only at *; omega) d1 (by omega)) (heavy_small (by have := hA.1; have := hA.2.1; dsimp only at *; omega) hA.2.2 (by omega) d3)
    rw [q] at this
    exact this
  have C1 : Hid (∀ W, Below w.heap.size w W → Calls Tryz.prog 30 #[holdV h m, fillV f] W fun e w' => e = .returned (.int .i64 E) ∧ Below W.heap.size W w') := Lib.hid fun W hW => int_to (sCheckFill_any h m f W (hi.below hW)) hE
  have C2 : Hid (E = 0 → ∀ W, Below w.heap.size w W → Calls Tryz.prog 89 #[holdV h m, fillV f] W fun e w' => e = .returned (rv va vb) ∧ Below W.heap.size W w') := Lib.hid fun e W hW => by
    have := smom_to h m f W (hi.below hW) (fill_state (hE.trans e)).1 (fill_state (hE.trans e)).2
    rw [hV] at this; exact this
  rw [hR]
  clear hR hE hV hi hD
  obtain ⟨id, al, ah, vol, mom, hei, t0, t1, u0, u1, v0, v1, h0, h1⟩ := h
  obtain ⟨A, n, c, B, mm, d, C, l, ee⟩ := m
  obtain ⟨fh, st, x0, x1, d0, d1⟩ := f
  have HE := Lib.hid (show Below w.heap.size w (((w.alloc (.cells #[.int .i64 id, .int .i64 al, .int .i64 ah, .slice A n c, .slice B mm d, .slice C l ee, .int .i64 t0, .int .i64 t1, .int .i64 u0, .int .i64 u1, .int .i64 v0, .int .i64 v1, .int .i64 h0, .int .i64 h1] 28)).alloc (.cells #[.int .i64 fh, .int .i64 st, .int .i64 x0, .int .i64 x1, .int .i64 d0, .int .i64 d1] 30)).alloc (.cells #[.int .i64 0, .int .i64 0] 23)) from below_a3 (Below.refl _ _))
  have HK := Lib.hid (boxes3' w 28 30 23 #[.int .i64 id, .int .i64 al, .int .i64 ah, .slice A n c, .slice B mm d, .slice C l ee, .int .i64 t0, .int .i64 t1, .int .i64 u0, .int .i64 u1, .int .i64 v0, .int .i64 v1, .int .i64 h0, .int .i64 h1] #[.int .i64 fh, .int .i64 st, .int .i64 x0, .int .i64 x1, .int .i64 d0, .int .i64 d1] #[.int .i64 0, .int .i64 0])
  go_enter Tryz.func22, Tryz.ntmps22
  go_wp2_with fail
  obtain ⟨W0, hW0⟩ : ∃ W0, (((w.alloc (.cells #[.int .i64 id, .int .i64 al, .int .i64 ah, .slice A n c, .slice B mm d, .slice C l ee, .int .i64 t0, .int .i64 t1, .int .i64 u0, .int .i64 u1, .int .i64 v0, .int .i64 v1, .int .i64 h0, .int .i64 h1] 28)).alloc (.cells #[.int .i64 fh, .int .i64 st, .int .i64 x0, .int .i64 x1, .int .i64 d0, .int .i64 d1] 30)).alloc (.cells #[.int .i64 0, .int .i64 0] 23)) = W0 := ⟨_, rfl⟩
  rw [hW0] at HE HK ⊢
  clear hW0
  obtain ⟨G, hG⟩ : ∃ G, w.heap.size = G := ⟨_, rfl⟩
  rw [hG] at HK ⊢
  have HG := Lib.hid hG; clear hG
  refine (C1.out _ HE.out).mono ?_
  rintro e w1 ⟨rfl, hb⟩
  have HE1 := Lib.hid (below_then HE.out hb); have HK1 := Lib.hid (HK.out.on hb)
  clear hb HE HK C1
  by_cases g : E = 0
  · have eR := HR.out
    rw [if_pos g] at eR
    subst eR
    have D2 := Lib.hid (C2.out g)
    clear HR C2
    have D3 := Lib.hid (C3.out g)
    clear C3
    subst g
    have hc := HK1.out _ (.tail _ (.tail _ (.head _)))
    have hc0 := hc.cell 0
    have hc1 := hc.cell 1
    have hc2 := hc.cell 2
    have hc3 := hc.cell 3
    have hc4 := hc.cell 4
    have hc5 := hc.cell 5
    have hc6 := hc.cell 6
    have hc7 := hc.cell 7
    have hc8 := hc.cell 8
    have hc9 := hc.cell 9
    have hc10 := hc.cell 10
    have hc11 := hc.cell 11
    have hc12 := hc.cell 12
    have hc13 := hc.cell 13
    simp at hc0 hc1 hc2 hc3 hc4 hc5 hc6 hc7 hc8 hc9 hc10 hc11 hc12 hc13
    clear hc
    have f := HK1.out _ (.tail _ (.head _))
    have f0 := f.cell 0
    have f1 := f.cell 1
    have f2 := f.cell 2
    have f3 := f.cell 3
    have f4 := f.cell 4
    have f5 := f.cell 5
    simp at f0 f1 f2 f3 f4 f5
    clear f
    go_wp2_with fail
    refine (D2.out _ HE1.out).mono ?_
    rintro e y1 ⟨rfl, hb⟩
    have HE2 := Lib.hid (below_then (below_then HE1.out hb) (below_alloc1 y1 (.cells #[.int .i64 va, .int .i64 vb] 23))); have HK2 := Lib.hid ((HK1.out.on hb).new 23 #[.int .i64 va, .int .i64 vb])
    clear hb HE1 HK1 D2 hc0 hc1 hc2 hc3 hc4 hc5 hc6 hc7 hc8 hc9 hc10 hc11 hc12 hc13 f0 f1 f2 f3 f4 f5
    go_upto_region 5 with fail
    obtain ⟨W2, hW⟩ : ∃ W2, y1.alloc (.cells #[.int .i64 va, .int .i64 vb] 23) = W2 := ⟨_, rfl⟩
    rw [hW] at HE2 HK2 ⊢
    clear hW
    obtain ⟨N2, hN⟩ : ∃ N, y1.heap.size = N := ⟨_, rfl⟩
    rw [hN] at HK2 ⊢
    clear hN
    have a := HK2.out _ (.head _)
    have a0 := a.cell 0
    have a1 := a.cell 1
    simp at a0 a1
    clear a
    have f := HK2.out _ (.tail _ (.tail _ (.head _)))
    have f4 := f.cell 4
    have f5 := f.cell 5
    simp at f4 f5
    clear f
    go_wp2_with fail
    refine (D3.out _).mono ?_
    rintro e y2 ⟨rfl, hb⟩
    have HE3 := Lib.hid (below_then HE2.out hb); have HK3 := Lib.hid (HK2.out.on hb)
    clear hb HE2 HK2 D3 a0 a1 f4 f5
    have z := HK3.out _ (.tail _ (.head _))
    have z0 := z.cell 0
    have zf0 := z.frozen 0
    have z1 := z.cell 1
    have zf1 := z.frozen 1
    have zl := z.lt
    simp at z0 zf0 z1 zf1
    clear z
    go_wp2
    refine bodyPost_ret (v := rt (ka, kb, 0)) (by simp [results, Tryz.results22, go_sem, z0, z1]) rfl ⟨rfl, ?_⟩
    have hg := HG.out
    repeat (first | exact HE3.out | refine Below.setCell ?_ (by simp <;> omega) _)
  · have eR := HR.out
    rw [if_neg g] at eR
    subst eR
    clear HR C2 C3
    have z := HK1.out _ (.head _)
    have z0 := z.cell 0
    have zf0 := z.frozen 0
    have z1 := z.cell 1
    have zf1 := z.frozen 1
    have zl := z.lt
    simp at z0 zf0 z1 zf1
    clear z
    go_wp2
    refine bodyPost_ret (v := rt (0, 0, E)) (by simp [results, Tryz.results22, go_sem, z0, z1]) rfl ⟨rfl, ?_⟩
    have hg := HG.out
    repeat (first | exact HE1.out | refine Below.setCell ?_ (by simp <;> omega) _)

set_option maxRecDepth 100000 in
set_option maxHeartbeats 4000000 in
theorem sHeight_any (h : HoldD) (m : HoldM) (f : FillD) (w : World) (hi : HoldIn w h m) :
    Calls Tryz.prog 24 #[holdV h m, fillV f] w fun e w' => e = .returned (rt (tellS h f (heiS h f))) ∧ Below w.heap.size w w' := by
  obtain ⟨E, hE⟩ : ∃ E, fillErr h f = E := ⟨_, rfl⟩
  obtain ⟨R, hR⟩ : ∃ R, tellS h f (heiS h f) = R := ⟨_, rfl⟩
  obtain ⟨⟨va, vb⟩, hV⟩ : ∃ v, heiS h f = v := ⟨_, rfl⟩
  have HR : Hid ((if E = 0 then (va, vb, 0) else (0, 0, E)) = R) := Lib.hid (by rw [← hR]; unfold tellS; rw [hE, hV])
  have C1 : Hid (∀ W, Below w.heap.size w W → Calls Tryz.prog 30 #[holdV h m, fillV f] W fun e w' => e = .returned (.int .i64 E) ∧ Below W.heap.size W w') := Lib.hid fun W hW => int_to (sCheckFill_any h m f W (hi.below hW)) hE
  have C2 : Hid (E = 0 → ∀ W, Below w.heap.size w W → Calls Tryz.prog 92 #[holdV h m, fillV f] W fun e w' => e = .returned (rv va vb) ∧ Below W.heap.size W w') := Lib.hid fun e W hW => by
    have := shei_to h m f W (hi.below hW) (fill_state (hE.trans e)).1 (fill_state (hE.trans e)).2
    rw [hV] at this; exact this
  rw [hR]
  clear hR hE hV hi
  obtain ⟨id, al, ah, vol, mom, hei, t0, t1, u0, u1, v0, v1, h0, h1⟩ := h
  obtain ⟨A, n, c, B, mm, d, C, l, ee⟩ := m
  obtain ⟨fh, st, x0, x1, d0, d1⟩ := f
  have HE := Lib.hid (show Below w.heap.size w (((w.alloc (.cells #[.int .i64 id, .int .i64 al, .int .i64 ah, .slice A n c, .slice B mm d, .slice C l ee, .int .i64 t0, .int .i64 t1, .int .i64 u0, .int .i64 u1, .int .i64 v0, .int .i64 v1, .int .i64 h0, .int .i64 h1] 28)).alloc (.cells #[.int .i64 fh, .int .i64 st, .int .i64 x0, .int .i64 x1, .int .i64 d0, .int .i64 d1] 30)).alloc (.cells #[.int .i64 0, .int .i64 0] 23)) from below_a3 (Below.refl _ _))
  have HK := Lib.hid (boxes3' w 28 30 23 #[.int .i64 id, .int .i64 al, .int .i64 ah, .slice A n c, .slice B mm d, .slice C l ee, .int .i64 t0, .int .i64 t1, .int .i64 u0, .int .i64 u1, .int .i64 v0, .int .i64 v1, .int .i64 h0, .int .i64 h1] #[.int .i64 fh, .int .i64 st, .int .i64 x0, .int .i64 x1, .int .i64 d0, .int .i64 d1] #[.int .i64 0, .int .i64 0])
  go_enter Tryz.func24, Tryz.ntmps24
  go_wp2_with fail
  obtain ⟨W0, hW0⟩ : ∃ W0, (((w.alloc (.cells #[.int .i64 id, .int .i64 al, .int .i64 ah, .slice A n c, .slice B mm d, .slice C l ee, .int .i64 t0, .int .i64 t1, .int .i64 u0, .int .i64 u1, .int .i64 v0, .int .i64 v1, .int .i64 h0, .int .i64 h1] 28)).alloc (.cells #[.int .i64 fh, .int .i64 st, .int .i64 x0, .int .i64 x1, .int .i64 d0, .int .i64 d1] 30)).alloc (.cells #[.int .i64 0, .int .i64 0] 23)) = W0 := ⟨_, rfl⟩
  rw [hW0] at HE HK ⊢
  clear hW0
  obtain ⟨G, hG⟩ : ∃ G, w.heap.size = G := ⟨_, rfl⟩
  rw [hG] at HK ⊢
  have HG := Lib.hid hG; clear hG
  refine (C1.out _ HE.out).mono ?_
  rintro e w1 ⟨rfl, hb⟩
  have HE1 := Lib.hid (below_then HE.out hb); have HK1 := Lib.hid (HK.out.on hb)
  clear hb HE HK C1
  by_cases g : E = 0
  · have eR := HR.out
    rw [if_pos g] at eR
    subst eR
    have D2 := Lib.hid (C2.out g)
    clear HR C2
    subst g
    have hc := HK1.out _ (.tail _ (.tail _ (.head _)))
    have hc0 := hc.cell 0
    have hc1 := hc.cell 1
    have hc2 := hc.cell 2
    have hc3 := hc.cell 3
    have hc4 := hc.cell 4
    have hc5 := hc.cell 5
    have hc6 := hc.cell 6
    have hc7 := hc.cell 7
    have hc8 := hc.cell 8
    have hc9 := hc.cell 9
    have hc10 := hc.cell 10
    have hc11 := hc.cell 11
    have hc12 := hc.cell 12
    have hc13 := hc.cell 13
    simp at hc0 hc1 hc2 hc3 hc4 hc5 hc6 hc7 hc8 hc9 hc10 hc11 hc12 hc13
    clear hc
    have f := HK1.out _ (.tail _ (.head _))
    have f0 := f.cell 0
    have f1 := f.cell 1
    have f2 := f.cell 2
    have f3 := f.cell 3
    have f4 := f.cell 4
    have f5 := f.cell 5
    simp at f0 f1 f2 f3 f4 f5
    clear f
    go_wp2_with fail
    refine (D2.out _ HE1.out).mono ?_
    rintro e y1 ⟨rfl, hb⟩
    have HE2 := Lib.hid (below_then (below_then HE1.out hb) (below_alloc1 y1 (.cells #[.int .i64 va, .int .i64 vb] 23))); have HK2 := Lib.hid ((HK1.out.on hb).new 23 #[.int .i64 va, .int .i64 vb])
    clear hb HE1 HK1 D2 hc0 hc1 hc2 hc3 hc4 hc5 hc6 hc7 hc8 hc9 hc10 hc11 hc12 hc13 f0 f1 f2 f3 f4 f5
    go_upto_region 5 with fail
    obtain ⟨W2, hW⟩ : ∃ W2, y1.alloc (.cells #[.int .i64 va, .int .i64 vb] 23) = W2 := ⟨_, rfl⟩
    rw [hW] at HE2 HK2 ⊢
    clear hW
    obtain ⟨N2, hN⟩ : ∃ N, y1.heap.size = N := ⟨_, rfl⟩
    rw [hN] at HK2 ⊢
    clear hN
    have a := HK2.out _ (.head _)
    have a0 := a.cell 0
    have a1 := a.cell 1
    simp at a0 a1
    clear a
    have z := HK2.out _ (.tail _ (.head _))
    have z0 := z.cell 0
    have zf0 := z.frozen 0
    have z1 := z.cell 1
    have zf1 := z.frozen 1
    have zl := z.lt
    simp at z0 zf0 z1 zf1
    clear z
    go_wp2
    refine bodyPost_ret (v := rt (va, vb, 0)) (by simp [results, Tryz.results24, go_sem, z0, z1]) rfl ⟨rfl, ?_⟩
    have hg := HG.out
    repeat (first | exact HE2.out | refine Below.setCell ?_ (by simp <;> omega) _)
  · have eR := HR.out
    rw [if_neg g] at eR
    subst eR
    clear HR C2 
    have z := HK1.out _ (.head _)
    have z0 := z.cell 0
    have zf0 := z.frozen 0
    have z1 := z.cell 1
    have zf1 := z.frozen 1
    have zl := z.lt
    simp at z0 zf0 z1 zf1
    clear z
    go_wp2
    refine bodyPost_ret (v := rt (0, 0, E)) (by simp [results, Tryz.results24, go_sem, z0, z1]) rfl ⟨rfl, ?_⟩
    have hg := HG.out
    repeat (first | exact HE1.out | refine Below.setCell ?_ (by simp <;> omega) _)
end

end Go.Proofs.YtmdilbmgopggaaaGreat
