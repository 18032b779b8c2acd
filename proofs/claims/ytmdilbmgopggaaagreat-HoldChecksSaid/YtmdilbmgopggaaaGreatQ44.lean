/- The contract of Weight of the specification of layer 2. Its condition: the hold's tables lie in memory. -/
import Derived.Test.YtmdilbmgopggaaaGreatQ43
set_option linter.unusedVariables false
set_option linter.unusedSimpArgs false
set_option linter.constructorNameAsVariable false
namespace Go.Proofs.YtmdilbmgopggaaaGreat

section
open Go.RowKit

set_option maxRecDepth 100000 in
set_option maxHeartbeats 4000000 in
theorem sWeight_any (h : HoldD) (m : HoldM) (f : FillD) (w : World) (hi : HoldIn w h m) :
    Calls Tryz.prog 26 #[holdV h m, fillV f] w fun e w' => e = .returned (weightV h f) ∧ Below w.heap.size w w' := by
  obtain ⟨E, hE⟩ : ∃ E, fillErr h f = E := ⟨_, rfl⟩
  obtain ⟨⟨va, vb⟩, hV⟩ : ∃ v, volS h f = v := ⟨_, rfl⟩
  obtain ⟨⟨ka, kb⟩, hD⟩ : ∃ k, denS h f (volS h f) = k := ⟨_, rfl⟩
  obtain ⟨⟨ha, hb⟩, hH⟩ : ∃ k, heiS h f = k := ⟨_, rfl⟩
  obtain ⟨R, hR⟩ : ∃ R, weightV h f = R := ⟨_, rfl⟩
  have HR : Hid ((if E = 0 then wt ka kb h.al h.ah ha hb 0 else wt 0 0 0 0 0 0 E) = R) := Lib.hid (by rw [← hR]; unfold weightV; rw [hE, hD, hH])
  have D3 : Hid (E = 0 → ∀ W, Calls Tryz.prog 87 #[rv va vb, rv f.d0 f.d1] W fun e w' => e = .returned (rv ka kb) ∧ Below W.heap.size W w') := Lib.hid fun e W => by
    have hA : Amt (va, vb) := by rw [← hV]; exact vol_amt (hE.trans e)
    obtain ⟨d1, d2, d3⟩ := fill_dens (hE.trans e)
    have q := den_heavy (hE.trans e) hA
    rw [hV] at hD
    rw [hD] at q
    dsimp only at q
    have := sheavy_any va vb f.d0 f.d1 W (heavy_small hA.1 (by have := hA.2.1; have := hA.2.2; dsimp only at *; omega) d1 (by omega)) (heavy_small (by have := hA.1; have := hA.2.1; dsimp only at *; omega) hA.2.2 (by omega) d3)
    rw [q] at this
    exact this
  have C1 : Hid (∀ W, Below w.heap.size w W → Calls Tryz.prog 30 #[holdV h m, fillV f] W fun e w' => e = .returned (.int .i64 E) ∧ Below W.heap.size W w') := Lib.hid fun W hW => int_to (sCheckFill_any h m f W (hi.below hW)) hE
  have D2 : Hid (E = 0 → ∀ W, Below w.heap.size w W → Calls Tryz.prog 84 #[holdV h m, fillV f] W fun e w' => e = .returned (rv va vb) ∧ Below W.heap.size W w') := Lib.hid fun e W hW => by
    have := svol_to h m f W (hi.below hW) (fill_state (hE.trans e)).1 (fill_state (hE.trans e)).2
    rw [hV] at this; exact this
  have D4 : Hid (E = 0 → ∀ W, Below w.heap.size w W → Calls Tryz.prog 92 #[holdV h m, fillV f] W fun e w' => e = .returned (rv ha hb) ∧ Below W.heap.size W w') := Lib.hid fun e W hW => by
    have := shei_to h m f W (hi.below hW) (fill_state (hE.trans e)).1 (fill_state (hE.trans e)).2
    rw [hH] at this; exact this
  rw [hR]
  clear hR hE hV hD hH hi
  obtain ⟨id, al, ah, vol, mom, hei, t0, t1, u0, u1, v0, v1, h0, h1⟩ := h
  obtain ⟨A, n, c, B, mm, d, C, l, ee⟩ := m
  obtain ⟨fh, st, x0, x1, d0, d1⟩ := f
  have HE := Lib.hid (show Below w.heap.size w (((w.alloc (.cells #[.int .i64 id, .int .i64 al, .int .i64 ah, .slice A n c, .slice B mm d, .slice C l ee, .int .i64 t0, .int .i64 t1, .int .i64 u0, .int .i64 u1, .int .i64 v0, .int .i64 v1, .int .i64 h0, .int .i64 h1] 28)).alloc (.cells #[.int .i64 fh, .int .i64 st, .int .i64 x0, .int .i64 x1, .int .i64 d0, .int .i64 d1] 30)).alloc (.cells #[.int .i64 0, .int .i64 0, .int .i64 0, .int .i64 0, .int .i64 0, .int .i64 0] 35)) from below_a3 (Below.refl _ _))
  have HK := Lib.hid (boxes3' w 28 30 35 #[.int .i64 id, .int .i64 al, .int .i64 ah, .slice A n c, .slice B mm d, .slice C l ee, .int .i64 t0, .int .i64 t1, .int .i64 u0, .int .i64 u1, .int .i64 v0, .int .i64 v1, .int .i64 h0, .int .i64 h1] #[.int .i64 fh, .int .i64 st, .int .i64 x0, .int .i64 x1, .int .i64 d0, .int .i64 d1] #[.int .i64 0, .int .i64 0, .int .i64 0, .int .i64 0, .int .i64 0, .int .i64 0])
  go_enter Tryz.func26, Tryz.ntmps26
  go_wp2_with fail
  obtain ⟨W0, hW0⟩ : ∃ W0, (((w.alloc (.cells #[.int .i64 id, .int .i64 al, .int .i64 ah, .slice A n c, .slice B mm d, .slice C l ee, .int .i64 t0, .int .i64 t1, .int .i64 u0, .int .i64 u1, .int .i64 v0, .int .i64 v1, .int .i64 h0, .int .i64 h1] 28)).alloc (.cells #[.int .i64 fh, .int .i64 st, .int .i64 x0, .int .i64 x1, .int .i64 d0, .int .i64 d1] 30)).alloc (.cells #[.int .i64 0, .int .i64 0, .int .i64 0, .int .i64 0, .int .i64 0, .int .i64 0] 35)) = W0 := ⟨_, rfl⟩
  rw [hW0] at HE HK ⊢
  clear hW0
  obtain ⟨G, hG⟩ : ∃ G, w.heap.size = G := ⟨_, rfl⟩
  rw [hG] at HK ⊢
  have HG := Lib.hid hG; clear hG
  refine (C1.out _ HE.out).mono ?_
  rintro e w1 ⟨rfl, hq⟩
  have HE1 := Lib.hid (below_then HE.out hq); have HK1 := Lib.hid (HK.out.on hq)
  clear hq HE HK C1
  by_cases g : E = 0
  · have eR := HR.out
    rw [if_pos g] at eR
    subst eR
    have X2 := Lib.hid (D2.out g)
    have X3 := Lib.hid (D3.out g)
    have X4 := Lib.hid (D4.out g)
    clear HR D2 D3 D4
    subst g
    have hc := HK1.out _ (.tail _ (.tail _ (.head _)))
    have hc0 := hc.cell 0
    have hc1 := hc.cell 1
    have hc2 := hc.cell 2
    have hc3 := hc.cell 3
    have hc4 := hc.cell 4
    have hc5 := hc.cell 5
    have hc6 := hc.cell 6
    have hc7 := hc.cell 7
    have hc8 := hc.cell 8
    have hc9 := hc.cell 9
    have hc10 := hc.cell 10
    have hc11 := hc.cell 11
    have hc12 := hc.cell 12
    have hc13 := hc.cell 13
    simp at hc0 hc1 hc2 hc3 hc4 hc5 hc6 hc7 hc8 hc9 hc10 hc11 hc12 hc13
    clear hc
    have f := HK1.out _ (.tail _ (.head _))
    have f0 := f.cell 0
    have f1 := f.cell 1
    have f2 := f.cell 2
    have f3 := f.cell 3
    have f4 := f.cell 4
    have f5 := f.cell 5
    simp at f0 f1 f2 f3 f4 f5
    clear f
    go_wp2_with fail
    refine (X2.out _ HE1.out).mono ?_
    rintro e w2 ⟨rfl, hq⟩
    have HE2 := Lib.hid (below_then (below_then HE1.out hq) (below_alloc1 w2 (.cells #[.int .i64 va, .int .i64 vb] 23))); have HK2 := Lib.hid ((HK1.out.on hq).new 23 #[.int .i64 va, .int .i64 vb])
    have HDM := Lib.hid (boxes_lt (HK1.out.on hq))
    clear hq HE1 HK1 X2 hc0 hc1 hc2 hc3 hc4 hc5 hc6 hc7 hc8 hc9 hc10 hc11 hc12 hc13 f0 f1 f2 f3 f4 f5
    go_upto_region 5 with fail
    obtain ⟨W2, hW⟩ : ∃ W2, w2.alloc (.cells #[.int .i64 va, .int .i64 vb] 23) = W2 := ⟨_, rfl⟩
    rw [hW] at HE2 HK2 ⊢
    clear hW
    obtain ⟨N, hN⟩ : ∃ N, w2.heap.size = N := ⟨_, rfl⟩
    rw [hN] at HK2 HDM ⊢
    clear hN
    have HKs : Hid (Boxes W2 [(N, 23, #[.int .i64 va, .int .i64 vb]), (G + 1, 30, #[.int .i64 fh, .int .i64 st, .int .i64 x0, .int .i64 x1, .int .i64 d0, .int .i64 d1]), (G, 28, #[.int .i64 id, .int .i64 al, .int .i64 ah, .slice A n c, .slice B mm d, .slice C l ee, .int .i64 t0, .int .i64 t1, .int .i64 u0, .int .i64 u1, .int .i64 v0, .int .i64 v1, .int .i64 h0, .int .i64 h1])]) := Lib.hid (HK2.out.sub (fun x hx => by
      simp only [List.mem_cons, List.not_mem_nil, or_false] at hx ⊢
      rcases hx with h | h | h <;> simp [h]))
    have HK9 : Hid (Blk W2.drew (G + 1 + 1) 35 #[.int .i64 0, .int .i64 0, .int .i64 0, .int .i64 0, .int .i64 0, .int .i64 0]) := Lib.hid (HK2.out _ (.tail _ (.head _))).drew
    have hne : ∀ zz ∈ ([(N, 23, #[.int .i64 va, .int .i64 vb]), (G + 1, 30, #[.int .i64 fh, .int .i64 st, .int .i64 x0, .int .i64 x1, .int .i64 d0, .int .i64 d1]), (G, 28, #[.int .i64 id, .int .i64 al, .int .i64 ah, .slice A n c, .slice B mm d, .slice C l ee, .int .i64 t0, .int .i64 t1, .int .i64 u0, .int .i64 u1, .int .i64 v0, .int .i64 v1, .int .i64 h0, .int .i64 h1])] : List (Nat × TypeId × Array Value)), zz.1 ≠ G + 1 + 1 := by
      have a1 := HDM.out _ (.head _)
      intro zz hz
      simp only [List.mem_cons, List.not_mem_nil, or_false] at hz
      rcases hz with h | h | h <;> (rw [h]; dsimp only at a1 ⊢; omega)
    have HNE := Lib.hid hne
    clear hne HK2 HDM
    have hS0 : Boxes W2.drew [(N, 23, #[.int .i64 va, .int .i64 vb]), (G + 1, 30, #[.int .i64 fh, .int .i64 st, .int .i64 x0, .int .i64 x1, .int .i64 d0, .int .i64 d1]), (G, 28, #[.int .i64 id, .int .i64 al, .int .i64 ah, .slice A n c, .slice B mm d, .slice C l ee, .int .i64 t0, .int .i64 t1, .int .i64 u0, .int .i64 u1, .int .i64 v0, .int .i64 v1, .int .i64 h0, .int .i64 h1])] := HKs.out
    have HEd := Lib.hid HE2.out.drew
    refine wp_region_held_drew (S := fun w' => Boxes w' [(N, 23, #[.int .i64 va, .int .i64 vb]), (G + 1, 30, #[.int .i64 fh, .int .i64 st, .int .i64 x0, .int .i64 x1, .int .i64 d0, .int .i64 d1]), (G, 28, #[.int .i64 id, .int .i64 al, .int .i64 ah, .slice A n c, .slice B mm d, .slice C l ee, .int .i64 t0, .int .i64 t1, .int .i64 u0, .int .i64 u1, .int .i64 v0, .int .i64 v1, .int .i64 h0, .int .i64 h1])]) (by kernel_rfl) hS0 (fun hHeld => ?_)
    obtain ⟨W3, hW⟩ : ∃ W', W2.drew = W' := ⟨_, rfl⟩
    rw [hW] at HEd HK9 hHeld ⊢
    clear hW hS0 HE2 HKs
    refine wpAnyH_take (i := 0) (v := rv va vb) rfl (by kernel_rfl) (by kernel_rfl) (by kernel_rfl) (fun _ _ _ h => h) (Or.inl ⟨by kernel_rfl, ?_⟩) hHeld ?_
    · intro w hSw; have hz := (hSw _ (.head _)); have c0 := hz.cell 0; have c1 := hz.cell 1; simp at c0 c1; clear hz hSw; go_simp; try with_reducible rfl
    change wpAnyH _ _ _ _ _ _ _ (Act.put _ (some 18) _) _
    try simp only [Act.put, List.setIfInBounds_toArray, List.set_cons_zero, List.set_cons_succ]
    refine wpAnyH_take (i := 1) (v := .pointer (some ⟨G + 1, 4, none⟩)) rfl (by kernel_rfl) (by kernel_rfl) (by kernel_rfl) (fun _ _ _ h => h) (Or.inl ⟨by kernel_rfl, ?_⟩) hHeld ?_
    · intro w hSw; clear hSw; go_simp; try with_reducible rfl
    change wpAnyH _ _ _ _ _ _ _ (Act.put _ (some 19) _) _
    try simp only [Act.put, List.setIfInBounds_toArray, List.set_cons_zero, List.set_cons_succ]
    refine wpAnyH_take (i := 2) (v := rv d0 d1) rfl (by kernel_rfl) (by kernel_rfl) (by kernel_rfl) (fun _ _ _ h => h) (Or.inl ⟨by kernel_rfl, ?_⟩) hHeld ?_
    · intro w hSw; have hz := (hSw _ (.tail _ (.head _))); have c4 := hz.cell 4; have c5 := hz.cell 5; simp at c4 c5; clear hz hSw; go_simp; try with_reducible rfl
    change wpAnyH _ _ _ _ _ _ _ (Act.put _ (some 20) _) _
    try simp only [Act.put, List.setIfInBounds_toArray, List.set_cons_zero, List.set_cons_succ]
    refine wpAnyH_take (i := 4) (v := .pointer (some ⟨G, 1, none⟩)) rfl (by kernel_rfl) (by kernel_rfl) (by kernel_rfl) (fun _ _ _ h => h) (Or.inl ⟨by kernel_rfl, ?_⟩) hHeld ?_
    · intro w hSw; clear hSw; go_simp; try with_reducible rfl
    change wpAnyH _ _ _ _ _ _ _ (Act.put _ (some 22) _) _
    try simp only [Act.put, List.setIfInBounds_toArray, List.set_cons_zero, List.set_cons_succ]
    refine wpAnyH_take (i := 5) (v := rv al ah) rfl (by kernel_rfl) (by kernel_rfl) (by kernel_rfl) (fun _ _ _ h => h) (Or.inl ⟨by kernel_rfl, ?_⟩) hHeld ?_
    · intro w hSw; have hz := (hSw _ (.tail _ (.tail _ (.head _)))); have c1 := hz.cell 1; have c2 := hz.cell 2; simp at c1 c2; clear hz hSw; go_simp; try with_reducible rfl
    change wpAnyH _ _ _ _ _ _ _ (Act.put _ (some 23) _) _
    try simp only [Act.put, List.setIfInBounds_toArray, List.set_cons_zero, List.set_cons_succ]
    refine wpAnyH_take (i := 6) (v := .agg #[.int .i64 id, .int .i64 al, .int .i64 ah, .slice A n c, .slice B mm d, .slice C l ee, .int .i64 t0, .int .i64 t1, .int .i64 u0, .int .i64 u1, .int .i64 v0, .int .i64 v1, .int .i64 h0, .int .i64 h1]) rfl (by kernel_rfl) (by kernel_rfl) (by kernel_rfl) (fun _ _ _ h => h) (Or.inl ⟨by kernel_rfl, ?_⟩) hHeld ?_
    · intro w hSw; have hz := (hSw _ (.tail _ (.tail _ (.head _)))); have c0 := hz.cell 0; have c1 := hz.cell 1; have c2 := hz.cell 2; have c3 := hz.cell 3; have c4 := hz.cell 4; have c5 := hz.cell 5; have c6 := hz.cell 6; have c7 := hz.cell 7; have c8 := hz.cell 8; have c9 := hz.cell 9; have c10 := hz.cell 10; have c11 := hz.cell 11; have c12 := hz.cell 12; have c13 := hz.cell 13; simp at c0 c1 c2 c3 c4 c5 c6 c7 c8 c9 c10 c11 c12 c13; clear hz hSw; go_simp; try with_reducible rfl
    change wpAnyH _ _ _ _ _ _ _ (Act.put _ (some 24) _) _
    try simp only [Act.put, List.setIfInBounds_toArray, List.set_cons_zero, List.set_cons_succ]
    refine wpAnyH_take (i := 7) (v := .agg #[.int .i64 fh, .int .i64 st, .int .i64 x0, .int .i64 x1, .int .i64 d0, .int .i64 d1]) rfl (by kernel_rfl) (by kernel_rfl) (by kernel_rfl) (fun _ _ _ h => h) (Or.inl ⟨by kernel_rfl, ?_⟩) hHeld ?_
    · intro w hSw; have hz := (hSw _ (.tail _ (.head _))); have c0 := hz.cell 0; have c1 := hz.cell 1; have c2 := hz.cell 2; have c3 := hz.cell 3; have c4 := hz.cell 4; have c5 := hz.cell 5; simp at c0 c1 c2 c3 c4 c5; clear hz hSw; go_simp; try with_reducible rfl
    change wpAnyH _ _ _ _ _ _ _ (Act.put _ (some 25) _) _
    try simp only [Act.put, List.setIfInBounds_toArray, List.set_cons_zero, List.set_cons_succ]
    refine wpAnyH_ready (rs := [3]) (by kernel_rfl) (by simp) ?_
    refine AllReadyH.cons rfl (fun K hK => ?_) AllReadyH.nil
    go_simp
    (with_reducible refine (X3.out _).mono ?_)
    rintro e ya ⟨rfl, hq⟩
    have HEa := Lib.hid (below_then HEd.out hq); have HKa := Lib.hid (blkOn HK9.out hq)
    have hS := hHeld.on hq
    clear hq
    refine hK.out _ _ (hS) (fun hHeld2 => ?_)
    try simp only [Act.put, List.setIfInBounds_toArray, List.set_cons_zero, List.set_cons_succ]
    clear hK K hHeld
    have hHeld := hHeld2
    clear hHeld2
    clear hS HEd HK9
    refine wpAnyH_ready (rs := [8]) (by kernel_rfl) (by simp) ?_
    refine AllReadyH.cons rfl (fun K hK => ?_) AllReadyH.nil
    go_simp
    (with_reducible refine (X4.out _ HEa.out).mono ?_)
    rintro e yb ⟨rfl, hq⟩
    have HEb := Lib.hid (below_then HEa.out hq); have HKb := Lib.hid (blkOn HKa.out hq)
    have hS := hHeld.on hq
    clear hq
    refine hK.out _ _ (hS) (fun hHeld2 => ?_)
    try simp only [Act.put, List.setIfInBounds_toArray, List.set_cons_zero, List.set_cons_succ]
    clear hK K hHeld
    have hHeld := hHeld2
    clear hHeld2
    clear hS HEa HKa
    refine wpAnyH_take (i := 9) (v := .agg #[.int .i64 ka, .int .i64 kb, .int .i64 al, .int .i64 ah, .int .i64 ha, .int .i64 hb]) rfl (by kernel_rfl) (by kernel_rfl) (by kernel_rfl) (fun _ _ _ h => h) (Or.inl ⟨by kernel_rfl, ?_⟩) hHeld ?_
    · intro w hSw; clear hSw; go_simp; try with_reducible rfl
    change wpAnyH _ _ _ _ _ _ _ (Act.put _ (some 27) _) _
    try simp only [Act.put, List.setIfInBounds_toArray, List.set_cons_zero, List.set_cons_succ]
    refine wpAnyH_ready (rs := [10]) (by kernel_rfl) (by simp) ?_
    refine AllReadyH.cons rfl (fun K hK => ?_) AllReadyH.nil
    rw [if_pos (by kernel_rfl)]
    have HKR : Hid (Blk (yb.setRow (G + 1 + 1) #[.int .i64 ka, .int .i64 kb, .int .i64 al, .int .i64 ah, .int .i64 ha, .int .i64 hb]) (G + 1 + 1) 35 #[.int .i64 ka, .int .i64 kb, .int .i64 al, .int .i64 ah, .int .i64 ha, .int .i64 hb]) := Lib.hid (setRow_heap yb (G + 1 + 1) _ _ 35 _ HKb.out)
    have HE9 := Lib.hid (below_setRow HEb.out (show w.heap.size ≤ G + 1 + 1 by have := HG.out; omega) #[.int .i64 ka, .int .i64 kb, .int .i64 al, .int .i64 ah, .int .i64 ha, .int .i64 hb])
    have hS := hHeld.farRow (g := (G + 1 + 1)) HNE.out #[.int .i64 ka, .int .i64 kb, .int .i64 al, .int .i64 ah, .int .i64 ha, .int .i64 hb]
    refine wp_store_row 35 (.tmp 4) (.tmp 27) rfl (G + 1 + 1) #[.int .i64 ka, .int .i64 kb, .int .i64 al, .int .i64 ah, .int .i64 ha, .int .i64 hb] rfl rfl 35 _ HKb.out (by kernel_rfl) rfl (by kernel_rfl) ?_
    obtain ⟨Wz, hW⟩ : ∃ W', yb.setRow (G + 1 + 1) #[.int .i64 ka, .int .i64 kb, .int .i64 al, .int .i64 ah, .int .i64 ha, .int .i64 hb] = W' := ⟨_, rfl⟩
    rw [hW] at HKR HE9 hS ⊢
    refine hK.out _ _ hS (fun hHeld2 => ?_)
    try simp only [Act.put, List.setIfInBounds_toArray, List.set_cons_zero, List.set_cons_succ]
    clear hW hS hK K hHeld HKb HEb
    have hHeld := hHeld2
    clear hHeld2
    refine wpAnyH_take (i := 11) (v := .int .i64 0) rfl (by kernel_rfl) (by kernel_rfl) (by kernel_rfl) (fun _ _ _ h => h) (Or.inl ⟨by kernel_rfl, ?_⟩) hHeld ?_
    · intro w hSw; clear hSw; go_simp; try with_reducible rfl
    change wpAnyH _ _ _ _ _ _ _ (Act.put _ (some 5) _) _
    try simp only [Act.put, List.setIfInBounds_toArray, List.set_cons_zero, List.set_cons_succ]
    refine wpAnyH_done (by kernel_rfl) ?_ _
    clear hHeld
    go_wp2
    exact bodyPost_ret (v := .tuple #[.agg #[.int .i64 ka, .int .i64 kb, .int .i64 al, .int .i64 ah, .int .i64 ha, .int .i64 hb], .int .i64 0]) (results_cell_tmp_row Tryz.results26 _ _ (G + 1 + 1) 35 #[.int .i64 ka, .int .i64 kb, .int .i64 al, .int .i64 ah, .int .i64 ha, .int .i64 hb] (0, 0) _ _ rfl rfl HKR.out Tryz.underlying35 rfl (by kernel_rfl)) rfl ⟨rfl, HE9.out⟩
  · have eR := HR.out
    rw [if_neg g] at eR
    subst eR
    clear HR D2 D3 D4
    go_upto_region 3 with fail
    refine wp_region_lit ?_
    refine wpList_plain rfl (fun K hK => ?_)
    go_simp
    refine hK _ _ ?_
    clear hK K
    refine wpList_plain rfl (fun K hK => ?_)
    go_simp
    refine hK _ _ ?_
    clear hK K
    have HKR : Hid (Blk (w1.setRow (G + 1 + 1) #[.int .i64 0, .int .i64 0, .int .i64 0, .int .i64 0, .int .i64 0, .int .i64 0]) (G + 1 + 1) 35 #[.int .i64 0, .int .i64 0, .int .i64 0, .int .i64 0, .int .i64 0, .int .i64 0]) := Lib.hid (setRow_heap w1 (G + 1 + 1) _ _ 35 _ (HK1.out _ (.head _)))
    have HE9 := Lib.hid (below_setRow HE1.out (show w.heap.size ≤ G + 1 + 1 by have := HG.out; omega) #[.int .i64 0, .int .i64 0, .int .i64 0, .int .i64 0, .int .i64 0, .int .i64 0])
    refine wpList_store_row rfl 35 (.tmp 4) (.tmp 13) rfl (G + 1 + 1) #[.int .i64 0, .int .i64 0, .int .i64 0, .int .i64 0, .int .i64 0, .int .i64 0] rfl rfl 35 _ (HK1.out _ (.head _)) (by kernel_rfl) rfl (by kernel_rfl) ?_
    obtain ⟨W9, hW9⟩ : ∃ W9, w1.setRow (G + 1 + 1) #[.int .i64 0, .int .i64 0, .int .i64 0, .int .i64 0, .int .i64 0, .int .i64 0] = W9 := ⟨_, rfl⟩
    rw [hW9] at HKR HE9 ⊢
    clear hW9
    go_wp2
    exact bodyPost_ret (v := .tuple #[.agg #[.int .i64 0, .int .i64 0, .int .i64 0, .int .i64 0, .int .i64 0, .int .i64 0], .int .i64 E]) (results_cell_tmp_row Tryz.results26 _ _ (G + 1 + 1) 35 #[.int .i64 0, .int .i64 0, .int .i64 0, .int .i64 0, .int .i64 0, .int .i64 0] (0, 0) _ _ rfl rfl HKR.out Tryz.underlying35 rfl (by kernel_rfl)) rfl ⟨rfl, HE9.out⟩
end

end Go.Proofs.YtmdilbmgopggaaaGreat
