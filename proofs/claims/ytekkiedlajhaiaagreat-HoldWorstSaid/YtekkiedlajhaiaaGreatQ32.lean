/- The contracts of Ullage (hold), line and example (the law package). The condition of Ullage: the hold's tables lie in memory. -/
import Derived.Test.YtekkiedlajhaiaaGreatQ29
import Derived.Test.YtekkiedlajhaiaaGreatQ19
import Derived.Test.YtekkiedlajhaiaaGreatQ20
import Derived.Test.YtekkiedlajhaiaaGreatQ98
set_option linter.unusedVariables false
set_option linter.unusedSimpArgs false
set_option linter.constructorNameAsVariable false
namespace Go.Proofs.YtekkiedlajhaiaaGreat

section
open Go.RowKit

set_option maxRecDepth 100000 in
set_option maxHeartbeats 4000000 in
theorem sWeight_any (h : HoldD) (m : HoldM) (f : FillD) (w : World) (hi : HoldIn w h m) :
  Calls Tryz.prog 34 #[holdV h m, fillV f] w fun e w' => e = .returned (weightV h f) ∧ Below w.heap.size w w' := by
 obtain ⟨E, hE⟩ : ∃ E, fillErr h f = E := ⟨_, rfl⟩
 obtain ⟨⟨va, vb⟩, hV⟩ : ∃ v, volS h f = v := ⟨_, rfl⟩
 obtain ⟨⟨ka, kb⟩, hD⟩ : ∃ k, denS h f (volS h f) = k := ⟨_, rfl⟩
 obtain ⟨⟨ha, hb⟩, hH⟩ : ∃ k, heiS h f = k := ⟨_, rfl⟩
 obtain ⟨R, hR⟩ : ∃ R, weightV h f = R := ⟨_, rfl⟩
 have HR : Hid ((if E = 0 then wt ka kb h.al h.ah ha hb 0 else wt 0 0 0 0 0 0 E) = R) := Lib.hid (by rw [← hR]; unfold weightV; rw [hE, hD, hH])
 have D3 : Hid (E = 0 → ∀ W, Calls Tryz.prog 73 #[rv va vb, rv f.d0 f.d1] W fun e w' => e = .returned (rv ka kb) ∧ Below W.heap.size W w') := Lib.hid fun e W => by
  have hA : Amt (va, vb) := by rw [← hV]; exact vol_amt (hE.trans e)
  obtain ⟨d1, d2, d3⟩ := fill_dens (hE.trans e)
  have q := den_heavy (hE.trans e) hA
  rw [hV] at hD
  rw [hD] at q
  dsimp only at q
  have := sheavy_any va vb f.d0 f.d1 W (heavy_small hA.1 (by have := hA.2.1; have := hA.2.2; dsimp only at *; omega) d1 (by omega)) (heavy_small (by have := hA.1; have := hA.2.1; dsimp only at *; omega) hA.2.2 (by omega) d3)
  rw [q] at this
  exact this
 have C1 : Hid (∀ W, Below w.heap.size w W → Calls Tryz.prog 71 #[holdV h m, fillV f] W fun e w' => e = .returned (.int .i64 E) ∧ Below W.heap.size W w') := Lib.hid fun W hW => int_to (sCheckFill_any h m f W (hi.below hW)) hE
 have D2 : Hid (E = 0 → ∀ W, Below w.heap.size w W → Calls Tryz.prog 72 #[holdV h m, fillV f] W fun e w' => e = .returned (rv va vb) ∧ Below W.heap.size W w') := Lib.hid fun e W hW => by
  have := svol_to h m f W (hi.below hW) (fill_state (hE.trans e)).1 (fill_state (hE.trans e)).2
  rw [hV] at this; exact this
 have D4 : Hid (E = 0 → ∀ W, Below w.heap.size w W → Calls Tryz.prog 74 #[holdV h m, fillV f] W fun e w' => e = .returned (rv ha hb) ∧ Below W.heap.size W w') := Lib.hid fun e W hW => by
  have := shei_to h m f W (hi.below hW) (fill_state (hE.trans e)).1 (fill_state (hE.trans e)).2
  rw [hH] at this; exact this
 rw [hR]
 clear hR hE hV hD hH hi
 obtain ⟨id, al, ah, vol, mom, hei, t0, t1, u0, u1, v0, v1, h0, h1⟩ := h
 obtain ⟨A, n, c, B, mm, d, C, l, ee⟩ := m
 obtain ⟨fh, st, x0, x1, d0, d1⟩ := f
 have HE := Lib.hid (show Below w.heap.size w (((w.alloc (.cells #[.int .i64 id, .int .i64 al, .int .i64 ah, .slice A n c, .slice B mm d, .slice C l ee, .int .i64 t0, .int .i64 t1, .int .i64 u0, .int .i64 u1, .int .i64 v0, .int .i64 v1, .int .i64 h0, .int .i64 h1] 50)).alloc (.cells #[.int .i64 fh, .int .i64 st, .int .i64 x0, .int .i64 x1, .int .i64 d0, .int .i64 d1] 53)).alloc (.cells #[.int .i64 0, .int .i64 0, .int .i64 0, .int .i64 0, .int .i64 0, .int .i64 0] 63)) from below_a3 (Below.refl _ _))
 have HK := Lib.hid (boxes3' w 50 53 63 #[.int .i64 id, .int .i64 al, .int .i64 ah, .slice A n c, .slice B mm d, .slice C l ee, .int .i64 t0, .int .i64 t1, .int .i64 u0, .int .i64 u1, .int .i64 v0, .int .i64 v1, .int .i64 h0, .int .i64 h1] #[.int .i64 fh, .int .i64 st, .int .i64 x0, .int .i64 x1, .int .i64 d0, .int .i64 d1] #[.int .i64 0, .int .i64 0, .int .i64 0, .int .i64 0, .int .i64 0, .int .i64 0])
 go_enter Tryz.func34, Tryz.ntmps34
 go_wp2_with fail
 obtain ⟨W0, hW0⟩ : ∃ W0, (((w.alloc (.cells #[.int .i64 id, .int .i64 al, .int .i64 ah, .slice A n c, .slice B mm d, .slice C l ee, .int .i64 t0, .int .i64 t1, .int .i64 u0, .int .i64 u1, .int .i64 v0, .int .i64 v1, .int .i64 h0, .int .i64 h1] 50)).alloc (.cells #[.int .i64 fh, .int .i64 st, .int .i64 x0, .int .i64 x1, .int .i64 d0, .int .i64 d1] 53)).alloc (.cells #[.int .i64 0, .int .i64 0, .int .i64 0, .int .i64 0, .int .i64 0, .int .i64 0] 63)) = W0 := ⟨_, rfl⟩
 rw [hW0] at HE HK ⊢
 clear hW0
 obtain ⟨G, hG⟩ : ∃ G, w.heap.size = G := ⟨_, rfl⟩
 rw [hG] at HK ⊢
 have HG := Lib.hid hG; clear hG
 refine (C1.out _ HE.out).mono ?_
 rintro e w1 ⟨rfl, hq⟩
 have HE1 := Lib.hid (below_then HE.out hq); have HK1 := Lib.hid (HK.out.on hq)
 clear hq HE HK C1
 by_cases g : E = 0
 ·have eR := HR.out
  rw [if_pos g] at eR
  subst eR
  have X2 := Lib.hid (D2.out g)
  have X3 := Lib.hid (D3.out g)
  have X4 := Lib.hid (D4.out g)
  clear HR D2 D3 D4
  subst g
  have hc := HK1.out _ (.tail _ (.tail _ (.head _)))
  have hc0 := hc.cell 0
  have hc1 := hc.cell 1
  have hc2 := hc.cell 2
  have hc3 := hc.cell 3
  have hc4 := hc.cell 4
  have hc5 := hc.cell 5
  have hc6 := hc.cell 6
  have hc7 := hc.cell 7
  have hc8 := hc.cell 8
  have hc9 := hc.cell 9
  have hc10 := hc.cell 10
  have hc11 := hc.cell 11
  have hc12 := hc.cell 12
  have hc13 := hc.cell 13
  simp at hc0 hc1 hc2 hc3 hc4 hc5 hc6 hc7 hc8 hc9 hc10 hc11 hc12 hc13
  clear hc
  have f := HK1.out _ (.tail _ (.head _))
  have f0 := f.cell 0
  have f1 := f.cell 1
  have f2 := f.cell 2
  have f3 := f.cell 3
  have f4 := f.cell 4
  have f5 := f.cell 5
  simp at f0 f1 f2 f3 f4 f5
  clear f
  go_wp2_with fail
  refine (X2.out _ HE1.out).mono ?_
  rintro e w2 ⟨rfl, hq⟩
  have HE2 := Lib.hid (below_then (below_then HE1.out hq) (below_alloc1 w2 (.cells #[.int .i64 va, .int .i64 vb] 30))); have HK2 := Lib.hid ((HK1.out.on hq).new 30 #[.int .i64 va, .int .i64 vb])
  have HDM := Lib.hid (boxes_lt (HK1.out.on hq))
  clear hq HE1 HK1 X2 hc0 hc1 hc2 hc3 hc4 hc5 hc6 hc7 hc8 hc9 hc10 hc11 hc12 hc13 f0 f1 f2 f3 f4 f5
  go_upto_region 5 with fail
  obtain ⟨W2, hW⟩ : ∃ W2, w2.alloc (.cells #[.int .i64 va, .int .i64 vb] 30) = W2 := ⟨_, rfl⟩
  rw [hW] at HE2 HK2 ⊢
  clear hW
  obtain ⟨N, hN⟩ : ∃ N, w2.heap.size = N := ⟨_, rfl⟩
  rw [hN] at HK2 HDM ⊢
  clear hN
  have HKs : Hid (Boxes W2 [(N, 30, #[.int .i64 va, .int .i64 vb]), (G + 1, 53, #[.int .i64 fh, .int .i64 st, .int .i64 x0, .int .i64 x1, .int .i64 d0, .int .i64 d1]), (G, 50, #[.int .i64 id, .int .i64 al, .int .i64 ah, .slice A n c, .slice B mm d, .slice C l ee, .int .i64 t0, .int .i64 t1, .int .i64 u0, .int .i64 u1, .int .i64 v0, .int .i64 v1, .int .i64 h0, .int .i64 h1])]) := Lib.hid (HK2.out.sub (fun x hx => by
   simp only [List.mem_cons, List.not_mem_nil, or_false] at hx ⊢
   rcases hx with h | h | h <;> simp [h]))
  have HK9 : Hid (Blk W2.drew (G + 1 + 1) 63 #[.int .i64 0, .int .i64 0, .int .i64 0, .int .i64 0, .int .i64 0, .int .i64 0]) := Lib.hid (HK2.out _ (.tail _ (.head _))).drew
  have hne : ∀ zz ∈ ([(N, 30, #[.int .i64 va, .int .i64 vb]), (G + 1, 53, #[.int .i64 fh, .int .i64 st, .int .i64 x0, .int .i64 x1, .int .i64 d0, .int .i64 d1]), (G, 50, #[.int .i64 id, .int .i64 al, .int .i64 ah, .slice A n c, .slice B mm d, .slice C l ee, .int .i64 t0, .int .i64 t1, .int .i64 u0, .int .i64 u1, .int .i64 v0, .int .i64 v1, .int .i64 h0, .int .i64 h1])] : List (Nat × TypeId × Array Value)), zz.1 ≠ G + 1 + 1 := by
   have a1 := HDM.out _ (.head _)
   intro zz hz
   simp only [List.mem_cons, List.not_mem_nil, or_false] at hz
   rcases hz with h | h | h <;> (rw [h]; dsimp only at a1 ⊢; omega)
  have HNE := Lib.hid hne
  clear hne HK2 HDM
  have hS0 : Boxes W2.drew [(N, 30, #[.int .i64 va, .int .i64 vb]), (G + 1, 53, #[.int .i64 fh, .int .i64 st, .int .i64 x0, .int .i64 x1, .int .i64 d0, .int .i64 d1]), (G, 50, #[.int .i64 id, .int .i64 al, .int .i64 ah, .slice A n c, .slice B mm d, .slice C l ee, .int .i64 t0, .int .i64 t1, .int .i64 u0, .int .i64 u1, .int .i64 v0, .int .i64 v1, .int .i64 h0, .int .i64 h1])] := HKs.out
  have HEd := Lib.hid HE2.out.drew
  refine wp_region_held_drew (S := fun w' => Boxes w' [(N, 30, #[.int .i64 va, .int .i64 vb]), (G + 1, 53, #[.int .i64 fh, .int .i64 st, .int .i64 x0, .int .i64 x1, .int .i64 d0, .int .i64 d1]), (G, 50, #[.int .i64 id, .int .i64 al, .int .i64 ah, .slice A n c, .slice B mm d, .slice C l ee, .int .i64 t0, .int .i64 t1, .int .i64 u0, .int .i64 u1, .int .i64 v0, .int .i64 v1, .int .i64 h0, .int .i64 h1])]) (by kernel_rfl) hS0 (fun hHeld => ?_)
  obtain ⟨W3, hW⟩ : ∃ W', W2.drew = W' := ⟨_, rfl⟩
  rw [hW] at HEd HK9 hHeld ⊢
  clear hW hS0 HE2 HKs
  refine tK 18 (i := 0) (v := rv va vb) rfl rfl (by kernel_rfl) ?_ hHeld ?_
  ·intro w hSw; have hz := (hSw _ (.head _)); have c0 := hz.cell 0; have c1 := hz.cell 1; simp at c0 c1; clear hz hSw; go_simp; try with_reducible rfl
  simp only [uZ, uS]
  refine tK 19 (i := 1) (v := .pointer (some ⟨G + 1, 4, none⟩)) rfl rfl (by kernel_rfl) ?_ hHeld ?_
  ·intro w hSw; clear hSw; go_simp; try with_reducible rfl
  simp only [uZ, uS]
  refine tK 20 (i := 2) (v := rv d0 d1) rfl rfl (by kernel_rfl) ?_ hHeld ?_
  ·intro w hSw; have hz := (hSw _ (.tail _ (.head _))); have c4 := hz.cell 4; have c5 := hz.cell 5; simp at c4 c5; clear hz hSw; go_simp; try with_reducible rfl
  simp only [uZ, uS]
  refine tK 22 (i := 4) (v := .pointer (some ⟨G, 1, none⟩)) rfl rfl (by kernel_rfl) ?_ hHeld ?_
  ·intro w hSw; clear hSw; go_simp; try with_reducible rfl
  simp only [uZ, uS]
  refine tK 23 (i := 5) (v := rv al ah) rfl rfl (by kernel_rfl) ?_ hHeld ?_
  ·intro w hSw; have hz := (hSw _ (.tail _ (.tail _ (.head _)))); have c1 := hz.cell 1; have c2 := hz.cell 2; simp at c1 c2; clear hz hSw; go_simp; try with_reducible rfl
  simp only [uZ, uS]
  refine tK 24 (i := 6) (v := .agg #[.int .i64 id, .int .i64 al, .int .i64 ah, .slice A n c, .slice B mm d, .slice C l ee, .int .i64 t0, .int .i64 t1, .int .i64 u0, .int .i64 u1, .int .i64 v0, .int .i64 v1, .int .i64 h0, .int .i64 h1]) rfl rfl (by kernel_rfl) ?_ hHeld ?_
  ·intro w hSw; have hz := (hSw _ (.tail _ (.tail _ (.head _)))); have c0 := hz.cell 0; have c1 := hz.cell 1; have c2 := hz.cell 2; have c3 := hz.cell 3; have c4 := hz.cell 4; have c5 := hz.cell 5; have c6 := hz.cell 6; have c7 := hz.cell 7; have c8 := hz.cell 8; have c9 := hz.cell 9; have c10 := hz.cell 10; have c11 := hz.cell 11; have c12 := hz.cell 12; have c13 := hz.cell 13; simp at c0 c1 c2 c3 c4 c5 c6 c7 c8 c9 c10 c11 c12 c13; clear hz hSw; go_simp; try with_reducible rfl
  simp only [uZ, uS]
  refine tK 25 (i := 7) (v := .agg #[.int .i64 fh, .int .i64 st, .int .i64 x0, .int .i64 x1, .int .i64 d0, .int .i64 d1]) rfl rfl (by kernel_rfl) ?_ hHeld ?_
  ·intro w hSw; have hz := (hSw _ (.tail _ (.head _))); have c0 := hz.cell 0; have c1 := hz.cell 1; have c2 := hz.cell 2; have c3 := hz.cell 3; have c4 := hz.cell 4; have c5 := hz.cell 5; simp at c0 c1 c2 c3 c4 c5; clear hz hSw; go_simp; try with_reducible rfl
  simp only [uZ, uS]
  refine wpAnyH_ready (rs := [3]) (by kernel_rfl) (by simp) ?_
  refine AllReadyH.cons rfl (fun K hK => ?_) AllReadyH.nil
  go_simp
  (with_reducible refine (X3.out _).mono ?_)
  rintro e ya ⟨rfl, hq⟩
  have HEa := Lib.hid (below_then HEd.out hq); have HKa := Lib.hid (blkOn HK9.out hq)
  have hS := hHeld.on hq
  clear hq
  refine hK.out _ _ (hS) (fun hHeld2 => ?_)
  try simp only [Act.put, uA, uZ, uS]
  clear hK K hHeld
  have hHeld := hHeld2
  clear hHeld2
  clear hS HEd HK9
  refine wpAnyH_ready (rs := [8]) (by kernel_rfl) (by simp) ?_
  refine AllReadyH.cons rfl (fun K hK => ?_) AllReadyH.nil
  go_simp
  (with_reducible refine (X4.out _ HEa.out).mono ?_)
  rintro e yb ⟨rfl, hq⟩
  have HEb := Lib.hid (below_then HEa.out hq); have HKb := Lib.hid (blkOn HKa.out hq)
  have hS := hHeld.on hq
  clear hq
  refine hK.out _ _ (hS) (fun hHeld2 => ?_)
  try simp only [Act.put, uA, uZ, uS]
  clear hK K hHeld
  have hHeld := hHeld2
  clear hHeld2
  clear hS HEa HKa
  refine tK 27 (i := 9) (v := .agg #[.int .i64 ka, .int .i64 kb, .int .i64 al, .int .i64 ah, .int .i64 ha, .int .i64 hb]) rfl rfl (by kernel_rfl) ?_ hHeld ?_
  ·intro w hSw; clear hSw; go_simp; try with_reducible rfl
  simp only [uZ, uS]
  refine wpAnyH_ready (rs := [10]) (by kernel_rfl) (by simp) ?_
  refine AllReadyH.cons rfl (fun K hK => ?_) AllReadyH.nil
  rw [if_pos (by kernel_rfl)]
  have HKR : Hid (Blk (yb.setRow (G + 1 + 1) #[.int .i64 ka, .int .i64 kb, .int .i64 al, .int .i64 ah, .int .i64 ha, .int .i64 hb]) (G + 1 + 1) 63 #[.int .i64 ka, .int .i64 kb, .int .i64 al, .int .i64 ah, .int .i64 ha, .int .i64 hb]) := Lib.hid (setRow_heap yb (G + 1 + 1) _ _ 63 _ HKb.out)
  have HE9 := Lib.hid (below_setRow HEb.out (show w.heap.size ≤ G + 1 + 1 by have := HG.out; omega) #[.int .i64 ka, .int .i64 kb, .int .i64 al, .int .i64 ah, .int .i64 ha, .int .i64 hb])
  have hS := hHeld.farRow (g := (G + 1 + 1)) HNE.out #[.int .i64 ka, .int .i64 kb, .int .i64 al, .int .i64 ah, .int .i64 ha, .int .i64 hb]
  refine wp_store_row 63 (.tmp 4) (.tmp 27) rfl (G + 1 + 1) #[.int .i64 ka, .int .i64 kb, .int .i64 al, .int .i64 ah, .int .i64 ha, .int .i64 hb] rfl rfl 63 _ HKb.out (by kernel_rfl) rfl (by kernel_rfl) ?_
  obtain ⟨Wz, hW⟩ : ∃ W', yb.setRow (G + 1 + 1) #[.int .i64 ka, .int .i64 kb, .int .i64 al, .int .i64 ah, .int .i64 ha, .int .i64 hb] = W' := ⟨_, rfl⟩
  rw [hW] at HKR HE9 hS ⊢
  refine hK.out _ _ hS (fun hHeld2 => ?_)
  try simp only [Act.put, uA, uZ, uS]
  clear hW hS hK K hHeld HKb HEb
  have hHeld := hHeld2
  clear hHeld2
  refine tK 5 (i := 11) (v := .int .i64 0) rfl rfl (by kernel_rfl) ?_ hHeld ?_
  ·intro w hSw; clear hSw; go_simp; try with_reducible rfl
  simp only [uZ, uS]
  refine wpAnyH_done (by kernel_rfl) ?_ _
  clear hHeld
  go_wp2
  exact bodyPost_ret (v := .tuple #[.agg #[.int .i64 ka, .int .i64 kb, .int .i64 al, .int .i64 ah, .int .i64 ha, .int .i64 hb], .int .i64 0]) (results_cell_tmp_row Tryz.results34 _ _ (G + 1 + 1) 63 #[.int .i64 ka, .int .i64 kb, .int .i64 al, .int .i64 ah, .int .i64 ha, .int .i64 hb] (0, 0) _ _ rfl rfl HKR.out Tryz.underlying63 rfl (by kernel_rfl)) rfl ⟨rfl, HE9.out⟩
 ·have eR := HR.out
  rw [if_neg g] at eR
  subst eR
  clear HR D2 D3 D4
  go_upto_region 3 with fail
  refine wp_region_lit ?_
  refine wpList_plain rfl (fun K hK => ?_)
  go_simp
  refine hK _ _ ?_
  clear hK K
  refine wpList_plain rfl (fun K hK => ?_)
  go_simp
  refine hK _ _ ?_
  clear hK K
  have HKR : Hid (Blk (w1.setRow (G + 1 + 1) #[.int .i64 0, .int .i64 0, .int .i64 0, .int .i64 0, .int .i64 0, .int .i64 0]) (G + 1 + 1) 63 #[.int .i64 0, .int .i64 0, .int .i64 0, .int .i64 0, .int .i64 0, .int .i64 0]) := Lib.hid (setRow_heap w1 (G + 1 + 1) _ _ 63 _ (HK1.out _ (.head _)))
  have HE9 := Lib.hid (below_setRow HE1.out (show w.heap.size ≤ G + 1 + 1 by have := HG.out; omega) #[.int .i64 0, .int .i64 0, .int .i64 0, .int .i64 0, .int .i64 0, .int .i64 0])
  refine wpList_store_row rfl 63 (.tmp 4) (.tmp 13) rfl (G + 1 + 1) #[.int .i64 0, .int .i64 0, .int .i64 0, .int .i64 0, .int .i64 0, .int .i64 0] rfl rfl 63 _ (HK1.out _ (.head _)) (by kernel_rfl) rfl (by kernel_rfl) ?_
  obtain ⟨W9, hW9⟩ : ∃ W9, w1.setRow (G + 1 + 1) #[.int .i64 0, .int .i64 0, .int .i64 0, .int .i64 0, .int .i64 0, .int .i64 0] = W9 := ⟨_, rfl⟩
  rw [hW9] at HKR HE9 ⊢
  clear hW9
  go_wp2
  exact bodyPost_ret (v := .tuple #[.agg #[.int .i64 0, .int .i64 0, .int .i64 0, .int .i64 0, .int .i64 0, .int .i64 0], .int .i64 E]) (results_cell_tmp_row Tryz.results34 _ _ (G + 1 + 1) 63 #[.int .i64 0, .int .i64 0, .int .i64 0, .int .i64 0, .int .i64 0, .int .i64 0] (0, 0) _ _ rfl rfl HKR.out Tryz.underlying63 rfl (by kernel_rfl)) rfl ⟨rfl, HE9.out⟩
end

section
open Go.RowKit

def UllageS (h : HoldD) (a b c d : Int) : Int × Int × Int := if holdErr h = 0 then (if massErr a b c d = 0 then ullS h.vol (litresS a b c d).1 (litresS a b c d).2 else (0, 0, massErr a b c d)) else (0, 0, holdErr h)
theorem holdErr_zero {h : HoldD} (e : holdErr h = 0) : holdS h = true := by
  unfold holdErr at e
  split at e
  · assumption
  · omega

set_option maxRecDepth 100000 in
set_option maxHeartbeats 4000000 in
theorem hUllage_any (h : HoldD) (m : HoldM) (a b e0 e1 : Int) (w : World) (hi : HoldIn w h m) :
  Calls Tryz.prog 40 #[holdV h m, rv a b, rv e0 e1] w fun e w' => e = .returned (rt (UllageS h a b e0 e1)) ∧ Below w.heap.size w w' := by
 obtain ⟨R, hR⟩ : ∃ R, UllageS h a b e0 e1 = R := ⟨_, rfl⟩
 obtain ⟨E, hE⟩ : ∃ E, holdErr h = E := ⟨_, rfl⟩
 have C1 : Hid (∀ W, Below w.heap.size w W → Calls Tryz.prog 80 #[holdV h m] W fun e w' => e = .returned (.int .i64 E) ∧ Below W.heap.size W w') := Lib.hid fun W hW => int_to (checkHold_any h m W (hi.below hW)) hE
 have HR : Hid ((if E = 0 then (if massErr a b e0 e1 = 0 then ullS h.vol (litresS a b e0 e1).1 (litresS a b e0 e1).2 else (0, 0, massErr a b e0 e1)) else (0, 0, E)) = R) := Lib.hid (by rw [← hR]; unfold UllageS; rw [hE])
 have HV : E = 0 → tabOk h.vol = true := fun e => hold_tab (holdErr_zero (hE.trans e))
 have h20 : E = 0 ∨ E = 20 := by
  rw [← hE]; unfold holdErr; split
  ·exact .inl rfl
  ·exact .inr rfl
 rw [hR]
 clear hR hE
 obtain ⟨id, al, ah, vol, mom, hei, t0, t1, u0, u1, v0, v1, h0, h1⟩ := h
 obtain ⟨A, n, c, B, mm, d, C, l, ee⟩ := m
 obtain ⟨i1, i2, i3⟩ := hi
 dsimp only at i1 i2 i3 HR HV
 have C2 : Hid (E = 0 → ∀ W Bh, Below w.heap.size w W → Blk W Bh 50 #[.int .i64 id, .int .i64 al, .int .i64 ah, .slice A n c, .slice B mm d, .slice C l ee, .int .i64 t0, .int .i64 t1, .int .i64 u0, .int .i64 u1, .int .i64 v0, .int .i64 v1, .int .i64 h0, .int .i64 h1] → Calls Tryz.prog 81 #[rv a b, rv e0 e1, .func (.func 82) #[] #[.pointer (some ⟨Bh, 0, none⟩)]] W fun e w' => e = .returned (rt (if massErr a b e0 e1 = 0 then ullS vol (litresS a b e0 e1).1 (litresS a b e0 e1).2 else (0, 0, massErr a b e0 e1))) ∧ Below W.heap.size W w') := Lib.hid fun e W Bh hW hB =>
  ofMass_ull a b e0 e1 Bh _ W fun _ V hV => ullage1_any vol id al ah t0 t1 u0 u1 v0 v1 h0 h1 A B C n c mm d l ee _ _ Bh V (blkOn hB hV) (i1.below (below_then hW hV)) (HV e) (first_le_last (HV e))
 have HE := Lib.hid (show Below w.heap.size w ((((w.alloc (.cells #[.int .i64 id, .int .i64 al, .int .i64 ah, .slice A n c, .slice B mm d, .slice C l ee, .int .i64 t0, .int .i64 t1, .int .i64 u0, .int .i64 u1, .int .i64 v0, .int .i64 v1, .int .i64 h0, .int .i64 h1] 50)).alloc (.cells #[.int .i64 a, .int .i64 b] 30)).alloc (.cells #[.int .i64 e0, .int .i64 e1] 30)).alloc (.cells #[.int .i64 0, .int .i64 0] 30)) from below_a4 (Below.refl _ _))
 have HK := Lib.hid (boxes4' w 50 30 30 30 #[.int .i64 id, .int .i64 al, .int .i64 ah, .slice A n c, .slice B mm d, .slice C l ee, .int .i64 t0, .int .i64 t1, .int .i64 u0, .int .i64 u1, .int .i64 v0, .int .i64 v1, .int .i64 h0, .int .i64 h1] #[.int .i64 a, .int .i64 b] #[.int .i64 e0, .int .i64 e1] #[.int .i64 0, .int .i64 0])
 clear i1 i2 i3 HV
 generalize (if massErr a b e0 e1 = 0 then ullS vol (litresS a b e0 e1).1 (litresS a b e0 e1).2 else (0, 0, massErr a b e0 e1)) = Q at *
 obtain ⟨qa, qb, qe⟩ := Q
 go_enter Tryz.func40, Tryz.ntmps40
 go_wp2_with fail
 obtain ⟨W0, hW0⟩ : ∃ W0, ((((w.alloc (.cells #[.int .i64 id, .int .i64 al, .int .i64 ah, .slice A n c, .slice B mm d, .slice C l ee, .int .i64 t0, .int .i64 t1, .int .i64 u0, .int .i64 u1, .int .i64 v0, .int .i64 v1, .int .i64 h0, .int .i64 h1] 50)).alloc (.cells #[.int .i64 a, .int .i64 b] 30)).alloc (.cells #[.int .i64 e0, .int .i64 e1] 30)).alloc (.cells #[.int .i64 0, .int .i64 0] 30)) = W0 := ⟨_, rfl⟩
 rw [hW0] at HE HK ⊢
 clear hW0
 obtain ⟨G, hG⟩ : ∃ G, w.heap.size = G := ⟨_, rfl⟩
 rw [hG] at HK ⊢
 have HG := Lib.hid hG; clear hG
 refine (C1.out _ HE.out).mono ?_
 rintro e w1 ⟨rfl, hb⟩
 have HE1 := Lib.hid (below_then HE.out hb); have HK1 := Lib.hid (HK.out.on hb)
 clear hb HE HK C1
 by_cases g : E = 0
 ·have eR : R = (qa, qb, qe) := by rw [← HR.out, if_pos g]
  subst eR
  have D2 := Lib.hid (C2.out g)
  clear HR C2
  subst g
  have p := HK1.out _ (.tail _ (.tail _ (.head _)))
  have p0 := p.cell 0
  have p1 := p.cell 1
  simp at p0 p1
  clear p
  have q := HK1.out _ (.tail _ (.head _))
  have q0 := q.cell 0
  have q1 := q.cell 1
  simp at q0 q1
  clear q
  go_wp2_with fail
  refine (D2.out _ _ HE1.out (HK1.out _ (.tail _ (.tail _ (.tail _ (.head _)))))).mono ?_
  rintro e w2 ⟨rfl, hb⟩
  have HE2 := Lib.hid (below_then HE1.out hb); have HK2 := Lib.hid (HK1.out.on hb)
  clear hb HE1 HK1 D2 p0 p1 q0 q1
  have z := HK2.out _ (.head _)
  have z0 := z.cell 0
  have zf0 := z.frozen 0
  have z1 := z.cell 1
  have zf1 := z.frozen 1
  have zl := z.lt
  simp at z0 zf0 z1 zf1
  clear z
  go_wp2
  refine bodyPost_ret (v := rt (qa, qb, qe)) (by simp [results, Tryz.results40, go_sem, z0, z1]) rfl ⟨rfl, ?_⟩
  have hg := HG.out
  repeat (first | exact HE2.out | refine Below.setCell ?_ (by simp <;> omega) _)
 ·have eR : R = (0, 0, E) := by rw [← HR.out, if_neg g]
  subst eR
  clear HR C2
  obtain rfl : E = 20 := h20.resolve_left g
  have z := HK1.out _ (.head _)
  have z0 := z.cell 0
  have zf0 := z.frozen 0
  have z1 := z.cell 1
  have zf1 := z.frozen 1
  have zl := z.lt
  simp at z0 zf0 z1 zf1
  clear z
  go_wp2
  refine bodyPost_ret (v := rt (0, 0, 20)) (by simp [results, Tryz.results40, go_sem, z0, z1]) rfl ⟨rfl, ?_⟩
  have hg := HG.out
  repeat (first | exact HE1.out | refine Below.setCell ?_ (by simp <;> omega) _)

def lineS (a b : Int) : List P3 := [(0, a, a), (100, b, b)]

set_option maxRecDepth 100000 in
set_option maxHeartbeats 4000000 in
theorem line_any (a b : Int) (w : World) : Calls Tryz.prog 79 #[.int .i64 a, .int .i64 b] w fun e w' => ∃ g, e = .returned (tv (some ⟨g, 0, none⟩) 2 2) ∧ w.heap.size ≤ g ∧ Blk w' g 93 #[.int .i64 0, .int .i64 a, .int .i64 a, .int .i64 100, .int .i64 b, .int .i64 b] ∧ Below w.heap.size w w' := by
 go_enter Tryz.func79, Tryz.ntmps79
 go_wp2_with fail
 have hE : Below w.heap.size w ((w.alloc (.cells #[.slice (some ⟨w.heap.size + 1, 0, none⟩) 2 2] 48)).alloc (.cells #[.int .i64 0, .int .i64 a, .int .i64 a, .int .i64 100, .int .i64 b, .int .i64 b] 93)) := below_a2 (Below.refl _ _)
 have bP := Blk.new (w.alloc (.cells #[.slice (some ⟨w.heap.size + 1, 0, none⟩) 2 2] 48)) 93 #[.int .i64 0, .int .i64 a, .int .i64 a, .int .i64 100, .int .i64 b, .int .i64 b]
 simp only [World.size_alloc] at bP
 refine bodyPost_ret (v := tv (some ⟨w.heap.size + 1, 0, none⟩) 2 2) (by simp [results, Tryz.results79, go_sem]) rfl ⟨_, rfl, by omega, bP, hE⟩
end

end Go.Proofs.YtekkiedlajhaiaaGreat
