/- The contracts of hull and Pour (the specification of layer 2). Their condition: the hold's tables lie in memory. -/
import Derived.Test.YtbcefdaflnlhoaaGreatQ32
import Derived.Test.YtbcefdaflnlhoaaGreatQ29
import Derived.Test.YtbcefdaflnlhoaaGreatQ27
set_option linter.unusedVariables false
set_option linter.unusedSimpArgs false
set_option linter.constructorNameAsVariable false
namespace Go.Proofs.YtbcefdaflnlhoaaGreat

section
open Go.RowKit
attribute [local go_sem ↓] run_minI run_maxI
set_option maxRecDepth 100000 in
set_option maxHeartbeats 4000000 in
theorem sPour_e1 (vol mom hei : List P3) (id al ah t0 t1 u0 u1 v0 v1 h0 h1 : Int) (A B C : Option Addr) (n c mm d l ee : Nat) (fh x0 x1 d0 d1 a b e0 e1 st E : Int) (w : World) (hi : HoldIn w ⟨id, al, ah, vol, mom, hei, t0, t1, u0, u1, v0, v1, h0, h1⟩ ⟨A, n, c, B, mm, d, C, l, ee⟩)
    (g1 : fillErr ⟨id, al, ah, vol, mom, hei, t0, t1, u0, u1, v0, v1, h0, h1⟩ ⟨fh, st, x0, x1, d0, d1⟩ = E) (gE : ¬ E = 0) :
    Calls Tryz.prog 22 #[.agg #[.int .i64 id, .int .i64 al, .int .i64 ah, .slice A n c, .slice B mm d, .slice C l ee, .int .i64 t0, .int .i64 t1, .int .i64 u0, .int .i64 u1, .int .i64 v0, .int .i64 v1, .int .i64 h0, .int .i64 h1], .agg #[.int .i64 fh, .int .i64 st, .int .i64 x0, .int .i64 x1, .int .i64 d0, .int .i64 d1], rv a b, rv e0 e1] w fun e w' => e = .returned (ft (noFill, E)) ∧ Below w.heap.size w w' := by
  have HE := Lib.hid (show Below w.heap.size w (((((w.alloc (.cells #[.int .i64 id, .int .i64 al, .int .i64 ah, .slice A n c, .slice B mm d, .slice C l ee, .int .i64 t0, .int .i64 t1, .int .i64 u0, .int .i64 u1, .int .i64 v0, .int .i64 v1, .int .i64 h0, .int .i64 h1] 45)).alloc (.cells #[.int .i64 fh, .int .i64 st, .int .i64 x0, .int .i64 x1, .int .i64 d0, .int .i64 d1] 47)).alloc (.cells #[.int .i64 a, .int .i64 b] 23)).alloc (.cells #[.int .i64 e0, .int .i64 e1] 23)).alloc (.cells #[.int .i64 0, .int .i64 0, .int .i64 0, .int .i64 0, .int .i64 0, .int .i64 0] 47)) from below_a5 (Below.refl _ _))
  have HK := Lib.hid (boxes5' w 45 47 23 23 47 #[.int .i64 id, .int .i64 al, .int .i64 ah, .slice A n c, .slice B mm d, .slice C l ee, .int .i64 t0, .int .i64 t1, .int .i64 u0, .int .i64 u1, .int .i64 v0, .int .i64 v1, .int .i64 h0, .int .i64 h1] #[.int .i64 fh, .int .i64 st, .int .i64 x0, .int .i64 x1, .int .i64 d0, .int .i64 d1] #[.int .i64 a, .int .i64 b] #[.int .i64 e0, .int .i64 e1] #[.int .i64 0, .int .i64 0, .int .i64 0, .int .i64 0, .int .i64 0, .int .i64 0])
  obtain ⟨i1, i2, i3⟩ := hi
  dsimp only at i1 i2 i3
  have C1 : Hid (∀ W, Below w.heap.size w W → Calls Tryz.prog 69 #[.agg #[.int .i64 id, .int .i64 al, .int .i64 ah, .slice A n c, .slice B mm d, .slice C l ee, .int .i64 t0, .int .i64 t1, .int .i64 u0, .int .i64 u1, .int .i64 v0, .int .i64 v1, .int .i64 h0, .int .i64 h1], .agg #[.int .i64 fh, .int .i64 st, .int .i64 x0, .int .i64 x1, .int .i64 d0, .int .i64 d1]] W fun e w' => e = .returned (.int .i64 E) ∧ Below W.heap.size W w') := Lib.hid fun W hW => int_to (sCheckFill_any ⟨id, al, ah, vol, mom, hei, t0, t1, u0, u1, v0, v1, h0, h1⟩ ⟨A, n, c, B, mm, d, C, l, ee⟩ ⟨fh, st, x0, x1, d0, d1⟩ W ⟨i1.below hW, i2.below hW, i3.below hW⟩) g1
  clear g1 i1 i2 i3
  go_enter Tryz.func22, Tryz.ntmps22
  go_wp2_with fail
  obtain ⟨W0, hW0⟩ : ∃ W0, (((((w.alloc (.cells #[.int .i64 id, .int .i64 al, .int .i64 ah, .slice A n c, .slice B mm d, .slice C l ee, .int .i64 t0, .int .i64 t1, .int .i64 u0, .int .i64 u1, .int .i64 v0, .int .i64 v1, .int .i64 h0, .int .i64 h1] 45)).alloc (.cells #[.int .i64 fh, .int .i64 st, .int .i64 x0, .int .i64 x1, .int .i64 d0, .int .i64 d1] 47)).alloc (.cells #[.int .i64 a, .int .i64 b] 23)).alloc (.cells #[.int .i64 e0, .int .i64 e1] 23)).alloc (.cells #[.int .i64 0, .int .i64 0, .int .i64 0, .int .i64 0, .int .i64 0, .int .i64 0] 47)) = W0 := ⟨_, rfl⟩
  rw [hW0] at HE HK ⊢
  clear hW0
  obtain ⟨G, hG⟩ : ∃ G, w.heap.size = G := ⟨_, rfl⟩
  rw [hG] at HK ⊢
  have HG := Lib.hid hG; clear hG
  refine (C1.out _ HE.out).mono ?_
  rintro e w1 ⟨rfl, hq⟩
  have HE1 := Lib.hid (below_then HE.out hq); have HK1 := Lib.hid (HK.out.on hq)
  clear hq HE HK C1
  go_upto_region 3 with fail
  refine wp_region_lit ?_
  refine wpList_plain rfl (fun K hK => ?_)
  go_simp
  refine hK _ _ ?_
  clear hK K
  refine wpList_plain rfl (fun K hK => ?_)
  go_simp
  refine hK _ _ ?_
  clear hK K
  have HKR : Hid (Blk (w1.setRow (G + 1 + 1 + 1 + 1) #[.int .i64 0, .int .i64 0, .int .i64 0, .int .i64 0, .int .i64 0, .int .i64 0]) (G + 1 + 1 + 1 + 1) 47 #[.int .i64 0, .int .i64 0, .int .i64 0, .int .i64 0, .int .i64 0, .int .i64 0]) := Lib.hid (setRow_heap w1 (G + 1 + 1 + 1 + 1) _ _ 47 _ (HK1.out _ (.head _)))
  have HE9 := Lib.hid (below_setRow HE1.out (show w.heap.size ≤ G + 1 + 1 + 1 + 1 by have := HG.out; omega) #[.int .i64 0, .int .i64 0, .int .i64 0, .int .i64 0, .int .i64 0, .int .i64 0])
  refine wpList_store_row rfl 47 (.tmp 8) (.tmp 22) rfl (G + 1 + 1 + 1 + 1) #[.int .i64 0, .int .i64 0, .int .i64 0, .int .i64 0, .int .i64 0, .int .i64 0] rfl rfl 47 _ (HK1.out _ (.head _)) (by kernel_rfl) rfl (by kernel_rfl) ?_
  obtain ⟨W9, hW9⟩ : ∃ W9, w1.setRow (G + 1 + 1 + 1 + 1) #[.int .i64 0, .int .i64 0, .int .i64 0, .int .i64 0, .int .i64 0, .int .i64 0] = W9 := ⟨_, rfl⟩
  rw [hW9] at HKR HE9 ⊢
  clear hW9
  go_wp2
  exact bodyPost_ret (v := .tuple #[.agg #[.int .i64 0, .int .i64 0, .int .i64 0, .int .i64 0, .int .i64 0, .int .i64 0], .int .i64 E]) (results_cell_tmp_row Tryz.results22 _ _ (G + 1 + 1 + 1 + 1) 47 #[.int .i64 0, .int .i64 0, .int .i64 0, .int .i64 0, .int .i64 0, .int .i64 0] (0, 0) _ _ rfl rfl HKR.out Tryz.underlying47 rfl (by kernel_rfl)) rfl ⟨rfl, HE9.out⟩

set_option maxRecDepth 100000 in
set_option maxHeartbeats 4000000 in
theorem sPour_e2 (vol mom hei : List P3) (id al ah t0 t1 u0 u1 v0 v1 h0 h1 : Int) (A B C : Option Addr) (n c mm d l ee : Nat) (fh x0 x1 d0 d1 a b e0 e1 st E : Int) (w : World) (hi : HoldIn w ⟨id, al, ah, vol, mom, hei, t0, t1, u0, u1, v0, v1, h0, h1⟩ ⟨A, n, c, B, mm, d, C, l, ee⟩)
    (g1 : fillErr ⟨id, al, ah, vol, mom, hei, t0, t1, u0, u1, v0, v1, h0, h1⟩ ⟨fh, st, x0, x1, d0, d1⟩ = 0) (g2 : massErr a b e0 e1 = E) (gE : ¬ E = 0) :
    Calls Tryz.prog 22 #[.agg #[.int .i64 id, .int .i64 al, .int .i64 ah, .slice A n c, .slice B mm d, .slice C l ee, .int .i64 t0, .int .i64 t1, .int .i64 u0, .int .i64 u1, .int .i64 v0, .int .i64 v1, .int .i64 h0, .int .i64 h1], .agg #[.int .i64 fh, .int .i64 st, .int .i64 x0, .int .i64 x1, .int .i64 d0, .int .i64 d1], rv a b, rv e0 e1] w fun e w' => e = .returned (ft (noFill, E)) ∧ Below w.heap.size w w' := by
  have HE := Lib.hid (show Below w.heap.size w (((((w.alloc (.cells #[.int .i64 id, .int .i64 al, .int .i64 ah, .slice A n c, .slice B mm d, .slice C l ee, .int .i64 t0, .int .i64 t1, .int .i64 u0, .int .i64 u1, .int .i64 v0, .int .i64 v1, .int .i64 h0, .int .i64 h1] 45)).alloc (.cells #[.int .i64 fh, .int .i64 st, .int .i64 x0, .int .i64 x1, .int .i64 d0, .int .i64 d1] 47)).alloc (.cells #[.int .i64 a, .int .i64 b] 23)).alloc (.cells #[.int .i64 e0, .int .i64 e1] 23)).alloc (.cells #[.int .i64 0, .int .i64 0, .int .i64 0, .int .i64 0, .int .i64 0, .int .i64 0] 47)) from below_a5 (Below.refl _ _))
  have HK := Lib.hid (boxes5' w 45 47 23 23 47 #[.int .i64 id, .int .i64 al, .int .i64 ah, .slice A n c, .slice B mm d, .slice C l ee, .int .i64 t0, .int .i64 t1, .int .i64 u0, .int .i64 u1, .int .i64 v0, .int .i64 v1, .int .i64 h0, .int .i64 h1] #[.int .i64 fh, .int .i64 st, .int .i64 x0, .int .i64 x1, .int .i64 d0, .int .i64 d1] #[.int .i64 a, .int .i64 b] #[.int .i64 e0, .int .i64 e1] #[.int .i64 0, .int .i64 0, .int .i64 0, .int .i64 0, .int .i64 0, .int .i64 0])
  obtain ⟨i1, i2, i3⟩ := hi
  dsimp only at i1 i2 i3
  have C1 : Hid (∀ W, Below w.heap.size w W → Calls Tryz.prog 69 #[.agg #[.int .i64 id, .int .i64 al, .int .i64 ah, .slice A n c, .slice B mm d, .slice C l ee, .int .i64 t0, .int .i64 t1, .int .i64 u0, .int .i64 u1, .int .i64 v0, .int .i64 v1, .int .i64 h0, .int .i64 h1], .agg #[.int .i64 fh, .int .i64 st, .int .i64 x0, .int .i64 x1, .int .i64 d0, .int .i64 d1]] W fun e w' => e = .returned (.int .i64 0) ∧ Below W.heap.size W w') := Lib.hid fun W hW => int_to (sCheckFill_any ⟨id, al, ah, vol, mom, hei, t0, t1, u0, u1, v0, v1, h0, h1⟩ ⟨A, n, c, B, mm, d, C, l, ee⟩ ⟨fh, st, x0, x1, d0, d1⟩ W ⟨i1.below hW, i2.below hW, i3.below hW⟩) g1
  have g2' : LitresS a b e0 e1 = (0, 0, E) := by unfold LitresS; rw [g2, if_neg gE]
  have C2 : Hid (∀ W, Calls Tryz.prog 70 #[rv a b, rv e0 e1] W fun e w' => e = .returned (.tuple #[rv 0 0, .int .i64 E]) ∧ Below W.heap.size W w') := Lib.hid fun W => rt_to (sLitres_any a b e0 e1 W) g2'
  clear g1 g2 g2' i1 i2 i3
  go_enter Tryz.func22, Tryz.ntmps22
  go_wp2_with fail
  obtain ⟨W0, hW0⟩ : ∃ W0, (((((w.alloc (.cells #[.int .i64 id, .int .i64 al, .int .i64 ah, .slice A n c, .slice B mm d, .slice C l ee, .int .i64 t0, .int .i64 t1, .int .i64 u0, .int .i64 u1, .int .i64 v0, .int .i64 v1, .int .i64 h0, .int .i64 h1] 45)).alloc (.cells #[.int .i64 fh, .int .i64 st, .int .i64 x0, .int .i64 x1, .int .i64 d0, .int .i64 d1] 47)).alloc (.cells #[.int .i64 a, .int .i64 b] 23)).alloc (.cells #[.int .i64 e0, .int .i64 e1] 23)).alloc (.cells #[.int .i64 0, .int .i64 0, .int .i64 0, .int .i64 0, .int .i64 0, .int .i64 0] 47)) = W0 := ⟨_, rfl⟩
  rw [hW0] at HE HK ⊢
  clear hW0
  obtain ⟨G, hG⟩ : ∃ G, w.heap.size = G := ⟨_, rfl⟩
  rw [hG] at HK ⊢
  have HG := Lib.hid hG; clear hG
  refine (C1.out _ HE.out).mono ?_
  rintro e w1 ⟨rfl, hq⟩
  have HE1 := Lib.hid (below_then HE.out hq); have HK1 := Lib.hid (HK.out.on hq)
  clear hq HE HK C1
  have ma := HK1.out _ (.tail _ (.tail _ (.head _)))
  have ma0 := ma.cell 0
  have ma1 := ma.cell 1
  simp at ma0 ma1
  clear ma
  have na := HK1.out _ (.tail _ (.head _))
  have na0 := na.cell 0
  have na1 := na.cell 1
  simp at na0 na1
  clear na
  go_wp2_with fail
  refine (C2.out _).mono ?_
  rintro e y2 ⟨rfl, hq⟩
  have HE2 := Lib.hid (below_then (below_then HE1.out hq) (below_alloc1 y2 (.cells #[.int .i64 0, .int .i64 0] 23))); have HK2 := Lib.hid ((HK1.out.on hq).new 23 #[.int .i64 0, .int .i64 0])
  have HD2 := Lib.hid (boxes_lt (HK1.out.on hq))
  have HZ2 := Lib.hid (below_then HE1.out hq).size
  clear hq HE1 HK1 ma0 ma1 na0 na1 C2
  go_upto_region 5 with fail
  obtain ⟨W2, hW⟩ : ∃ W', y2.alloc (.cells #[.int .i64 0, .int .i64 0] 23) = W' := ⟨_, rfl⟩
  rw [hW] at HE2 HK2 ⊢
  clear hW
  obtain ⟨N2, hN⟩ : ∃ N, y2.heap.size = N := ⟨_, rfl⟩
  rw [hN] at HK2 HD2 HZ2 ⊢
  clear hN
  go_upto_region 6 with fail
  refine wp_region_lit ?_
  refine wpList_plain rfl (fun K hK => ?_)
  go_simp
  refine hK _ _ ?_
  clear hK K
  refine wpList_plain rfl (fun K hK => ?_)
  go_simp
  refine hK _ _ ?_
  clear hK K
  have HKR : Hid (Blk (W2.setRow (G + 1 + 1 + 1 + 1) #[.int .i64 0, .int .i64 0, .int .i64 0, .int .i64 0, .int .i64 0, .int .i64 0]) (G + 1 + 1 + 1 + 1) 47 #[.int .i64 0, .int .i64 0, .int .i64 0, .int .i64 0, .int .i64 0, .int .i64 0]) := Lib.hid (setRow_heap W2 (G + 1 + 1 + 1 + 1) _ _ 47 _ (HK2.out _ (.tail _ (.head _))))
  have HE9 := Lib.hid (below_setRow HE2.out (show w.heap.size ≤ G + 1 + 1 + 1 + 1 by have := HG.out; omega) #[.int .i64 0, .int .i64 0, .int .i64 0, .int .i64 0, .int .i64 0, .int .i64 0])
  refine wpList_store_row rfl 47 (.tmp 8) (.tmp 32) rfl (G + 1 + 1 + 1 + 1) #[.int .i64 0, .int .i64 0, .int .i64 0, .int .i64 0, .int .i64 0, .int .i64 0] rfl rfl 47 _ (HK2.out _ (.tail _ (.head _))) (by kernel_rfl) rfl (by kernel_rfl) ?_
  obtain ⟨W9, hW9⟩ : ∃ W9, W2.setRow (G + 1 + 1 + 1 + 1) #[.int .i64 0, .int .i64 0, .int .i64 0, .int .i64 0, .int .i64 0, .int .i64 0] = W9 := ⟨_, rfl⟩
  rw [hW9] at HKR HE9 ⊢
  clear hW9
  go_wp2
  exact bodyPost_ret (v := .tuple #[.agg #[.int .i64 0, .int .i64 0, .int .i64 0, .int .i64 0, .int .i64 0, .int .i64 0], .int .i64 E]) (results_cell_tmp_row Tryz.results22 _ _ (G + 1 + 1 + 1 + 1) 47 #[.int .i64 0, .int .i64 0, .int .i64 0, .int .i64 0, .int .i64 0, .int .i64 0] (0, 0) _ _ rfl rfl HKR.out Tryz.underlying47 rfl (by kernel_rfl)) rfl ⟨rfl, HE9.out⟩

set_option maxRecDepth 100000 in
set_option maxHeartbeats 4000000 in
theorem sPour_e3 (vol mom hei : List P3) (id al ah t0 t1 u0 u1 v0 v1 h0 h1 : Int) (A B C : Option Addr) (n c mm d l ee : Nat) (fh x0 x1 d0 d1 a b e0 e1 r s st : Int) (w : World) (hi : HoldIn w ⟨id, al, ah, vol, mom, hei, t0, t1, u0, u1, v0, v1, h0, h1⟩ ⟨A, n, c, B, mm, d, C, l, ee⟩)
    (g1 : fillErr ⟨id, al, ah, vol, mom, hei, t0, t1, u0, u1, v0, v1, h0, h1⟩ ⟨fh, st, x0, x1, d0, d1⟩ = 0) (g2 : massErr a b e0 e1 = 0) (k2 : litresS a b e0 e1 = (r, s)) (g3 : a < 0) :
    Calls Tryz.prog 22 #[.agg #[.int .i64 id, .int .i64 al, .int .i64 ah, .slice A n c, .slice B mm d, .slice C l ee, .int .i64 t0, .int .i64 t1, .int .i64 u0, .int .i64 u1, .int .i64 v0, .int .i64 v1, .int .i64 h0, .int .i64 h1], .agg #[.int .i64 fh, .int .i64 st, .int .i64 x0, .int .i64 x1, .int .i64 d0, .int .i64 d1], rv a b, rv e0 e1] w fun e w' => e = .returned (ft (noFill, 1)) ∧ Below w.heap.size w w' := by
  have HE := Lib.hid (show Below w.heap.size w (((((w.alloc (.cells #[.int .i64 id, .int .i64 al, .int .i64 ah, .slice A n c, .slice B mm d, .slice C l ee, .int .i64 t0, .int .i64 t1, .int .i64 u0, .int .i64 u1, .int .i64 v0, .int .i64 v1, .int .i64 h0, .int .i64 h1] 45)).alloc (.cells #[.int .i64 fh, .int .i64 st, .int .i64 x0, .int .i64 x1, .int .i64 d0, .int .i64 d1] 47)).alloc (.cells #[.int .i64 a, .int .i64 b] 23)).alloc (.cells #[.int .i64 e0, .int .i64 e1] 23)).alloc (.cells #[.int .i64 0, .int .i64 0, .int .i64 0, .int .i64 0, .int .i64 0, .int .i64 0] 47)) from below_a5 (Below.refl _ _))
  have HK := Lib.hid (boxes5' w 45 47 23 23 47 #[.int .i64 id, .int .i64 al, .int .i64 ah, .slice A n c, .slice B mm d, .slice C l ee, .int .i64 t0, .int .i64 t1, .int .i64 u0, .int .i64 u1, .int .i64 v0, .int .i64 v1, .int .i64 h0, .int .i64 h1] #[.int .i64 fh, .int .i64 st, .int .i64 x0, .int .i64 x1, .int .i64 d0, .int .i64 d1] #[.int .i64 a, .int .i64 b] #[.int .i64 e0, .int .i64 e1] #[.int .i64 0, .int .i64 0, .int .i64 0, .int .i64 0, .int .i64 0, .int .i64 0])
  obtain ⟨i1, i2, i3⟩ := hi
  dsimp only at i1 i2 i3
  have C1 : Hid (∀ W, Below w.heap.size w W → Calls Tryz.prog 69 #[.agg #[.int .i64 id, .int .i64 al, .int .i64 ah, .slice A n c, .slice B mm d, .slice C l ee, .int .i64 t0, .int .i64 t1, .int .i64 u0, .int .i64 u1, .int .i64 v0, .int .i64 v1, .int .i64 h0, .int .i64 h1], .agg #[.int .i64 fh, .int .i64 st, .int .i64 x0, .int .i64 x1, .int .i64 d0, .int .i64 d1]] W fun e w' => e = .returned (.int .i64 0) ∧ Below W.heap.size W w') := Lib.hid fun W hW => int_to (sCheckFill_any ⟨id, al, ah, vol, mom, hei, t0, t1, u0, u1, v0, v1, h0, h1⟩ ⟨A, n, c, B, mm, d, C, l, ee⟩ ⟨fh, st, x0, x1, d0, d1⟩ W ⟨i1.below hW, i2.below hW, i3.below hW⟩) g1
  have g2' : LitresS a b e0 e1 = (r, s, 0) := by unfold LitresS; rw [g2, k2, if_pos rfl]
  have C2 : Hid (∀ W, Calls Tryz.prog 70 #[rv a b, rv e0 e1] W fun e w' => e = .returned (.tuple #[rv r s, .int .i64 0]) ∧ Below W.heap.size W w') := Lib.hid fun W => rt_to (sLitres_any a b e0 e1 W) g2'
  clear g1 g2 i1 i2 i3 g2' k2
  go_enter Tryz.func22, Tryz.ntmps22
  go_wp2_with fail
  obtain ⟨W0, hW0⟩ : ∃ W0, (((((w.alloc (.cells #[.int .i64 id, .int .i64 al, .int .i64 ah, .slice A n c, .slice B mm d, .slice C l ee, .int .i64 t0, .int .i64 t1, .int .i64 u0, .int .i64 u1, .int .i64 v0, .int .i64 v1, .int .i64 h0, .int .i64 h1] 45)).alloc (.cells #[.int .i64 fh, .int .i64 st, .int .i64 x0, .int .i64 x1, .int .i64 d0, .int .i64 d1] 47)).alloc (.cells #[.int .i64 a, .int .i64 b] 23)).alloc (.cells #[.int .i64 e0, .int .i64 e1] 23)).alloc (.cells #[.int .i64 0, .int .i64 0, .int .i64 0, .int .i64 0, .int .i64 0, .int .i64 0] 47)) = W0 := ⟨_, rfl⟩
  rw [hW0] at HE HK ⊢
  clear hW0
  obtain ⟨G, hG⟩ : ∃ G, w.heap.size = G := ⟨_, rfl⟩
  rw [hG] at HK ⊢
  have HG := Lib.hid hG; clear hG
  refine (C1.out _ HE.out).mono ?_
  rintro e w1 ⟨rfl, hq⟩
  have HE1 := Lib.hid (below_then HE.out hq); have HK1 := Lib.hid (HK.out.on hq)
  clear hq HE HK C1
  have ma := HK1.out _ (.tail _ (.tail _ (.head _)))
  have ma0 := ma.cell 0
  have ma1 := ma.cell 1
  simp at ma0 ma1
  clear ma
  have na := HK1.out _ (.tail _ (.head _))
  have na0 := na.cell 0
  have na1 := na.cell 1
  simp at na0 na1
  clear na
  go_wp2_with fail
  refine (C2.out _).mono ?_
  rintro e y2 ⟨rfl, hq⟩
  have HE2 := Lib.hid (below_then (below_then HE1.out hq) (below_alloc1 y2 (.cells #[.int .i64 r, .int .i64 s] 23))); have HK2 := Lib.hid ((HK1.out.on hq).new 23 #[.int .i64 r, .int .i64 s])
  have HD2 := Lib.hid (boxes_lt (HK1.out.on hq))
  have HZ2 := Lib.hid (below_then HE1.out hq).size
  clear hq HE1 HK1 ma0 ma1 na0 na1 C2
  go_upto_region 5 with fail
  obtain ⟨W2, hW⟩ : ∃ W', y2.alloc (.cells #[.int .i64 r, .int .i64 s] 23) = W' := ⟨_, rfl⟩
  rw [hW] at HE2 HK2 ⊢
  clear hW
  obtain ⟨N2, hN⟩ : ∃ N, y2.heap.size = N := ⟨_, rfl⟩
  rw [hN] at HK2 HD2 HZ2 ⊢
  clear hN
  have ma := HK2.out _ (.tail _ (.tail _ (.tail _ (.head _))))
  have ma0 := ma.cell 0
  simp at ma0
  clear ma
  go_upto_region 8 with fail
  refine wp_region_lit ?_
  refine wpList_plain rfl (fun K hK => ?_)
  go_simp
  refine hK _ _ ?_
  clear hK K
  have HKR : Hid (Blk (W2.setRow (G + 1 + 1 + 1 + 1) #[.int .i64 0, .int .i64 0, .int .i64 0, .int .i64 0, .int .i64 0, .int .i64 0]) (G + 1 + 1 + 1 + 1) 47 #[.int .i64 0, .int .i64 0, .int .i64 0, .int .i64 0, .int .i64 0, .int .i64 0]) := Lib.hid (setRow_heap W2 (G + 1 + 1 + 1 + 1) _ _ 47 _ (HK2.out _ (.tail _ (.head _))))
  have HE9 := Lib.hid (below_setRow HE2.out (show w.heap.size ≤ G + 1 + 1 + 1 + 1 by have := HG.out; omega) #[.int .i64 0, .int .i64 0, .int .i64 0, .int .i64 0, .int .i64 0, .int .i64 0])
  refine wpList_store_row rfl 47 (.tmp 8) (.tmp 37) rfl (G + 1 + 1 + 1 + 1) #[.int .i64 0, .int .i64 0, .int .i64 0, .int .i64 0, .int .i64 0, .int .i64 0] rfl rfl 47 _ (HK2.out _ (.tail _ (.head _))) (by kernel_rfl) rfl (by kernel_rfl) ?_
  obtain ⟨W9, hW9⟩ : ∃ W9, W2.setRow (G + 1 + 1 + 1 + 1) #[.int .i64 0, .int .i64 0, .int .i64 0, .int .i64 0, .int .i64 0, .int .i64 0] = W9 := ⟨_, rfl⟩
  rw [hW9] at HKR HE9 ⊢
  clear hW9
  go_wp2
  exact bodyPost_ret (v := .tuple #[.agg #[.int .i64 0, .int .i64 0, .int .i64 0, .int .i64 0, .int .i64 0, .int .i64 0], .int .i64 1]) (results_cell_tmp_row Tryz.results22 _ _ (G + 1 + 1 + 1 + 1) 47 #[.int .i64 0, .int .i64 0, .int .i64 0, .int .i64 0, .int .i64 0, .int .i64 0] (0, 0) _ _ rfl rfl HKR.out Tryz.underlying47 rfl (by kernel_rfl)) rfl ⟨rfl, HE9.out⟩

set_option maxRecDepth 100000 in
set_option maxHeartbeats 4000000 in
theorem sPour_s4 (vol mom hei : List P3) (id al ah t0 t1 u0 u1 v0 v1 h0 h1 : Int) (A B C : Option Addr) (n c mm d l ee : Nat) (fh x0 x1 d0 d1 a b e0 e1 r s : Int) (w : World) (hi : HoldIn w ⟨id, al, ah, vol, mom, hei, t0, t1, u0, u1, v0, v1, h0, h1⟩ ⟨A, n, c, B, mm, d, C, l, ee⟩)
    (g1 : fillErr ⟨id, al, ah, vol, mom, hei, t0, t1, u0, u1, v0, v1, h0, h1⟩ ⟨fh, 4, x0, x1, d0, d1⟩ = 0) (g2 : massErr a b e0 e1 = 0) (k2 : litresS a b e0 e1 = (r, s)) (g3 : ¬ a < 0) :
    Calls Tryz.prog 22 #[.agg #[.int .i64 id, .int .i64 al, .int .i64 ah, .slice A n c, .slice B mm d, .slice C l ee, .int .i64 t0, .int .i64 t1, .int .i64 u0, .int .i64 u1, .int .i64 v0, .int .i64 v1, .int .i64 h0, .int .i64 h1], .agg #[.int .i64 fh, .int .i64 4, .int .i64 x0, .int .i64 x1, .int .i64 d0, .int .i64 d1], rv a b, rv e0 e1] w fun e w' => e = .returned (ft (noFill, 22)) ∧ Below w.heap.size w w' := by
  have HE := Lib.hid (show Below w.heap.size w (((((w.alloc (.cells #[.int .i64 id, .int .i64 al, .int .i64 ah, .slice A n c, .slice B mm d, .slice C l ee, .int .i64 t0, .int .i64 t1, .int .i64 u0, .int .i64 u1, .int .i64 v0, .int .i64 v1, .int .i64 h0, .int .i64 h1] 45)).alloc (.cells #[.int .i64 fh, .int .i64 4, .int .i64 x0, .int .i64 x1, .int .i64 d0, .int .i64 d1] 47)).alloc (.cells #[.int .i64 a, .int .i64 b] 23)).alloc (.cells #[.int .i64 e0, .int .i64 e1] 23)).alloc (.cells #[.int .i64 0, .int .i64 0, .int .i64 0, .int .i64 0, .int .i64 0, .int .i64 0] 47)) from below_a5 (Below.refl _ _))
  have HK := Lib.hid (boxes5' w 45 47 23 23 47 #[.int .i64 id, .int .i64 al, .int .i64 ah, .slice A n c, .slice B mm d, .slice C l ee, .int .i64 t0, .int .i64 t1, .int .i64 u0, .int .i64 u1, .int .i64 v0, .int .i64 v1, .int .i64 h0, .int .i64 h1] #[.int .i64 fh, .int .i64 4, .int .i64 x0, .int .i64 x1, .int .i64 d0, .int .i64 d1] #[.int .i64 a, .int .i64 b] #[.int .i64 e0, .int .i64 e1] #[.int .i64 0, .int .i64 0, .int .i64 0, .int .i64 0, .int .i64 0, .int .i64 0])
  obtain ⟨i1, i2, i3⟩ := hi
  dsimp only at i1 i2 i3
  have C1 : Hid (∀ W, Below w.heap.size w W → Calls Tryz.prog 69 #[.agg #[.int .i64 id, .int .i64 al, .int .i64 ah, .slice A n c, .slice B mm d, .slice C l ee, .int .i64 t0, .int .i64 t1, .int .i64 u0, .int .i64 u1, .int .i64 v0, .int .i64 v1, .int .i64 h0, .int .i64 h1], .agg #[.int .i64 fh, .int .i64 4, .int .i64 x0, .int .i64 x1, .int .i64 d0, .int .i64 d1]] W fun e w' => e = .returned (.int .i64 0) ∧ Below W.heap.size W w') := Lib.hid fun W hW => int_to (sCheckFill_any ⟨id, al, ah, vol, mom, hei, t0, t1, u0, u1, v0, v1, h0, h1⟩ ⟨A, n, c, B, mm, d, C, l, ee⟩ ⟨fh, 4, x0, x1, d0, d1⟩ W ⟨i1.below hW, i2.below hW, i3.below hW⟩) g1
  have g2' : LitresS a b e0 e1 = (r, s, 0) := by unfold LitresS; rw [g2, k2, if_pos rfl]
  have C2 : Hid (∀ W, Calls Tryz.prog 70 #[rv a b, rv e0 e1] W fun e w' => e = .returned (.tuple #[rv r s, .int .i64 0]) ∧ Below W.heap.size W w') := Lib.hid fun W => rt_to (sLitres_any a b e0 e1 W) g2'
  clear g1 g2 i1 i2 i3 g2' k2
  go_enter Tryz.func22, Tryz.ntmps22
  go_wp2_with fail
  obtain ⟨W0, hW0⟩ : ∃ W0, (((((w.alloc (.cells #[.int .i64 id, .int .i64 al, .int .i64 ah, .slice A n c, .slice B mm d, .slice C l ee, .int .i64 t0, .int .i64 t1, .int .i64 u0, .int .i64 u1, .int .i64 v0, .int .i64 v1, .int .i64 h0, .int .i64 h1] 45)).alloc (.cells #[.int .i64 fh, .int .i64 4, .int .i64 x0, .int .i64 x1, .int .i64 d0, .int .i64 d1] 47)).alloc (.cells #[.int .i64 a, .int .i64 b] 23)).alloc (.cells #[.int .i64 e0, .int .i64 e1] 23)).alloc (.cells #[.int .i64 0, .int .i64 0, .int .i64 0, .int .i64 0, .int .i64 0, .int .i64 0] 47)) = W0 := ⟨_, rfl⟩
  rw [hW0] at HE HK ⊢
  clear hW0
  obtain ⟨G, hG⟩ : ∃ G, w.heap.size = G := ⟨_, rfl⟩
  rw [hG] at HK ⊢
  have HG := Lib.hid hG; clear hG
  refine (C1.out _ HE.out).mono ?_
  rintro e w1 ⟨rfl, hq⟩
  have HE1 := Lib.hid (below_then HE.out hq); have HK1 := Lib.hid (HK.out.on hq)
  clear hq HE HK C1
  have ma := HK1.out _ (.tail _ (.tail _ (.head _)))
  have ma0 := ma.cell 0
  have ma1 := ma.cell 1
  simp at ma0 ma1
  clear ma
  have na := HK1.out _ (.tail _ (.head _))
  have na0 := na.cell 0
  have na1 := na.cell 1
  simp at na0 na1
  clear na
  go_wp2_with fail
  refine (C2.out _).mono ?_
  rintro e y2 ⟨rfl, hq⟩
  have HE2 := Lib.hid (below_then (below_then HE1.out hq) (below_alloc1 y2 (.cells #[.int .i64 r, .int .i64 s] 23))); have HK2 := Lib.hid ((HK1.out.on hq).new 23 #[.int .i64 r, .int .i64 s])
  have HD2 := Lib.hid (boxes_lt (HK1.out.on hq))
  have HZ2 := Lib.hid (below_then HE1.out hq).size
  clear hq HE1 HK1 ma0 ma1 na0 na1 C2
  go_upto_region 5 with fail
  obtain ⟨W2, hW⟩ : ∃ W', y2.alloc (.cells #[.int .i64 r, .int .i64 s] 23) = W' := ⟨_, rfl⟩
  rw [hW] at HE2 HK2 ⊢
  clear hW
  obtain ⟨N2, hN⟩ : ∃ N, y2.heap.size = N := ⟨_, rfl⟩
  rw [hN] at HK2 HD2 HZ2 ⊢
  clear hN
  have ma := HK2.out _ (.tail _ (.tail _ (.tail _ (.head _))))
  have ma0 := ma.cell 0
  simp at ma0
  clear ma
  have fa := HK2.out _ (.tail _ (.tail _ (.tail _ (.tail _ (.head _)))))
  have fa1 := fa.cell 1
  simp at fa1
  clear fa
  go_upto_region 10 with fail
  refine wp_region_lit ?_
  refine wpList_plain rfl (fun K hK => ?_)
  go_simp
  refine hK _ _ ?_
  clear hK K
  have HKR : Hid (Blk (W2.setRow (G + 1 + 1 + 1 + 1) #[.int .i64 0, .int .i64 0, .int .i64 0, .int .i64 0, .int .i64 0, .int .i64 0]) (G + 1 + 1 + 1 + 1) 47 #[.int .i64 0, .int .i64 0, .int .i64 0, .int .i64 0, .int .i64 0, .int .i64 0]) := Lib.hid (setRow_heap W2 (G + 1 + 1 + 1 + 1) _ _ 47 _ (HK2.out _ (.tail _ (.head _))))
  have HE9 := Lib.hid (below_setRow HE2.out (show w.heap.size ≤ G + 1 + 1 + 1 + 1 by have := HG.out; omega) #[.int .i64 0, .int .i64 0, .int .i64 0, .int .i64 0, .int .i64 0, .int .i64 0])
  refine wpList_store_row rfl 47 (.tmp 8) (.tmp 46) rfl (G + 1 + 1 + 1 + 1) #[.int .i64 0, .int .i64 0, .int .i64 0, .int .i64 0, .int .i64 0, .int .i64 0] rfl rfl 47 _ (HK2.out _ (.tail _ (.head _))) (by kernel_rfl) rfl (by kernel_rfl) ?_
  obtain ⟨W9, hW9⟩ : ∃ W9, W2.setRow (G + 1 + 1 + 1 + 1) #[.int .i64 0, .int .i64 0, .int .i64 0, .int .i64 0, .int .i64 0, .int .i64 0] = W9 := ⟨_, rfl⟩
  rw [hW9] at HKR HE9 ⊢
  clear hW9
  go_wp2
  exact bodyPost_ret (v := .tuple #[.agg #[.int .i64 0, .int .i64 0, .int .i64 0, .int .i64 0, .int .i64 0, .int .i64 0], .int .i64 22]) (results_cell_tmp_row Tryz.results22 _ _ (G + 1 + 1 + 1 + 1) 47 #[.int .i64 0, .int .i64 0, .int .i64 0, .int .i64 0, .int .i64 0, .int .i64 0] (0, 0) _ _ rfl rfl HKR.out Tryz.underlying47 rfl (by kernel_rfl)) rfl ⟨rfl, HE9.out⟩

set_option maxRecDepth 100000 in
set_option maxHeartbeats 4000000 in
theorem sPour_s5 (vol mom hei : List P3) (id al ah t0 t1 u0 u1 v0 v1 h0 h1 : Int) (A B C : Option Addr) (n c mm d l ee : Nat) (fh x0 x1 d0 d1 a b e0 e1 r s : Int) (w : World) (hi : HoldIn w ⟨id, al, ah, vol, mom, hei, t0, t1, u0, u1, v0, v1, h0, h1⟩ ⟨A, n, c, B, mm, d, C, l, ee⟩)
    (g1 : fillErr ⟨id, al, ah, vol, mom, hei, t0, t1, u0, u1, v0, v1, h0, h1⟩ ⟨fh, 5, x0, x1, d0, d1⟩ = 0) (g2 : massErr a b e0 e1 = 0) (k2 : litresS a b e0 e1 = (r, s)) (g3 : ¬ a < 0) :
    Calls Tryz.prog 22 #[.agg #[.int .i64 id, .int .i64 al, .int .i64 ah, .slice A n c, .slice B mm d, .slice C l ee, .int .i64 t0, .int .i64 t1, .int .i64 u0, .int .i64 u1, .int .i64 v0, .int .i64 v1, .int .i64 h0, .int .i64 h1], .agg #[.int .i64 fh, .int .i64 5, .int .i64 x0, .int .i64 x1, .int .i64 d0, .int .i64 d1], rv a b, rv e0 e1] w fun e w' => e = .returned (ft (noFill, 22)) ∧ Below w.heap.size w w' := by
  have HE := Lib.hid (show Below w.heap.size w (((((w.alloc (.cells #[.int .i64 id, .int .i64 al, .int .i64 ah, .slice A n c, .slice B mm d, .slice C l ee, .int .i64 t0, .int .i64 t1, .int .i64 u0, .int .i64 u1, .int .i64 v0, .int .i64 v1, .int .i64 h0, .int .i64 h1] 45)).alloc (.cells #[.int .i64 fh, .int .i64 5, .int .i64 x0, .int .i64 x1, .int .i64 d0, .int .i64 d1] 47)).alloc (.cells #[.int .i64 a, .int .i64 b] 23)).alloc (.cells #[.int .i64 e0, .int .i64 e1] 23)).alloc (.cells #[.int .i64 0, .int .i64 0, .int .i64 0, .int .i64 0, .int .i64 0, .int .i64 0] 47)) from below_a5 (Below.refl _ _))
  have HK := Lib.hid (boxes5' w 45 47 23 23 47 #[.int .i64 id, .int .i64 al, .int .i64 ah, .slice A n c, .slice B mm d, .slice C l ee, .int .i64 t0, .int .i64 t1, .int .i64 u0, .int .i64 u1, .int .i64 v0, .int .i64 v1, .int .i64 h0, .int .i64 h1] #[.int .i64 fh, .int .i64 5, .int .i64 x0, .int .i64 x1, .int .i64 d0, .int .i64 d1] #[.int .i64 a, .int .i64 b] #[.int .i64 e0, .int .i64 e1] #[.int .i64 0, .int .i64 0, .int .i64 0, .int .i64 0, .int .i64 0, .int .i64 0])
  obtain ⟨i1, i2, i3⟩ := hi
  dsimp only at i1 i2 i3
  have C1 : Hid (∀ W, Below w.heap.size w W → Calls Tryz.prog 69 #[.agg #[.int .i64 id, .int .i64 al, .int .i64 ah, .slice A n c, .slice B mm d, .slice C l ee, .int .i64 t0, .int .i64 t1, .int .i64 u0, .int .i64 u1, .int .i64 v0, .int .i64 v1, .int .i64 h0, .int .i64 h1], .agg #[.int .i64 fh, .int .i64 5, .int .i64 x0, .int .i64 x1, .int .i64 d0, .int .i64 d1]] W fun e w' => e = .returned (.int .i64 0) ∧ Below W.heap.size W w') := Lib.hid fun W hW => int_to (sCheckFill_any ⟨id, al, ah, vol, mom, hei, t0, t1, u0, u1, v0, v1, h0, h1⟩ ⟨A, n, c, B, mm, d, C, l, ee⟩ ⟨fh, 5, x0, x1, d0, d1⟩ W ⟨i1.below hW, i2.below hW, i3.below hW⟩) g1
  have g2' : LitresS a b e0 e1 = (r, s, 0) := by unfold LitresS; rw [g2, k2, if_pos rfl]
  have C2 : Hid (∀ W, Calls Tryz.prog 70 #[rv a b, rv e0 e1] W fun e w' => e = .returned (.tuple #[rv r s, .int .i64 0]) ∧ Below W.heap.size W w') := Lib.hid fun W => rt_to (sLitres_any a b e0 e1 W) g2'
  clear g1 g2 i1 i2 i3 g2' k2
  go_enter Tryz.func22, Tryz.ntmps22
  go_wp2_with fail
  obtain ⟨W0, hW0⟩ : ∃ W0, (((((w.alloc (.cells #[.int .i64 id, .int .i64 al, .int .i64 ah, .slice A n c, .slice B mm d, .slice C l ee, .int .i64 t0, .int .i64 t1, .int .i64 u0, .int .i64 u1, .int .i64 v0, .int .i64 v1, .int .i64 h0, .int .i64 h1] 45)).alloc (.cells #[.int .i64 fh, .int .i64 5, .int .i64 x0, .int .i64 x1, .int .i64 d0, .int .i64 d1] 47)).alloc (.cells #[.int .i64 a, .int .i64 b] 23)).alloc (.cells #[.int .i64 e0, .int .i64 e1] 23)).alloc (.cells #[.int .i64 0, .int .i64 0, .int .i64 0, .int .i64 0, .int .i64 0, .int .i64 0] 47)) = W0 := ⟨_, rfl⟩
  rw [hW0] at HE HK ⊢
  clear hW0
  obtain ⟨G, hG⟩ : ∃ G, w.heap.size = G := ⟨_, rfl⟩
  rw [hG] at HK ⊢
  have HG := Lib.hid hG; clear hG
  refine (C1.out _ HE.out).mono ?_
  rintro e w1 ⟨rfl, hq⟩
  have HE1 := Lib.hid (below_then HE.out hq); have HK1 := Lib.hid (HK.out.on hq)
  clear hq HE HK C1
  have ma := HK1.out _ (.tail _ (.tail _ (.head _)))
  have ma0 := ma.cell 0
  have ma1 := ma.cell 1
  simp at ma0 ma1
  clear ma
  have na := HK1.out _ (.tail _ (.head _))
  have na0 := na.cell 0
  have na1 := na.cell 1
  simp at na0 na1
  clear na
  go_wp2_with fail
  refine (C2.out _).mono ?_
  rintro e y2 ⟨rfl, hq⟩
  have HE2 := Lib.hid (below_then (below_then HE1.out hq) (below_alloc1 y2 (.cells #[.int .i64 r, .int .i64 s] 23))); have HK2 := Lib.hid ((HK1.out.on hq).new 23 #[.int .i64 r, .int .i64 s])
  have HD2 := Lib.hid (boxes_lt (HK1.out.on hq))
  have HZ2 := Lib.hid (below_then HE1.out hq).size
  clear hq HE1 HK1 ma0 ma1 na0 na1 C2
  go_upto_region 5 with fail
  obtain ⟨W2, hW⟩ : ∃ W', y2.alloc (.cells #[.int .i64 r, .int .i64 s] 23) = W' := ⟨_, rfl⟩
  rw [hW] at HE2 HK2 ⊢
  clear hW
  obtain ⟨N2, hN⟩ : ∃ N, y2.heap.size = N := ⟨_, rfl⟩
  rw [hN] at HK2 HD2 HZ2 ⊢
  clear hN
  have ma := HK2.out _ (.tail _ (.tail _ (.tail _ (.head _))))
  have ma0 := ma.cell 0
  simp at ma0
  clear ma
  have fa := HK2.out _ (.tail _ (.tail _ (.tail _ (.tail _ (.head _)))))
  have fa1 := fa.cell 1
  simp at fa1
  clear fa
  go_upto_region 10 with fail
  refine wp_region_lit ?_
  refine wpList_plain rfl (fun K hK => ?_)
  go_simp
  refine hK _ _ ?_
  clear hK K
  have HKR : Hid (Blk (W2.setRow (G + 1 + 1 + 1 + 1) #[.int .i64 0, .int .i64 0, .int .i64 0, .int .i64 0, .int .i64 0, .int .i64 0]) (G + 1 + 1 + 1 + 1) 47 #[.int .i64 0, .int .i64 0, .int .i64 0, .int .i64 0, .int .i64 0, .int .i64 0]) := Lib.hid (setRow_heap W2 (G + 1 + 1 + 1 + 1) _ _ 47 _ (HK2.out _ (.tail _ (.head _))))
  have HE9 := Lib.hid (below_setRow HE2.out (show w.heap.size ≤ G + 1 + 1 + 1 + 1 by have := HG.out; omega) #[.int .i64 0, .int .i64 0, .int .i64 0, .int .i64 0, .int .i64 0, .int .i64 0])
  refine wpList_store_row rfl 47 (.tmp 8) (.tmp 46) rfl (G + 1 + 1 + 1 + 1) #[.int .i64 0, .int .i64 0, .int .i64 0, .int .i64 0, .int .i64 0, .int .i64 0] rfl rfl 47 _ (HK2.out _ (.tail _ (.head _))) (by kernel_rfl) rfl (by kernel_rfl) ?_
  obtain ⟨W9, hW9⟩ : ∃ W9, W2.setRow (G + 1 + 1 + 1 + 1) #[.int .i64 0, .int .i64 0, .int .i64 0, .int .i64 0, .int .i64 0, .int .i64 0] = W9 := ⟨_, rfl⟩
  rw [hW9] at HKR HE9 ⊢
  clear hW9
  go_wp2
  exact bodyPost_ret (v := .tuple #[.agg #[.int .i64 0, .int .i64 0, .int .i64 0, .int .i64 0, .int .i64 0, .int .i64 0], .int .i64 22]) (results_cell_tmp_row Tryz.results22 _ _ (G + 1 + 1 + 1 + 1) 47 #[.int .i64 0, .int .i64 0, .int .i64 0, .int .i64 0, .int .i64 0, .int .i64 0] (0, 0) _ _ rfl rfl HKR.out Tryz.underlying47 rfl (by kernel_rfl)) rfl ⟨rfl, HE9.out⟩

set_option maxRecDepth 100000 in
set_option maxHeartbeats 4000000 in
theorem sPour_s1 (vol mom hei : List P3) (id al ah t0 t1 u0 u1 v0 v1 h0 h1 : Int) (A B C : Option Addr) (n c mm d l ee : Nat) (fh x0 x1 d0 d1 a b e0 e1 r s : Int) (w : World) (hi : HoldIn w ⟨id, al, ah, vol, mom, hei, t0, t1, u0, u1, v0, v1, h0, h1⟩ ⟨A, n, c, B, mm, d, C, l, ee⟩)
    (g1 : fillErr ⟨id, al, ah, vol, mom, hei, t0, t1, u0, u1, v0, v1, h0, h1⟩ ⟨fh, 1, x0, x1, d0, d1⟩ = 0) (g2 : massErr a b e0 e1 = 0) (k2 : litresS a b e0 e1 = (r, s)) (g3 : ¬ a < 0) :
    Calls Tryz.prog 22 #[.agg #[.int .i64 id, .int .i64 al, .int .i64 ah, .slice A n c, .slice B mm d, .slice C l ee, .int .i64 t0, .int .i64 t1, .int .i64 u0, .int .i64 u1, .int .i64 v0, .int .i64 v1, .int .i64 h0, .int .i64 h1], .agg #[.int .i64 fh, .int .i64 1, .int .i64 x0, .int .i64 x1, .int .i64 d0, .int .i64 d1], rv a b, rv e0 e1] w fun e w' => e = .returned (ft (noFill, 24)) ∧ Below w.heap.size w w' := by
  have HE := Lib.hid (show Below w.heap.size w (((((w.alloc (.cells #[.int .i64 id, .int .i64 al, .int .i64 ah, .slice A n c, .slice B mm d, .slice C l ee, .int .i64 t0, .int .i64 t1, .int .i64 u0, .int .i64 u1, .int .i64 v0, .int .i64 v1, .int .i64 h0, .int .i64 h1] 45)).alloc (.cells #[.int .i64 fh, .int .i64 1, .int .i64 x0, .int .i64 x1, .int .i64 d0, .int .i64 d1] 47)).alloc (.cells #[.int .i64 a, .int .i64 b] 23)).alloc (.cells #[.int .i64 e0, .int .i64 e1] 23)).alloc (.cells #[.int .i64 0, .int .i64 0, .int .i64 0, .int .i64 0, .int .i64 0, .int .i64 0] 47)) from below_a5 (Below.refl _ _))
  have HK := Lib.hid (boxes5' w 45 47 23 23 47 #[.int .i64 id, .int .i64 al, .int .i64 ah, .slice A n c, .slice B mm d, .slice C l ee, .int .i64 t0, .int .i64 t1, .int .i64 u0, .int .i64 u1, .int .i64 v0, .int .i64 v1, .int .i64 h0, .int .i64 h1] #[.int .i64 fh, .int .i64 1, .int .i64 x0, .int .i64 x1, .int .i64 d0, .int .i64 d1] #[.int .i64 a, .int .i64 b] #[.int .i64 e0, .int .i64 e1] #[.int .i64 0, .int .i64 0, .int .i64 0, .int .i64 0, .int .i64 0, .int .i64 0])
  obtain ⟨i1, i2, i3⟩ := hi
  dsimp only at i1 i2 i3
  have C1 : Hid (∀ W, Below w.heap.size w W → Calls Tryz.prog 69 #[.agg #[.int .i64 id, .int .i64 al, .int .i64 ah, .slice A n c, .slice B mm d, .slice C l ee, .int .i64 t0, .int .i64 t1, .int .i64 u0, .int .i64 u1, .int .i64 v0, .int .i64 v1, .int .i64 h0, .int .i64 h1], .agg #[.int .i64 fh, .int .i64 1, .int .i64 x0, .int .i64 x1, .int .i64 d0, .int .i64 d1]] W fun e w' => e = .returned (.int .i64 0) ∧ Below W.heap.size W w') := Lib.hid fun W hW => int_to (sCheckFill_any ⟨id, al, ah, vol, mom, hei, t0, t1, u0, u1, v0, v1, h0, h1⟩ ⟨A, n, c, B, mm, d, C, l, ee⟩ ⟨fh, 1, x0, x1, d0, d1⟩ W ⟨i1.below hW, i2.below hW, i3.below hW⟩) g1
  have g2' : LitresS a b e0 e1 = (r, s, 0) := by unfold LitresS; rw [g2, k2, if_pos rfl]
  have C2 : Hid (∀ W, Calls Tryz.prog 70 #[rv a b, rv e0 e1] W fun e w' => e = .returned (.tuple #[rv r s, .int .i64 0]) ∧ Below W.heap.size W w') := Lib.hid fun W => rt_to (sLitres_any a b e0 e1 W) g2'
  have CF : Hid (∀ W, Calls Tryz.prog 71 #[.int .i64 1] W fun e w' => e = .returned (.bool true) ∧ Below W.heap.size W w') := Lib.hid fun W => sFilled_to 1 true W (by decide)
  clear g1 g2 i1 i2 i3 g2' k2
  go_enter Tryz.func22, Tryz.ntmps22
  go_wp2_with fail
  obtain ⟨W0, hW0⟩ : ∃ W0, (((((w.alloc (.cells #[.int .i64 id, .int .i64 al, .int .i64 ah, .slice A n c, .slice B mm d, .slice C l ee, .int .i64 t0, .int .i64 t1, .int .i64 u0, .int .i64 u1, .int .i64 v0, .int .i64 v1, .int .i64 h0, .int .i64 h1] 45)).alloc (.cells #[.int .i64 fh, .int .i64 1, .int .i64 x0, .int .i64 x1, .int .i64 d0, .int .i64 d1] 47)).alloc (.cells #[.int .i64 a, .int .i64 b] 23)).alloc (.cells #[.int .i64 e0, .int .i64 e1] 23)).alloc (.cells #[.int .i64 0, .int .i64 0, .int .i64 0, .int .i64 0, .int .i64 0, .int .i64 0] 47)) = W0 := ⟨_, rfl⟩
  rw [hW0] at HE HK ⊢
  clear hW0
  obtain ⟨G, hG⟩ : ∃ G, w.heap.size = G := ⟨_, rfl⟩
  rw [hG] at HK ⊢
  have HG := Lib.hid hG; clear hG
  refine (C1.out _ HE.out).mono ?_
  rintro e w1 ⟨rfl, hq⟩
  have HE1 := Lib.hid (below_then HE.out hq); have HK1 := Lib.hid (HK.out.on hq)
  clear hq HE HK C1
  have ma := HK1.out _ (.tail _ (.tail _ (.head _)))
  have ma0 := ma.cell 0
  have ma1 := ma.cell 1
  simp at ma0 ma1
  clear ma
  have na := HK1.out _ (.tail _ (.head _))
  have na0 := na.cell 0
  have na1 := na.cell 1
  simp at na0 na1
  clear na
  go_wp2_with fail
  refine (C2.out _).mono ?_
  rintro e y2 ⟨rfl, hq⟩
  have HE2 := Lib.hid (below_then (below_then HE1.out hq) (below_alloc1 y2 (.cells #[.int .i64 r, .int .i64 s] 23))); have HK2 := Lib.hid ((HK1.out.on hq).new 23 #[.int .i64 r, .int .i64 s])
  have HD2 := Lib.hid (boxes_lt (HK1.out.on hq))
  have HZ2 := Lib.hid (below_then HE1.out hq).size
  clear hq HE1 HK1 ma0 ma1 na0 na1 C2
  go_upto_region 5 with fail
  obtain ⟨W2, hW⟩ : ∃ W', y2.alloc (.cells #[.int .i64 r, .int .i64 s] 23) = W' := ⟨_, rfl⟩
  rw [hW] at HE2 HK2 ⊢
  clear hW
  obtain ⟨N2, hN⟩ : ∃ N, y2.heap.size = N := ⟨_, rfl⟩
  rw [hN] at HK2 HD2 HZ2 ⊢
  clear hN
  have ma := HK2.out _ (.tail _ (.tail _ (.tail _ (.head _))))
  have ma0 := ma.cell 0
  simp at ma0
  clear ma
  have fa := HK2.out _ (.tail _ (.tail _ (.tail _ (.tail _ (.head _)))))
  have fa1 := fa.cell 1
  simp at fa1
  clear fa
  go_wp2_with fail
  refine (CF.out _).mono ?_
  rintro e w3 ⟨rfl, hq⟩
  have HE3 := Lib.hid (below_then HE2.out hq); have HK3 := Lib.hid (HK2.out.on hq)
  clear hq HE2 HK2 CF ma0 fa1
  go_upto_region 12 with fail
  refine wp_region_lit ?_
  refine wpList_plain rfl (fun K hK => ?_)
  go_simp
  refine hK _ _ ?_
  clear hK K
  have HKR : Hid (Blk (w3.setRow (G + 1 + 1 + 1 + 1) #[.int .i64 0, .int .i64 0, .int .i64 0, .int .i64 0, .int .i64 0, .int .i64 0]) (G + 1 + 1 + 1 + 1) 47 #[.int .i64 0, .int .i64 0, .int .i64 0, .int .i64 0, .int .i64 0, .int .i64 0]) := Lib.hid (setRow_heap w3 (G + 1 + 1 + 1 + 1) _ _ 47 _ (HK3.out _ (.tail _ (.head _))))
  have HE9 := Lib.hid (below_setRow HE3.out (show w.heap.size ≤ G + 1 + 1 + 1 + 1 by have := HG.out; omega) #[.int .i64 0, .int .i64 0, .int .i64 0, .int .i64 0, .int .i64 0, .int .i64 0])
  refine wpList_store_row rfl 47 (.tmp 8) (.tmp 50) rfl (G + 1 + 1 + 1 + 1) #[.int .i64 0, .int .i64 0, .int .i64 0, .int .i64 0, .int .i64 0, .int .i64 0] rfl rfl 47 _ (HK3.out _ (.tail _ (.head _))) (by kernel_rfl) rfl (by kernel_rfl) ?_
  obtain ⟨W9, hW9⟩ : ∃ W9, w3.setRow (G + 1 + 1 + 1 + 1) #[.int .i64 0, .int .i64 0, .int .i64 0, .int .i64 0, .int .i64 0, .int .i64 0] = W9 := ⟨_, rfl⟩
  rw [hW9] at HKR HE9 ⊢
  clear hW9
  go_wp2
  exact bodyPost_ret (v := .tuple #[.agg #[.int .i64 0, .int .i64 0, .int .i64 0, .int .i64 0, .int .i64 0, .int .i64 0], .int .i64 24]) (results_cell_tmp_row Tryz.results22 _ _ (G + 1 + 1 + 1 + 1) 47 #[.int .i64 0, .int .i64 0, .int .i64 0, .int .i64 0, .int .i64 0, .int .i64 0] (0, 0) _ _ rfl rfl HKR.out Tryz.underlying47 rfl (by kernel_rfl)) rfl ⟨rfl, HE9.out⟩

set_option maxRecDepth 100000 in
set_option maxHeartbeats 4000000 in
theorem sPour_s2 (vol mom hei : List P3) (id al ah t0 t1 u0 u1 v0 v1 h0 h1 : Int) (A B C : Option Addr) (n c mm d l ee : Nat) (fh x0 x1 d0 d1 a b e0 e1 r s : Int) (w : World) (hi : HoldIn w ⟨id, al, ah, vol, mom, hei, t0, t1, u0, u1, v0, v1, h0, h1⟩ ⟨A, n, c, B, mm, d, C, l, ee⟩)
    (g1 : fillErr ⟨id, al, ah, vol, mom, hei, t0, t1, u0, u1, v0, v1, h0, h1⟩ ⟨fh, 2, x0, x1, d0, d1⟩ = 0) (g2 : massErr a b e0 e1 = 0) (k2 : litresS a b e0 e1 = (r, s)) (g3 : ¬ a < 0) :
    Calls Tryz.prog 22 #[.agg #[.int .i64 id, .int .i64 al, .int .i64 ah, .slice A n c, .slice B mm d, .slice C l ee, .int .i64 t0, .int .i64 t1, .int .i64 u0, .int .i64 u1, .int .i64 v0, .int .i64 v1, .int .i64 h0, .int .i64 h1], .agg #[.int .i64 fh, .int .i64 2, .int .i64 x0, .int .i64 x1, .int .i64 d0, .int .i64 d1], rv a b, rv e0 e1] w fun e w' => e = .returned (ft (noFill, 24)) ∧ Below w.heap.size w w' := by
  have HE := Lib.hid (show Below w.heap.size w (((((w.alloc (.cells #[.int .i64 id, .int .i64 al, .int .i64 ah, .slice A n c, .slice B mm d, .slice C l ee, .int .i64 t0, .int .i64 t1, .int .i64 u0, .int .i64 u1, .int .i64 v0, .int .i64 v1, .int .i64 h0, .int .i64 h1] 45)).alloc (.cells #[.int .i64 fh, .int .i64 2, .int .i64 x0, .int .i64 x1, .int .i64 d0, .int .i64 d1] 47)).alloc (.cells #[.int .i64 a, .int .i64 b] 23)).alloc (.cells #[.int .i64 e0, .int .i64 e1] 23)).alloc (.cells #[.int .i64 0, .int .i64 0, .int .i64 0, .int .i64 0, .int .i64 0, .int .i64 0] 47)) from below_a5 (Below.refl _ _))
  have HK := Lib.hid (boxes5' w 45 47 23 23 47 #[.int .i64 id, .int .i64 al, .int .i64 ah, .slice A n c, .slice B mm d, .slice C l ee, .int .i64 t0, .int .i64 t1, .int .i64 u0, .int .i64 u1, .int .i64 v0, .int .i64 v1, .int .i64 h0, .int .i64 h1] #[.int .i64 fh, .int .i64 2, .int .i64 x0, .int .i64 x1, .int .i64 d0, .int .i64 d1] #[.int .i64 a, .int .i64 b] #[.int .i64 e0, .int .i64 e1] #[.int .i64 0, .int .i64 0, .int .i64 0, .int .i64 0, .int .i64 0, .int .i64 0])
  obtain ⟨i1, i2, i3⟩ := hi
  dsimp only at i1 i2 i3
  have C1 : Hid (∀ W, Below w.heap.size w W → Calls Tryz.prog 69 #[.agg #[.int .i64 id, .int .i64 al, .int .i64 ah, .slice A n c, .slice B mm d, .slice C l ee, .int .i64 t0, .int .i64 t1, .int .i64 u0, .int .i64 u1, .int .i64 v0, .int .i64 v1, .int .i64 h0, .int .i64 h1], .agg #[.int .i64 fh, .int .i64 2, .int .i64 x0, .int .i64 x1, .int .i64 d0, .int .i64 d1]] W fun e w' => e = .returned (.int .i64 0) ∧ Below W.heap.size W w') := Lib.hid fun W hW => int_to (sCheckFill_any ⟨id, al, ah, vol, mom, hei, t0, t1, u0, u1, v0, v1, h0, h1⟩ ⟨A, n, c, B, mm, d, C, l, ee⟩ ⟨fh, 2, x0, x1, d0, d1⟩ W ⟨i1.below hW, i2.below hW, i3.below hW⟩) g1
  have g2' : LitresS a b e0 e1 = (r, s, 0) := by unfold LitresS; rw [g2, k2, if_pos rfl]
  have C2 : Hid (∀ W, Calls Tryz.prog 70 #[rv a b, rv e0 e1] W fun e w' => e = .returned (.tuple #[rv r s, .int .i64 0]) ∧ Below W.heap.size W w') := Lib.hid fun W => rt_to (sLitres_any a b e0 e1 W) g2'
  have CF : Hid (∀ W, Calls Tryz.prog 71 #[.int .i64 2] W fun e w' => e = .returned (.bool true) ∧ Below W.heap.size W w') := Lib.hid fun W => sFilled_to 2 true W (by decide)
  clear g1 g2 i1 i2 i3 g2' k2
  go_enter Tryz.func22, Tryz.ntmps22
  go_wp2_with fail
  obtain ⟨W0, hW0⟩ : ∃ W0, (((((w.alloc (.cells #[.int .i64 id, .int .i64 al, .int .i64 ah, .slice A n c, .slice B mm d, .slice C l ee, .int .i64 t0, .int .i64 t1, .int .i64 u0, .int .i64 u1, .int .i64 v0, .int .i64 v1, .int .i64 h0, .int .i64 h1] 45)).alloc (.cells #[.int .i64 fh, .int .i64 2, .int .i64 x0, .int .i64 x1, .int .i64 d0, .int .i64 d1] 47)).alloc (.cells #[.int .i64 a, .int .i64 b] 23)).alloc (.cells #[.int .i64 e0, .int .i64 e1] 23)).alloc (.cells #[.int .i64 0, .int .i64 0, .int .i64 0, .int .i64 0, .int .i64 0, .int .i64 0] 47)) = W0 := ⟨_, rfl⟩
  rw [hW0] at HE HK ⊢
  clear hW0
  obtain ⟨G, hG⟩ : ∃ G, w.heap.size = G := ⟨_, rfl⟩
  rw [hG] at HK ⊢
  have HG := Lib.hid hG; clear hG
  refine (C1.out _ HE.out).mono ?_
  rintro e w1 ⟨rfl, hq⟩
  have HE1 := Lib.hid (below_then HE.out hq); have HK1 := Lib.hid (HK.out.on hq)
  clear hq HE HK C1
  have ma := HK1.out _ (.tail _ (.tail _ (.head _)))
  have ma0 := ma.cell 0
  have ma1 := ma.cell 1
  simp at ma0 ma1
  clear ma
  have na := HK1.out _ (.tail _ (.head _))
  have na0 := na.cell 0
  have na1 := na.cell 1
  simp at na0 na1
  clear na
  go_wp2_with fail
  refine (C2.out _).mono ?_
  rintro e y2 ⟨rfl, hq⟩
  have HE2 := Lib.hid (below_then (below_then HE1.out hq) (below_alloc1 y2 (.cells #[.int .i64 r, .int .i64 s] 23))); have HK2 := Lib.hid ((HK1.out.on hq).new 23 #[.int .i64 r, .int .i64 s])
  have HD2 := Lib.hid (boxes_lt (HK1.out.on hq))
  have HZ2 := Lib.hid (below_then HE1.out hq).size
  clear hq HE1 HK1 ma0 ma1 na0 na1 C2
  go_upto_region 5 with fail
  obtain ⟨W2, hW⟩ : ∃ W', y2.alloc (.cells #[.int .i64 r, .int .i64 s] 23) = W' := ⟨_, rfl⟩
  rw [hW] at HE2 HK2 ⊢
  clear hW
  obtain ⟨N2, hN⟩ : ∃ N, y2.heap.size = N := ⟨_, rfl⟩
  rw [hN] at HK2 HD2 HZ2 ⊢
  clear hN
  have ma := HK2.out _ (.tail _ (.tail _ (.tail _ (.head _))))
  have ma0 := ma.cell 0
  simp at ma0
  clear ma
  have fa := HK2.out _ (.tail _ (.tail _ (.tail _ (.tail _ (.head _)))))
  have fa1 := fa.cell 1
  simp at fa1
  clear fa
  go_wp2_with fail
  refine (CF.out _).mono ?_
  rintro e w3 ⟨rfl, hq⟩
  have HE3 := Lib.hid (below_then HE2.out hq); have HK3 := Lib.hid (HK2.out.on hq)
  clear hq HE2 HK2 CF ma0 fa1
  go_upto_region 12 with fail
  refine wp_region_lit ?_
  refine wpList_plain rfl (fun K hK => ?_)
  go_simp
  refine hK _ _ ?_
  clear hK K
  have HKR : Hid (Blk (w3.setRow (G + 1 + 1 + 1 + 1) #[.int .i64 0, .int .i64 0, .int .i64 0, .int .i64 0, .int .i64 0, .int .i64 0]) (G + 1 + 1 + 1 + 1) 47 #[.int .i64 0, .int .i64 0, .int .i64 0, .int .i64 0, .int .i64 0, .int .i64 0]) := Lib.hid (setRow_heap w3 (G + 1 + 1 + 1 + 1) _ _ 47 _ (HK3.out _ (.tail _ (.head _))))
  have HE9 := Lib.hid (below_setRow HE3.out (show w.heap.size ≤ G + 1 + 1 + 1 + 1 by have := HG.out; omega) #[.int .i64 0, .int .i64 0, .int .i64 0, .int .i64 0, .int .i64 0, .int .i64 0])
  refine wpList_store_row rfl 47 (.tmp 8) (.tmp 50) rfl (G + 1 + 1 + 1 + 1) #[.int .i64 0, .int .i64 0, .int .i64 0, .int .i64 0, .int .i64 0, .int .i64 0] rfl rfl 47 _ (HK3.out _ (.tail _ (.head _))) (by kernel_rfl) rfl (by kernel_rfl) ?_
  obtain ⟨W9, hW9⟩ : ∃ W9, w3.setRow (G + 1 + 1 + 1 + 1) #[.int .i64 0, .int .i64 0, .int .i64 0, .int .i64 0, .int .i64 0, .int .i64 0] = W9 := ⟨_, rfl⟩
  rw [hW9] at HKR HE9 ⊢
  clear hW9
  go_wp2
  exact bodyPost_ret (v := .tuple #[.agg #[.int .i64 0, .int .i64 0, .int .i64 0, .int .i64 0, .int .i64 0, .int .i64 0], .int .i64 24]) (results_cell_tmp_row Tryz.results22 _ _ (G + 1 + 1 + 1 + 1) 47 #[.int .i64 0, .int .i64 0, .int .i64 0, .int .i64 0, .int .i64 0, .int .i64 0] (0, 0) _ _ rfl rfl HKR.out Tryz.underlying47 rfl (by kernel_rfl)) rfl ⟨rfl, HE9.out⟩

set_option maxRecDepth 100000 in
set_option maxHeartbeats 4000000 in
theorem sPour_m0 (vol mom hei : List P3) (id al ah t0 t1 u0 u1 v0 v1 h0 h1 : Int) (A B C : Option Addr) (n c mm d l ee : Nat) (fh x0 x1 d0 d1 a b e0 e1 p q r s X Y ua ub ue : Int) (R : FillD × Int) (w : World) (hi : HoldIn w ⟨id, al, ah, vol, mom, hei, t0, t1, u0, u1, v0, v1, h0, h1⟩ ⟨A, n, c, B, mm, d, C, l, ee⟩)
    (g1 : fillErr ⟨id, al, ah, vol, mom, hei, t0, t1, u0, u1, v0, v1, h0, h1⟩ ⟨fh, 0, x0, x1, d0, d1⟩ = 0) (g2 : massErr a b e0 e1 = 0) (k2 : litresS a b e0 e1 = (r, s)) (g3 : ¬ a < 0) (hvv : volS ⟨id, al, ah, vol, mom, hei, t0, t1, u0, u1, v0, v1, h0, h1⟩ ⟨fh, 0, x0, x1, d0, d1⟩ = (p, q)) (k3 : IntKind.i64.wrap (p + r) = X) (k4 : IntKind.i64.wrap (q + s) = Y) (hU : ullS vol X Y = (ua, ub, ue)) (hR : (if ue = 0 then (⟨id, 3, ua, ub, e0, e1⟩, 0) else (noFill, 24)) = R) :
    Calls Tryz.prog 22 #[.agg #[.int .i64 id, .int .i64 al, .int .i64 ah, .slice A n c, .slice B mm d, .slice C l ee, .int .i64 t0, .int .i64 t1, .int .i64 u0, .int .i64 u1, .int .i64 v0, .int .i64 v1, .int .i64 h0, .int .i64 h1], .agg #[.int .i64 fh, .int .i64 0, .int .i64 x0, .int .i64 x1, .int .i64 d0, .int .i64 d1], rv a b, rv e0 e1] w fun e w' => e = .returned (ft R) ∧ Below w.heap.size w w' := by
  have HE := Lib.hid (show Below w.heap.size w (((((w.alloc (.cells #[.int .i64 id, .int .i64 al, .int .i64 ah, .slice A n c, .slice B mm d, .slice C l ee, .int .i64 t0, .int .i64 t1, .int .i64 u0, .int .i64 u1, .int .i64 v0, .int .i64 v1, .int .i64 h0, .int .i64 h1] 45)).alloc (.cells #[.int .i64 fh, .int .i64 0, .int .i64 x0, .int .i64 x1, .int .i64 d0, .int .i64 d1] 47)).alloc (.cells #[.int .i64 a, .int .i64 b] 23)).alloc (.cells #[.int .i64 e0, .int .i64 e1] 23)).alloc (.cells #[.int .i64 0, .int .i64 0, .int .i64 0, .int .i64 0, .int .i64 0, .int .i64 0] 47)) from below_a5 (Below.refl _ _))
  have HK := Lib.hid (boxes5' w 45 47 23 23 47 #[.int .i64 id, .int .i64 al, .int .i64 ah, .slice A n c, .slice B mm d, .slice C l ee, .int .i64 t0, .int .i64 t1, .int .i64 u0, .int .i64 u1, .int .i64 v0, .int .i64 v1, .int .i64 h0, .int .i64 h1] #[.int .i64 fh, .int .i64 0, .int .i64 x0, .int .i64 x1, .int .i64 d0, .int .i64 d1] #[.int .i64 a, .int .i64 b] #[.int .i64 e0, .int .i64 e1] #[.int .i64 0, .int .i64 0, .int .i64 0, .int .i64 0, .int .i64 0, .int .i64 0])
  obtain ⟨i1, i2, i3⟩ := hi
  dsimp only at i1 i2 i3
  have C1 : Hid (∀ W, Below w.heap.size w W → Calls Tryz.prog 69 #[.agg #[.int .i64 id, .int .i64 al, .int .i64 ah, .slice A n c, .slice B mm d, .slice C l ee, .int .i64 t0, .int .i64 t1, .int .i64 u0, .int .i64 u1, .int .i64 v0, .int .i64 v1, .int .i64 h0, .int .i64 h1], .agg #[.int .i64 fh, .int .i64 0, .int .i64 x0, .int .i64 x1, .int .i64 d0, .int .i64 d1]] W fun e w' => e = .returned (.int .i64 0) ∧ Below W.heap.size W w') := Lib.hid fun W hW => int_to (sCheckFill_any ⟨id, al, ah, vol, mom, hei, t0, t1, u0, u1, v0, v1, h0, h1⟩ ⟨A, n, c, B, mm, d, C, l, ee⟩ ⟨fh, 0, x0, x1, d0, d1⟩ W ⟨i1.below hW, i2.below hW, i3.below hW⟩) g1
  have g2' : LitresS a b e0 e1 = (r, s, 0) := by unfold LitresS; rw [g2, k2, if_pos rfl]
  have C2 : Hid (∀ W, Calls Tryz.prog 70 #[rv a b, rv e0 e1] W fun e w' => e = .returned (.tuple #[rv r s, .int .i64 0]) ∧ Below W.heap.size W w') := Lib.hid fun W => rt_to (sLitres_any a b e0 e1 W) g2'
  have CF : Hid (∀ W, Calls Tryz.prog 71 #[.int .i64 0] W fun e w' => e = .returned (.bool false) ∧ Below W.heap.size W w') := Lib.hid fun W => sFilled_to 0 false W (by decide)
  have C4 : Hid (∀ W, Below w.heap.size w W → Calls Tryz.prog 72 #[.agg #[.int .i64 id, .int .i64 al, .int .i64 ah, .slice A n c, .slice B mm d, .slice C l ee, .int .i64 t0, .int .i64 t1, .int .i64 u0, .int .i64 u1, .int .i64 v0, .int .i64 v1, .int .i64 h0, .int .i64 h1], .agg #[.int .i64 fh, .int .i64 0, .int .i64 x0, .int .i64 x1, .int .i64 d0, .int .i64 d1]] W fun e w' => e = .returned (rv p q) ∧ Below W.heap.size W w') := Lib.hid fun W hW => by
    have := svol_to ⟨id, al, ah, vol, mom, hei, t0, t1, u0, u1, v0, v1, h0, h1⟩ ⟨A, n, c, B, mm, d, C, l, ee⟩ ⟨fh, 0, x0, x1, d0, d1⟩ W ⟨i1.below hW, i2.below hW, i3.below hW⟩ (by dsimp only; omega) (by dsimp only; omega)
    rw [hvv] at this; exact this
  have hv := (fill_zero g1).1
  have ht := hold_tab hv
  dsimp only at ht
  obtain ⟨fl1, fl2⟩ := hold_falls hv
  dsimp only at fl1 fl2
  have C5 : Hid (∀ W, Below w.heap.size w W → Calls Tryz.prog 46 #[tv A n c, rv X Y, .bool true] W fun e w' => e = .returned (.tuple #[rv ua ub, .bool (decide (ue = 0))]) ∧ Below W.heap.size W w') := Lib.hid fun W hW => by
    have := sInverse_tab A n c vol X Y true W (i1.below hW) ht (first_le_last ht) (turns_falls ht fl2 fl1)
    rw [show invS (besideS vol X Y true) (besideS vol X Y (!true)) (firstX vol) (lastX vol) = (ua, ub, ue) from hU] at this
    exact this
  have HS : Hid (ue = 0 ∨ ue = 24) := Lib.hid (by
    have q := invS_err24' (moreF vol Y) (lessF vol X) (firstX vol) (lastX vol)
    unfold ullS at hU
    rw [hU] at q
    exact q)
  have HR := Lib.hid hR
  clear hR hU hvv hv ht fl1 fl2 g1 g2 i1 i2 i3 k2 g2'
  go_enter Tryz.func22, Tryz.ntmps22
  go_wp2_with fail
  obtain ⟨W0, hW0⟩ : ∃ W0, (((((w.alloc (.cells #[.int .i64 id, .int .i64 al, .int .i64 ah, .slice A n c, .slice B mm d, .slice C l ee, .int .i64 t0, .int .i64 t1, .int .i64 u0, .int .i64 u1, .int .i64 v0, .int .i64 v1, .int .i64 h0, .int .i64 h1] 45)).alloc (.cells #[.int .i64 fh, .int .i64 0, .int .i64 x0, .int .i64 x1, .int .i64 d0, .int .i64 d1] 47)).alloc (.cells #[.int .i64 a, .int .i64 b] 23)).alloc (.cells #[.int .i64 e0, .int .i64 e1] 23)).alloc (.cells #[.int .i64 0, .int .i64 0, .int .i64 0, .int .i64 0, .int .i64 0, .int .i64 0] 47)) = W0 := ⟨_, rfl⟩
  rw [hW0] at HE HK ⊢
  clear hW0
  obtain ⟨G, hG⟩ : ∃ G, w.heap.size = G := ⟨_, rfl⟩
  rw [hG] at HK ⊢
  have HG := Lib.hid hG; clear hG
  refine (C1.out _ HE.out).mono ?_
  rintro e w1 ⟨rfl, hq⟩
  have HE1 := Lib.hid (below_then HE.out hq); have HK1 := Lib.hid (HK.out.on hq)
  clear hq HE HK C1
  have ma := HK1.out _ (.tail _ (.tail _ (.head _)))
  have ma0 := ma.cell 0
  have ma1 := ma.cell 1
  simp at ma0 ma1
  clear ma
  have na := HK1.out _ (.tail _ (.head _))
  have na0 := na.cell 0
  have na1 := na.cell 1
  simp at na0 na1
  clear na
  go_wp2_with fail
  refine (C2.out _).mono ?_
  rintro e y2 ⟨rfl, hq⟩
  have HE2 := Lib.hid (below_then (below_then HE1.out hq) (below_alloc1 y2 (.cells #[.int .i64 r, .int .i64 s] 23))); have HK2 := Lib.hid ((HK1.out.on hq).new 23 #[.int .i64 r, .int .i64 s])
  have HD2 := Lib.hid (boxes_lt (HK1.out.on hq))
  have HZ2 := Lib.hid (below_then HE1.out hq).size
  clear hq HE1 HK1 ma0 ma1 na0 na1 C2
  go_upto_region 5 with fail
  obtain ⟨W2, hW⟩ : ∃ W', y2.alloc (.cells #[.int .i64 r, .int .i64 s] 23) = W' := ⟨_, rfl⟩
  rw [hW] at HE2 HK2 ⊢
  clear hW
  obtain ⟨N2, hN⟩ : ∃ N, y2.heap.size = N := ⟨_, rfl⟩
  rw [hN] at HK2 HD2 HZ2 ⊢
  clear hN
  have ma := HK2.out _ (.tail _ (.tail _ (.tail _ (.head _))))
  have ma0 := ma.cell 0
  simp at ma0
  clear ma
  have fa := HK2.out _ (.tail _ (.tail _ (.tail _ (.tail _ (.head _)))))
  have fa1 := fa.cell 1
  simp at fa1
  clear fa
  go_wp2_with fail
  refine (CF.out _).mono ?_
  rintro e w3 ⟨rfl, hq⟩
  have HE3 := Lib.hid (below_then HE2.out hq); have HK3 := Lib.hid (HK2.out.on hq)
  clear hq HE2 HK2 CF ma0 fa1
  have ha := HK3.out _ (.tail _ (.tail _ (.tail _ (.tail _ (.tail _ (.head _))))))
  have ha0 := ha.cell 0
  have ha1 := ha.cell 1
  have ha2 := ha.cell 2
  have ha3 := ha.cell 3
  have ha4 := ha.cell 4
  have ha5 := ha.cell 5
  have ha6 := ha.cell 6
  have ha7 := ha.cell 7
  have ha8 := ha.cell 8
  have ha9 := ha.cell 9
  have ha10 := ha.cell 10
  have ha11 := ha.cell 11
  have ha12 := ha.cell 12
  have ha13 := ha.cell 13
  simp at ha0 ha1 ha2 ha3 ha4 ha5 ha6 ha7 ha8 ha9 ha10 ha11 ha12 ha13
  clear ha
  have fa := HK3.out _ (.tail _ (.tail _ (.tail _ (.tail _ (.head _)))))
  have fa0 := fa.cell 0
  have fa1 := fa.cell 1
  have fa2 := fa.cell 2
  have fa3 := fa.cell 3
  have fa4 := fa.cell 4
  have fa5 := fa.cell 5
  simp at fa0 fa1 fa2 fa3 fa4 fa5
  clear fa
  go_wp2_with fail
  refine (C4.out _ HE3.out).mono ?_
  rintro e y4 ⟨rfl, hq⟩
  have HE4 := Lib.hid (below_then (below_then HE3.out hq) (below_alloc1 y4 (.cells #[.int .i64 p, .int .i64 q] 23))); have HK4 := Lib.hid ((HK3.out.on hq).new 23 #[.int .i64 p, .int .i64 q])
  have HD4 := Lib.hid (boxes_lt (HK3.out.on hq))
  have HZ4 := Lib.hid (below_then HE3.out hq).size
  clear hq HE3 HK3 ha0 ha1 ha2 ha3 ha4 ha5 ha6 ha7 ha8 ha9 ha10 ha11 ha12 ha13 fa0 fa1 fa2 fa3 fa4 fa5 C4
  go_upto_region 14 with fail
  obtain ⟨W4, hW⟩ : ∃ W', y4.alloc (.cells #[.int .i64 p, .int .i64 q] 23) = W' := ⟨_, rfl⟩
  rw [hW] at HE4 HK4 ⊢
  clear hW
  obtain ⟨N4, hN⟩ : ∃ N, y4.heap.size = N := ⟨_, rfl⟩
  rw [hN] at HK4 HD4 HZ4 ⊢
  clear hN
  have ha := HK4.out _ (.tail _ (.tail _ (.tail _ (.tail _ (.tail _ (.tail _ (.head _)))))))
  have ha3 := ha.cell 3
  simp at ha3
  clear ha
  have pa := HK4.out _ (.head _)
  have pa0 := pa.cell 0
  have pa1 := pa.cell 1
  simp at pa0 pa1
  clear pa
  have ra := HK4.out _ (.tail _ (.head _))
  have ra0 := ra.cell 0
  have ra1 := ra.cell 1
  simp at ra0 ra1
  clear ra
  go_wp2_with fail
  refine (C5.out _ HE4.out).mono ?_
  rintro e y7 ⟨rfl, hq⟩
  have HE7 := Lib.hid (below_then (below_then HE4.out hq) (below_alloc1 y7 (.cells #[.int .i64 ua, .int .i64 ub] 23))); have HK7 := Lib.hid ((HK4.out.on hq).new 23 #[.int .i64 ua, .int .i64 ub])
  have HD7 := Lib.hid (boxes_lt (HK4.out.on hq))
  have HZ7 := Lib.hid (below_then HE4.out hq).size
  clear hq HE4 HK4 ha3 pa0 pa1 ra0 ra1 k3 k4 C5
  obtain ⟨bt, hbt⟩ : ∃ t, decide (ue = 0) = t := ⟨_, rfl⟩
  rw [hbt]
  go_upto_region 15 with fail
  obtain ⟨W7, hW⟩ : ∃ W', y7.alloc (.cells #[.int .i64 ua, .int .i64 ub] 23) = W' := ⟨_, rfl⟩
  rw [hW] at HE7 HK7 ⊢
  clear hW
  obtain ⟨N7, hN⟩ : ∃ N, y7.heap.size = N := ⟨_, rfl⟩
  rw [hN] at HK7 HD7 HZ7 ⊢
  clear hN
  rcases HS.out with rfl | rfl
  rotate_left
  · skip
    have eR : R = (noFill, 24) := by rw [← HR.out, if_neg (by decide)]
    subst eR
    clear HR
    obtain rfl : bt = false := by rw [← hbt]; rfl
    go_upto_region 16 with fail
    refine wp_region_lit ?_
    refine wpList_plain rfl (fun K hK => ?_)
    go_simp
    refine hK _ _ ?_
    clear hK K
    have HKR : Hid (Blk (W7.setRow (G + 1 + 1 + 1 + 1) #[.int .i64 0, .int .i64 0, .int .i64 0, .int .i64 0, .int .i64 0, .int .i64 0]) (G + 1 + 1 + 1 + 1) 47 #[.int .i64 0, .int .i64 0, .int .i64 0, .int .i64 0, .int .i64 0, .int .i64 0]) := Lib.hid (setRow_heap W7 (G + 1 + 1 + 1 + 1) _ _ 47 _ (HK7.out _ (.tail _ (.tail _ (.tail _ (.head _))))))
    have HE9 := Lib.hid (below_setRow HE7.out (show w.heap.size ≤ G + 1 + 1 + 1 + 1 by have := HG.out; omega) #[.int .i64 0, .int .i64 0, .int .i64 0, .int .i64 0, .int .i64 0, .int .i64 0])
    refine wpList_store_row rfl 47 (.tmp 8) (.tmp 73) rfl (G + 1 + 1 + 1 + 1) #[.int .i64 0, .int .i64 0, .int .i64 0, .int .i64 0, .int .i64 0, .int .i64 0] rfl rfl 47 _ (HK7.out _ (.tail _ (.tail _ (.tail _ (.head _))))) (by kernel_rfl) rfl (by kernel_rfl) ?_
    obtain ⟨W9, hW9⟩ : ∃ W9, W7.setRow (G + 1 + 1 + 1 + 1) #[.int .i64 0, .int .i64 0, .int .i64 0, .int .i64 0, .int .i64 0, .int .i64 0] = W9 := ⟨_, rfl⟩
    rw [hW9] at HKR HE9 ⊢
    clear hW9
    go_wp2
    exact bodyPost_ret (v := .tuple #[.agg #[.int .i64 0, .int .i64 0, .int .i64 0, .int .i64 0, .int .i64 0, .int .i64 0], .int .i64 24]) (results_cell_tmp_row Tryz.results22 _ _ (G + 1 + 1 + 1 + 1) 47 #[.int .i64 0, .int .i64 0, .int .i64 0, .int .i64 0, .int .i64 0, .int .i64 0] (0, 0) _ _ rfl rfl HKR.out Tryz.underlying47 rfl (by kernel_rfl)) rfl ⟨rfl, HE9.out⟩
  obtain rfl : bt = true := by rw [← hbt]; rfl
  clear hbt
  have hR := HR.out
  rw [if_pos rfl] at hR
  have HR2 := Lib.hid hR
  clear hR HR
  have ha := HK7.out _ (.tail _ (.tail _ (.tail _ (.tail _ (.tail _ (.tail _ (.tail _ (.head _))))))))
  have ha0 := ha.cell 0
  simp at ha0
  clear ha
  have ua := HK7.out _ (.head _)
  have ua0 := ua.cell 0
  have ua1 := ua.cell 1
  simp at ua0 ua1
  clear ua
  have na := HK7.out _ (.tail _ (.tail _ (.tail _ (.tail _ (.head _)))))
  have na0 := na.cell 0
  have na1 := na.cell 1
  simp at na0 na1
  clear na
  have HE8 := Lib.hid (below_then HE7.out (below_alloc1 W7 (.cells #[.int .i64 id, .int .i64 3, .int .i64 ua, .int .i64 ub, .int .i64 e0, .int .i64 e1] 47))); have HK8 := Lib.hid (HK7.out.new 47 #[.int .i64 id, .int .i64 3, .int .i64 ua, .int .i64 ub, .int .i64 e0, .int .i64 e1])
  have HD8 := Lib.hid (boxes_lt HK7.out)
  have HZ8 := Lib.hid HE7.out.size
  clear HE7 HK7
  go_upto_region 18 with fail
  obtain ⟨W8, hW⟩ : ∃ W', W7.alloc (.cells #[.int .i64 id, .int .i64 3, .int .i64 ua, .int .i64 ub, .int .i64 e0, .int .i64 e1] 47) = W' := ⟨_, rfl⟩
  rw [hW] at HE8 HK8 ⊢
  clear hW ha0 ua0 ua1 na0 na1
  obtain ⟨N8, hN⟩ : ∃ N, W7.heap.size = N := ⟨_, rfl⟩
  rw [hN] at HK8 HD8 HZ8 ⊢
  clear hN
  have fa := HK8.out _ (.tail _ (.tail _ (.tail _ (.tail _ (.tail _ (.tail _ (.tail _ (.head _))))))))
  have fa1 := fa.cell 1
  simp at fa1
  clear fa
  have eR := HR2.out
  subst eR
  clear HR2
  have ka := HK8.out _ (.head _)
  have ka0 := ka.cell 0
  have ka1 := ka.cell 1
  have ka2 := ka.cell 2
  have ka3 := ka.cell 3
  have ka4 := ka.cell 4
  have ka5 := ka.cell 5
  simp at ka0 ka1 ka2 ka3 ka4 ka5
  clear ka
  go_upto_region 23 with fail
  refine wp_region_lit ?_
  refine wpList_plain rfl (fun K hK => ?_)
  go_simp
  refine hK _ _ ?_
  clear hK K
  have HKR : Hid (Blk (W8.setRow (G + 1 + 1 + 1 + 1) #[.int .i64 id, .int .i64 3, .int .i64 ua, .int .i64 ub, .int .i64 e0, .int .i64 e1]) (G + 1 + 1 + 1 + 1) 47 #[.int .i64 id, .int .i64 3, .int .i64 ua, .int .i64 ub, .int .i64 e0, .int .i64 e1]) := Lib.hid (setRow_heap W8 (G + 1 + 1 + 1 + 1) _ _ 47 _ (HK8.out _ (.tail _ (.tail _ (.tail _ (.tail _ (.head _)))))))
  have HE9 := Lib.hid (below_setRow HE8.out (show w.heap.size ≤ G + 1 + 1 + 1 + 1 by have := HG.out; omega) #[.int .i64 id, .int .i64 3, .int .i64 ua, .int .i64 ub, .int .i64 e0, .int .i64 e1])
  refine wpList_store_row rfl 47 (.tmp 8) (.tmp 102) rfl (G + 1 + 1 + 1 + 1) #[.int .i64 id, .int .i64 3, .int .i64 ua, .int .i64 ub, .int .i64 e0, .int .i64 e1] rfl rfl 47 _ (HK8.out _ (.tail _ (.tail _ (.tail _ (.tail _ (.head _)))))) (by kernel_rfl) rfl (by kernel_rfl) ?_
  obtain ⟨W9, hW9⟩ : ∃ W9, W8.setRow (G + 1 + 1 + 1 + 1) #[.int .i64 id, .int .i64 3, .int .i64 ua, .int .i64 ub, .int .i64 e0, .int .i64 e1] = W9 := ⟨_, rfl⟩
  rw [hW9] at HKR HE9 ⊢
  clear hW9
  go_wp2
  exact bodyPost_ret (v := .tuple #[.agg #[.int .i64 id, .int .i64 3, .int .i64 ua, .int .i64 ub, .int .i64 e0, .int .i64 e1], .int .i64 0]) (results_cell_tmp_row Tryz.results22 _ _ (G + 1 + 1 + 1 + 1) 47 #[.int .i64 id, .int .i64 3, .int .i64 ua, .int .i64 ub, .int .i64 e0, .int .i64 e1] (0, 0) _ _ rfl rfl HKR.out Tryz.underlying47 rfl (by kernel_rfl)) rfl ⟨rfl, HE9.out⟩

set_option maxRecDepth 100000 in
set_option maxHeartbeats 4000000 in
theorem sPour_m3 (vol mom hei : List P3) (id al ah t0 t1 u0 u1 v0 v1 h0 h1 : Int) (A B C : Option Addr) (n c mm d l ee : Nat) (fh x0 x1 d0 d1 a b e0 e1 p q r s X Y ua ub ue : Int) (R : FillD × Int) (w : World) (hi : HoldIn w ⟨id, al, ah, vol, mom, hei, t0, t1, u0, u1, v0, v1, h0, h1⟩ ⟨A, n, c, B, mm, d, C, l, ee⟩)
    (g1 : fillErr ⟨id, al, ah, vol, mom, hei, t0, t1, u0, u1, v0, v1, h0, h1⟩ ⟨fh, 3, x0, x1, d0, d1⟩ = 0) (g2 : massErr a b e0 e1 = 0) (k2 : litresS a b e0 e1 = (r, s)) (g3 : ¬ a < 0) (hvv : volS ⟨id, al, ah, vol, mom, hei, t0, t1, u0, u1, v0, v1, h0, h1⟩ ⟨fh, 3, x0, x1, d0, d1⟩ = (p, q)) (k3 : IntKind.i64.wrap (p + r) = X) (k4 : IntKind.i64.wrap (q + s) = Y) (hU : ullS vol X Y = (ua, ub, ue)) (hR : (if ue = 0 then (if x1 < ua then (noFill, 24) else (⟨id, 3, ua, min ub x1, min e0 d0, max e1 d1⟩, 0)) else (noFill, 24)) = R) :
    Calls Tryz.prog 22 #[.agg #[.int .i64 id, .int .i64 al, .int .i64 ah, .slice A n c, .slice B mm d, .slice C l ee, .int .i64 t0, .int .i64 t1, .int .i64 u0, .int .i64 u1, .int .i64 v0, .int .i64 v1, .int .i64 h0, .int .i64 h1], .agg #[.int .i64 fh, .int .i64 3, .int .i64 x0, .int .i64 x1, .int .i64 d0, .int .i64 d1], rv a b, rv e0 e1] w fun e w' => e = .returned (ft R) ∧ Below w.heap.size w w' := by
  have HE := Lib.hid (show Below w.heap.size w (((((w.alloc (.cells #[.int .i64 id, .int .i64 al, .int .i64 ah, .slice A n c, .slice B mm d, .slice C l ee, .int .i64 t0, .int .i64 t1, .int .i64 u0, .int .i64 u1, .int .i64 v0, .int .i64 v1, .int .i64 h0, .int .i64 h1] 45)).alloc (.cells #[.int .i64 fh, .int .i64 3, .int .i64 x0, .int .i64 x1, .int .i64 d0, .int .i64 d1] 47)).alloc (.cells #[.int .i64 a, .int .i64 b] 23)).alloc (.cells #[.int .i64 e0, .int .i64 e1] 23)).alloc (.cells #[.int .i64 0, .int .i64 0, .int .i64 0, .int .i64 0, .int .i64 0, .int .i64 0] 47)) from below_a5 (Below.refl _ _))
  have HK := Lib.hid (boxes5' w 45 47 23 23 47 #[.int .i64 id, .int .i64 al, .int .i64 ah, .slice A n c, .slice B mm d, .slice C l ee, .int .i64 t0, .int .i64 t1, .int .i64 u0, .int .i64 u1, .int .i64 v0, .int .i64 v1, .int .i64 h0, .int .i64 h1] #[.int .i64 fh, .int .i64 3, .int .i64 x0, .int .i64 x1, .int .i64 d0, .int .i64 d1] #[.int .i64 a, .int .i64 b] #[.int .i64 e0, .int .i64 e1] #[.int .i64 0, .int .i64 0, .int .i64 0, .int .i64 0, .int .i64 0, .int .i64 0])
  obtain ⟨i1, i2, i3⟩ := hi
  dsimp only at i1 i2 i3
  have C1 : Hid (∀ W, Below w.heap.size w W → Calls Tryz.prog 69 #[.agg #[.int .i64 id, .int .i64 al, .int .i64 ah, .slice A n c, .slice B mm d, .slice C l ee, .int .i64 t0, .int .i64 t1, .int .i64 u0, .int .i64 u1, .int .i64 v0, .int .i64 v1, .int .i64 h0, .int .i64 h1], .agg #[.int .i64 fh, .int .i64 3, .int .i64 x0, .int .i64 x1, .int .i64 d0, .int .i64 d1]] W fun e w' => e = .returned (.int .i64 0) ∧ Below W.heap.size W w') := Lib.hid fun W hW => int_to (sCheckFill_any ⟨id, al, ah, vol, mom, hei, t0, t1, u0, u1, v0, v1, h0, h1⟩ ⟨A, n, c, B, mm, d, C, l, ee⟩ ⟨fh, 3, x0, x1, d0, d1⟩ W ⟨i1.below hW, i2.below hW, i3.below hW⟩) g1
  have g2' : LitresS a b e0 e1 = (r, s, 0) := by unfold LitresS; rw [g2, k2, if_pos rfl]
  have C2 : Hid (∀ W, Calls Tryz.prog 70 #[rv a b, rv e0 e1] W fun e w' => e = .returned (.tuple #[rv r s, .int .i64 0]) ∧ Below W.heap.size W w') := Lib.hid fun W => rt_to (sLitres_any a b e0 e1 W) g2'
  have CF : Hid (∀ W, Calls Tryz.prog 71 #[.int .i64 3] W fun e w' => e = .returned (.bool false) ∧ Below W.heap.size W w') := Lib.hid fun W => sFilled_to 3 false W (by decide)
  have C4 : Hid (∀ W, Below w.heap.size w W → Calls Tryz.prog 72 #[.agg #[.int .i64 id, .int .i64 al, .int .i64 ah, .slice A n c, .slice B mm d, .slice C l ee, .int .i64 t0, .int .i64 t1, .int .i64 u0, .int .i64 u1, .int .i64 v0, .int .i64 v1, .int .i64 h0, .int .i64 h1], .agg #[.int .i64 fh, .int .i64 3, .int .i64 x0, .int .i64 x1, .int .i64 d0, .int .i64 d1]] W fun e w' => e = .returned (rv p q) ∧ Below W.heap.size W w') := Lib.hid fun W hW => by
    have := svol_to ⟨id, al, ah, vol, mom, hei, t0, t1, u0, u1, v0, v1, h0, h1⟩ ⟨A, n, c, B, mm, d, C, l, ee⟩ ⟨fh, 3, x0, x1, d0, d1⟩ W ⟨i1.below hW, i2.below hW, i3.below hW⟩ (by dsimp only; omega) (by dsimp only; omega)
    rw [hvv] at this; exact this
  have hv := (fill_zero g1).1
  have ht := hold_tab hv
  dsimp only at ht
  obtain ⟨fl1, fl2⟩ := hold_falls hv
  dsimp only at fl1 fl2
  have C5 : Hid (∀ W, Below w.heap.size w W → Calls Tryz.prog 46 #[tv A n c, rv X Y, .bool true] W fun e w' => e = .returned (.tuple #[rv ua ub, .bool (decide (ue = 0))]) ∧ Below W.heap.size W w') := Lib.hid fun W hW => by
    have := sInverse_tab A n c vol X Y true W (i1.below hW) ht (first_le_last ht) (turns_falls ht fl2 fl1)
    rw [show invS (besideS vol X Y true) (besideS vol X Y (!true)) (firstX vol) (lastX vol) = (ua, ub, ue) from hU] at this
    exact this
  have HS : Hid (ue = 0 ∨ ue = 24) := Lib.hid (by
    have q := invS_err24' (moreF vol Y) (lessF vol X) (firstX vol) (lastX vol)
    unfold ullS at hU
    rw [hU] at q
    exact q)
  have C6 : Hid (∀ W, Calls Tryz.prog 73 #[rv e0 e1, rv d0 d1] W fun e w' => e = .returned (rv (min e0 d0) (max e1 d1)) ∧ Below W.heap.size W w') := Lib.hid fun W => shull_any e0 e1 d0 d1 W
  have HR := Lib.hid hR
  clear hR hU hvv hv ht fl1 fl2 g1 g2 i1 i2 i3 k2 g2'
  go_enter Tryz.func22, Tryz.ntmps22
  go_wp2_with fail
  obtain ⟨W0, hW0⟩ : ∃ W0, (((((w.alloc (.cells #[.int .i64 id, .int .i64 al, .int .i64 ah, .slice A n c, .slice B mm d, .slice C l ee, .int .i64 t0, .int .i64 t1, .int .i64 u0, .int .i64 u1, .int .i64 v0, .int .i64 v1, .int .i64 h0, .int .i64 h1] 45)).alloc (.cells #[.int .i64 fh, .int .i64 3, .int .i64 x0, .int .i64 x1, .int .i64 d0, .int .i64 d1] 47)).alloc (.cells #[.int .i64 a, .int .i64 b] 23)).alloc (.cells #[.int .i64 e0, .int .i64 e1] 23)).alloc (.cells #[.int .i64 0, .int .i64 0, .int .i64 0, .int .i64 0, .int .i64 0, .int .i64 0] 47)) = W0 := ⟨_, rfl⟩
  rw [hW0] at HE HK ⊢
  clear hW0
  obtain ⟨G, hG⟩ : ∃ G, w.heap.size = G := ⟨_, rfl⟩
  rw [hG] at HK ⊢
  have HG := Lib.hid hG; clear hG
  refine (C1.out _ HE.out).mono ?_
  rintro e w1 ⟨rfl, hq⟩
  have HE1 := Lib.hid (below_then HE.out hq); have HK1 := Lib.hid (HK.out.on hq)
  clear hq HE HK C1
  have ma := HK1.out _ (.tail _ (.tail _ (.head _)))
  have ma0 := ma.cell 0
  have ma1 := ma.cell 1
  simp at ma0 ma1
  clear ma
  have na := HK1.out _ (.tail _ (.head _))
  have na0 := na.cell 0
  have na1 := na.cell 1
  simp at na0 na1
  clear na
  go_wp2_with fail
  refine (C2.out _).mono ?_
  rintro e y2 ⟨rfl, hq⟩
  have HE2 := Lib.hid (below_then (below_then HE1.out hq) (below_alloc1 y2 (.cells #[.int .i64 r, .int .i64 s] 23))); have HK2 := Lib.hid ((HK1.out.on hq).new 23 #[.int .i64 r, .int .i64 s])
  have HD2 := Lib.hid (boxes_lt (HK1.out.on hq))
  have HZ2 := Lib.hid (below_then HE1.out hq).size
  clear hq HE1 HK1 ma0 ma1 na0 na1 C2
  go_upto_region 5 with fail
  obtain ⟨W2, hW⟩ : ∃ W', y2.alloc (.cells #[.int .i64 r, .int .i64 s] 23) = W' := ⟨_, rfl⟩
  rw [hW] at HE2 HK2 ⊢
  clear hW
  obtain ⟨N2, hN⟩ : ∃ N, y2.heap.size = N := ⟨_, rfl⟩
  rw [hN] at HK2 HD2 HZ2 ⊢
  clear hN
  have ma := HK2.out _ (.tail _ (.tail _ (.tail _ (.head _))))
  have ma0 := ma.cell 0
  simp at ma0
  clear ma
  have fa := HK2.out _ (.tail _ (.tail _ (.tail _ (.tail _ (.head _)))))
  have fa1 := fa.cell 1
  simp at fa1
  clear fa
  go_wp2_with fail
  refine (CF.out _).mono ?_
  rintro e w3 ⟨rfl, hq⟩
  have HE3 := Lib.hid (below_then HE2.out hq); have HK3 := Lib.hid (HK2.out.on hq)
  clear hq HE2 HK2 CF ma0 fa1
  have ha := HK3.out _ (.tail _ (.tail _ (.tail _ (.tail _ (.tail _ (.head _))))))
  have ha0 := ha.cell 0
  have ha1 := ha.cell 1
  have ha2 := ha.cell 2
  have ha3 := ha.cell 3
  have ha4 := ha.cell 4
  have ha5 := ha.cell 5
  have ha6 := ha.cell 6
  have ha7 := ha.cell 7
  have ha8 := ha.cell 8
  have ha9 := ha.cell 9
  have ha10 := ha.cell 10
  have ha11 := ha.cell 11
  have ha12 := ha.cell 12
  have ha13 := ha.cell 13
  simp at ha0 ha1 ha2 ha3 ha4 ha5 ha6 ha7 ha8 ha9 ha10 ha11 ha12 ha13
  clear ha
  have fa := HK3.out _ (.tail _ (.tail _ (.tail _ (.tail _ (.head _)))))
  have fa0 := fa.cell 0
  have fa1 := fa.cell 1
  have fa2 := fa.cell 2
  have fa3 := fa.cell 3
  have fa4 := fa.cell 4
  have fa5 := fa.cell 5
  simp at fa0 fa1 fa2 fa3 fa4 fa5
  clear fa
  go_wp2_with fail
  refine (C4.out _ HE3.out).mono ?_
  rintro e y4 ⟨rfl, hq⟩
  have HE4 := Lib.hid (below_then (below_then HE3.out hq) (below_alloc1 y4 (.cells #[.int .i64 p, .int .i64 q] 23))); have HK4 := Lib.hid ((HK3.out.on hq).new 23 #[.int .i64 p, .int .i64 q])
  have HD4 := Lib.hid (boxes_lt (HK3.out.on hq))
  have HZ4 := Lib.hid (below_then HE3.out hq).size
  clear hq HE3 HK3 ha0 ha1 ha2 ha3 ha4 ha5 ha6 ha7 ha8 ha9 ha10 ha11 ha12 ha13 fa0 fa1 fa2 fa3 fa4 fa5 C4
  go_upto_region 14 with fail
  obtain ⟨W4, hW⟩ : ∃ W', y4.alloc (.cells #[.int .i64 p, .int .i64 q] 23) = W' := ⟨_, rfl⟩
  rw [hW] at HE4 HK4 ⊢
  clear hW
  obtain ⟨N4, hN⟩ : ∃ N, y4.heap.size = N := ⟨_, rfl⟩
  rw [hN] at HK4 HD4 HZ4 ⊢
  clear hN
  have ha := HK4.out _ (.tail _ (.tail _ (.tail _ (.tail _ (.tail _ (.tail _ (.head _)))))))
  have ha3 := ha.cell 3
  simp at ha3
  clear ha
  have pa := HK4.out _ (.head _)
  have pa0 := pa.cell 0
  have pa1 := pa.cell 1
  simp at pa0 pa1
  clear pa
  have ra := HK4.out _ (.tail _ (.head _))
  have ra0 := ra.cell 0
  have ra1 := ra.cell 1
  simp at ra0 ra1
  clear ra
  go_wp2_with fail
  refine (C5.out _ HE4.out).mono ?_
  rintro e y7 ⟨rfl, hq⟩
  have HE7 := Lib.hid (below_then (below_then HE4.out hq) (below_alloc1 y7 (.cells #[.int .i64 ua, .int .i64 ub] 23))); have HK7 := Lib.hid ((HK4.out.on hq).new 23 #[.int .i64 ua, .int .i64 ub])
  have HD7 := Lib.hid (boxes_lt (HK4.out.on hq))
  have HZ7 := Lib.hid (below_then HE4.out hq).size
  clear hq HE4 HK4 ha3 pa0 pa1 ra0 ra1 k3 k4 C5
  obtain ⟨bt, hbt⟩ : ∃ t, decide (ue = 0) = t := ⟨_, rfl⟩
  rw [hbt]
  go_upto_region 15 with fail
  obtain ⟨W7, hW⟩ : ∃ W', y7.alloc (.cells #[.int .i64 ua, .int .i64 ub] 23) = W' := ⟨_, rfl⟩
  rw [hW] at HE7 HK7 ⊢
  clear hW
  obtain ⟨N7, hN⟩ : ∃ N, y7.heap.size = N := ⟨_, rfl⟩
  rw [hN] at HK7 HD7 HZ7 ⊢
  clear hN
  rcases HS.out with rfl | rfl
  rotate_left
  · skip
    have eR : R = (noFill, 24) := by rw [← HR.out, if_neg (by decide)]
    subst eR
    clear HR
    obtain rfl : bt = false := by rw [← hbt]; rfl
    go_upto_region 16 with fail
    refine wp_region_lit ?_
    refine wpList_plain rfl (fun K hK => ?_)
    go_simp
    refine hK _ _ ?_
    clear hK K
    have HKR : Hid (Blk (W7.setRow (G + 1 + 1 + 1 + 1) #[.int .i64 0, .int .i64 0, .int .i64 0, .int .i64 0, .int .i64 0, .int .i64 0]) (G + 1 + 1 + 1 + 1) 47 #[.int .i64 0, .int .i64 0, .int .i64 0, .int .i64 0, .int .i64 0, .int .i64 0]) := Lib.hid (setRow_heap W7 (G + 1 + 1 + 1 + 1) _ _ 47 _ (HK7.out _ (.tail _ (.tail _ (.tail _ (.head _))))))
    have HE9 := Lib.hid (below_setRow HE7.out (show w.heap.size ≤ G + 1 + 1 + 1 + 1 by have := HG.out; omega) #[.int .i64 0, .int .i64 0, .int .i64 0, .int .i64 0, .int .i64 0, .int .i64 0])
    refine wpList_store_row rfl 47 (.tmp 8) (.tmp 73) rfl (G + 1 + 1 + 1 + 1) #[.int .i64 0, .int .i64 0, .int .i64 0, .int .i64 0, .int .i64 0, .int .i64 0] rfl rfl 47 _ (HK7.out _ (.tail _ (.tail _ (.tail _ (.head _))))) (by kernel_rfl) rfl (by kernel_rfl) ?_
    obtain ⟨W9, hW9⟩ : ∃ W9, W7.setRow (G + 1 + 1 + 1 + 1) #[.int .i64 0, .int .i64 0, .int .i64 0, .int .i64 0, .int .i64 0, .int .i64 0] = W9 := ⟨_, rfl⟩
    rw [hW9] at HKR HE9 ⊢
    clear hW9
    go_wp2
    exact bodyPost_ret (v := .tuple #[.agg #[.int .i64 0, .int .i64 0, .int .i64 0, .int .i64 0, .int .i64 0, .int .i64 0], .int .i64 24]) (results_cell_tmp_row Tryz.results22 _ _ (G + 1 + 1 + 1 + 1) 47 #[.int .i64 0, .int .i64 0, .int .i64 0, .int .i64 0, .int .i64 0, .int .i64 0] (0, 0) _ _ rfl rfl HKR.out Tryz.underlying47 rfl (by kernel_rfl)) rfl ⟨rfl, HE9.out⟩
  obtain rfl : bt = true := by rw [← hbt]; rfl
  clear hbt
  have hR := HR.out
  rw [if_pos rfl] at hR
  have HR2 := Lib.hid hR
  clear hR HR
  have ha := HK7.out _ (.tail _ (.tail _ (.tail _ (.tail _ (.tail _ (.tail _ (.tail _ (.head _))))))))
  have ha0 := ha.cell 0
  simp at ha0
  clear ha
  have ua := HK7.out _ (.head _)
  have ua0 := ua.cell 0
  have ua1 := ua.cell 1
  simp at ua0 ua1
  clear ua
  have na := HK7.out _ (.tail _ (.tail _ (.tail _ (.tail _ (.head _)))))
  have na0 := na.cell 0
  have na1 := na.cell 1
  simp at na0 na1
  clear na
  have HE8 := Lib.hid (below_then HE7.out (below_alloc1 W7 (.cells #[.int .i64 id, .int .i64 3, .int .i64 ua, .int .i64 ub, .int .i64 e0, .int .i64 e1] 47))); have HK8 := Lib.hid (HK7.out.new 47 #[.int .i64 id, .int .i64 3, .int .i64 ua, .int .i64 ub, .int .i64 e0, .int .i64 e1])
  have HD8 := Lib.hid (boxes_lt HK7.out)
  have HZ8 := Lib.hid HE7.out.size
  clear HE7 HK7
  go_upto_region 18 with fail
  obtain ⟨W8, hW⟩ : ∃ W', W7.alloc (.cells #[.int .i64 id, .int .i64 3, .int .i64 ua, .int .i64 ub, .int .i64 e0, .int .i64 e1] 47) = W' := ⟨_, rfl⟩
  rw [hW] at HE8 HK8 ⊢
  clear hW ha0 ua0 ua1 na0 na1
  obtain ⟨N8, hN⟩ : ∃ N, W7.heap.size = N := ⟨_, rfl⟩
  rw [hN] at HK8 HD8 HZ8 ⊢
  clear hN
  have fa := HK8.out _ (.tail _ (.tail _ (.tail _ (.tail _ (.tail _ (.tail _ (.tail _ (.head _))))))))
  have fa1 := fa.cell 1
  simp at fa1
  clear fa
  have ua := HK8.out _ (.tail _ (.head _))
  have ua0 := ua.cell 0
  simp at ua0
  clear ua
  have fb := HK8.out _ (.tail _ (.tail _ (.tail _ (.tail _ (.tail _ (.tail _ (.tail _ (.head _))))))))
  have fb3 := fb.cell 3
  simp at fb3
  clear fb
  by_cases hn : x1 < ua
  · have eR : R = (noFill, 24) := by rw [← HR2.out, if_pos hn]
    subst eR
    clear HR2
    go_upto_region 20 with fail
    refine wp_region_lit ?_
    refine wpList_plain rfl (fun K hK => ?_)
    go_simp
    refine hK _ _ ?_
    clear hK K
    have HKR : Hid (Blk (W8.setRow (G + 1 + 1 + 1 + 1) #[.int .i64 0, .int .i64 0, .int .i64 0, .int .i64 0, .int .i64 0, .int .i64 0]) (G + 1 + 1 + 1 + 1) 47 #[.int .i64 0, .int .i64 0, .int .i64 0, .int .i64 0, .int .i64 0, .int .i64 0]) := Lib.hid (setRow_heap W8 (G + 1 + 1 + 1 + 1) _ _ 47 _ (HK8.out _ (.tail _ (.tail _ (.tail _ (.tail _ (.head _)))))))
    have HE9 := Lib.hid (below_setRow HE8.out (show w.heap.size ≤ G + 1 + 1 + 1 + 1 by have := HG.out; omega) #[.int .i64 0, .int .i64 0, .int .i64 0, .int .i64 0, .int .i64 0, .int .i64 0])
    refine wpList_store_row rfl 47 (.tmp 8) (.tmp 88) rfl (G + 1 + 1 + 1 + 1) #[.int .i64 0, .int .i64 0, .int .i64 0, .int .i64 0, .int .i64 0, .int .i64 0] rfl rfl 47 _ (HK8.out _ (.tail _ (.tail _ (.tail _ (.tail _ (.head _)))))) (by kernel_rfl) rfl (by kernel_rfl) ?_
    obtain ⟨W9, hW9⟩ : ∃ W9, W8.setRow (G + 1 + 1 + 1 + 1) #[.int .i64 0, .int .i64 0, .int .i64 0, .int .i64 0, .int .i64 0, .int .i64 0] = W9 := ⟨_, rfl⟩
    rw [hW9] at HKR HE9 ⊢
    clear hW9
    go_wp2
    exact bodyPost_ret (v := .tuple #[.agg #[.int .i64 0, .int .i64 0, .int .i64 0, .int .i64 0, .int .i64 0, .int .i64 0], .int .i64 24]) (results_cell_tmp_row Tryz.results22 _ _ (G + 1 + 1 + 1 + 1) 47 #[.int .i64 0, .int .i64 0, .int .i64 0, .int .i64 0, .int .i64 0, .int .i64 0] (0, 0) _ _ rfl rfl HKR.out Tryz.underlying47 rfl (by kernel_rfl)) rfl ⟨rfl, HE9.out⟩
  have eR : R = (⟨id, 3, ua, min ub x1, min e0 d0, max e1 d1⟩, 0) := by rw [← HR2.out, if_neg hn]
  subst eR
  clear HR2
  go_upto_region 21 with fail
  clear ua0 hn fa1 fb3
  have ua := HK8.out _ (.tail _ (.head _))
  have ua1 := ua.cell 1
  simp at ua1
  clear ua
  have fb := HK8.out _ (.tail _ (.tail _ (.tail _ (.tail _ (.tail _ (.tail _ (.tail _ (.head _))))))))
  have fb3 := fb.cell 3
  simp at fb3
  clear fb
  have ka := HK8.out _ (.head _)
  have ka3 := ka.cell 3
  have kaf3 := ka.frozen 3
  have kal := ka.lt
  simp at ka3 kaf3
  clear ka
  go_upto_region 22 with fail
  have HE9 := Lib.hid (HE8.out.setCell (p := ⟨N8, 3, none⟩) (show w.heap.size ≤ N8 from HZ8.out) (.int .i64 (min ub x1)))
  have HK9 := Lib.hid (HK8.out.set1 HD8.out 3 (.int .i64 (min ub x1)) #[.int .i64 id, .int .i64 3, .int .i64 ua, .int .i64 (min ub x1), .int .i64 e0, .int .i64 e1] rfl)
  obtain ⟨W9, hW⟩ : ∃ W', W8.setCell ⟨N8, 3, none⟩ (.int .i64 (min ub x1)) = W' := ⟨_, rfl⟩
  rw [hW] at HK9 HE9 ⊢
  clear hW HK8 HE8 ua1 fb3 ka3 kaf3 kal
  have na := HK9.out _ (.tail _ (.tail _ (.tail _ (.tail _ (.tail _ (.head _))))))
  have na0 := na.cell 0
  have na1 := na.cell 1
  simp at na0 na1
  clear na
  have fa := HK9.out _ (.tail _ (.tail _ (.tail _ (.tail _ (.tail _ (.tail _ (.tail _ (.head _))))))))
  have fa4 := fa.cell 4
  have fa5 := fa.cell 5
  simp at fa4 fa5
  clear fa
  go_wp2_with fail
  refine (C6.out _).mono ?_
  rintro e w9 ⟨rfl, hq⟩
  have HEA := Lib.hid (below_then HE9.out hq); have HKA := Lib.hid (HK9.out.on hq)
  clear hq HE9 HK9 C6 na0 na1 fa4 fa5
  have ka := HKA.out _ (.head _)
  have ka4 := ka.cell 4
  have kaf4 := ka.frozen 4
  have ka5 := ka.cell 5
  have kaf5 := ka.frozen 5
  have kal := ka.lt
  simp at ka4 kaf4 ka5 kaf5
  clear ka
  go_upto_region 23 with fail
  have HEB := Lib.hid ((HEA.out.setCell (p := ⟨N8, 4, none⟩) (show w.heap.size ≤ N8 from HZ8.out) (.int .i64 (min e0 d0))).setCell (p := ⟨N8, 5, none⟩) (show w.heap.size ≤ N8 from HZ8.out) (.int .i64 (max e1 d1)))
  have HKB := Lib.hid ((HKA.out.set1 HD8.out 4 (.int .i64 (min e0 d0)) _ rfl).set1 HD8.out 5 (.int .i64 (max e1 d1)) #[.int .i64 id, .int .i64 3, .int .i64 ua, .int .i64 (min ub x1), .int .i64 (min e0 d0), .int .i64 (max e1 d1)] rfl)
  obtain ⟨WB, hW⟩ : ∃ W', (w9.setCell ⟨N8, 4, none⟩ (.int .i64 (min e0 d0))).setCell ⟨N8, 5, none⟩ (.int .i64 (max e1 d1)) = W' := ⟨_, rfl⟩
  rw [hW] at HKB HEB ⊢
  clear hW HKA HEA ka4 ka5 kaf4 kaf5 kal
  have ka := HKB.out _ (.head _)
  have ka0 := ka.cell 0
  have ka1 := ka.cell 1
  have ka2 := ka.cell 2
  have ka3 := ka.cell 3
  have ka4 := ka.cell 4
  have ka5 := ka.cell 5
  simp at ka0 ka1 ka2 ka3 ka4 ka5
  clear ka
  go_upto_region 23 with fail
  refine wp_region_lit ?_
  refine wpList_plain rfl (fun K hK => ?_)
  go_simp
  refine hK _ _ ?_
  clear hK K
  have HKR : Hid (Blk (WB.setRow (G + 1 + 1 + 1 + 1) #[.int .i64 id, .int .i64 3, .int .i64 ua, .int .i64 (min ub x1), .int .i64 (min e0 d0), .int .i64 (max e1 d1)]) (G + 1 + 1 + 1 + 1) 47 #[.int .i64 id, .int .i64 3, .int .i64 ua, .int .i64 (min ub x1), .int .i64 (min e0 d0), .int .i64 (max e1 d1)]) := Lib.hid (setRow_heap WB (G + 1 + 1 + 1 + 1) _ _ 47 _ (HKB.out _ (.tail _ (.tail _ (.tail _ (.tail _ (.head _)))))))
  have HE9 := Lib.hid (below_setRow HEB.out (show w.heap.size ≤ G + 1 + 1 + 1 + 1 by have := HG.out; omega) #[.int .i64 id, .int .i64 3, .int .i64 ua, .int .i64 (min ub x1), .int .i64 (min e0 d0), .int .i64 (max e1 d1)])
  refine wpList_store_row rfl 47 (.tmp 8) (.tmp 102) rfl (G + 1 + 1 + 1 + 1) #[.int .i64 id, .int .i64 3, .int .i64 ua, .int .i64 (min ub x1), .int .i64 (min e0 d0), .int .i64 (max e1 d1)] rfl rfl 47 _ (HKB.out _ (.tail _ (.tail _ (.tail _ (.tail _ (.head _)))))) (by kernel_rfl) rfl (by kernel_rfl) ?_
  obtain ⟨W9, hW9⟩ : ∃ W9, WB.setRow (G + 1 + 1 + 1 + 1) #[.int .i64 id, .int .i64 3, .int .i64 ua, .int .i64 (min ub x1), .int .i64 (min e0 d0), .int .i64 (max e1 d1)] = W9 := ⟨_, rfl⟩
  rw [hW9] at HKR HE9 ⊢
  clear hW9
  go_wp2
  exact bodyPost_ret (v := .tuple #[.agg #[.int .i64 id, .int .i64 3, .int .i64 ua, .int .i64 (min ub x1), .int .i64 (min e0 d0), .int .i64 (max e1 d1)], .int .i64 0]) (results_cell_tmp_row Tryz.results22 _ _ (G + 1 + 1 + 1 + 1) 47 #[.int .i64 id, .int .i64 3, .int .i64 ua, .int .i64 (min ub x1), .int .i64 (min e0 d0), .int .i64 (max e1 d1)] (0, 0) _ _ rfl rfl HKR.out Tryz.underlying47 rfl (by kernel_rfl)) rfl ⟨rfl, HE9.out⟩
end

end Go.Proofs.YtbcefdaflnlhoaaGreat
