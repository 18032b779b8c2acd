/- The contract of Draw (the specification of layer 2). Its condition: the hold's tables lie in memory. -/
import Derived.Test.YtbcefdaflnlhoaaGreatQ34
set_option linter.unusedVariables false
set_option linter.unusedSimpArgs false
set_option linter.constructorNameAsVariable false
namespace Go.Proofs.YtbcefdaflnlhoaaGreat

section
open Go.RowKit
attribute [local go_sem ↓] run_minI run_maxI
set_option maxRecDepth 100000 in
set_option maxHeartbeats 4000000 in
theorem sDraw_e1 (vol mom hei : List P3) (id al ah t0 t1 u0 u1 v0 v1 h0 h1 : Int) (A B C : Option Addr) (n c mm d l ee : Nat) (fh x0 x1 d0 d1 a b st E : Int) (w : World) (hi : HoldIn w ⟨id, al, ah, vol, mom, hei, t0, t1, u0, u1, v0, v1, h0, h1⟩ ⟨A, n, c, B, mm, d, C, l, ee⟩)
    (g1 : fillErr ⟨id, al, ah, vol, mom, hei, t0, t1, u0, u1, v0, v1, h0, h1⟩ ⟨fh, st, x0, x1, d0, d1⟩ = E) (gE : ¬ E = 0) :
    Calls Tryz.prog 24 #[.agg #[.int .i64 id, .int .i64 al, .int .i64 ah, .slice A n c, .slice B mm d, .slice C l ee, .int .i64 t0, .int .i64 t1, .int .i64 u0, .int .i64 u1, .int .i64 v0, .int .i64 v1, .int .i64 h0, .int .i64 h1], .agg #[.int .i64 fh, .int .i64 st, .int .i64 x0, .int .i64 x1, .int .i64 d0, .int .i64 d1], rv a b] w fun e w' => e = .returned (ft (noFill, E)) ∧ Below w.heap.size w w' := by
  have HE := Lib.hid (show Below w.heap.size w ((((w.alloc (.cells #[.int .i64 id, .int .i64 al, .int .i64 ah, .slice A n c, .slice B mm d, .slice C l ee, .int .i64 t0, .int .i64 t1, .int .i64 u0, .int .i64 u1, .int .i64 v0, .int .i64 v1, .int .i64 h0, .int .i64 h1] 45)).alloc (.cells #[.int .i64 fh, .int .i64 st, .int .i64 x0, .int .i64 x1, .int .i64 d0, .int .i64 d1] 47)).alloc (.cells #[.int .i64 a, .int .i64 b] 23)).alloc (.cells #[.int .i64 0, .int .i64 0, .int .i64 0, .int .i64 0, .int .i64 0, .int .i64 0] 47)) from below_a4 (Below.refl _ _))
  have HK := Lib.hid (boxes4' w 45 47 23 47 #[.int .i64 id, .int .i64 al, .int .i64 ah, .slice A n c, .slice B mm d, .slice C l ee, .int .i64 t0, .int .i64 t1, .int .i64 u0, .int .i64 u1, .int .i64 v0, .int .i64 v1, .int .i64 h0, .int .i64 h1] #[.int .i64 fh, .int .i64 st, .int .i64 x0, .int .i64 x1, .int .i64 d0, .int .i64 d1] #[.int .i64 a, .int .i64 b] #[.int .i64 0, .int .i64 0, .int .i64 0, .int .i64 0, .int .i64 0, .int .i64 0])
  obtain ⟨i1, i2, i3⟩ := hi
  dsimp only at i1 i2 i3
  have C1 : Hid (∀ W, Below w.heap.size w W → Calls Tryz.prog 69 #[.agg #[.int .i64 id, .int .i64 al, .int .i64 ah, .slice A n c, .slice B mm d, .slice C l ee, .int .i64 t0, .int .i64 t1, .int .i64 u0, .int .i64 u1, .int .i64 v0, .int .i64 v1, .int .i64 h0, .int .i64 h1], .agg #[.int .i64 fh, .int .i64 st, .int .i64 x0, .int .i64 x1, .int .i64 d0, .int .i64 d1]] W fun e w' => e = .returned (.int .i64 E) ∧ Below W.heap.size W w') := Lib.hid fun W hW => int_to (sCheckFill_any ⟨id, al, ah, vol, mom, hei, t0, t1, u0, u1, v0, v1, h0, h1⟩ ⟨A, n, c, B, mm, d, C, l, ee⟩ ⟨fh, st, x0, x1, d0, d1⟩ W ⟨i1.below hW, i2.below hW, i3.below hW⟩) g1
  clear g1 i1 i2 i3
  go_enter Tryz.func24, Tryz.ntmps24
  go_wp2_with fail
  obtain ⟨W0, hW0⟩ : ∃ W0, ((((w.alloc (.cells #[.int .i64 id, .int .i64 al, .int .i64 ah, .slice A n c, .slice B mm d, .slice C l ee, .int .i64 t0, .int .i64 t1, .int .i64 u0, .int .i64 u1, .int .i64 v0, .int .i64 v1, .int .i64 h0, .int .i64 h1] 45)).alloc (.cells #[.int .i64 fh, .int .i64 st, .int .i64 x0, .int .i64 x1, .int .i64 d0, .int .i64 d1] 47)).alloc (.cells #[.int .i64 a, .int .i64 b] 23)).alloc (.cells #[.int .i64 0, .int .i64 0, .int .i64 0, .int .i64 0, .int .i64 0, .int .i64 0] 47)) = W0 := ⟨_, rfl⟩
  rw [hW0] at HE HK ⊢
  clear hW0
  obtain ⟨G, hG⟩ : ∃ G, w.heap.size = G := ⟨_, rfl⟩
  rw [hG] at HK ⊢
  have HG := Lib.hid hG; clear hG
  refine (C1.out _ HE.out).mono ?_
  rintro e w1 ⟨rfl, hq⟩
  have HE1 := Lib.hid (below_then HE.out hq); have HK1 := Lib.hid (HK.out.on hq)
  clear hq HE HK C1
  go_upto_region 3 with fail
  refine wp_region_lit ?_
  refine wpList_plain rfl (fun K hK => ?_)
  go_simp
  refine hK _ _ ?_
  clear hK K
  refine wpList_plain rfl (fun K hK => ?_)
  go_simp
  refine hK _ _ ?_
  clear hK K
  have HKR : Hid (Blk (w1.setRow (G + 1 + 1 + 1) #[.int .i64 0, .int .i64 0, .int .i64 0, .int .i64 0, .int .i64 0, .int .i64 0]) (G + 1 + 1 + 1) 47 #[.int .i64 0, .int .i64 0, .int .i64 0, .int .i64 0, .int .i64 0, .int .i64 0]) := Lib.hid (setRow_heap w1 (G + 1 + 1 + 1) _ _ 47 _ (HK1.out _ (.head _)))
  have HE9 := Lib.hid (below_setRow HE1.out (show w.heap.size ≤ G + 1 + 1 + 1 by have := HG.out; omega) #[.int .i64 0, .int .i64 0, .int .i64 0, .int .i64 0, .int .i64 0, .int .i64 0])
  refine wpList_store_row rfl 47 (.tmp 6) (.tmp 18) rfl (G + 1 + 1 + 1) #[.int .i64 0, .int .i64 0, .int .i64 0, .int .i64 0, .int .i64 0, .int .i64 0] rfl rfl 47 _ (HK1.out _ (.head _)) (by kernel_rfl) rfl (by kernel_rfl) ?_
  obtain ⟨W9, hW9⟩ : ∃ W9, w1.setRow (G + 1 + 1 + 1) #[.int .i64 0, .int .i64 0, .int .i64 0, .int .i64 0, .int .i64 0, .int .i64 0] = W9 := ⟨_, rfl⟩
  rw [hW9] at HKR HE9 ⊢
  clear hW9
  go_wp2
  exact bodyPost_ret (v := .tuple #[.agg #[.int .i64 0, .int .i64 0, .int .i64 0, .int .i64 0, .int .i64 0, .int .i64 0], .int .i64 E]) (results_cell_tmp_row Tryz.results24 _ _ (G + 1 + 1 + 1) 47 #[.int .i64 0, .int .i64 0, .int .i64 0, .int .i64 0, .int .i64 0, .int .i64 0] (0, 0) _ _ rfl rfl HKR.out Tryz.underlying47 rfl (by kernel_rfl)) rfl ⟨rfl, HE9.out⟩

set_option maxRecDepth 100000 in
set_option maxHeartbeats 4000000 in
theorem sDraw_e2 (vol mom hei : List P3) (id al ah t0 t1 u0 u1 v0 v1 h0 h1 : Int) (A B C : Option Addr) (n c mm d l ee : Nat) (fh x0 x1 d0 d1 a b st E : Int) (w : World) (hi : HoldIn w ⟨id, al, ah, vol, mom, hei, t0, t1, u0, u1, v0, v1, h0, h1⟩ ⟨A, n, c, B, mm, d, C, l, ee⟩)
    (g1 : fillErr ⟨id, al, ah, vol, mom, hei, t0, t1, u0, u1, v0, v1, h0, h1⟩ ⟨fh, st, x0, x1, d0, d1⟩ = 0) (g2 : errR a b = E) (gE : E = 10) :
    Calls Tryz.prog 24 #[.agg #[.int .i64 id, .int .i64 al, .int .i64 ah, .slice A n c, .slice B mm d, .slice C l ee, .int .i64 t0, .int .i64 t1, .int .i64 u0, .int .i64 u1, .int .i64 v0, .int .i64 v1, .int .i64 h0, .int .i64 h1], .agg #[.int .i64 fh, .int .i64 st, .int .i64 x0, .int .i64 x1, .int .i64 d0, .int .i64 d1], rv a b] w fun e w' => e = .returned (ft (noFill, E)) ∧ Below w.heap.size w w' := by
  have HE := Lib.hid (show Below w.heap.size w ((((w.alloc (.cells #[.int .i64 id, .int .i64 al, .int .i64 ah, .slice A n c, .slice B mm d, .slice C l ee, .int .i64 t0, .int .i64 t1, .int .i64 u0, .int .i64 u1, .int .i64 v0, .int .i64 v1, .int .i64 h0, .int .i64 h1] 45)).alloc (.cells #[.int .i64 fh, .int .i64 st, .int .i64 x0, .int .i64 x1, .int .i64 d0, .int .i64 d1] 47)).alloc (.cells #[.int .i64 a, .int .i64 b] 23)).alloc (.cells #[.int .i64 0, .int .i64 0, .int .i64 0, .int .i64 0, .int .i64 0, .int .i64 0] 47)) from below_a4 (Below.refl _ _))
  have HK := Lib.hid (boxes4' w 45 47 23 47 #[.int .i64 id, .int .i64 al, .int .i64 ah, .slice A n c, .slice B mm d, .slice C l ee, .int .i64 t0, .int .i64 t1, .int .i64 u0, .int .i64 u1, .int .i64 v0, .int .i64 v1, .int .i64 h0, .int .i64 h1] #[.int .i64 fh, .int .i64 st, .int .i64 x0, .int .i64 x1, .int .i64 d0, .int .i64 d1] #[.int .i64 a, .int .i64 b] #[.int .i64 0, .int .i64 0, .int .i64 0, .int .i64 0, .int .i64 0, .int .i64 0])
  obtain ⟨i1, i2, i3⟩ := hi
  dsimp only at i1 i2 i3
  subst gE
  have C1 : Hid (∀ W, Below w.heap.size w W → Calls Tryz.prog 69 #[.agg #[.int .i64 id, .int .i64 al, .int .i64 ah, .slice A n c, .slice B mm d, .slice C l ee, .int .i64 t0, .int .i64 t1, .int .i64 u0, .int .i64 u1, .int .i64 v0, .int .i64 v1, .int .i64 h0, .int .i64 h1], .agg #[.int .i64 fh, .int .i64 st, .int .i64 x0, .int .i64 x1, .int .i64 d0, .int .i64 d1]] W fun e w' => e = .returned (.int .i64 0) ∧ Below W.heap.size W w') := Lib.hid fun W hW => int_to (sCheckFill_any ⟨id, al, ah, vol, mom, hei, t0, t1, u0, u1, v0, v1, h0, h1⟩ ⟨A, n, c, B, mm, d, C, l, ee⟩ ⟨fh, st, x0, x1, d0, d1⟩ W ⟨i1.below hW, i2.below hW, i3.below hW⟩) g1
  have C2 : Hid (∀ W, Calls Tryz.prog 44 #[rv a b] W fun e w' => e = .returned (.int .i64 10) ∧ Below W.heap.size W w') := Lib.hid fun W => int_to (rCheckRange_any a b W) g2
  clear g1 g2 i1 i2 i3
  go_enter Tryz.func24, Tryz.ntmps24
  go_wp2_with fail
  obtain ⟨W0, hW0⟩ : ∃ W0, ((((w.alloc (.cells #[.int .i64 id, .int .i64 al, .int .i64 ah, .slice A n c, .slice B mm d, .slice C l ee, .int .i64 t0, .int .i64 t1, .int .i64 u0, .int .i64 u1, .int .i64 v0, .int .i64 v1, .int .i64 h0, .int .i64 h1] 45)).alloc (.cells #[.int .i64 fh, .int .i64 st, .int .i64 x0, .int .i64 x1, .int .i64 d0, .int .i64 d1] 47)).alloc (.cells #[.int .i64 a, .int .i64 b] 23)).alloc (.cells #[.int .i64 0, .int .i64 0, .int .i64 0, .int .i64 0, .int .i64 0, .int .i64 0] 47)) = W0 := ⟨_, rfl⟩
  rw [hW0] at HE HK ⊢
  clear hW0
  obtain ⟨G, hG⟩ : ∃ G, w.heap.size = G := ⟨_, rfl⟩
  rw [hG] at HK ⊢
  have HG := Lib.hid hG; clear hG
  refine (C1.out _ HE.out).mono ?_
  rintro e w1 ⟨rfl, hq⟩
  have HE1 := Lib.hid (below_then HE.out hq); have HK1 := Lib.hid (HK.out.on hq)
  clear hq HE HK C1
  have ma := HK1.out _ (.tail _ (.head _))
  have ma0 := ma.cell 0
  have ma1 := ma.cell 1
  simp at ma0 ma1
  clear ma
  go_wp2_with fail
  refine (C2.out _).mono ?_
  rintro e w2 ⟨rfl, hq⟩
  have HE2 := Lib.hid (below_then HE1.out hq); have HK2 := Lib.hid (HK1.out.on hq)
  clear hq HE1 HK1 C2 ma0 ma1
  go_upto_region 5 with fail
  refine wp_region_lit ?_
  refine wpList_plain rfl (fun K hK => ?_)
  go_simp
  refine hK _ _ ?_
  clear hK K
  have HKR : Hid (Blk (w2.setRow (G + 1 + 1 + 1) #[.int .i64 0, .int .i64 0, .int .i64 0, .int .i64 0, .int .i64 0, .int .i64 0]) (G + 1 + 1 + 1) 47 #[.int .i64 0, .int .i64 0, .int .i64 0, .int .i64 0, .int .i64 0, .int .i64 0]) := Lib.hid (setRow_heap w2 (G + 1 + 1 + 1) _ _ 47 _ (HK2.out _ (.head _)))
  have HE9 := Lib.hid (below_setRow HE2.out (show w.heap.size ≤ G + 1 + 1 + 1 by have := HG.out; omega) #[.int .i64 0, .int .i64 0, .int .i64 0, .int .i64 0, .int .i64 0, .int .i64 0])
  refine wpList_store_row rfl 47 (.tmp 6) (.tmp 23) rfl (G + 1 + 1 + 1) #[.int .i64 0, .int .i64 0, .int .i64 0, .int .i64 0, .int .i64 0, .int .i64 0] rfl rfl 47 _ (HK2.out _ (.head _)) (by kernel_rfl) rfl (by kernel_rfl) ?_
  obtain ⟨W9, hW9⟩ : ∃ W9, w2.setRow (G + 1 + 1 + 1) #[.int .i64 0, .int .i64 0, .int .i64 0, .int .i64 0, .int .i64 0, .int .i64 0] = W9 := ⟨_, rfl⟩
  rw [hW9] at HKR HE9 ⊢
  clear hW9
  go_wp2
  exact bodyPost_ret (v := .tuple #[.agg #[.int .i64 0, .int .i64 0, .int .i64 0, .int .i64 0, .int .i64 0, .int .i64 0], .int .i64 10]) (results_cell_tmp_row Tryz.results24 _ _ (G + 1 + 1 + 1) 47 #[.int .i64 0, .int .i64 0, .int .i64 0, .int .i64 0, .int .i64 0, .int .i64 0] (0, 0) _ _ rfl rfl HKR.out Tryz.underlying47 rfl (by kernel_rfl)) rfl ⟨rfl, HE9.out⟩

set_option maxRecDepth 100000 in
set_option maxHeartbeats 4000000 in
theorem sDraw_e3 (vol mom hei : List P3) (id al ah t0 t1 u0 u1 v0 v1 h0 h1 : Int) (A B C : Option Addr) (n c mm d l ee : Nat) (fh x0 x1 d0 d1 a b st : Int) (w : World) (hi : HoldIn w ⟨id, al, ah, vol, mom, hei, t0, t1, u0, u1, v0, v1, h0, h1⟩ ⟨A, n, c, B, mm, d, C, l, ee⟩)
    (g1 : fillErr ⟨id, al, ah, vol, mom, hei, t0, t1, u0, u1, v0, v1, h0, h1⟩ ⟨fh, st, x0, x1, d0, d1⟩ = 0) (g2 : errR a b = 0) (g3 : a < 0) :
    Calls Tryz.prog 24 #[.agg #[.int .i64 id, .int .i64 al, .int .i64 ah, .slice A n c, .slice B mm d, .slice C l ee, .int .i64 t0, .int .i64 t1, .int .i64 u0, .int .i64 u1, .int .i64 v0, .int .i64 v1, .int .i64 h0, .int .i64 h1], .agg #[.int .i64 fh, .int .i64 st, .int .i64 x0, .int .i64 x1, .int .i64 d0, .int .i64 d1], rv a b] w fun e w' => e = .returned (ft (noFill, 1)) ∧ Below w.heap.size w w' := by
  have HE := Lib.hid (show Below w.heap.size w ((((w.alloc (.cells #[.int .i64 id, .int .i64 al, .int .i64 ah, .slice A n c, .slice B mm d, .slice C l ee, .int .i64 t0, .int .i64 t1, .int .i64 u0, .int .i64 u1, .int .i64 v0, .int .i64 v1, .int .i64 h0, .int .i64 h1] 45)).alloc (.cells #[.int .i64 fh, .int .i64 st, .int .i64 x0, .int .i64 x1, .int .i64 d0, .int .i64 d1] 47)).alloc (.cells #[.int .i64 a, .int .i64 b] 23)).alloc (.cells #[.int .i64 0, .int .i64 0, .int .i64 0, .int .i64 0, .int .i64 0, .int .i64 0] 47)) from below_a4 (Below.refl _ _))
  have HK := Lib.hid (boxes4' w 45 47 23 47 #[.int .i64 id, .int .i64 al, .int .i64 ah, .slice A n c, .slice B mm d, .slice C l ee, .int .i64 t0, .int .i64 t1, .int .i64 u0, .int .i64 u1, .int .i64 v0, .int .i64 v1, .int .i64 h0, .int .i64 h1] #[.int .i64 fh, .int .i64 st, .int .i64 x0, .int .i64 x1, .int .i64 d0, .int .i64 d1] #[.int .i64 a, .int .i64 b] #[.int .i64 0, .int .i64 0, .int .i64 0, .int .i64 0, .int .i64 0, .int .i64 0])
  obtain ⟨i1, i2, i3⟩ := hi
  dsimp only at i1 i2 i3
  have C1 : Hid (∀ W, Below w.heap.size w W → Calls Tryz.prog 69 #[.agg #[.int .i64 id, .int .i64 al, .int .i64 ah, .slice A n c, .slice B mm d, .slice C l ee, .int .i64 t0, .int .i64 t1, .int .i64 u0, .int .i64 u1, .int .i64 v0, .int .i64 v1, .int .i64 h0, .int .i64 h1], .agg #[.int .i64 fh, .int .i64 st, .int .i64 x0, .int .i64 x1, .int .i64 d0, .int .i64 d1]] W fun e w' => e = .returned (.int .i64 0) ∧ Below W.heap.size W w') := Lib.hid fun W hW => int_to (sCheckFill_any ⟨id, al, ah, vol, mom, hei, t0, t1, u0, u1, v0, v1, h0, h1⟩ ⟨A, n, c, B, mm, d, C, l, ee⟩ ⟨fh, st, x0, x1, d0, d1⟩ W ⟨i1.below hW, i2.below hW, i3.below hW⟩) g1
  have C2 : Hid (∀ W, Calls Tryz.prog 44 #[rv a b] W fun e w' => e = .returned (.int .i64 0) ∧ Below W.heap.size W w') := Lib.hid fun W => int_to (rCheckRange_any a b W) g2
  clear g1 g2 i1 i2 i3
  go_enter Tryz.func24, Tryz.ntmps24
  go_wp2_with fail
  obtain ⟨W0, hW0⟩ : ∃ W0, ((((w.alloc (.cells #[.int .i64 id, .int .i64 al, .int .i64 ah, .slice A n c, .slice B mm d, .slice C l ee, .int .i64 t0, .int .i64 t1, .int .i64 u0, .int .i64 u1, .int .i64 v0, .int .i64 v1, .int .i64 h0, .int .i64 h1] 45)).alloc (.cells #[.int .i64 fh, .int .i64 st, .int .i64 x0, .int .i64 x1, .int .i64 d0, .int .i64 d1] 47)).alloc (.cells #[.int .i64 a, .int .i64 b] 23)).alloc (.cells #[.int .i64 0, .int .i64 0, .int .i64 0, .int .i64 0, .int .i64 0, .int .i64 0] 47)) = W0 := ⟨_, rfl⟩
  rw [hW0] at HE HK ⊢
  clear hW0
  obtain ⟨G, hG⟩ : ∃ G, w.heap.size = G := ⟨_, rfl⟩
  rw [hG] at HK ⊢
  have HG := Lib.hid hG; clear hG
  refine (C1.out _ HE.out).mono ?_
  rintro e w1 ⟨rfl, hq⟩
  have HE1 := Lib.hid (below_then HE.out hq); have HK1 := Lib.hid (HK.out.on hq)
  clear hq HE HK C1
  have ma := HK1.out _ (.tail _ (.head _))
  have ma0 := ma.cell 0
  have ma1 := ma.cell 1
  simp at ma0 ma1
  clear ma
  go_wp2_with fail
  refine (C2.out _).mono ?_
  rintro e w2 ⟨rfl, hq⟩
  have HE2 := Lib.hid (below_then HE1.out hq); have HK2 := Lib.hid (HK1.out.on hq)
  clear hq HE1 HK1 C2 ma0 ma1
  have ma := HK2.out _ (.tail _ (.head _))
  have ma0 := ma.cell 0
  simp at ma0
  clear ma
  go_upto_region 7 with fail
  refine wp_region_lit ?_
  refine wpList_plain rfl (fun K hK => ?_)
  go_simp
  refine hK _ _ ?_
  clear hK K
  have HKR : Hid (Blk (w2.setRow (G + 1 + 1 + 1) #[.int .i64 0, .int .i64 0, .int .i64 0, .int .i64 0, .int .i64 0, .int .i64 0]) (G + 1 + 1 + 1) 47 #[.int .i64 0, .int .i64 0, .int .i64 0, .int .i64 0, .int .i64 0, .int .i64 0]) := Lib.hid (setRow_heap w2 (G + 1 + 1 + 1) _ _ 47 _ (HK2.out _ (.head _)))
  have HE9 := Lib.hid (below_setRow HE2.out (show w.heap.size ≤ G + 1 + 1 + 1 by have := HG.out; omega) #[.int .i64 0, .int .i64 0, .int .i64 0, .int .i64 0, .int .i64 0, .int .i64 0])
  refine wpList_store_row rfl 47 (.tmp 6) (.tmp 27) rfl (G + 1 + 1 + 1) #[.int .i64 0, .int .i64 0, .int .i64 0, .int .i64 0, .int .i64 0, .int .i64 0] rfl rfl 47 _ (HK2.out _ (.head _)) (by kernel_rfl) rfl (by kernel_rfl) ?_
  obtain ⟨W9, hW9⟩ : ∃ W9, w2.setRow (G + 1 + 1 + 1) #[.int .i64 0, .int .i64 0, .int .i64 0, .int .i64 0, .int .i64 0, .int .i64 0] = W9 := ⟨_, rfl⟩
  rw [hW9] at HKR HE9 ⊢
  clear hW9
  go_wp2
  exact bodyPost_ret (v := .tuple #[.agg #[.int .i64 0, .int .i64 0, .int .i64 0, .int .i64 0, .int .i64 0, .int .i64 0], .int .i64 1]) (results_cell_tmp_row Tryz.results24 _ _ (G + 1 + 1 + 1) 47 #[.int .i64 0, .int .i64 0, .int .i64 0, .int .i64 0, .int .i64 0, .int .i64 0] (0, 0) _ _ rfl rfl HKR.out Tryz.underlying47 rfl (by kernel_rfl)) rfl ⟨rfl, HE9.out⟩

set_option maxRecDepth 100000 in
set_option maxHeartbeats 4000000 in
theorem sDraw_s0 (vol mom hei : List P3) (id al ah t0 t1 u0 u1 v0 v1 h0 h1 : Int) (A B C : Option Addr) (n c mm d l ee : Nat) (fh x0 x1 d0 d1 a b : Int) (w : World) (hi : HoldIn w ⟨id, al, ah, vol, mom, hei, t0, t1, u0, u1, v0, v1, h0, h1⟩ ⟨A, n, c, B, mm, d, C, l, ee⟩)
    (g1 : fillErr ⟨id, al, ah, vol, mom, hei, t0, t1, u0, u1, v0, v1, h0, h1⟩ ⟨fh, 0, x0, x1, d0, d1⟩ = 0) (g2 : errR a b = 0) (g3 : ¬ a < 0) :
    Calls Tryz.prog 24 #[.agg #[.int .i64 id, .int .i64 al, .int .i64 ah, .slice A n c, .slice B mm d, .slice C l ee, .int .i64 t0, .int .i64 t1, .int .i64 u0, .int .i64 u1, .int .i64 v0, .int .i64 v1, .int .i64 h0, .int .i64 h1], .agg #[.int .i64 fh, .int .i64 0, .int .i64 x0, .int .i64 x1, .int .i64 d0, .int .i64 d1], rv a b] w fun e w' => e = .returned (ft (noFill, 22)) ∧ Below w.heap.size w w' := by
  have HE := Lib.hid (show Below w.heap.size w ((((w.alloc (.cells #[.int .i64 id, .int .i64 al, .int .i64 ah, .slice A n c, .slice B mm d, .slice C l ee, .int .i64 t0, .int .i64 t1, .int .i64 u0, .int .i64 u1, .int .i64 v0, .int .i64 v1, .int .i64 h0, .int .i64 h1] 45)).alloc (.cells #[.int .i64 fh, .int .i64 0, .int .i64 x0, .int .i64 x1, .int .i64 d0, .int .i64 d1] 47)).alloc (.cells #[.int .i64 a, .int .i64 b] 23)).alloc (.cells #[.int .i64 0, .int .i64 0, .int .i64 0, .int .i64 0, .int .i64 0, .int .i64 0] 47)) from below_a4 (Below.refl _ _))
  have HK := Lib.hid (boxes4' w 45 47 23 47 #[.int .i64 id, .int .i64 al, .int .i64 ah, .slice A n c, .slice B mm d, .slice C l ee, .int .i64 t0, .int .i64 t1, .int .i64 u0, .int .i64 u1, .int .i64 v0, .int .i64 v1, .int .i64 h0, .int .i64 h1] #[.int .i64 fh, .int .i64 0, .int .i64 x0, .int .i64 x1, .int .i64 d0, .int .i64 d1] #[.int .i64 a, .int .i64 b] #[.int .i64 0, .int .i64 0, .int .i64 0, .int .i64 0, .int .i64 0, .int .i64 0])
  obtain ⟨i1, i2, i3⟩ := hi
  dsimp only at i1 i2 i3
  have C1 : Hid (∀ W, Below w.heap.size w W → Calls Tryz.prog 69 #[.agg #[.int .i64 id, .int .i64 al, .int .i64 ah, .slice A n c, .slice B mm d, .slice C l ee, .int .i64 t0, .int .i64 t1, .int .i64 u0, .int .i64 u1, .int .i64 v0, .int .i64 v1, .int .i64 h0, .int .i64 h1], .agg #[.int .i64 fh, .int .i64 0, .int .i64 x0, .int .i64 x1, .int .i64 d0, .int .i64 d1]] W fun e w' => e = .returned (.int .i64 0) ∧ Below W.heap.size W w') := Lib.hid fun W hW => int_to (sCheckFill_any ⟨id, al, ah, vol, mom, hei, t0, t1, u0, u1, v0, v1, h0, h1⟩ ⟨A, n, c, B, mm, d, C, l, ee⟩ ⟨fh, 0, x0, x1, d0, d1⟩ W ⟨i1.below hW, i2.below hW, i3.below hW⟩) g1
  have C2 : Hid (∀ W, Calls Tryz.prog 44 #[rv a b] W fun e w' => e = .returned (.int .i64 0) ∧ Below W.heap.size W w') := Lib.hid fun W => int_to (rCheckRange_any a b W) g2
  have CF : Hid (∀ W, Calls Tryz.prog 71 #[.int .i64 0] W fun e w' => e = .returned (.bool false) ∧ Below W.heap.size W w') := Lib.hid fun W => sFilled_to 0 false W (by decide)
  clear g1 g2 i1 i2 i3
  go_enter Tryz.func24, Tryz.ntmps24
  go_wp2_with fail
  obtain ⟨W0, hW0⟩ : ∃ W0, ((((w.alloc (.cells #[.int .i64 id, .int .i64 al, .int .i64 ah, .slice A n c, .slice B mm d, .slice C l ee, .int .i64 t0, .int .i64 t1, .int .i64 u0, .int .i64 u1, .int .i64 v0, .int .i64 v1, .int .i64 h0, .int .i64 h1] 45)).alloc (.cells #[.int .i64 fh, .int .i64 0, .int .i64 x0, .int .i64 x1, .int .i64 d0, .int .i64 d1] 47)).alloc (.cells #[.int .i64 a, .int .i64 b] 23)).alloc (.cells #[.int .i64 0, .int .i64 0, .int .i64 0, .int .i64 0, .int .i64 0, .int .i64 0] 47)) = W0 := ⟨_, rfl⟩
  rw [hW0] at HE HK ⊢
  clear hW0
  obtain ⟨G, hG⟩ : ∃ G, w.heap.size = G := ⟨_, rfl⟩
  rw [hG] at HK ⊢
  have HG := Lib.hid hG; clear hG
  refine (C1.out _ HE.out).mono ?_
  rintro e w1 ⟨rfl, hq⟩
  have HE1 := Lib.hid (below_then HE.out hq); have HK1 := Lib.hid (HK.out.on hq)
  clear hq HE HK C1
  have ma := HK1.out _ (.tail _ (.head _))
  have ma0 := ma.cell 0
  have ma1 := ma.cell 1
  simp at ma0 ma1
  clear ma
  go_wp2_with fail
  refine (C2.out _).mono ?_
  rintro e w2 ⟨rfl, hq⟩
  have HE2 := Lib.hid (below_then HE1.out hq); have HK2 := Lib.hid (HK1.out.on hq)
  clear hq HE1 HK1 C2 ma0 ma1
  have ma := HK2.out _ (.tail _ (.head _))
  have ma0 := ma.cell 0
  simp at ma0
  clear ma
  have fa := HK2.out _ (.tail _ (.tail _ (.head _)))
  have fa1 := fa.cell 1
  simp at fa1
  clear fa
  go_wp2_with fail
  refine (CF.out _).mono ?_
  rintro e w3 ⟨rfl, hq⟩
  have HE3 := Lib.hid (below_then HE2.out hq); have HK3 := Lib.hid (HK2.out.on hq)
  clear hq HE2 HK2 CF ma0 fa1
  go_upto_region 9 with fail
  refine wp_region_lit ?_
  refine wpList_plain rfl (fun K hK => ?_)
  go_simp
  refine hK _ _ ?_
  clear hK K
  have HKR : Hid (Blk (w3.setRow (G + 1 + 1 + 1) #[.int .i64 0, .int .i64 0, .int .i64 0, .int .i64 0, .int .i64 0, .int .i64 0]) (G + 1 + 1 + 1) 47 #[.int .i64 0, .int .i64 0, .int .i64 0, .int .i64 0, .int .i64 0, .int .i64 0]) := Lib.hid (setRow_heap w3 (G + 1 + 1 + 1) _ _ 47 _ (HK3.out _ (.head _)))
  have HE9 := Lib.hid (below_setRow HE3.out (show w.heap.size ≤ G + 1 + 1 + 1 by have := HG.out; omega) #[.int .i64 0, .int .i64 0, .int .i64 0, .int .i64 0, .int .i64 0, .int .i64 0])
  refine wpList_store_row rfl 47 (.tmp 6) (.tmp 37) rfl (G + 1 + 1 + 1) #[.int .i64 0, .int .i64 0, .int .i64 0, .int .i64 0, .int .i64 0, .int .i64 0] rfl rfl 47 _ (HK3.out _ (.head _)) (by kernel_rfl) rfl (by kernel_rfl) ?_
  obtain ⟨W9, hW9⟩ : ∃ W9, w3.setRow (G + 1 + 1 + 1) #[.int .i64 0, .int .i64 0, .int .i64 0, .int .i64 0, .int .i64 0, .int .i64 0] = W9 := ⟨_, rfl⟩
  rw [hW9] at HKR HE9 ⊢
  clear hW9
  go_wp2
  exact bodyPost_ret (v := .tuple #[.agg #[.int .i64 0, .int .i64 0, .int .i64 0, .int .i64 0, .int .i64 0, .int .i64 0], .int .i64 22]) (results_cell_tmp_row Tryz.results24 _ _ (G + 1 + 1 + 1) 47 #[.int .i64 0, .int .i64 0, .int .i64 0, .int .i64 0, .int .i64 0, .int .i64 0] (0, 0) _ _ rfl rfl HKR.out Tryz.underlying47 rfl (by kernel_rfl)) rfl ⟨rfl, HE9.out⟩

set_option maxRecDepth 100000 in
set_option maxHeartbeats 4000000 in
theorem sDraw_s4 (vol mom hei : List P3) (id al ah t0 t1 u0 u1 v0 v1 h0 h1 : Int) (A B C : Option Addr) (n c mm d l ee : Nat) (fh x0 x1 d0 d1 a b : Int) (w : World) (hi : HoldIn w ⟨id, al, ah, vol, mom, hei, t0, t1, u0, u1, v0, v1, h0, h1⟩ ⟨A, n, c, B, mm, d, C, l, ee⟩)
    (g1 : fillErr ⟨id, al, ah, vol, mom, hei, t0, t1, u0, u1, v0, v1, h0, h1⟩ ⟨fh, 4, x0, x1, d0, d1⟩ = 0) (g2 : errR a b = 0) (g3 : ¬ a < 0) :
    Calls Tryz.prog 24 #[.agg #[.int .i64 id, .int .i64 al, .int .i64 ah, .slice A n c, .slice B mm d, .slice C l ee, .int .i64 t0, .int .i64 t1, .int .i64 u0, .int .i64 u1, .int .i64 v0, .int .i64 v1, .int .i64 h0, .int .i64 h1], .agg #[.int .i64 fh, .int .i64 4, .int .i64 x0, .int .i64 x1, .int .i64 d0, .int .i64 d1], rv a b] w fun e w' => e = .returned (ft (noFill, 22)) ∧ Below w.heap.size w w' := by
  have HE := Lib.hid (show Below w.heap.size w ((((w.alloc (.cells #[.int .i64 id, .int .i64 al, .int .i64 ah, .slice A n c, .slice B mm d, .slice C l ee, .int .i64 t0, .int .i64 t1, .int .i64 u0, .int .i64 u1, .int .i64 v0, .int .i64 v1, .int .i64 h0, .int .i64 h1] 45)).alloc (.cells #[.int .i64 fh, .int .i64 4, .int .i64 x0, .int .i64 x1, .int .i64 d0, .int .i64 d1] 47)).alloc (.cells #[.int .i64 a, .int .i64 b] 23)).alloc (.cells #[.int .i64 0, .int .i64 0, .int .i64 0, .int .i64 0, .int .i64 0, .int .i64 0] 47)) from below_a4 (Below.refl _ _))
  have HK := Lib.hid (boxes4' w 45 47 23 47 #[.int .i64 id, .int .i64 al, .int .i64 ah, .slice A n c, .slice B mm d, .slice C l ee, .int .i64 t0, .int .i64 t1, .int .i64 u0, .int .i64 u1, .int .i64 v0, .int .i64 v1, .int .i64 h0, .int .i64 h1] #[.int .i64 fh, .int .i64 4, .int .i64 x0, .int .i64 x1, .int .i64 d0, .int .i64 d1] #[.int .i64 a, .int .i64 b] #[.int .i64 0, .int .i64 0, .int .i64 0, .int .i64 0, .int .i64 0, .int .i64 0])
  obtain ⟨i1, i2, i3⟩ := hi
  dsimp only at i1 i2 i3
  have C1 : Hid (∀ W, Below w.heap.size w W → Calls Tryz.prog 69 #[.agg #[.int .i64 id, .int .i64 al, .int .i64 ah, .slice A n c, .slice B mm d, .slice C l ee, .int .i64 t0, .int .i64 t1, .int .i64 u0, .int .i64 u1, .int .i64 v0, .int .i64 v1, .int .i64 h0, .int .i64 h1], .agg #[.int .i64 fh, .int .i64 4, .int .i64 x0, .int .i64 x1, .int .i64 d0, .int .i64 d1]] W fun e w' => e = .returned (.int .i64 0) ∧ Below W.heap.size W w') := Lib.hid fun W hW => int_to (sCheckFill_any ⟨id, al, ah, vol, mom, hei, t0, t1, u0, u1, v0, v1, h0, h1⟩ ⟨A, n, c, B, mm, d, C, l, ee⟩ ⟨fh, 4, x0, x1, d0, d1⟩ W ⟨i1.below hW, i2.below hW, i3.below hW⟩) g1
  have C2 : Hid (∀ W, Calls Tryz.prog 44 #[rv a b] W fun e w' => e = .returned (.int .i64 0) ∧ Below W.heap.size W w') := Lib.hid fun W => int_to (rCheckRange_any a b W) g2
  have CF : Hid (∀ W, Calls Tryz.prog 71 #[.int .i64 4] W fun e w' => e = .returned (.bool false) ∧ Below W.heap.size W w') := Lib.hid fun W => sFilled_to 4 false W (by decide)
  clear g1 g2 i1 i2 i3
  go_enter Tryz.func24, Tryz.ntmps24
  go_wp2_with fail
  obtain ⟨W0, hW0⟩ : ∃ W0, ((((w.alloc (.cells #[.int .i64 id, .int .i64 al, .int .i64 ah, .slice A n c, .slice B mm d, .slice C l ee, .int .i64 t0, .int .i64 t1, .int .i64 u0, .int .i64 u1, .int .i64 v0, .int .i64 v1, .int .i64 h0, .int .i64 h1] 45)).alloc (.cells #[.int .i64 fh, .int .i64 4, .int .i64 x0, .int .i64 x1, .int .i64 d0, .int .i64 d1] 47)).alloc (.cells #[.int .i64 a, .int .i64 b] 23)).alloc (.cells #[.int .i64 0, .int .i64 0, .int .i64 0, .int .i64 0, .int .i64 0, .int .i64 0] 47)) = W0 := ⟨_, rfl⟩
  rw [hW0] at HE HK ⊢
  clear hW0
  obtain ⟨G, hG⟩ : ∃ G, w.heap.size = G := ⟨_, rfl⟩
  rw [hG] at HK ⊢
  have HG := Lib.hid hG; clear hG
  refine (C1.out _ HE.out).mono ?_
  rintro e w1 ⟨rfl, hq⟩
  have HE1 := Lib.hid (below_then HE.out hq); have HK1 := Lib.hid (HK.out.on hq)
  clear hq HE HK C1
  have ma := HK1.out _ (.tail _ (.head _))
  have ma0 := ma.cell 0
  have ma1 := ma.cell 1
  simp at ma0 ma1
  clear ma
  go_wp2_with fail
  refine (C2.out _).mono ?_
  rintro e w2 ⟨rfl, hq⟩
  have HE2 := Lib.hid (below_then HE1.out hq); have HK2 := Lib.hid (HK1.out.on hq)
  clear hq HE1 HK1 C2 ma0 ma1
  have ma := HK2.out _ (.tail _ (.head _))
  have ma0 := ma.cell 0
  simp at ma0
  clear ma
  have fa := HK2.out _ (.tail _ (.tail _ (.head _)))
  have fa1 := fa.cell 1
  simp at fa1
  clear fa
  go_wp2_with fail
  refine (CF.out _).mono ?_
  rintro e w3 ⟨rfl, hq⟩
  have HE3 := Lib.hid (below_then HE2.out hq); have HK3 := Lib.hid (HK2.out.on hq)
  clear hq HE2 HK2 CF ma0 fa1
  go_upto_region 9 with fail
  refine wp_region_lit ?_
  refine wpList_plain rfl (fun K hK => ?_)
  go_simp
  refine hK _ _ ?_
  clear hK K
  have HKR : Hid (Blk (w3.setRow (G + 1 + 1 + 1) #[.int .i64 0, .int .i64 0, .int .i64 0, .int .i64 0, .int .i64 0, .int .i64 0]) (G + 1 + 1 + 1) 47 #[.int .i64 0, .int .i64 0, .int .i64 0, .int .i64 0, .int .i64 0, .int .i64 0]) := Lib.hid (setRow_heap w3 (G + 1 + 1 + 1) _ _ 47 _ (HK3.out _ (.head _)))
  have HE9 := Lib.hid (below_setRow HE3.out (show w.heap.size ≤ G + 1 + 1 + 1 by have := HG.out; omega) #[.int .i64 0, .int .i64 0, .int .i64 0, .int .i64 0, .int .i64 0, .int .i64 0])
  refine wpList_store_row rfl 47 (.tmp 6) (.tmp 37) rfl (G + 1 + 1 + 1) #[.int .i64 0, .int .i64 0, .int .i64 0, .int .i64 0, .int .i64 0, .int .i64 0] rfl rfl 47 _ (HK3.out _ (.head _)) (by kernel_rfl) rfl (by kernel_rfl) ?_
  obtain ⟨W9, hW9⟩ : ∃ W9, w3.setRow (G + 1 + 1 + 1) #[.int .i64 0, .int .i64 0, .int .i64 0, .int .i64 0, .int .i64 0, .int .i64 0] = W9 := ⟨_, rfl⟩
  rw [hW9] at HKR HE9 ⊢
  clear hW9
  go_wp2
  exact bodyPost_ret (v := .tuple #[.agg #[.int .i64 0, .int .i64 0, .int .i64 0, .int .i64 0, .int .i64 0, .int .i64 0], .int .i64 22]) (results_cell_tmp_row Tryz.results24 _ _ (G + 1 + 1 + 1) 47 #[.int .i64 0, .int .i64 0, .int .i64 0, .int .i64 0, .int .i64 0, .int .i64 0] (0, 0) _ _ rfl rfl HKR.out Tryz.underlying47 rfl (by kernel_rfl)) rfl ⟨rfl, HE9.out⟩

set_option maxRecDepth 100000 in
set_option maxHeartbeats 4000000 in
theorem sDraw_s5 (vol mom hei : List P3) (id al ah t0 t1 u0 u1 v0 v1 h0 h1 : Int) (A B C : Option Addr) (n c mm d l ee : Nat) (fh x0 x1 d0 d1 a b : Int) (w : World) (hi : HoldIn w ⟨id, al, ah, vol, mom, hei, t0, t1, u0, u1, v0, v1, h0, h1⟩ ⟨A, n, c, B, mm, d, C, l, ee⟩)
    (g1 : fillErr ⟨id, al, ah, vol, mom, hei, t0, t1, u0, u1, v0, v1, h0, h1⟩ ⟨fh, 5, x0, x1, d0, d1⟩ = 0) (g2 : errR a b = 0) (g3 : ¬ a < 0) :
    Calls Tryz.prog 24 #[.agg #[.int .i64 id, .int .i64 al, .int .i64 ah, .slice A n c, .slice B mm d, .slice C l ee, .int .i64 t0, .int .i64 t1, .int .i64 u0, .int .i64 u1, .int .i64 v0, .int .i64 v1, .int .i64 h0, .int .i64 h1], .agg #[.int .i64 fh, .int .i64 5, .int .i64 x0, .int .i64 x1, .int .i64 d0, .int .i64 d1], rv a b] w fun e w' => e = .returned (ft (noFill, 22)) ∧ Below w.heap.size w w' := by
  have HE := Lib.hid (show Below w.heap.size w ((((w.alloc (.cells #[.int .i64 id, .int .i64 al, .int .i64 ah, .slice A n c, .slice B mm d, .slice C l ee, .int .i64 t0, .int .i64 t1, .int .i64 u0, .int .i64 u1, .int .i64 v0, .int .i64 v1, .int .i64 h0, .int .i64 h1] 45)).alloc (.cells #[.int .i64 fh, .int .i64 5, .int .i64 x0, .int .i64 x1, .int .i64 d0, .int .i64 d1] 47)).alloc (.cells #[.int .i64 a, .int .i64 b] 23)).alloc (.cells #[.int .i64 0, .int .i64 0, .int .i64 0, .int .i64 0, .int .i64 0, .int .i64 0] 47)) from below_a4 (Below.refl _ _))
  have HK := Lib.hid (boxes4' w 45 47 23 47 #[.int .i64 id, .int .i64 al, .int .i64 ah, .slice A n c, .slice B mm d, .slice C l ee, .int .i64 t0, .int .i64 t1, .int .i64 u0, .int .i64 u1, .int .i64 v0, .int .i64 v1, .int .i64 h0, .int .i64 h1] #[.int .i64 fh, .int .i64 5, .int .i64 x0, .int .i64 x1, .int .i64 d0, .int .i64 d1] #[.int .i64 a, .int .i64 b] #[.int .i64 0, .int .i64 0, .int .i64 0, .int .i64 0, .int .i64 0, .int .i64 0])
  obtain ⟨i1, i2, i3⟩ := hi
  dsimp only at i1 i2 i3
  have C1 : Hid (∀ W, Below w.heap.size w W → Calls Tryz.prog 69 #[.agg #[.int .i64 id, .int .i64 al, .int .i64 ah, .slice A n c, .slice B mm d, .slice C l ee, .int .i64 t0, .int .i64 t1, .int .i64 u0, .int .i64 u1, .int .i64 v0, .int .i64 v1, .int .i64 h0, .int .i64 h1], .agg #[.int .i64 fh, .int .i64 5, .int .i64 x0, .int .i64 x1, .int .i64 d0, .int .i64 d1]] W fun e w' => e = .returned (.int .i64 0) ∧ Below W.heap.size W w') := Lib.hid fun W hW => int_to (sCheckFill_any ⟨id, al, ah, vol, mom, hei, t0, t1, u0, u1, v0, v1, h0, h1⟩ ⟨A, n, c, B, mm, d, C, l, ee⟩ ⟨fh, 5, x0, x1, d0, d1⟩ W ⟨i1.below hW, i2.below hW, i3.below hW⟩) g1
  have C2 : Hid (∀ W, Calls Tryz.prog 44 #[rv a b] W fun e w' => e = .returned (.int .i64 0) ∧ Below W.heap.size W w') := Lib.hid fun W => int_to (rCheckRange_any a b W) g2
  have CF : Hid (∀ W, Calls Tryz.prog 71 #[.int .i64 5] W fun e w' => e = .returned (.bool false) ∧ Below W.heap.size W w') := Lib.hid fun W => sFilled_to 5 false W (by decide)
  clear g1 g2 i1 i2 i3
  go_enter Tryz.func24, Tryz.ntmps24
  go_wp2_with fail
  obtain ⟨W0, hW0⟩ : ∃ W0, ((((w.alloc (.cells #[.int .i64 id, .int .i64 al, .int .i64 ah, .slice A n c, .slice B mm d, .slice C l ee, .int .i64 t0, .int .i64 t1, .int .i64 u0, .int .i64 u1, .int .i64 v0, .int .i64 v1, .int .i64 h0, .int .i64 h1] 45)).alloc (.cells #[.int .i64 fh, .int .i64 5, .int .i64 x0, .int .i64 x1, .int .i64 d0, .int .i64 d1] 47)).alloc (.cells #[.int .i64 a, .int .i64 b] 23)).alloc (.cells #[.int .i64 0, .int .i64 0, .int .i64 0, .int .i64 0, .int .i64 0, .int .i64 0] 47)) = W0 := ⟨_, rfl⟩
  rw [hW0] at HE HK ⊢
  clear hW0
  obtain ⟨G, hG⟩ : ∃ G, w.heap.size = G := ⟨_, rfl⟩
  rw [hG] at HK ⊢
  have HG := Lib.hid hG; clear hG
  refine (C1.out _ HE.out).mono ?_
  rintro e w1 ⟨rfl, hq⟩
  have HE1 := Lib.hid (below_then HE.out hq); have HK1 := Lib.hid (HK.out.on hq)
  clear hq HE HK C1
  have ma := HK1.out _ (.tail _ (.head _))
  have ma0 := ma.cell 0
  have ma1 := ma.cell 1
  simp at ma0 ma1
  clear ma
  go_wp2_with fail
  refine (C2.out _).mono ?_
  rintro e w2 ⟨rfl, hq⟩
  have HE2 := Lib.hid (below_then HE1.out hq); have HK2 := Lib.hid (HK1.out.on hq)
  clear hq HE1 HK1 C2 ma0 ma1
  have ma := HK2.out _ (.tail _ (.head _))
  have ma0 := ma.cell 0
  simp at ma0
  clear ma
  have fa := HK2.out _ (.tail _ (.tail _ (.head _)))
  have fa1 := fa.cell 1
  simp at fa1
  clear fa
  go_wp2_with fail
  refine (CF.out _).mono ?_
  rintro e w3 ⟨rfl, hq⟩
  have HE3 := Lib.hid (below_then HE2.out hq); have HK3 := Lib.hid (HK2.out.on hq)
  clear hq HE2 HK2 CF ma0 fa1
  go_upto_region 9 with fail
  refine wp_region_lit ?_
  refine wpList_plain rfl (fun K hK => ?_)
  go_simp
  refine hK _ _ ?_
  clear hK K
  have HKR : Hid (Blk (w3.setRow (G + 1 + 1 + 1) #[.int .i64 0, .int .i64 0, .int .i64 0, .int .i64 0, .int .i64 0, .int .i64 0]) (G + 1 + 1 + 1) 47 #[.int .i64 0, .int .i64 0, .int .i64 0, .int .i64 0, .int .i64 0, .int .i64 0]) := Lib.hid (setRow_heap w3 (G + 1 + 1 + 1) _ _ 47 _ (HK3.out _ (.head _)))
  have HE9 := Lib.hid (below_setRow HE3.out (show w.heap.size ≤ G + 1 + 1 + 1 by have := HG.out; omega) #[.int .i64 0, .int .i64 0, .int .i64 0, .int .i64 0, .int .i64 0, .int .i64 0])
  refine wpList_store_row rfl 47 (.tmp 6) (.tmp 37) rfl (G + 1 + 1 + 1) #[.int .i64 0, .int .i64 0, .int .i64 0, .int .i64 0, .int .i64 0, .int .i64 0] rfl rfl 47 _ (HK3.out _ (.head _)) (by kernel_rfl) rfl (by kernel_rfl) ?_
  obtain ⟨W9, hW9⟩ : ∃ W9, w3.setRow (G + 1 + 1 + 1) #[.int .i64 0, .int .i64 0, .int .i64 0, .int .i64 0, .int .i64 0, .int .i64 0] = W9 := ⟨_, rfl⟩
  rw [hW9] at HKR HE9 ⊢
  clear hW9
  go_wp2
  exact bodyPost_ret (v := .tuple #[.agg #[.int .i64 0, .int .i64 0, .int .i64 0, .int .i64 0, .int .i64 0, .int .i64 0], .int .i64 22]) (results_cell_tmp_row Tryz.results24 _ _ (G + 1 + 1 + 1) 47 #[.int .i64 0, .int .i64 0, .int .i64 0, .int .i64 0, .int .i64 0, .int .i64 0] (0, 0) _ _ rfl rfl HKR.out Tryz.underlying47 rfl (by kernel_rfl)) rfl ⟨rfl, HE9.out⟩

set_option maxRecDepth 100000 in
set_option maxHeartbeats 4000000 in
theorem sDraw_m1 (vol mom hei : List P3) (id al ah t0 t1 u0 u1 v0 v1 h0 h1 : Int) (A B C : Option Addr) (n c mm d l ee : Nat) (fh x0 x1 d0 d1 a b p q r s X Y ua ub ue : Int) (R : FillD × Int) (w : World) (hi : HoldIn w ⟨id, al, ah, vol, mom, hei, t0, t1, u0, u1, v0, v1, h0, h1⟩ ⟨A, n, c, B, mm, d, C, l, ee⟩)
    (g1 : fillErr ⟨id, al, ah, vol, mom, hei, t0, t1, u0, u1, v0, v1, h0, h1⟩ ⟨fh, 1, x0, x1, d0, d1⟩ = 0) (g2 : errR a b = 0) (k2 : litresS a b d0 d1 = (r, s)) (g3 : ¬ a < 0) (hvv : volS ⟨id, al, ah, vol, mom, hei, t0, t1, u0, u1, v0, v1, h0, h1⟩ ⟨fh, 1, x0, x1, d0, d1⟩ = (p, q)) (k3 : IntKind.i64.wrap (p - s) = X) (k4 : IntKind.i64.wrap (q - r) = Y) (hU : ullS vol (max X 0) Y = (ua, ub, ue)) (hR : (if ue = 0 then (⟨id, 3, ua, ub, d0, d1⟩, 0) else (noFill, 24)) = R) :
    Calls Tryz.prog 24 #[.agg #[.int .i64 id, .int .i64 al, .int .i64 ah, .slice A n c, .slice B mm d, .slice C l ee, .int .i64 t0, .int .i64 t1, .int .i64 u0, .int .i64 u1, .int .i64 v0, .int .i64 v1, .int .i64 h0, .int .i64 h1], .agg #[.int .i64 fh, .int .i64 1, .int .i64 x0, .int .i64 x1, .int .i64 d0, .int .i64 d1], rv a b] w fun e w' => e = .returned (ft R) ∧ Below w.heap.size w w' := by
  have HE := Lib.hid (show Below w.heap.size w ((((w.alloc (.cells #[.int .i64 id, .int .i64 al, .int .i64 ah, .slice A n c, .slice B mm d, .slice C l ee, .int .i64 t0, .int .i64 t1, .int .i64 u0, .int .i64 u1, .int .i64 v0, .int .i64 v1, .int .i64 h0, .int .i64 h1] 45)).alloc (.cells #[.int .i64 fh, .int .i64 1, .int .i64 x0, .int .i64 x1, .int .i64 d0, .int .i64 d1] 47)).alloc (.cells #[.int .i64 a, .int .i64 b] 23)).alloc (.cells #[.int .i64 0, .int .i64 0, .int .i64 0, .int .i64 0, .int .i64 0, .int .i64 0] 47)) from below_a4 (Below.refl _ _))
  have HK := Lib.hid (boxes4' w 45 47 23 47 #[.int .i64 id, .int .i64 al, .int .i64 ah, .slice A n c, .slice B mm d, .slice C l ee, .int .i64 t0, .int .i64 t1, .int .i64 u0, .int .i64 u1, .int .i64 v0, .int .i64 v1, .int .i64 h0, .int .i64 h1] #[.int .i64 fh, .int .i64 1, .int .i64 x0, .int .i64 x1, .int .i64 d0, .int .i64 d1] #[.int .i64 a, .int .i64 b] #[.int .i64 0, .int .i64 0, .int .i64 0, .int .i64 0, .int .i64 0, .int .i64 0])
  obtain ⟨i1, i2, i3⟩ := hi
  dsimp only at i1 i2 i3
  have C1 : Hid (∀ W, Below w.heap.size w W → Calls Tryz.prog 69 #[.agg #[.int .i64 id, .int .i64 al, .int .i64 ah, .slice A n c, .slice B mm d, .slice C l ee, .int .i64 t0, .int .i64 t1, .int .i64 u0, .int .i64 u1, .int .i64 v0, .int .i64 v1, .int .i64 h0, .int .i64 h1], .agg #[.int .i64 fh, .int .i64 1, .int .i64 x0, .int .i64 x1, .int .i64 d0, .int .i64 d1]] W fun e w' => e = .returned (.int .i64 0) ∧ Below W.heap.size W w') := Lib.hid fun W hW => int_to (sCheckFill_any ⟨id, al, ah, vol, mom, hei, t0, t1, u0, u1, v0, v1, h0, h1⟩ ⟨A, n, c, B, mm, d, C, l, ee⟩ ⟨fh, 1, x0, x1, d0, d1⟩ W ⟨i1.below hW, i2.below hW, i3.below hW⟩) g1
  have C2 : Hid (∀ W, Calls Tryz.prog 44 #[rv a b] W fun e w' => e = .returned (.int .i64 0) ∧ Below W.heap.size W w') := Lib.hid fun W => int_to (rCheckRange_any a b W) g2
  have CF : Hid (∀ W, Calls Tryz.prog 71 #[.int .i64 1] W fun e w' => e = .returned (.bool true) ∧ Below W.heap.size W w') := Lib.hid fun W => sFilled_to 1 true W (by decide)
  have C4 : Hid (∀ W, Below w.heap.size w W → Calls Tryz.prog 72 #[.agg #[.int .i64 id, .int .i64 al, .int .i64 ah, .slice A n c, .slice B mm d, .slice C l ee, .int .i64 t0, .int .i64 t1, .int .i64 u0, .int .i64 u1, .int .i64 v0, .int .i64 v1, .int .i64 h0, .int .i64 h1], .agg #[.int .i64 fh, .int .i64 1, .int .i64 x0, .int .i64 x1, .int .i64 d0, .int .i64 d1]] W fun e w' => e = .returned (rv p q) ∧ Below W.heap.size W w') := Lib.hid fun W hW => by
    have := svol_to ⟨id, al, ah, vol, mom, hei, t0, t1, u0, u1, v0, v1, h0, h1⟩ ⟨A, n, c, B, mm, d, C, l, ee⟩ ⟨fh, 1, x0, x1, d0, d1⟩ W ⟨i1.below hW, i2.below hW, i3.below hW⟩ (by dsimp only; omega) (by dsimp only; omega)
    rw [hvv] at this; exact this
  have hv := (fill_zero g1).1
  have ht := hold_tab hv
  dsimp only at ht
  obtain ⟨fl1, fl2⟩ := hold_falls hv
  dsimp only at fl1 fl2
  have C5 : Hid (∀ W, Below w.heap.size w W → Calls Tryz.prog 46 #[tv A n c, rv (max X 0) Y, .bool true] W fun e w' => e = .returned (.tuple #[rv ua ub, .bool (decide (ue = 0))]) ∧ Below W.heap.size W w') := Lib.hid fun W hW => by
    have := sInverse_tab A n c vol (max X 0) Y true W (i1.below hW) ht (first_le_last ht) (turns_falls ht fl2 fl1)
    rw [show invS (besideS vol (max X 0) Y true) (besideS vol (max X 0) Y (!true)) (firstX vol) (lastX vol) = (ua, ub, ue) from hU] at this
    exact this
  have HS : Hid (ue = 0 ∨ ue = 24) := Lib.hid (by
    have q := invS_err24' (moreF vol Y) (lessF vol (max X 0)) (firstX vol) (lastX vol)
    unfold ullS at hU
    rw [hU] at q
    exact q)
  have C3 : Hid (∀ W, Calls Tryz.prog 45 #[rv a b, rv d0 d1] W fun e w' => e = .returned (rv r s) ∧ Below W.heap.size W w') := Lib.hid fun W => by
    have z1 : vR a b = true := by
      unfold errR at g2
      split at g2
      · assumption
      · omega
    have := slitres_any a b d0 d1 W (vR_small z1) (dens_in (fill_dens' g1 (by dsimp only; omega)))
    rw [k2] at this; exact this
  have HM : Hid (Y < 0 → ue = 24) := Lib.hid fun e => by
    have := ull_below hv (x := max X 0) e
    dsimp only at this
    rw [hU] at this
    injection this with t1 t2
    injection t2 with t2 t3
  have HR := Lib.hid hR
  clear hR hU hvv hv ht fl1 fl2 g1 g2 i1 i2 i3 k2
  go_enter Tryz.func24, Tryz.ntmps24
  go_wp2_with fail
  obtain ⟨W0, hW0⟩ : ∃ W0, ((((w.alloc (.cells #[.int .i64 id, .int .i64 al, .int .i64 ah, .slice A n c, .slice B mm d, .slice C l ee, .int .i64 t0, .int .i64 t1, .int .i64 u0, .int .i64 u1, .int .i64 v0, .int .i64 v1, .int .i64 h0, .int .i64 h1] 45)).alloc (.cells #[.int .i64 fh, .int .i64 1, .int .i64 x0, .int .i64 x1, .int .i64 d0, .int .i64 d1] 47)).alloc (.cells #[.int .i64 a, .int .i64 b] 23)).alloc (.cells #[.int .i64 0, .int .i64 0, .int .i64 0, .int .i64 0, .int .i64 0, .int .i64 0] 47)) = W0 := ⟨_, rfl⟩
  rw [hW0] at HE HK ⊢
  clear hW0
  obtain ⟨G, hG⟩ : ∃ G, w.heap.size = G := ⟨_, rfl⟩
  rw [hG] at HK ⊢
  have HG := Lib.hid hG; clear hG
  refine (C1.out _ HE.out).mono ?_
  rintro e w1 ⟨rfl, hq⟩
  have HE1 := Lib.hid (below_then HE.out hq); have HK1 := Lib.hid (HK.out.on hq)
  clear hq HE HK C1
  have ma := HK1.out _ (.tail _ (.head _))
  have ma0 := ma.cell 0
  have ma1 := ma.cell 1
  simp at ma0 ma1
  clear ma
  go_wp2_with fail
  refine (C2.out _).mono ?_
  rintro e w2 ⟨rfl, hq⟩
  have HE2 := Lib.hid (below_then HE1.out hq); have HK2 := Lib.hid (HK1.out.on hq)
  clear hq HE1 HK1 C2 ma0 ma1
  have ma := HK2.out _ (.tail _ (.head _))
  have ma0 := ma.cell 0
  simp at ma0
  clear ma
  have fa := HK2.out _ (.tail _ (.tail _ (.head _)))
  have fa1 := fa.cell 1
  simp at fa1
  clear fa
  go_wp2_with fail
  refine (CF.out _).mono ?_
  rintro e w6 ⟨rfl, hq⟩
  have HE6 := Lib.hid (below_then HE2.out hq); have HK6 := Lib.hid (HK2.out.on hq)
  clear hq HE2 HK2 CF ma0 fa1
  have ma := HK6.out _ (.tail _ (.head _))
  have ma0 := ma.cell 0
  have ma1 := ma.cell 1
  simp at ma0 ma1
  clear ma
  have fa := HK6.out _ (.tail _ (.tail _ (.head _)))
  have fa4 := fa.cell 4
  have fa5 := fa.cell 5
  simp at fa4 fa5
  clear fa
  go_wp2_with fail
  refine (C3.out _).mono ?_
  rintro e y3 ⟨rfl, hq⟩
  have HE3 := Lib.hid (below_then (below_then HE6.out hq) (below_alloc1 y3 (.cells #[.int .i64 r, .int .i64 s] 23))); have HK3 := Lib.hid ((HK6.out.on hq).new 23 #[.int .i64 r, .int .i64 s])
  have HD3 := Lib.hid (boxes_lt (HK6.out.on hq))
  have HZ3 := Lib.hid (below_then HE6.out hq).size
  clear hq HE6 HK6 ma0 ma1 fa4 fa5 C3
  go_upto_region 11 with fail
  obtain ⟨W3, hW⟩ : ∃ W', y3.alloc (.cells #[.int .i64 r, .int .i64 s] 23) = W' := ⟨_, rfl⟩
  rw [hW] at HE3 HK3 ⊢
  clear hW
  obtain ⟨N3, hN⟩ : ∃ N, y3.heap.size = N := ⟨_, rfl⟩
  rw [hN] at HK3 HD3 HZ3 ⊢
  clear hN
  have ha := HK3.out _ (.tail _ (.tail _ (.tail _ (.tail _ (.head _)))))
  have ha0 := ha.cell 0
  have ha1 := ha.cell 1
  have ha2 := ha.cell 2
  have ha3 := ha.cell 3
  have ha4 := ha.cell 4
  have ha5 := ha.cell 5
  have ha6 := ha.cell 6
  have ha7 := ha.cell 7
  have ha8 := ha.cell 8
  have ha9 := ha.cell 9
  have ha10 := ha.cell 10
  have ha11 := ha.cell 11
  have ha12 := ha.cell 12
  have ha13 := ha.cell 13
  simp at ha0 ha1 ha2 ha3 ha4 ha5 ha6 ha7 ha8 ha9 ha10 ha11 ha12 ha13
  clear ha
  have fa := HK3.out _ (.tail _ (.tail _ (.tail _ (.head _))))
  have fa0 := fa.cell 0
  have fa1 := fa.cell 1
  have fa2 := fa.cell 2
  have fa3 := fa.cell 3
  have fa4 := fa.cell 4
  have fa5 := fa.cell 5
  simp at fa0 fa1 fa2 fa3 fa4 fa5
  clear fa
  go_wp2_with fail
  refine (C4.out _ HE3.out).mono ?_
  rintro e y4 ⟨rfl, hq⟩
  have HE4 := Lib.hid (below_then (below_then HE3.out hq) (below_alloc1 y4 (.cells #[.int .i64 p, .int .i64 q] 23))); have HK4 := Lib.hid ((HK3.out.on hq).new 23 #[.int .i64 p, .int .i64 q])
  have HD4 := Lib.hid (boxes_lt (HK3.out.on hq))
  have HZ4 := Lib.hid (below_then HE3.out hq).size
  clear hq HE3 HK3 ha0 ha1 ha2 ha3 ha4 ha5 ha6 ha7 ha8 ha9 ha10 ha11 ha12 ha13 fa0 fa1 fa2 fa3 fa4 fa5 C4
  go_upto_region 12 with fail
  obtain ⟨W4, hW⟩ : ∃ W', y4.alloc (.cells #[.int .i64 p, .int .i64 q] 23) = W' := ⟨_, rfl⟩
  rw [hW] at HE4 HK4 ⊢
  clear hW
  obtain ⟨N4, hN⟩ : ∃ N, y4.heap.size = N := ⟨_, rfl⟩
  rw [hN] at HK4 HD4 HZ4 ⊢
  clear hN
  have pa := HK4.out _ (.head _)
  have pa0 := pa.cell 0
  have paf0 := pa.frozen 0
  have pa1 := pa.cell 1
  have paf1 := pa.frozen 1
  have pal := pa.lt
  simp at pa0 paf0 pa1 paf1
  clear pa
  have ra := HK4.out _ (.tail _ (.head _))
  have ra0 := ra.cell 0
  have ra1 := ra.cell 1
  simp at ra0 ra1
  clear ra
  have hmx : max 0 X = max X 0 := Int.max_comm _ _
  have n34 : N3 ≠ N4 := HD4.out (_, _, _) (.head _)
  go_upto_region 13 with fail
  have HK5 : Hid (Boxes ((W4.setCell ⟨N4, 0, none⟩ (.int .i64 (max X 0))).setCell ⟨N4, 1, none⟩ (.int .i64 Y)) ((N4, 23, #[.int .i64 (max X 0), .int .i64 Y]) :: [(N3, 23, #[.int .i64 r, .int .i64 s]), (G + 1 + 1 + 1, 47, #[.int .i64 0, .int .i64 0, .int .i64 0, .int .i64 0, .int .i64 0, .int .i64 0]), (G + 1 + 1, 23, #[.int .i64 a, .int .i64 b]), (G + 1, 47, #[.int .i64 fh, .int .i64 1, .int .i64 x0, .int .i64 x1, .int .i64 d0, .int .i64 d1]), (G, 45, #[.int .i64 id, .int .i64 al, .int .i64 ah, .slice A n c, .slice B mm d, .slice C l ee, .int .i64 t0, .int .i64 t1, .int .i64 u0, .int .i64 u1, .int .i64 v0, .int .i64 v1, .int .i64 h0, .int .i64 h1])])) := Lib.hid (Boxes.set2 HK4.out HD4.out _ _)
  have HE5 := Lib.hid ((HE4.out.setCell (p := ⟨N4, 0, none⟩) (show w.heap.size ≤ N4 from HZ4.out) (.int .i64 (max X 0))).setCell (p := ⟨N4, 1, none⟩) (show w.heap.size ≤ N4 from HZ4.out) (.int .i64 Y))
  obtain ⟨W5, hW⟩ : ∃ W', ((W4.setCell ⟨N4, 0, none⟩ (.int .i64 (max X 0))).setCell ⟨N4, 1, none⟩ (.int .i64 Y)) = W' := ⟨_, rfl⟩
  rw [hW] at HK5 HE5 ⊢
  clear hW HK4 HE4 pa0 pa1 paf0 paf1 pal ra0 ra1 k3 k4 hmx n34
  have pa := HK5.out _ (.head _)
  have pa1 := pa.cell 1
  simp at pa1
  clear pa
  by_cases hn : Y < 0
  · have eR : R = (noFill, 24) := by rw [← HR.out, if_neg (by rw [HM.out hn]; decide)]
    subst eR
    clear HR
    go_upto_region 14 with fail
    refine wp_region_lit ?_
    refine wpList_plain rfl (fun K hK => ?_)
    go_simp
    refine hK _ _ ?_
    clear hK K
    have HKR : Hid (Blk (W5.setRow (G + 1 + 1 + 1) #[.int .i64 0, .int .i64 0, .int .i64 0, .int .i64 0, .int .i64 0, .int .i64 0]) (G + 1 + 1 + 1) 47 #[.int .i64 0, .int .i64 0, .int .i64 0, .int .i64 0, .int .i64 0, .int .i64 0]) := Lib.hid (setRow_heap W5 (G + 1 + 1 + 1) _ _ 47 _ (HK5.out _ (.tail _ (.tail _ (.head _)))))
    have HE9 := Lib.hid (below_setRow HE5.out (show w.heap.size ≤ G + 1 + 1 + 1 by have := HG.out; omega) #[.int .i64 0, .int .i64 0, .int .i64 0, .int .i64 0, .int .i64 0, .int .i64 0])
    refine wpList_store_row rfl 47 (.tmp 6) (.tmp 60) rfl (G + 1 + 1 + 1) #[.int .i64 0, .int .i64 0, .int .i64 0, .int .i64 0, .int .i64 0, .int .i64 0] rfl rfl 47 _ (HK5.out _ (.tail _ (.tail _ (.head _)))) (by kernel_rfl) rfl (by kernel_rfl) ?_
    obtain ⟨W9, hW9⟩ : ∃ W9, W5.setRow (G + 1 + 1 + 1) #[.int .i64 0, .int .i64 0, .int .i64 0, .int .i64 0, .int .i64 0, .int .i64 0] = W9 := ⟨_, rfl⟩
    rw [hW9] at HKR HE9 ⊢
    clear hW9
    go_wp2
    exact bodyPost_ret (v := .tuple #[.agg #[.int .i64 0, .int .i64 0, .int .i64 0, .int .i64 0, .int .i64 0, .int .i64 0], .int .i64 24]) (results_cell_tmp_row Tryz.results24 _ _ (G + 1 + 1 + 1) 47 #[.int .i64 0, .int .i64 0, .int .i64 0, .int .i64 0, .int .i64 0, .int .i64 0] (0, 0) _ _ rfl rfl HKR.out Tryz.underlying47 rfl (by kernel_rfl)) rfl ⟨rfl, HE9.out⟩
  have hn' : 0 ≤ Y := by omega
  go_upto_region 15 with fail
  clear pa1 hn hn'
  have ha := HK5.out _ (.tail _ (.tail _ (.tail _ (.tail _ (.tail _ (.head _))))))
  have ha3 := ha.cell 3
  simp at ha3
  clear ha
  have pa := HK5.out _ (.head _)
  have pa0 := pa.cell 0
  have pa1 := pa.cell 1
  simp at pa0 pa1
  clear pa
  go_wp2_with fail
  refine (C5.out _ HE5.out).mono ?_
  rintro e y7 ⟨rfl, hq⟩
  have HE7 := Lib.hid (below_then (below_then HE5.out hq) (below_alloc1 y7 (.cells #[.int .i64 ua, .int .i64 ub] 23))); have HK7 := Lib.hid ((HK5.out.on hq).new 23 #[.int .i64 ua, .int .i64 ub])
  have HD7 := Lib.hid (boxes_lt (HK5.out.on hq))
  have HZ7 := Lib.hid (below_then HE5.out hq).size
  clear hq HE5 HK5 ha3 pa0 pa1 C5
  obtain ⟨bt, hbt⟩ : ∃ t, decide (ue = 0) = t := ⟨_, rfl⟩
  rw [hbt]
  go_upto_region 16 with fail
  obtain ⟨W7, hW⟩ : ∃ W', y7.alloc (.cells #[.int .i64 ua, .int .i64 ub] 23) = W' := ⟨_, rfl⟩
  rw [hW] at HE7 HK7 ⊢
  clear hW
  obtain ⟨N7, hN⟩ : ∃ N, y7.heap.size = N := ⟨_, rfl⟩
  rw [hN] at HK7 HD7 HZ7 ⊢
  clear hN
  rcases HS.out with rfl | rfl
  rotate_left
  · skip
    have eR : R = (noFill, 24) := by rw [← HR.out, if_neg (by decide)]
    subst eR
    clear HR
    obtain rfl : bt = false := by rw [← hbt]; rfl
    go_upto_region 17 with fail
    refine wp_region_lit ?_
    refine wpList_plain rfl (fun K hK => ?_)
    go_simp
    refine hK _ _ ?_
    clear hK K
    have HKR : Hid (Blk (W7.setRow (G + 1 + 1 + 1) #[.int .i64 0, .int .i64 0, .int .i64 0, .int .i64 0, .int .i64 0, .int .i64 0]) (G + 1 + 1 + 1) 47 #[.int .i64 0, .int .i64 0, .int .i64 0, .int .i64 0, .int .i64 0, .int .i64 0]) := Lib.hid (setRow_heap W7 (G + 1 + 1 + 1) _ _ 47 _ (HK7.out _ (.tail _ (.tail _ (.tail _ (.head _))))))
    have HE9 := Lib.hid (below_setRow HE7.out (show w.heap.size ≤ G + 1 + 1 + 1 by have := HG.out; omega) #[.int .i64 0, .int .i64 0, .int .i64 0, .int .i64 0, .int .i64 0, .int .i64 0])
    refine wpList_store_row rfl 47 (.tmp 6) (.tmp 70) rfl (G + 1 + 1 + 1) #[.int .i64 0, .int .i64 0, .int .i64 0, .int .i64 0, .int .i64 0, .int .i64 0] rfl rfl 47 _ (HK7.out _ (.tail _ (.tail _ (.tail _ (.head _))))) (by kernel_rfl) rfl (by kernel_rfl) ?_
    obtain ⟨W9, hW9⟩ : ∃ W9, W7.setRow (G + 1 + 1 + 1) #[.int .i64 0, .int .i64 0, .int .i64 0, .int .i64 0, .int .i64 0, .int .i64 0] = W9 := ⟨_, rfl⟩
    rw [hW9] at HKR HE9 ⊢
    clear hW9
    go_wp2
    exact bodyPost_ret (v := .tuple #[.agg #[.int .i64 0, .int .i64 0, .int .i64 0, .int .i64 0, .int .i64 0, .int .i64 0], .int .i64 24]) (results_cell_tmp_row Tryz.results24 _ _ (G + 1 + 1 + 1) 47 #[.int .i64 0, .int .i64 0, .int .i64 0, .int .i64 0, .int .i64 0, .int .i64 0] (0, 0) _ _ rfl rfl HKR.out Tryz.underlying47 rfl (by kernel_rfl)) rfl ⟨rfl, HE9.out⟩
  obtain rfl : bt = true := by rw [← hbt]; rfl
  clear hbt
  have hR := HR.out
  rw [if_pos rfl] at hR
  have HR2 := Lib.hid hR
  clear hR HR
  have fa := HK7.out _ (.tail _ (.tail _ (.tail _ (.tail _ (.tail _ (.head _))))))
  have fa1 := fa.cell 1
  simp at fa1
  clear fa
  have eR := HR2.out
  subst eR
  clear HR2
  have ha := HK7.out _ (.tail _ (.tail _ (.tail _ (.tail _ (.tail _ (.tail _ (.head _)))))))
  have ha0 := ha.cell 0
  simp at ha0
  clear ha
  have ua := HK7.out _ (.head _)
  have ua0 := ua.cell 0
  have ua1 := ua.cell 1
  simp at ua0 ua1
  clear ua
  have fb := HK7.out _ (.tail _ (.tail _ (.tail _ (.tail _ (.tail _ (.head _))))))
  have fb4 := fb.cell 4
  have fb5 := fb.cell 5
  simp at fb4 fb5
  clear fb
  go_upto_region 22 with fail
  refine wp_region_lit ?_
  refine wpList_plain rfl (fun K hK => ?_)
  go_simp
  refine hK _ _ ?_
  clear hK K
  refine wpList_plain rfl (fun K hK => ?_)
  go_simp
  refine hK _ _ ?_
  clear hK K
  refine wpList_plain rfl (fun K hK => ?_)
  go_simp
  refine hK _ _ ?_
  clear hK K
  refine wpList_plain rfl (fun K hK => ?_)
  go_simp
  refine hK _ _ ?_
  clear hK K
  refine wpList_plain rfl (fun K hK => ?_)
  go_simp
  refine hK _ _ ?_
  clear hK K
  refine wpList_plain rfl (fun K hK => ?_)
  go_simp
  refine hK _ _ ?_
  clear hK K
  have HKR : Hid (Blk (W7.setRow (G + 1 + 1 + 1) #[.int .i64 id, .int .i64 3, .int .i64 ua, .int .i64 ub, .int .i64 d0, .int .i64 d1]) (G + 1 + 1 + 1) 47 #[.int .i64 id, .int .i64 3, .int .i64 ua, .int .i64 ub, .int .i64 d0, .int .i64 d1]) := Lib.hid (setRow_heap W7 (G + 1 + 1 + 1) _ _ 47 _ (HK7.out _ (.tail _ (.tail _ (.tail _ (.head _))))))
  have HE9 := Lib.hid (below_setRow HE7.out (show w.heap.size ≤ G + 1 + 1 + 1 by have := HG.out; omega) #[.int .i64 id, .int .i64 3, .int .i64 ua, .int .i64 ub, .int .i64 d0, .int .i64 d1])
  refine wpList_store_row rfl 47 (.tmp 6) (.tmp 93) rfl (G + 1 + 1 + 1) #[.int .i64 id, .int .i64 3, .int .i64 ua, .int .i64 ub, .int .i64 d0, .int .i64 d1] rfl rfl 47 _ (HK7.out _ (.tail _ (.tail _ (.tail _ (.head _))))) (by kernel_rfl) rfl (by kernel_rfl) ?_
  obtain ⟨W9, hW9⟩ : ∃ W9, W7.setRow (G + 1 + 1 + 1) #[.int .i64 id, .int .i64 3, .int .i64 ua, .int .i64 ub, .int .i64 d0, .int .i64 d1] = W9 := ⟨_, rfl⟩
  rw [hW9] at HKR HE9 ⊢
  clear hW9
  go_wp2
  exact bodyPost_ret (v := .tuple #[.agg #[.int .i64 id, .int .i64 3, .int .i64 ua, .int .i64 ub, .int .i64 d0, .int .i64 d1], .int .i64 0]) (results_cell_tmp_row Tryz.results24 _ _ (G + 1 + 1 + 1) 47 #[.int .i64 id, .int .i64 3, .int .i64 ua, .int .i64 ub, .int .i64 d0, .int .i64 d1] (0, 0) _ _ rfl rfl HKR.out Tryz.underlying47 rfl (by kernel_rfl)) rfl ⟨rfl, HE9.out⟩

set_option maxRecDepth 100000 in
set_option maxHeartbeats 4000000 in
theorem sDraw_m2 (vol mom hei : List P3) (id al ah t0 t1 u0 u1 v0 v1 h0 h1 : Int) (A B C : Option Addr) (n c mm d l ee : Nat) (fh x0 x1 d0 d1 a b p q r s X Y ua ub ue : Int) (R : FillD × Int) (w : World) (hi : HoldIn w ⟨id, al, ah, vol, mom, hei, t0, t1, u0, u1, v0, v1, h0, h1⟩ ⟨A, n, c, B, mm, d, C, l, ee⟩)
    (g1 : fillErr ⟨id, al, ah, vol, mom, hei, t0, t1, u0, u1, v0, v1, h0, h1⟩ ⟨fh, 2, x0, x1, d0, d1⟩ = 0) (g2 : errR a b = 0) (k2 : litresS a b d0 d1 = (r, s)) (g3 : ¬ a < 0) (hvv : volS ⟨id, al, ah, vol, mom, hei, t0, t1, u0, u1, v0, v1, h0, h1⟩ ⟨fh, 2, x0, x1, d0, d1⟩ = (p, q)) (k3 : IntKind.i64.wrap (p - s) = X) (k4 : IntKind.i64.wrap (q - r) = Y) (hU : ullS vol (max X 0) Y = (ua, ub, ue)) (hR : (if ue = 0 then (⟨id, 3, ua, ub, d0, d1⟩, 0) else (noFill, 24)) = R) :
    Calls Tryz.prog 24 #[.agg #[.int .i64 id, .int .i64 al, .int .i64 ah, .slice A n c, .slice B mm d, .slice C l ee, .int .i64 t0, .int .i64 t1, .int .i64 u0, .int .i64 u1, .int .i64 v0, .int .i64 v1, .int .i64 h0, .int .i64 h1], .agg #[.int .i64 fh, .int .i64 2, .int .i64 x0, .int .i64 x1, .int .i64 d0, .int .i64 d1], rv a b] w fun e w' => e = .returned (ft R) ∧ Below w.heap.size w w' := by
  have HE := Lib.hid (show Below w.heap.size w ((((w.alloc (.cells #[.int .i64 id, .int .i64 al, .int .i64 ah, .slice A n c, .slice B mm d, .slice C l ee, .int .i64 t0, .int .i64 t1, .int .i64 u0, .int .i64 u1, .int .i64 v0, .int .i64 v1, .int .i64 h0, .int .i64 h1] 45)).alloc (.cells #[.int .i64 fh, .int .i64 2, .int .i64 x0, .int .i64 x1, .int .i64 d0, .int .i64 d1] 47)).alloc (.cells #[.int .i64 a, .int .i64 b] 23)).alloc (.cells #[.int .i64 0, .int .i64 0, .int .i64 0, .int .i64 0, .int .i64 0, .int .i64 0] 47)) from below_a4 (Below.refl _ _))
  have HK := Lib.hid (boxes4' w 45 47 23 47 #[.int .i64 id, .int .i64 al, .int .i64 ah, .slice A n c, .slice B mm d, .slice C l ee, .int .i64 t0, .int .i64 t1, .int .i64 u0, .int .i64 u1, .int .i64 v0, .int .i64 v1, .int .i64 h0, .int .i64 h1] #[.int .i64 fh, .int .i64 2, .int .i64 x0, .int .i64 x1, .int .i64 d0, .int .i64 d1] #[.int .i64 a, .int .i64 b] #[.int .i64 0, .int .i64 0, .int .i64 0, .int .i64 0, .int .i64 0, .int .i64 0])
  obtain ⟨i1, i2, i3⟩ := hi
  dsimp only at i1 i2 i3
  have C1 : Hid (∀ W, Below w.heap.size w W → Calls Tryz.prog 69 #[.agg #[.int .i64 id, .int .i64 al, .int .i64 ah, .slice A n c, .slice B mm d, .slice C l ee, .int .i64 t0, .int .i64 t1, .int .i64 u0, .int .i64 u1, .int .i64 v0, .int .i64 v1, .int .i64 h0, .int .i64 h1], .agg #[.int .i64 fh, .int .i64 2, .int .i64 x0, .int .i64 x1, .int .i64 d0, .int .i64 d1]] W fun e w' => e = .returned (.int .i64 0) ∧ Below W.heap.size W w') := Lib.hid fun W hW => int_to (sCheckFill_any ⟨id, al, ah, vol, mom, hei, t0, t1, u0, u1, v0, v1, h0, h1⟩ ⟨A, n, c, B, mm, d, C, l, ee⟩ ⟨fh, 2, x0, x1, d0, d1⟩ W ⟨i1.below hW, i2.below hW, i3.below hW⟩) g1
  have C2 : Hid (∀ W, Calls Tryz.prog 44 #[rv a b] W fun e w' => e = .returned (.int .i64 0) ∧ Below W.heap.size W w') := Lib.hid fun W => int_to (rCheckRange_any a b W) g2
  have CF : Hid (∀ W, Calls Tryz.prog 71 #[.int .i64 2] W fun e w' => e = .returned (.bool true) ∧ Below W.heap.size W w') := Lib.hid fun W => sFilled_to 2 true W (by decide)
  have C4 : Hid (∀ W, Below w.heap.size w W → Calls Tryz.prog 72 #[.agg #[.int .i64 id, .int .i64 al, .int .i64 ah, .slice A n c, .slice B mm d, .slice C l ee, .int .i64 t0, .int .i64 t1, .int .i64 u0, .int .i64 u1, .int .i64 v0, .int .i64 v1, .int .i64 h0, .int .i64 h1], .agg #[.int .i64 fh, .int .i64 2, .int .i64 x0, .int .i64 x1, .int .i64 d0, .int .i64 d1]] W fun e w' => e = .returned (rv p q) ∧ Below W.heap.size W w') := Lib.hid fun W hW => by
    have := svol_to ⟨id, al, ah, vol, mom, hei, t0, t1, u0, u1, v0, v1, h0, h1⟩ ⟨A, n, c, B, mm, d, C, l, ee⟩ ⟨fh, 2, x0, x1, d0, d1⟩ W ⟨i1.below hW, i2.below hW, i3.below hW⟩ (by dsimp only; omega) (by dsimp only; omega)
    rw [hvv] at this; exact this
  have hv := (fill_zero g1).1
  have ht := hold_tab hv
  dsimp only at ht
  obtain ⟨fl1, fl2⟩ := hold_falls hv
  dsimp only at fl1 fl2
  have C5 : Hid (∀ W, Below w.heap.size w W → Calls Tryz.prog 46 #[tv A n c, rv (max X 0) Y, .bool true] W fun e w' => e = .returned (.tuple #[rv ua ub, .bool (decide (ue = 0))]) ∧ Below W.heap.size W w') := Lib.hid fun W hW => by
    have := sInverse_tab A n c vol (max X 0) Y true W (i1.below hW) ht (first_le_last ht) (turns_falls ht fl2 fl1)
    rw [show invS (besideS vol (max X 0) Y true) (besideS vol (max X 0) Y (!true)) (firstX vol) (lastX vol) = (ua, ub, ue) from hU] at this
    exact this
  have HS : Hid (ue = 0 ∨ ue = 24) := Lib.hid (by
    have q := invS_err24' (moreF vol Y) (lessF vol (max X 0)) (firstX vol) (lastX vol)
    unfold ullS at hU
    rw [hU] at q
    exact q)
  have C3 : Hid (∀ W, Calls Tryz.prog 45 #[rv a b, rv d0 d1] W fun e w' => e = .returned (rv r s) ∧ Below W.heap.size W w') := Lib.hid fun W => by
    have z1 : vR a b = true := by
      unfold errR at g2
      split at g2
      · assumption
      · omega
    have := slitres_any a b d0 d1 W (vR_small z1) (dens_in (fill_dens' g1 (by dsimp only; omega)))
    rw [k2] at this; exact this
  have HM : Hid (Y < 0 → ue = 24) := Lib.hid fun e => by
    have := ull_below hv (x := max X 0) e
    dsimp only at this
    rw [hU] at this
    injection this with t1 t2
    injection t2 with t2 t3
  have HR := Lib.hid hR
  clear hR hU hvv hv ht fl1 fl2 g1 g2 i1 i2 i3 k2
  go_enter Tryz.func24, Tryz.ntmps24
  go_wp2_with fail
  obtain ⟨W0, hW0⟩ : ∃ W0, ((((w.alloc (.cells #[.int .i64 id, .int .i64 al, .int .i64 ah, .slice A n c, .slice B mm d, .slice C l ee, .int .i64 t0, .int .i64 t1, .int .i64 u0, .int .i64 u1, .int .i64 v0, .int .i64 v1, .int .i64 h0, .int .i64 h1] 45)).alloc (.cells #[.int .i64 fh, .int .i64 2, .int .i64 x0, .int .i64 x1, .int .i64 d0, .int .i64 d1] 47)).alloc (.cells #[.int .i64 a, .int .i64 b] 23)).alloc (.cells #[.int .i64 0, .int .i64 0, .int .i64 0, .int .i64 0, .int .i64 0, .int .i64 0] 47)) = W0 := ⟨_, rfl⟩
  rw [hW0] at HE HK ⊢
  clear hW0
  obtain ⟨G, hG⟩ : ∃ G, w.heap.size = G := ⟨_, rfl⟩
  rw [hG] at HK ⊢
  have HG := Lib.hid hG; clear hG
  refine (C1.out _ HE.out).mono ?_
  rintro e w1 ⟨rfl, hq⟩
  have HE1 := Lib.hid (below_then HE.out hq); have HK1 := Lib.hid (HK.out.on hq)
  clear hq HE HK C1
  have ma := HK1.out _ (.tail _ (.head _))
  have ma0 := ma.cell 0
  have ma1 := ma.cell 1
  simp at ma0 ma1
  clear ma
  go_wp2_with fail
  refine (C2.out _).mono ?_
  rintro e w2 ⟨rfl, hq⟩
  have HE2 := Lib.hid (below_then HE1.out hq); have HK2 := Lib.hid (HK1.out.on hq)
  clear hq HE1 HK1 C2 ma0 ma1
  have ma := HK2.out _ (.tail _ (.head _))
  have ma0 := ma.cell 0
  simp at ma0
  clear ma
  have fa := HK2.out _ (.tail _ (.tail _ (.head _)))
  have fa1 := fa.cell 1
  simp at fa1
  clear fa
  go_wp2_with fail
  refine (CF.out _).mono ?_
  rintro e w6 ⟨rfl, hq⟩
  have HE6 := Lib.hid (below_then HE2.out hq); have HK6 := Lib.hid (HK2.out.on hq)
  clear hq HE2 HK2 CF ma0 fa1
  have ma := HK6.out _ (.tail _ (.head _))
  have ma0 := ma.cell 0
  have ma1 := ma.cell 1
  simp at ma0 ma1
  clear ma
  have fa := HK6.out _ (.tail _ (.tail _ (.head _)))
  have fa4 := fa.cell 4
  have fa5 := fa.cell 5
  simp at fa4 fa5
  clear fa
  go_wp2_with fail
  refine (C3.out _).mono ?_
  rintro e y3 ⟨rfl, hq⟩
  have HE3 := Lib.hid (below_then (below_then HE6.out hq) (below_alloc1 y3 (.cells #[.int .i64 r, .int .i64 s] 23))); have HK3 := Lib.hid ((HK6.out.on hq).new 23 #[.int .i64 r, .int .i64 s])
  have HD3 := Lib.hid (boxes_lt (HK6.out.on hq))
  have HZ3 := Lib.hid (below_then HE6.out hq).size
  clear hq HE6 HK6 ma0 ma1 fa4 fa5 C3
  go_upto_region 11 with fail
  obtain ⟨W3, hW⟩ : ∃ W', y3.alloc (.cells #[.int .i64 r, .int .i64 s] 23) = W' := ⟨_, rfl⟩
  rw [hW] at HE3 HK3 ⊢
  clear hW
  obtain ⟨N3, hN⟩ : ∃ N, y3.heap.size = N := ⟨_, rfl⟩
  rw [hN] at HK3 HD3 HZ3 ⊢
  clear hN
  have ha := HK3.out _ (.tail _ (.tail _ (.tail _ (.tail _ (.head _)))))
  have ha0 := ha.cell 0
  have ha1 := ha.cell 1
  have ha2 := ha.cell 2
  have ha3 := ha.cell 3
  have ha4 := ha.cell 4
  have ha5 := ha.cell 5
  have ha6 := ha.cell 6
  have ha7 := ha.cell 7
  have ha8 := ha.cell 8
  have ha9 := ha.cell 9
  have ha10 := ha.cell 10
  have ha11 := ha.cell 11
  have ha12 := ha.cell 12
  have ha13 := ha.cell 13
  simp at ha0 ha1 ha2 ha3 ha4 ha5 ha6 ha7 ha8 ha9 ha10 ha11 ha12 ha13
  clear ha
  have fa := HK3.out _ (.tail _ (.tail _ (.tail _ (.head _))))
  have fa0 := fa.cell 0
  have fa1 := fa.cell 1
  have fa2 := fa.cell 2
  have fa3 := fa.cell 3
  have fa4 := fa.cell 4
  have fa5 := fa.cell 5
  simp at fa0 fa1 fa2 fa3 fa4 fa5
  clear fa
  go_wp2_with fail
  refine (C4.out _ HE3.out).mono ?_
  rintro e y4 ⟨rfl, hq⟩
  have HE4 := Lib.hid (below_then (below_then HE3.out hq) (below_alloc1 y4 (.cells #[.int .i64 p, .int .i64 q] 23))); have HK4 := Lib.hid ((HK3.out.on hq).new 23 #[.int .i64 p, .int .i64 q])
  have HD4 := Lib.hid (boxes_lt (HK3.out.on hq))
  have HZ4 := Lib.hid (below_then HE3.out hq).size
  clear hq HE3 HK3 ha0 ha1 ha2 ha3 ha4 ha5 ha6 ha7 ha8 ha9 ha10 ha11 ha12 ha13 fa0 fa1 fa2 fa3 fa4 fa5 C4
  go_upto_region 12 with fail
  obtain ⟨W4, hW⟩ : ∃ W', y4.alloc (.cells #[.int .i64 p, .int .i64 q] 23) = W' := ⟨_, rfl⟩
  rw [hW] at HE4 HK4 ⊢
  clear hW
  obtain ⟨N4, hN⟩ : ∃ N, y4.heap.size = N := ⟨_, rfl⟩
  rw [hN] at HK4 HD4 HZ4 ⊢
  clear hN
  have pa := HK4.out _ (.head _)
  have pa0 := pa.cell 0
  have paf0 := pa.frozen 0
  have pa1 := pa.cell 1
  have paf1 := pa.frozen 1
  have pal := pa.lt
  simp at pa0 paf0 pa1 paf1
  clear pa
  have ra := HK4.out _ (.tail _ (.head _))
  have ra0 := ra.cell 0
  have ra1 := ra.cell 1
  simp at ra0 ra1
  clear ra
  have hmx : max 0 X = max X 0 := Int.max_comm _ _
  have n34 : N3 ≠ N4 := HD4.out (_, _, _) (.head _)
  go_upto_region 13 with fail
  have HK5 : Hid (Boxes ((W4.setCell ⟨N4, 0, none⟩ (.int .i64 (max X 0))).setCell ⟨N4, 1, none⟩ (.int .i64 Y)) ((N4, 23, #[.int .i64 (max X 0), .int .i64 Y]) :: [(N3, 23, #[.int .i64 r, .int .i64 s]), (G + 1 + 1 + 1, 47, #[.int .i64 0, .int .i64 0, .int .i64 0, .int .i64 0, .int .i64 0, .int .i64 0]), (G + 1 + 1, 23, #[.int .i64 a, .int .i64 b]), (G + 1, 47, #[.int .i64 fh, .int .i64 2, .int .i64 x0, .int .i64 x1, .int .i64 d0, .int .i64 d1]), (G, 45, #[.int .i64 id, .int .i64 al, .int .i64 ah, .slice A n c, .slice B mm d, .slice C l ee, .int .i64 t0, .int .i64 t1, .int .i64 u0, .int .i64 u1, .int .i64 v0, .int .i64 v1, .int .i64 h0, .int .i64 h1])])) := Lib.hid (Boxes.set2 HK4.out HD4.out _ _)
  have HE5 := Lib.hid ((HE4.out.setCell (p := ⟨N4, 0, none⟩) (show w.heap.size ≤ N4 from HZ4.out) (.int .i64 (max X 0))).setCell (p := ⟨N4, 1, none⟩) (show w.heap.size ≤ N4 from HZ4.out) (.int .i64 Y))
  obtain ⟨W5, hW⟩ : ∃ W', ((W4.setCell ⟨N4, 0, none⟩ (.int .i64 (max X 0))).setCell ⟨N4, 1, none⟩ (.int .i64 Y)) = W' := ⟨_, rfl⟩
  rw [hW] at HK5 HE5 ⊢
  clear hW HK4 HE4 pa0 pa1 paf0 paf1 pal ra0 ra1 k3 k4 hmx n34
  have pa := HK5.out _ (.head _)
  have pa1 := pa.cell 1
  simp at pa1
  clear pa
  by_cases hn : Y < 0
  · have eR : R = (noFill, 24) := by rw [← HR.out, if_neg (by rw [HM.out hn]; decide)]
    subst eR
    clear HR
    go_upto_region 14 with fail
    refine wp_region_lit ?_
    refine wpList_plain rfl (fun K hK => ?_)
    go_simp
    refine hK _ _ ?_
    clear hK K
    have HKR : Hid (Blk (W5.setRow (G + 1 + 1 + 1) #[.int .i64 0, .int .i64 0, .int .i64 0, .int .i64 0, .int .i64 0, .int .i64 0]) (G + 1 + 1 + 1) 47 #[.int .i64 0, .int .i64 0, .int .i64 0, .int .i64 0, .int .i64 0, .int .i64 0]) := Lib.hid (setRow_heap W5 (G + 1 + 1 + 1) _ _ 47 _ (HK5.out _ (.tail _ (.tail _ (.head _)))))
    have HE9 := Lib.hid (below_setRow HE5.out (show w.heap.size ≤ G + 1 + 1 + 1 by have := HG.out; omega) #[.int .i64 0, .int .i64 0, .int .i64 0, .int .i64 0, .int .i64 0, .int .i64 0])
    refine wpList_store_row rfl 47 (.tmp 6) (.tmp 60) rfl (G + 1 + 1 + 1) #[.int .i64 0, .int .i64 0, .int .i64 0, .int .i64 0, .int .i64 0, .int .i64 0] rfl rfl 47 _ (HK5.out _ (.tail _ (.tail _ (.head _)))) (by kernel_rfl) rfl (by kernel_rfl) ?_
    obtain ⟨W9, hW9⟩ : ∃ W9, W5.setRow (G + 1 + 1 + 1) #[.int .i64 0, .int .i64 0, .int .i64 0, .int .i64 0, .int .i64 0, .int .i64 0] = W9 := ⟨_, rfl⟩
    rw [hW9] at HKR HE9 ⊢
    clear hW9
    go_wp2
    exact bodyPost_ret (v := .tuple #[.agg #[.int .i64 0, .int .i64 0, .int .i64 0, .int .i64 0, .int .i64 0, .int .i64 0], .int .i64 24]) (results_cell_tmp_row Tryz.results24 _ _ (G + 1 + 1 + 1) 47 #[.int .i64 0, .int .i64 0, .int .i64 0, .int .i64 0, .int .i64 0, .int .i64 0] (0, 0) _ _ rfl rfl HKR.out Tryz.underlying47 rfl (by kernel_rfl)) rfl ⟨rfl, HE9.out⟩
  have hn' : 0 ≤ Y := by omega
  go_upto_region 15 with fail
  clear pa1 hn hn'
  have ha := HK5.out _ (.tail _ (.tail _ (.tail _ (.tail _ (.tail _ (.head _))))))
  have ha3 := ha.cell 3
  simp at ha3
  clear ha
  have pa := HK5.out _ (.head _)
  have pa0 := pa.cell 0
  have pa1 := pa.cell 1
  simp at pa0 pa1
  clear pa
  go_wp2_with fail
  refine (C5.out _ HE5.out).mono ?_
  rintro e y7 ⟨rfl, hq⟩
  have HE7 := Lib.hid (below_then (below_then HE5.out hq) (below_alloc1 y7 (.cells #[.int .i64 ua, .int .i64 ub] 23))); have HK7 := Lib.hid ((HK5.out.on hq).new 23 #[.int .i64 ua, .int .i64 ub])
  have HD7 := Lib.hid (boxes_lt (HK5.out.on hq))
  have HZ7 := Lib.hid (below_then HE5.out hq).size
  clear hq HE5 HK5 ha3 pa0 pa1 C5
  obtain ⟨bt, hbt⟩ : ∃ t, decide (ue = 0) = t := ⟨_, rfl⟩
  rw [hbt]
  go_upto_region 16 with fail
  obtain ⟨W7, hW⟩ : ∃ W', y7.alloc (.cells #[.int .i64 ua, .int .i64 ub] 23) = W' := ⟨_, rfl⟩
  rw [hW] at HE7 HK7 ⊢
  clear hW
  obtain ⟨N7, hN⟩ : ∃ N, y7.heap.size = N := ⟨_, rfl⟩
  rw [hN] at HK7 HD7 HZ7 ⊢
  clear hN
  rcases HS.out with rfl | rfl
  rotate_left
  · skip
    have eR : R = (noFill, 24) := by rw [← HR.out, if_neg (by decide)]
    subst eR
    clear HR
    obtain rfl : bt = false := by rw [← hbt]; rfl
    go_upto_region 17 with fail
    refine wp_region_lit ?_
    refine wpList_plain rfl (fun K hK => ?_)
    go_simp
    refine hK _ _ ?_
    clear hK K
    have HKR : Hid (Blk (W7.setRow (G + 1 + 1 + 1) #[.int .i64 0, .int .i64 0, .int .i64 0, .int .i64 0, .int .i64 0, .int .i64 0]) (G + 1 + 1 + 1) 47 #[.int .i64 0, .int .i64 0, .int .i64 0, .int .i64 0, .int .i64 0, .int .i64 0]) := Lib.hid (setRow_heap W7 (G + 1 + 1 + 1) _ _ 47 _ (HK7.out _ (.tail _ (.tail _ (.tail _ (.head _))))))
    have HE9 := Lib.hid (below_setRow HE7.out (show w.heap.size ≤ G + 1 + 1 + 1 by have := HG.out; omega) #[.int .i64 0, .int .i64 0, .int .i64 0, .int .i64 0, .int .i64 0, .int .i64 0])
    refine wpList_store_row rfl 47 (.tmp 6) (.tmp 70) rfl (G + 1 + 1 + 1) #[.int .i64 0, .int .i64 0, .int .i64 0, .int .i64 0, .int .i64 0, .int .i64 0] rfl rfl 47 _ (HK7.out _ (.tail _ (.tail _ (.tail _ (.head _))))) (by kernel_rfl) rfl (by kernel_rfl) ?_
    obtain ⟨W9, hW9⟩ : ∃ W9, W7.setRow (G + 1 + 1 + 1) #[.int .i64 0, .int .i64 0, .int .i64 0, .int .i64 0, .int .i64 0, .int .i64 0] = W9 := ⟨_, rfl⟩
    rw [hW9] at HKR HE9 ⊢
    clear hW9
    go_wp2
    exact bodyPost_ret (v := .tuple #[.agg #[.int .i64 0, .int .i64 0, .int .i64 0, .int .i64 0, .int .i64 0, .int .i64 0], .int .i64 24]) (results_cell_tmp_row Tryz.results24 _ _ (G + 1 + 1 + 1) 47 #[.int .i64 0, .int .i64 0, .int .i64 0, .int .i64 0, .int .i64 0, .int .i64 0] (0, 0) _ _ rfl rfl HKR.out Tryz.underlying47 rfl (by kernel_rfl)) rfl ⟨rfl, HE9.out⟩
  obtain rfl : bt = true := by rw [← hbt]; rfl
  clear hbt
  have hR := HR.out
  rw [if_pos rfl] at hR
  have HR2 := Lib.hid hR
  clear hR HR
  have fa := HK7.out _ (.tail _ (.tail _ (.tail _ (.tail _ (.tail _ (.head _))))))
  have fa1 := fa.cell 1
  simp at fa1
  clear fa
  have eR := HR2.out
  subst eR
  clear HR2
  have ha := HK7.out _ (.tail _ (.tail _ (.tail _ (.tail _ (.tail _ (.tail _ (.head _)))))))
  have ha0 := ha.cell 0
  simp at ha0
  clear ha
  have ua := HK7.out _ (.head _)
  have ua0 := ua.cell 0
  have ua1 := ua.cell 1
  simp at ua0 ua1
  clear ua
  have fb := HK7.out _ (.tail _ (.tail _ (.tail _ (.tail _ (.tail _ (.head _))))))
  have fb4 := fb.cell 4
  have fb5 := fb.cell 5
  simp at fb4 fb5
  clear fb
  go_upto_region 22 with fail
  refine wp_region_lit ?_
  refine wpList_plain rfl (fun K hK => ?_)
  go_simp
  refine hK _ _ ?_
  clear hK K
  refine wpList_plain rfl (fun K hK => ?_)
  go_simp
  refine hK _ _ ?_
  clear hK K
  refine wpList_plain rfl (fun K hK => ?_)
  go_simp
  refine hK _ _ ?_
  clear hK K
  refine wpList_plain rfl (fun K hK => ?_)
  go_simp
  refine hK _ _ ?_
  clear hK K
  refine wpList_plain rfl (fun K hK => ?_)
  go_simp
  refine hK _ _ ?_
  clear hK K
  refine wpList_plain rfl (fun K hK => ?_)
  go_simp
  refine hK _ _ ?_
  clear hK K
  have HKR : Hid (Blk (W7.setRow (G + 1 + 1 + 1) #[.int .i64 id, .int .i64 3, .int .i64 ua, .int .i64 ub, .int .i64 d0, .int .i64 d1]) (G + 1 + 1 + 1) 47 #[.int .i64 id, .int .i64 3, .int .i64 ua, .int .i64 ub, .int .i64 d0, .int .i64 d1]) := Lib.hid (setRow_heap W7 (G + 1 + 1 + 1) _ _ 47 _ (HK7.out _ (.tail _ (.tail _ (.tail _ (.head _))))))
  have HE9 := Lib.hid (below_setRow HE7.out (show w.heap.size ≤ G + 1 + 1 + 1 by have := HG.out; omega) #[.int .i64 id, .int .i64 3, .int .i64 ua, .int .i64 ub, .int .i64 d0, .int .i64 d1])
  refine wpList_store_row rfl 47 (.tmp 6) (.tmp 93) rfl (G + 1 + 1 + 1) #[.int .i64 id, .int .i64 3, .int .i64 ua, .int .i64 ub, .int .i64 d0, .int .i64 d1] rfl rfl 47 _ (HK7.out _ (.tail _ (.tail _ (.tail _ (.head _))))) (by kernel_rfl) rfl (by kernel_rfl) ?_
  obtain ⟨W9, hW9⟩ : ∃ W9, W7.setRow (G + 1 + 1 + 1) #[.int .i64 id, .int .i64 3, .int .i64 ua, .int .i64 ub, .int .i64 d0, .int .i64 d1] = W9 := ⟨_, rfl⟩
  rw [hW9] at HKR HE9 ⊢
  clear hW9
  go_wp2
  exact bodyPost_ret (v := .tuple #[.agg #[.int .i64 id, .int .i64 3, .int .i64 ua, .int .i64 ub, .int .i64 d0, .int .i64 d1], .int .i64 0]) (results_cell_tmp_row Tryz.results24 _ _ (G + 1 + 1 + 1) 47 #[.int .i64 id, .int .i64 3, .int .i64 ua, .int .i64 ub, .int .i64 d0, .int .i64 d1] (0, 0) _ _ rfl rfl HKR.out Tryz.underlying47 rfl (by kernel_rfl)) rfl ⟨rfl, HE9.out⟩

set_option maxRecDepth 100000 in
set_option maxHeartbeats 4000000 in
theorem sDraw_m3 (vol mom hei : List P3) (id al ah t0 t1 u0 u1 v0 v1 h0 h1 : Int) (A B C : Option Addr) (n c mm d l ee : Nat) (fh x0 x1 d0 d1 a b p q r s X Y ua ub ue : Int) (R : FillD × Int) (w : World) (hi : HoldIn w ⟨id, al, ah, vol, mom, hei, t0, t1, u0, u1, v0, v1, h0, h1⟩ ⟨A, n, c, B, mm, d, C, l, ee⟩)
    (g1 : fillErr ⟨id, al, ah, vol, mom, hei, t0, t1, u0, u1, v0, v1, h0, h1⟩ ⟨fh, 3, x0, x1, d0, d1⟩ = 0) (g2 : errR a b = 0) (k2 : litresS a b d0 d1 = (r, s)) (g3 : ¬ a < 0) (hvv : volS ⟨id, al, ah, vol, mom, hei, t0, t1, u0, u1, v0, v1, h0, h1⟩ ⟨fh, 3, x0, x1, d0, d1⟩ = (p, q)) (k3 : IntKind.i64.wrap (p - s) = X) (k4 : IntKind.i64.wrap (q - r) = Y) (hU : ullS vol (max X 0) Y = (ua, ub, ue)) (hR : (if ue = 0 then (if ub < x0 then (noFill, 24) else (⟨id, 3, max ua x0, ub, d0, d1⟩, 0)) else (noFill, 24)) = R) :
    Calls Tryz.prog 24 #[.agg #[.int .i64 id, .int .i64 al, .int .i64 ah, .slice A n c, .slice B mm d, .slice C l ee, .int .i64 t0, .int .i64 t1, .int .i64 u0, .int .i64 u1, .int .i64 v0, .int .i64 v1, .int .i64 h0, .int .i64 h1], .agg #[.int .i64 fh, .int .i64 3, .int .i64 x0, .int .i64 x1, .int .i64 d0, .int .i64 d1], rv a b] w fun e w' => e = .returned (ft R) ∧ Below w.heap.size w w' := by
  have HE := Lib.hid (show Below w.heap.size w ((((w.alloc (.cells #[.int .i64 id, .int .i64 al, .int .i64 ah, .slice A n c, .slice B mm d, .slice C l ee, .int .i64 t0, .int .i64 t1, .int .i64 u0, .int .i64 u1, .int .i64 v0, .int .i64 v1, .int .i64 h0, .int .i64 h1] 45)).alloc (.cells #[.int .i64 fh, .int .i64 3, .int .i64 x0, .int .i64 x1, .int .i64 d0, .int .i64 d1] 47)).alloc (.cells #[.int .i64 a, .int .i64 b] 23)).alloc (.cells #[.int .i64 0, .int .i64 0, .int .i64 0, .int .i64 0, .int .i64 0, .int .i64 0] 47)) from below_a4 (Below.refl _ _))
  have HK := Lib.hid (boxes4' w 45 47 23 47 #[.int .i64 id, .int .i64 al, .int .i64 ah, .slice A n c, .slice B mm d, .slice C l ee, .int .i64 t0, .int .i64 t1, .int .i64 u0, .int .i64 u1, .int .i64 v0, .int .i64 v1, .int .i64 h0, .int .i64 h1] #[.int .i64 fh, .int .i64 3, .int .i64 x0, .int .i64 x1, .int .i64 d0, .int .i64 d1] #[.int .i64 a, .int .i64 b] #[.int .i64 0, .int .i64 0, .int .i64 0, .int .i64 0, .int .i64 0, .int .i64 0])
  obtain ⟨i1, i2, i3⟩ := hi
  dsimp only at i1 i2 i3
  have C1 : Hid (∀ W, Below w.heap.size w W → Calls Tryz.prog 69 #[.agg #[.int .i64 id, .int .i64 al, .int .i64 ah, .slice A n c, .slice B mm d, .slice C l ee, .int .i64 t0, .int .i64 t1, .int .i64 u0, .int .i64 u1, .int .i64 v0, .int .i64 v1, .int .i64 h0, .int .i64 h1], .agg #[.int .i64 fh, .int .i64 3, .int .i64 x0, .int .i64 x1, .int .i64 d0, .int .i64 d1]] W fun e w' => e = .returned (.int .i64 0) ∧ Below W.heap.size W w') := Lib.hid fun W hW => int_to (sCheckFill_any ⟨id, al, ah, vol, mom, hei, t0, t1, u0, u1, v0, v1, h0, h1⟩ ⟨A, n, c, B, mm, d, C, l, ee⟩ ⟨fh, 3, x0, x1, d0, d1⟩ W ⟨i1.below hW, i2.below hW, i3.below hW⟩) g1
  have C2 : Hid (∀ W, Calls Tryz.prog 44 #[rv a b] W fun e w' => e = .returned (.int .i64 0) ∧ Below W.heap.size W w') := Lib.hid fun W => int_to (rCheckRange_any a b W) g2
  have C4 : Hid (∀ W, Below w.heap.size w W → Calls Tryz.prog 72 #[.agg #[.int .i64 id, .int .i64 al, .int .i64 ah, .slice A n c, .slice B mm d, .slice C l ee, .int .i64 t0, .int .i64 t1, .int .i64 u0, .int .i64 u1, .int .i64 v0, .int .i64 v1, .int .i64 h0, .int .i64 h1], .agg #[.int .i64 fh, .int .i64 3, .int .i64 x0, .int .i64 x1, .int .i64 d0, .int .i64 d1]] W fun e w' => e = .returned (rv p q) ∧ Below W.heap.size W w') := Lib.hid fun W hW => by
    have := svol_to ⟨id, al, ah, vol, mom, hei, t0, t1, u0, u1, v0, v1, h0, h1⟩ ⟨A, n, c, B, mm, d, C, l, ee⟩ ⟨fh, 3, x0, x1, d0, d1⟩ W ⟨i1.below hW, i2.below hW, i3.below hW⟩ (by dsimp only; omega) (by dsimp only; omega)
    rw [hvv] at this; exact this
  have hv := (fill_zero g1).1
  have ht := hold_tab hv
  dsimp only at ht
  obtain ⟨fl1, fl2⟩ := hold_falls hv
  dsimp only at fl1 fl2
  have C5 : Hid (∀ W, Below w.heap.size w W → Calls Tryz.prog 46 #[tv A n c, rv (max X 0) Y, .bool true] W fun e w' => e = .returned (.tuple #[rv ua ub, .bool (decide (ue = 0))]) ∧ Below W.heap.size W w') := Lib.hid fun W hW => by
    have := sInverse_tab A n c vol (max X 0) Y true W (i1.below hW) ht (first_le_last ht) (turns_falls ht fl2 fl1)
    rw [show invS (besideS vol (max X 0) Y true) (besideS vol (max X 0) Y (!true)) (firstX vol) (lastX vol) = (ua, ub, ue) from hU] at this
    exact this
  have HS : Hid (ue = 0 ∨ ue = 24) := Lib.hid (by
    have q := invS_err24' (moreF vol Y) (lessF vol (max X 0)) (firstX vol) (lastX vol)
    unfold ullS at hU
    rw [hU] at q
    exact q)
  have C3 : Hid (∀ W, Calls Tryz.prog 45 #[rv a b, rv d0 d1] W fun e w' => e = .returned (rv r s) ∧ Below W.heap.size W w') := Lib.hid fun W => by
    have z1 : vR a b = true := by
      unfold errR at g2
      split at g2
      · assumption
      · omega
    have := slitres_any a b d0 d1 W (vR_small z1) (dens_in (fill_dens' g1 (by dsimp only; omega)))
    rw [k2] at this; exact this
  have HM : Hid (Y < 0 → ue = 24) := Lib.hid fun e => by
    have := ull_below hv (x := max X 0) e
    dsimp only at this
    rw [hU] at this
    injection this with t1 t2
    injection t2 with t2 t3
  have HR := Lib.hid hR
  clear hR hU hvv hv ht fl1 fl2 g1 g2 i1 i2 i3 k2
  go_enter Tryz.func24, Tryz.ntmps24
  go_wp2_with fail
  obtain ⟨W0, hW0⟩ : ∃ W0, ((((w.alloc (.cells #[.int .i64 id, .int .i64 al, .int .i64 ah, .slice A n c, .slice B mm d, .slice C l ee, .int .i64 t0, .int .i64 t1, .int .i64 u0, .int .i64 u1, .int .i64 v0, .int .i64 v1, .int .i64 h0, .int .i64 h1] 45)).alloc (.cells #[.int .i64 fh, .int .i64 3, .int .i64 x0, .int .i64 x1, .int .i64 d0, .int .i64 d1] 47)).alloc (.cells #[.int .i64 a, .int .i64 b] 23)).alloc (.cells #[.int .i64 0, .int .i64 0, .int .i64 0, .int .i64 0, .int .i64 0, .int .i64 0] 47)) = W0 := ⟨_, rfl⟩
  rw [hW0] at HE HK ⊢
  clear hW0
  obtain ⟨G, hG⟩ : ∃ G, w.heap.size = G := ⟨_, rfl⟩
  rw [hG] at HK ⊢
  have HG := Lib.hid hG; clear hG
  refine (C1.out _ HE.out).mono ?_
  rintro e w1 ⟨rfl, hq⟩
  have HE1 := Lib.hid (below_then HE.out hq); have HK1 := Lib.hid (HK.out.on hq)
  clear hq HE HK C1
  have ma := HK1.out _ (.tail _ (.head _))
  have ma0 := ma.cell 0
  have ma1 := ma.cell 1
  simp at ma0 ma1
  clear ma
  go_wp2_with fail
  refine (C2.out _).mono ?_
  rintro e w2 ⟨rfl, hq⟩
  have HE2 := Lib.hid (below_then HE1.out hq); have HK2 := Lib.hid (HK1.out.on hq)
  clear hq HE1 HK1 C2 ma0 ma1
  have ma := HK2.out _ (.tail _ (.head _))
  have ma0 := ma.cell 0
  have ma1 := ma.cell 1
  simp at ma0 ma1
  clear ma
  have fa := HK2.out _ (.tail _ (.tail _ (.head _)))
  have fa1 := fa.cell 1
  have fa4 := fa.cell 4
  have fa5 := fa.cell 5
  simp at fa1 fa4 fa5
  clear fa
  go_wp2_with fail
  refine (C3.out _).mono ?_
  rintro e y3 ⟨rfl, hq⟩
  have HE3 := Lib.hid (below_then (below_then HE2.out hq) (below_alloc1 y3 (.cells #[.int .i64 r, .int .i64 s] 23))); have HK3 := Lib.hid ((HK2.out.on hq).new 23 #[.int .i64 r, .int .i64 s])
  have HD3 := Lib.hid (boxes_lt (HK2.out.on hq))
  have HZ3 := Lib.hid (below_then HE2.out hq).size
  clear hq HE2 HK2 ma0 ma1 fa1 fa4 fa5 C3
  go_upto_region 11 with fail
  obtain ⟨W3, hW⟩ : ∃ W', y3.alloc (.cells #[.int .i64 r, .int .i64 s] 23) = W' := ⟨_, rfl⟩
  rw [hW] at HE3 HK3 ⊢
  clear hW
  obtain ⟨N3, hN⟩ : ∃ N, y3.heap.size = N := ⟨_, rfl⟩
  rw [hN] at HK3 HD3 HZ3 ⊢
  clear hN
  have ha := HK3.out _ (.tail _ (.tail _ (.tail _ (.tail _ (.head _)))))
  have ha0 := ha.cell 0
  have ha1 := ha.cell 1
  have ha2 := ha.cell 2
  have ha3 := ha.cell 3
  have ha4 := ha.cell 4
  have ha5 := ha.cell 5
  have ha6 := ha.cell 6
  have ha7 := ha.cell 7
  have ha8 := ha.cell 8
  have ha9 := ha.cell 9
  have ha10 := ha.cell 10
  have ha11 := ha.cell 11
  have ha12 := ha.cell 12
  have ha13 := ha.cell 13
  simp at ha0 ha1 ha2 ha3 ha4 ha5 ha6 ha7 ha8 ha9 ha10 ha11 ha12 ha13
  clear ha
  have fa := HK3.out _ (.tail _ (.tail _ (.tail _ (.head _))))
  have fa0 := fa.cell 0
  have fa1 := fa.cell 1
  have fa2 := fa.cell 2
  have fa3 := fa.cell 3
  have fa4 := fa.cell 4
  have fa5 := fa.cell 5
  simp at fa0 fa1 fa2 fa3 fa4 fa5
  clear fa
  go_wp2_with fail
  refine (C4.out _ HE3.out).mono ?_
  rintro e y4 ⟨rfl, hq⟩
  have HE4 := Lib.hid (below_then (below_then HE3.out hq) (below_alloc1 y4 (.cells #[.int .i64 p, .int .i64 q] 23))); have HK4 := Lib.hid ((HK3.out.on hq).new 23 #[.int .i64 p, .int .i64 q])
  have HD4 := Lib.hid (boxes_lt (HK3.out.on hq))
  have HZ4 := Lib.hid (below_then HE3.out hq).size
  clear hq HE3 HK3 ha0 ha1 ha2 ha3 ha4 ha5 ha6 ha7 ha8 ha9 ha10 ha11 ha12 ha13 fa0 fa1 fa2 fa3 fa4 fa5 C4
  go_upto_region 12 with fail
  obtain ⟨W4, hW⟩ : ∃ W', y4.alloc (.cells #[.int .i64 p, .int .i64 q] 23) = W' := ⟨_, rfl⟩
  rw [hW] at HE4 HK4 ⊢
  clear hW
  obtain ⟨N4, hN⟩ : ∃ N, y4.heap.size = N := ⟨_, rfl⟩
  rw [hN] at HK4 HD4 HZ4 ⊢
  clear hN
  have pa := HK4.out _ (.head _)
  have pa0 := pa.cell 0
  have paf0 := pa.frozen 0
  have pa1 := pa.cell 1
  have paf1 := pa.frozen 1
  have pal := pa.lt
  simp at pa0 paf0 pa1 paf1
  clear pa
  have ra := HK4.out _ (.tail _ (.head _))
  have ra0 := ra.cell 0
  have ra1 := ra.cell 1
  simp at ra0 ra1
  clear ra
  have hmx : max 0 X = max X 0 := Int.max_comm _ _
  have n34 : N3 ≠ N4 := HD4.out (_, _, _) (.head _)
  go_upto_region 13 with fail
  have HK5 : Hid (Boxes ((W4.setCell ⟨N4, 0, none⟩ (.int .i64 (max X 0))).setCell ⟨N4, 1, none⟩ (.int .i64 Y)) ((N4, 23, #[.int .i64 (max X 0), .int .i64 Y]) :: [(N3, 23, #[.int .i64 r, .int .i64 s]), (G + 1 + 1 + 1, 47, #[.int .i64 0, .int .i64 0, .int .i64 0, .int .i64 0, .int .i64 0, .int .i64 0]), (G + 1 + 1, 23, #[.int .i64 a, .int .i64 b]), (G + 1, 47, #[.int .i64 fh, .int .i64 3, .int .i64 x0, .int .i64 x1, .int .i64 d0, .int .i64 d1]), (G, 45, #[.int .i64 id, .int .i64 al, .int .i64 ah, .slice A n c, .slice B mm d, .slice C l ee, .int .i64 t0, .int .i64 t1, .int .i64 u0, .int .i64 u1, .int .i64 v0, .int .i64 v1, .int .i64 h0, .int .i64 h1])])) := Lib.hid (Boxes.set2 HK4.out HD4.out _ _)
  have HE5 := Lib.hid ((HE4.out.setCell (p := ⟨N4, 0, none⟩) (show w.heap.size ≤ N4 from HZ4.out) (.int .i64 (max X 0))).setCell (p := ⟨N4, 1, none⟩) (show w.heap.size ≤ N4 from HZ4.out) (.int .i64 Y))
  obtain ⟨W5, hW⟩ : ∃ W', ((W4.setCell ⟨N4, 0, none⟩ (.int .i64 (max X 0))).setCell ⟨N4, 1, none⟩ (.int .i64 Y)) = W' := ⟨_, rfl⟩
  rw [hW] at HK5 HE5 ⊢
  clear hW HK4 HE4 pa0 pa1 paf0 paf1 pal ra0 ra1 k3 k4 hmx n34
  have pa := HK5.out _ (.head _)
  have pa1 := pa.cell 1
  simp at pa1
  clear pa
  by_cases hn : Y < 0
  · have eR : R = (noFill, 24) := by rw [← HR.out, if_neg (by rw [HM.out hn]; decide)]
    subst eR
    clear HR
    go_upto_region 14 with fail
    refine wp_region_lit ?_
    refine wpList_plain rfl (fun K hK => ?_)
    go_simp
    refine hK _ _ ?_
    clear hK K
    have HKR : Hid (Blk (W5.setRow (G + 1 + 1 + 1) #[.int .i64 0, .int .i64 0, .int .i64 0, .int .i64 0, .int .i64 0, .int .i64 0]) (G + 1 + 1 + 1) 47 #[.int .i64 0, .int .i64 0, .int .i64 0, .int .i64 0, .int .i64 0, .int .i64 0]) := Lib.hid (setRow_heap W5 (G + 1 + 1 + 1) _ _ 47 _ (HK5.out _ (.tail _ (.tail _ (.head _)))))
    have HE9 := Lib.hid (below_setRow HE5.out (show w.heap.size ≤ G + 1 + 1 + 1 by have := HG.out; omega) #[.int .i64 0, .int .i64 0, .int .i64 0, .int .i64 0, .int .i64 0, .int .i64 0])
    refine wpList_store_row rfl 47 (.tmp 6) (.tmp 60) rfl (G + 1 + 1 + 1) #[.int .i64 0, .int .i64 0, .int .i64 0, .int .i64 0, .int .i64 0, .int .i64 0] rfl rfl 47 _ (HK5.out _ (.tail _ (.tail _ (.head _)))) (by kernel_rfl) rfl (by kernel_rfl) ?_
    obtain ⟨W9, hW9⟩ : ∃ W9, W5.setRow (G + 1 + 1 + 1) #[.int .i64 0, .int .i64 0, .int .i64 0, .int .i64 0, .int .i64 0, .int .i64 0] = W9 := ⟨_, rfl⟩
    rw [hW9] at HKR HE9 ⊢
    clear hW9
    go_wp2
    exact bodyPost_ret (v := .tuple #[.agg #[.int .i64 0, .int .i64 0, .int .i64 0, .int .i64 0, .int .i64 0, .int .i64 0], .int .i64 24]) (results_cell_tmp_row Tryz.results24 _ _ (G + 1 + 1 + 1) 47 #[.int .i64 0, .int .i64 0, .int .i64 0, .int .i64 0, .int .i64 0, .int .i64 0] (0, 0) _ _ rfl rfl HKR.out Tryz.underlying47 rfl (by kernel_rfl)) rfl ⟨rfl, HE9.out⟩
  have hn' : 0 ≤ Y := by omega
  go_upto_region 15 with fail
  clear pa1 hn hn'
  have ha := HK5.out _ (.tail _ (.tail _ (.tail _ (.tail _ (.tail _ (.head _))))))
  have ha3 := ha.cell 3
  simp at ha3
  clear ha
  have pa := HK5.out _ (.head _)
  have pa0 := pa.cell 0
  have pa1 := pa.cell 1
  simp at pa0 pa1
  clear pa
  go_wp2_with fail
  refine (C5.out _ HE5.out).mono ?_
  rintro e y7 ⟨rfl, hq⟩
  have HE7 := Lib.hid (below_then (below_then HE5.out hq) (below_alloc1 y7 (.cells #[.int .i64 ua, .int .i64 ub] 23))); have HK7 := Lib.hid ((HK5.out.on hq).new 23 #[.int .i64 ua, .int .i64 ub])
  have HD7 := Lib.hid (boxes_lt (HK5.out.on hq))
  have HZ7 := Lib.hid (below_then HE5.out hq).size
  clear hq HE5 HK5 ha3 pa0 pa1 C5
  obtain ⟨bt, hbt⟩ : ∃ t, decide (ue = 0) = t := ⟨_, rfl⟩
  rw [hbt]
  go_upto_region 16 with fail
  obtain ⟨W7, hW⟩ : ∃ W', y7.alloc (.cells #[.int .i64 ua, .int .i64 ub] 23) = W' := ⟨_, rfl⟩
  rw [hW] at HE7 HK7 ⊢
  clear hW
  obtain ⟨N7, hN⟩ : ∃ N, y7.heap.size = N := ⟨_, rfl⟩
  rw [hN] at HK7 HD7 HZ7 ⊢
  clear hN
  rcases HS.out with rfl | rfl
  rotate_left
  · skip
    have eR : R = (noFill, 24) := by rw [← HR.out, if_neg (by decide)]
    subst eR
    clear HR
    obtain rfl : bt = false := by rw [← hbt]; rfl
    go_upto_region 17 with fail
    refine wp_region_lit ?_
    refine wpList_plain rfl (fun K hK => ?_)
    go_simp
    refine hK _ _ ?_
    clear hK K
    have HKR : Hid (Blk (W7.setRow (G + 1 + 1 + 1) #[.int .i64 0, .int .i64 0, .int .i64 0, .int .i64 0, .int .i64 0, .int .i64 0]) (G + 1 + 1 + 1) 47 #[.int .i64 0, .int .i64 0, .int .i64 0, .int .i64 0, .int .i64 0, .int .i64 0]) := Lib.hid (setRow_heap W7 (G + 1 + 1 + 1) _ _ 47 _ (HK7.out _ (.tail _ (.tail _ (.tail _ (.head _))))))
    have HE9 := Lib.hid (below_setRow HE7.out (show w.heap.size ≤ G + 1 + 1 + 1 by have := HG.out; omega) #[.int .i64 0, .int .i64 0, .int .i64 0, .int .i64 0, .int .i64 0, .int .i64 0])
    refine wpList_store_row rfl 47 (.tmp 6) (.tmp 70) rfl (G + 1 + 1 + 1) #[.int .i64 0, .int .i64 0, .int .i64 0, .int .i64 0, .int .i64 0, .int .i64 0] rfl rfl 47 _ (HK7.out _ (.tail _ (.tail _ (.tail _ (.head _))))) (by kernel_rfl) rfl (by kernel_rfl) ?_
    obtain ⟨W9, hW9⟩ : ∃ W9, W7.setRow (G + 1 + 1 + 1) #[.int .i64 0, .int .i64 0, .int .i64 0, .int .i64 0, .int .i64 0, .int .i64 0] = W9 := ⟨_, rfl⟩
    rw [hW9] at HKR HE9 ⊢
    clear hW9
    go_wp2
    exact bodyPost_ret (v := .tuple #[.agg #[.int .i64 0, .int .i64 0, .int .i64 0, .int .i64 0, .int .i64 0, .int .i64 0], .int .i64 24]) (results_cell_tmp_row Tryz.results24 _ _ (G + 1 + 1 + 1) 47 #[.int .i64 0, .int .i64 0, .int .i64 0, .int .i64 0, .int .i64 0, .int .i64 0] (0, 0) _ _ rfl rfl HKR.out Tryz.underlying47 rfl (by kernel_rfl)) rfl ⟨rfl, HE9.out⟩
  obtain rfl : bt = true := by rw [← hbt]; rfl
  clear hbt
  have hR := HR.out
  rw [if_pos rfl] at hR
  have HR2 := Lib.hid hR
  clear hR HR
  have fa := HK7.out _ (.tail _ (.tail _ (.tail _ (.tail _ (.tail _ (.head _))))))
  have fa1 := fa.cell 1
  simp at fa1
  clear fa
  have ua := HK7.out _ (.head _)
  have ua1 := ua.cell 1
  simp at ua1
  clear ua
  have fb := HK7.out _ (.tail _ (.tail _ (.tail _ (.tail _ (.tail _ (.head _))))))
  have fb2 := fb.cell 2
  simp at fb2
  clear fb
  by_cases hn : ub < x0
  · have eR : R = (noFill, 24) := by rw [← HR2.out, if_pos hn]
    subst eR
    clear HR2
    go_upto_region 20 with fail
    refine wp_region_lit ?_
    refine wpList_plain rfl (fun K hK => ?_)
    go_simp
    refine hK _ _ ?_
    clear hK K
    have HKR : Hid (Blk (W7.setRow (G + 1 + 1 + 1) #[.int .i64 0, .int .i64 0, .int .i64 0, .int .i64 0, .int .i64 0, .int .i64 0]) (G + 1 + 1 + 1) 47 #[.int .i64 0, .int .i64 0, .int .i64 0, .int .i64 0, .int .i64 0, .int .i64 0]) := Lib.hid (setRow_heap W7 (G + 1 + 1 + 1) _ _ 47 _ (HK7.out _ (.tail _ (.tail _ (.tail _ (.head _))))))
    have HE9 := Lib.hid (below_setRow HE7.out (show w.heap.size ≤ G + 1 + 1 + 1 by have := HG.out; omega) #[.int .i64 0, .int .i64 0, .int .i64 0, .int .i64 0, .int .i64 0, .int .i64 0])
    refine wpList_store_row rfl 47 (.tmp 6) (.tmp 80) rfl (G + 1 + 1 + 1) #[.int .i64 0, .int .i64 0, .int .i64 0, .int .i64 0, .int .i64 0, .int .i64 0] rfl rfl 47 _ (HK7.out _ (.tail _ (.tail _ (.tail _ (.head _))))) (by kernel_rfl) rfl (by kernel_rfl) ?_
    obtain ⟨W9, hW9⟩ : ∃ W9, W7.setRow (G + 1 + 1 + 1) #[.int .i64 0, .int .i64 0, .int .i64 0, .int .i64 0, .int .i64 0, .int .i64 0] = W9 := ⟨_, rfl⟩
    rw [hW9] at HKR HE9 ⊢
    clear hW9
    go_wp2
    exact bodyPost_ret (v := .tuple #[.agg #[.int .i64 0, .int .i64 0, .int .i64 0, .int .i64 0, .int .i64 0, .int .i64 0], .int .i64 24]) (results_cell_tmp_row Tryz.results24 _ _ (G + 1 + 1 + 1) 47 #[.int .i64 0, .int .i64 0, .int .i64 0, .int .i64 0, .int .i64 0, .int .i64 0] (0, 0) _ _ rfl rfl HKR.out Tryz.underlying47 rfl (by kernel_rfl)) rfl ⟨rfl, HE9.out⟩
  have eR : R = (⟨id, 3, max ua x0, ub, d0, d1⟩, 0) := by rw [← HR2.out, if_neg hn]
  subst eR
  clear HR2
  go_upto_region 21 with fail
  clear ua1 hn fa1 fb2
  have ua := HK7.out _ (.head _)
  have ua0 := ua.cell 0
  have uaf0 := ua.frozen 0
  have ual := ua.lt
  simp at ua0 uaf0
  clear ua
  have fb := HK7.out _ (.tail _ (.tail _ (.tail _ (.tail _ (.tail _ (.head _))))))
  have fb2 := fb.cell 2
  simp at fb2
  clear fb
  go_upto_region 22 with fail
  have HE9 := Lib.hid (HE7.out.setCell (p := ⟨N7, 0, none⟩) (show w.heap.size ≤ N7 from HZ7.out) (.int .i64 (max ua x0)))
  have HK9 := Lib.hid (HK7.out.set1 HD7.out 0 (.int .i64 (max ua x0)) #[.int .i64 (max ua x0), .int .i64 ub] rfl)
  obtain ⟨W9, hW⟩ : ∃ W', W7.setCell ⟨N7, 0, none⟩ (.int .i64 (max ua x0)) = W' := ⟨_, rfl⟩
  rw [hW] at HK9 HE9 ⊢
  clear hW HK7 HE7 ua0 uaf0 ual fb2
  have ha := HK9.out _ (.tail _ (.tail _ (.tail _ (.tail _ (.tail _ (.tail _ (.head _)))))))
  have ha0 := ha.cell 0
  simp at ha0
  clear ha
  have ua := HK9.out _ (.head _)
  have ua0 := ua.cell 0
  have ua1 := ua.cell 1
  simp at ua0 ua1
  clear ua
  have fb := HK9.out _ (.tail _ (.tail _ (.tail _ (.tail _ (.tail _ (.head _))))))
  have fb4 := fb.cell 4
  have fb5 := fb.cell 5
  simp at fb4 fb5
  clear fb
  go_upto_region 22 with fail
  refine wp_region_lit ?_
  refine wpList_plain rfl (fun K hK => ?_)
  go_simp
  refine hK _ _ ?_
  clear hK K
  refine wpList_plain rfl (fun K hK => ?_)
  go_simp
  refine hK _ _ ?_
  clear hK K
  refine wpList_plain rfl (fun K hK => ?_)
  go_simp
  refine hK _ _ ?_
  clear hK K
  refine wpList_plain rfl (fun K hK => ?_)
  go_simp
  refine hK _ _ ?_
  clear hK K
  refine wpList_plain rfl (fun K hK => ?_)
  go_simp
  refine hK _ _ ?_
  clear hK K
  refine wpList_plain rfl (fun K hK => ?_)
  go_simp
  refine hK _ _ ?_
  clear hK K
  have HKR : Hid (Blk (W9.setRow (G + 1 + 1 + 1) #[.int .i64 id, .int .i64 3, .int .i64 (max ua x0), .int .i64 ub, .int .i64 d0, .int .i64 d1]) (G + 1 + 1 + 1) 47 #[.int .i64 id, .int .i64 3, .int .i64 (max ua x0), .int .i64 ub, .int .i64 d0, .int .i64 d1]) := Lib.hid (setRow_heap W9 (G + 1 + 1 + 1) _ _ 47 _ (HK9.out _ (.tail _ (.tail _ (.tail _ (.head _))))))
  have HEX := Lib.hid (below_setRow HE9.out (show w.heap.size ≤ G + 1 + 1 + 1 by have := HG.out; omega) #[.int .i64 id, .int .i64 3, .int .i64 (max ua x0), .int .i64 ub, .int .i64 d0, .int .i64 d1])
  refine wpList_store_row rfl 47 (.tmp 6) (.tmp 93) rfl (G + 1 + 1 + 1) #[.int .i64 id, .int .i64 3, .int .i64 (max ua x0), .int .i64 ub, .int .i64 d0, .int .i64 d1] rfl rfl 47 _ (HK9.out _ (.tail _ (.tail _ (.tail _ (.head _))))) (by kernel_rfl) rfl (by kernel_rfl) ?_
  obtain ⟨WX, hW9⟩ : ∃ WX, W9.setRow (G + 1 + 1 + 1) #[.int .i64 id, .int .i64 3, .int .i64 (max ua x0), .int .i64 ub, .int .i64 d0, .int .i64 d1] = WX := ⟨_, rfl⟩
  rw [hW9] at HKR HEX ⊢
  clear hW9
  go_wp2
  exact bodyPost_ret (v := .tuple #[.agg #[.int .i64 id, .int .i64 3, .int .i64 (max ua x0), .int .i64 ub, .int .i64 d0, .int .i64 d1], .int .i64 0]) (results_cell_tmp_row Tryz.results24 _ _ (G + 1 + 1 + 1) 47 #[.int .i64 id, .int .i64 3, .int .i64 (max ua x0), .int .i64 ub, .int .i64 d0, .int .i64 d1] (0, 0) _ _ rfl rfl HKR.out Tryz.underlying47 rfl (by kernel_rfl)) rfl ⟨rfl, HEX.out⟩
end

end Go.Proofs.YtbcefdaflnlhoaaGreat
