/- The contract of Pour (hold). Its condition: the hold's tables lie in memory. -/
import Derived.Test.YtemlaaipnhmcoaaGreatR34
import Derived.Test.YtemlaaipnhmcoaaGreatR44
import Derived.Test.YtemlaaipnhmcoaaGreatQ98
set_option linter.unusedVariables false
set_option linter.unusedSimpArgs false
set_option linter.constructorNameAsVariable false
namespace Go.Proofs.YtemlaaipnhmcoaaGreat

section
open Go.RowKit
attribute [local go_sem ↓] run_minI run_maxI
set_option maxRecDepth 100000 in
set_option maxHeartbeats 4000000 in
theorem hDraw_e1 (vol mom hei : List P3) (id al ah t0 t1 u0 u1 v0 v1 h0 h1 : Int) (A B C : Option Addr) (n c mm d l ee : Nat) (fh x0 x1 d0 d1 a b st E : Int) (w : World) (hi : HoldIn w ⟨id, al, ah, vol, mom, hei, t0, t1, u0, u1, v0, v1, h0, h1⟩ ⟨A, n, c, B, mm, d, C, l, ee⟩)
  (g1 : fillErr ⟨id, al, ah, vol, mom, hei, t0, t1, u0, u1, v0, v1, h0, h1⟩ ⟨fh, st, x0, x1, d0, d1⟩ = E) (gE : ¬ E = 0) :
  Calls Tryz.prog 30 #[.agg #[.int .i64 id, .int .i64 al, .int .i64 ah, .slice A n c, .slice B mm d, .slice C l ee, .int .i64 t0, .int .i64 t1, .int .i64 u0, .int .i64 u1, .int .i64 v0, .int .i64 v1, .int .i64 h0, .int .i64 h1], .agg #[.int .i64 fh, .int .i64 st, .int .i64 x0, .int .i64 x1, .int .i64 d0, .int .i64 d1], rv a b] w fun e w' => e = .returned (ft (noFill, E)) ∧ Below w.heap.size w w' := by
 have HE := Lib.hid (show Below w.heap.size w ((((w.alloc (.cells #[.int .i64 id, .int .i64 al, .int .i64 ah, .slice A n c, .slice B mm d, .slice C l ee, .int .i64 t0, .int .i64 t1, .int .i64 u0, .int .i64 u1, .int .i64 v0, .int .i64 v1, .int .i64 h0, .int .i64 h1] 35)).alloc (.cells #[.int .i64 fh, .int .i64 st, .int .i64 x0, .int .i64 x1, .int .i64 d0, .int .i64 d1] 55)).alloc (.cells #[.int .i64 a, .int .i64 b] 30)).alloc (.cells #[.int .i64 0, .int .i64 0, .int .i64 0, .int .i64 0, .int .i64 0, .int .i64 0] 55)) from below_a4 (Below.refl _ _))
 have HK := Lib.hid (boxes4' w 35 55 30 55 #[.int .i64 id, .int .i64 al, .int .i64 ah, .slice A n c, .slice B mm d, .slice C l ee, .int .i64 t0, .int .i64 t1, .int .i64 u0, .int .i64 u1, .int .i64 v0, .int .i64 v1, .int .i64 h0, .int .i64 h1] #[.int .i64 fh, .int .i64 st, .int .i64 x0, .int .i64 x1, .int .i64 d0, .int .i64 d1] #[.int .i64 a, .int .i64 b] #[.int .i64 0, .int .i64 0, .int .i64 0, .int .i64 0, .int .i64 0, .int .i64 0])
 obtain ⟨i1, i2, i3⟩ := hi
 dsimp only at i1 i2 i3
 have C1 : Hid (∀ W, Below w.heap.size w W → Calls Tryz.prog 53 #[.agg #[.int .i64 id, .int .i64 al, .int .i64 ah, .slice A n c, .slice B mm d, .slice C l ee, .int .i64 t0, .int .i64 t1, .int .i64 u0, .int .i64 u1, .int .i64 v0, .int .i64 v1, .int .i64 h0, .int .i64 h1], .agg #[.int .i64 fh, .int .i64 st, .int .i64 x0, .int .i64 x1, .int .i64 d0, .int .i64 d1]] W fun e w' => e = .returned (.int .i64 E) ∧ Below W.heap.size W w') := Lib.hid fun W hW => int_to (checkFill_any ⟨id, al, ah, vol, mom, hei, t0, t1, u0, u1, v0, v1, h0, h1⟩ ⟨A, n, c, B, mm, d, C, l, ee⟩ ⟨fh, st, x0, x1, d0, d1⟩ W ⟨i1.below hW, i2.below hW, i3.below hW⟩) g1
 clear g1 i1 i2 i3
 go_enter Tryz.func30, Tryz.ntmps30
 go_wp2_with fail
 obtain ⟨W0, hW0⟩ : ∃ W0, ((((w.alloc (.cells #[.int .i64 id, .int .i64 al, .int .i64 ah, .slice A n c, .slice B mm d, .slice C l ee, .int .i64 t0, .int .i64 t1, .int .i64 u0, .int .i64 u1, .int .i64 v0, .int .i64 v1, .int .i64 h0, .int .i64 h1] 35)).alloc (.cells #[.int .i64 fh, .int .i64 st, .int .i64 x0, .int .i64 x1, .int .i64 d0, .int .i64 d1] 55)).alloc (.cells #[.int .i64 a, .int .i64 b] 30)).alloc (.cells #[.int .i64 0, .int .i64 0, .int .i64 0, .int .i64 0, .int .i64 0, .int .i64 0] 55)) = W0 := ⟨_, rfl⟩
 rw [hW0] at HE HK ⊢
 clear hW0
 obtain ⟨G, hG⟩ : ∃ G, w.heap.size = G := ⟨_, rfl⟩
 rw [hG] at HK ⊢
 have HG := Lib.hid hG; clear hG
 refine (C1.out _ HE.out).mono ?_
 rintro e w1 ⟨rfl, hq⟩
 have HE1 := Lib.hid (below_then HE.out hq); have HK1 := Lib.hid (HK.out.on hq)
 clear hq HE HK C1
 go_upto_region 3 with fail
 refine wp_region_lit ?_
 refine wpList_plain rfl (fun K hK => ?_)
 go_simp
 refine hK _ _ ?_
 clear hK K
 refine wpList_plain rfl (fun K hK => ?_)
 go_simp
 refine hK _ _ ?_
 clear hK K
 have HKR : Hid (Blk (w1.setRow (G + 1 + 1 + 1) #[.int .i64 0, .int .i64 0, .int .i64 0, .int .i64 0, .int .i64 0, .int .i64 0]) (G + 1 + 1 + 1) 55 #[.int .i64 0, .int .i64 0, .int .i64 0, .int .i64 0, .int .i64 0, .int .i64 0]) := Lib.hid (setRow_heap w1 (G + 1 + 1 + 1) _ _ 55 _ (HK1.out _ (.head _)))
 have HE9 := Lib.hid (below_setRow HE1.out (show w.heap.size ≤ G + 1 + 1 + 1 by have := HG.out; omega) #[.int .i64 0, .int .i64 0, .int .i64 0, .int .i64 0, .int .i64 0, .int .i64 0])
 refine wpList_store_row rfl 55 (.tmp 6) (.tmp 19) rfl (G + 1 + 1 + 1) #[.int .i64 0, .int .i64 0, .int .i64 0, .int .i64 0, .int .i64 0, .int .i64 0] rfl rfl 55 _ (HK1.out _ (.head _)) (by kernel_rfl) rfl (by kernel_rfl) ?_
 obtain ⟨W9, hW9⟩ : ∃ W9, w1.setRow (G + 1 + 1 + 1) #[.int .i64 0, .int .i64 0, .int .i64 0, .int .i64 0, .int .i64 0, .int .i64 0] = W9 := ⟨_, rfl⟩
 rw [hW9] at HKR HE9 ⊢
 clear hW9
 go_wp2
 exact bodyPost_ret (v := .tuple #[.agg #[.int .i64 0, .int .i64 0, .int .i64 0, .int .i64 0, .int .i64 0, .int .i64 0], .int .i64 E]) (results_cell_tmp_row Tryz.results30 _ _ (G + 1 + 1 + 1) 55 #[.int .i64 0, .int .i64 0, .int .i64 0, .int .i64 0, .int .i64 0, .int .i64 0] (0, 0) _ _ rfl rfl HKR.out Tryz.underlying55 rfl (by kernel_rfl)) rfl ⟨rfl, HE9.out⟩

set_option maxRecDepth 100000 in
set_option maxHeartbeats 4000000 in
theorem hDraw_e2 (vol mom hei : List P3) (id al ah t0 t1 u0 u1 v0 v1 h0 h1 : Int) (A B C : Option Addr) (n c mm d l ee : Nat) (fh x0 x1 d0 d1 a b st E : Int) (w : World) (hi : HoldIn w ⟨id, al, ah, vol, mom, hei, t0, t1, u0, u1, v0, v1, h0, h1⟩ ⟨A, n, c, B, mm, d, C, l, ee⟩)
  (g1 : fillErr ⟨id, al, ah, vol, mom, hei, t0, t1, u0, u1, v0, v1, h0, h1⟩ ⟨fh, st, x0, x1, d0, d1⟩ = 0) (g2 : errR a b = E) (gE : E = 10) :
  Calls Tryz.prog 30 #[.agg #[.int .i64 id, .int .i64 al, .int .i64 ah, .slice A n c, .slice B mm d, .slice C l ee, .int .i64 t0, .int .i64 t1, .int .i64 u0, .int .i64 u1, .int .i64 v0, .int .i64 v1, .int .i64 h0, .int .i64 h1], .agg #[.int .i64 fh, .int .i64 st, .int .i64 x0, .int .i64 x1, .int .i64 d0, .int .i64 d1], rv a b] w fun e w' => e = .returned (ft (noFill, E)) ∧ Below w.heap.size w w' := by
 have HE := Lib.hid (show Below w.heap.size w ((((w.alloc (.cells #[.int .i64 id, .int .i64 al, .int .i64 ah, .slice A n c, .slice B mm d, .slice C l ee, .int .i64 t0, .int .i64 t1, .int .i64 u0, .int .i64 u1, .int .i64 v0, .int .i64 v1, .int .i64 h0, .int .i64 h1] 35)).alloc (.cells #[.int .i64 fh, .int .i64 st, .int .i64 x0, .int .i64 x1, .int .i64 d0, .int .i64 d1] 55)).alloc (.cells #[.int .i64 a, .int .i64 b] 30)).alloc (.cells #[.int .i64 0, .int .i64 0, .int .i64 0, .int .i64 0, .int .i64 0, .int .i64 0] 55)) from below_a4 (Below.refl _ _))
 have HK := Lib.hid (boxes4' w 35 55 30 55 #[.int .i64 id, .int .i64 al, .int .i64 ah, .slice A n c, .slice B mm d, .slice C l ee, .int .i64 t0, .int .i64 t1, .int .i64 u0, .int .i64 u1, .int .i64 v0, .int .i64 v1, .int .i64 h0, .int .i64 h1] #[.int .i64 fh, .int .i64 st, .int .i64 x0, .int .i64 x1, .int .i64 d0, .int .i64 d1] #[.int .i64 a, .int .i64 b] #[.int .i64 0, .int .i64 0, .int .i64 0, .int .i64 0, .int .i64 0, .int .i64 0])
 obtain ⟨i1, i2, i3⟩ := hi
 dsimp only at i1 i2 i3
 subst gE
 have C1 : Hid (∀ W, Below w.heap.size w W → Calls Tryz.prog 53 #[.agg #[.int .i64 id, .int .i64 al, .int .i64 ah, .slice A n c, .slice B mm d, .slice C l ee, .int .i64 t0, .int .i64 t1, .int .i64 u0, .int .i64 u1, .int .i64 v0, .int .i64 v1, .int .i64 h0, .int .i64 h1], .agg #[.int .i64 fh, .int .i64 st, .int .i64 x0, .int .i64 x1, .int .i64 d0, .int .i64 d1]] W fun e w' => e = .returned (.int .i64 0) ∧ Below W.heap.size W w') := Lib.hid fun W hW => int_to (checkFill_any ⟨id, al, ah, vol, mom, hei, t0, t1, u0, u1, v0, v1, h0, h1⟩ ⟨A, n, c, B, mm, d, C, l, ee⟩ ⟨fh, st, x0, x1, d0, d1⟩ W ⟨i1.below hW, i2.below hW, i3.below hW⟩) g1
 have C2 : Hid (∀ W, Calls Tryz.prog 80 #[rv a b] W fun e w' => e = .returned (.int .i64 10) ∧ Below W.heap.size W w') := Lib.hid fun W => int_to (checkRange_any a b W) g2
 clear g1 g2 i1 i2 i3
 go_enter Tryz.func30, Tryz.ntmps30
 go_wp2_with fail
 obtain ⟨W0, hW0⟩ : ∃ W0, ((((w.alloc (.cells #[.int .i64 id, .int .i64 al, .int .i64 ah, .slice A n c, .slice B mm d, .slice C l ee, .int .i64 t0, .int .i64 t1, .int .i64 u0, .int .i64 u1, .int .i64 v0, .int .i64 v1, .int .i64 h0, .int .i64 h1] 35)).alloc (.cells #[.int .i64 fh, .int .i64 st, .int .i64 x0, .int .i64 x1, .int .i64 d0, .int .i64 d1] 55)).alloc (.cells #[.int .i64 a, .int .i64 b] 30)).alloc (.cells #[.int .i64 0, .int .i64 0, .int .i64 0, .int .i64 0, .int .i64 0, .int .i64 0] 55)) = W0 := ⟨_, rfl⟩
 rw [hW0] at HE HK ⊢
 clear hW0
 obtain ⟨G, hG⟩ : ∃ G, w.heap.size = G := ⟨_, rfl⟩
 rw [hG] at HK ⊢
 have HG := Lib.hid hG; clear hG
 refine (C1.out _ HE.out).mono ?_
 rintro e w1 ⟨rfl, hq⟩
 have HE1 := Lib.hid (below_then HE.out hq); have HK1 := Lib.hid (HK.out.on hq)
 clear hq HE HK C1
 have m := HK1.out _ (.tail _ (.head _))
 have m0 := m.cell 0
 have m1 := m.cell 1
 simp at m0 m1
 clear m
 go_wp2_with fail
 refine (C2.out _).mono ?_
 rintro e w2 ⟨rfl, hq⟩
 have HE2 := Lib.hid (below_then HE1.out hq); have HK2 := Lib.hid (HK1.out.on hq)
 clear hq HE1 HK1 C2 m0 m1
 have m := HK2.out _ (.tail _ (.head _))
 have m0 := m.cell 0
 simp at m0
 clear m
 go_upto_region 5 with fail
 refine wp_region_lit ?_
 refine wpList_plain rfl (fun K hK => ?_)
 go_simp
 refine hK _ _ ?_
 clear hK K
 have HKR : Hid (Blk (w2.setRow (G + 1 + 1 + 1) #[.int .i64 0, .int .i64 0, .int .i64 0, .int .i64 0, .int .i64 0, .int .i64 0]) (G + 1 + 1 + 1) 55 #[.int .i64 0, .int .i64 0, .int .i64 0, .int .i64 0, .int .i64 0, .int .i64 0]) := Lib.hid (setRow_heap w2 (G + 1 + 1 + 1) _ _ 55 _ (HK2.out _ (.head _)))
 have HE9 := Lib.hid (below_setRow HE2.out (show w.heap.size ≤ G + 1 + 1 + 1 by have := HG.out; omega) #[.int .i64 0, .int .i64 0, .int .i64 0, .int .i64 0, .int .i64 0, .int .i64 0])
 refine wpList_store_row rfl 55 (.tmp 6) (.tmp 24) rfl (G + 1 + 1 + 1) #[.int .i64 0, .int .i64 0, .int .i64 0, .int .i64 0, .int .i64 0, .int .i64 0] rfl rfl 55 _ (HK2.out _ (.head _)) (by kernel_rfl) rfl (by kernel_rfl) ?_
 obtain ⟨W9, hW9⟩ : ∃ W9, w2.setRow (G + 1 + 1 + 1) #[.int .i64 0, .int .i64 0, .int .i64 0, .int .i64 0, .int .i64 0, .int .i64 0] = W9 := ⟨_, rfl⟩
 rw [hW9] at HKR HE9 ⊢
 clear hW9
 go_wp2
 exact bodyPost_ret (v := .tuple #[.agg #[.int .i64 0, .int .i64 0, .int .i64 0, .int .i64 0, .int .i64 0, .int .i64 0], .int .i64 10]) (results_cell_tmp_row Tryz.results30 _ _ (G + 1 + 1 + 1) 55 #[.int .i64 0, .int .i64 0, .int .i64 0, .int .i64 0, .int .i64 0, .int .i64 0] (0, 0) _ _ rfl rfl HKR.out Tryz.underlying55 rfl (by kernel_rfl)) rfl ⟨rfl, HE9.out⟩

set_option maxRecDepth 100000 in
set_option maxHeartbeats 4000000 in
theorem hDraw_e3 (vol mom hei : List P3) (id al ah t0 t1 u0 u1 v0 v1 h0 h1 : Int) (A B C : Option Addr) (n c mm d l ee : Nat) (fh x0 x1 d0 d1 a b st : Int) (w : World) (hi : HoldIn w ⟨id, al, ah, vol, mom, hei, t0, t1, u0, u1, v0, v1, h0, h1⟩ ⟨A, n, c, B, mm, d, C, l, ee⟩)
  (g1 : fillErr ⟨id, al, ah, vol, mom, hei, t0, t1, u0, u1, v0, v1, h0, h1⟩ ⟨fh, st, x0, x1, d0, d1⟩ = 0) (g2 : errR a b = 0) (g3 : a < 0) :
  Calls Tryz.prog 30 #[.agg #[.int .i64 id, .int .i64 al, .int .i64 ah, .slice A n c, .slice B mm d, .slice C l ee, .int .i64 t0, .int .i64 t1, .int .i64 u0, .int .i64 u1, .int .i64 v0, .int .i64 v1, .int .i64 h0, .int .i64 h1], .agg #[.int .i64 fh, .int .i64 st, .int .i64 x0, .int .i64 x1, .int .i64 d0, .int .i64 d1], rv a b] w fun e w' => e = .returned (ft (noFill, 1)) ∧ Below w.heap.size w w' := by
 have HE := Lib.hid (show Below w.heap.size w ((((w.alloc (.cells #[.int .i64 id, .int .i64 al, .int .i64 ah, .slice A n c, .slice B mm d, .slice C l ee, .int .i64 t0, .int .i64 t1, .int .i64 u0, .int .i64 u1, .int .i64 v0, .int .i64 v1, .int .i64 h0, .int .i64 h1] 35)).alloc (.cells #[.int .i64 fh, .int .i64 st, .int .i64 x0, .int .i64 x1, .int .i64 d0, .int .i64 d1] 55)).alloc (.cells #[.int .i64 a, .int .i64 b] 30)).alloc (.cells #[.int .i64 0, .int .i64 0, .int .i64 0, .int .i64 0, .int .i64 0, .int .i64 0] 55)) from below_a4 (Below.refl _ _))
 have HK := Lib.hid (boxes4' w 35 55 30 55 #[.int .i64 id, .int .i64 al, .int .i64 ah, .slice A n c, .slice B mm d, .slice C l ee, .int .i64 t0, .int .i64 t1, .int .i64 u0, .int .i64 u1, .int .i64 v0, .int .i64 v1, .int .i64 h0, .int .i64 h1] #[.int .i64 fh, .int .i64 st, .int .i64 x0, .int .i64 x1, .int .i64 d0, .int .i64 d1] #[.int .i64 a, .int .i64 b] #[.int .i64 0, .int .i64 0, .int .i64 0, .int .i64 0, .int .i64 0, .int .i64 0])
 obtain ⟨i1, i2, i3⟩ := hi
 dsimp only at i1 i2 i3
 have C1 : Hid (∀ W, Below w.heap.size w W → Calls Tryz.prog 53 #[.agg #[.int .i64 id, .int .i64 al, .int .i64 ah, .slice A n c, .slice B mm d, .slice C l ee, .int .i64 t0, .int .i64 t1, .int .i64 u0, .int .i64 u1, .int .i64 v0, .int .i64 v1, .int .i64 h0, .int .i64 h1], .agg #[.int .i64 fh, .int .i64 st, .int .i64 x0, .int .i64 x1, .int .i64 d0, .int .i64 d1]] W fun e w' => e = .returned (.int .i64 0) ∧ Below W.heap.size W w') := Lib.hid fun W hW => int_to (checkFill_any ⟨id, al, ah, vol, mom, hei, t0, t1, u0, u1, v0, v1, h0, h1⟩ ⟨A, n, c, B, mm, d, C, l, ee⟩ ⟨fh, st, x0, x1, d0, d1⟩ W ⟨i1.below hW, i2.below hW, i3.below hW⟩) g1
 have C2 : Hid (∀ W, Calls Tryz.prog 80 #[rv a b] W fun e w' => e = .returned (.int .i64 0) ∧ Below W.heap.size W w') := Lib.hid fun W => int_to (checkRange_any a b W) g2
 clear g1 g2 i1 i2 i3
 go_enter Tryz.func30, Tryz.ntmps30
 go_wp2_with fail
 obtain ⟨W0, hW0⟩ : ∃ W0, ((((w.alloc (.cells #[.int .i64 id, .int .i64 al, .int .i64 ah, .slice A n c, .slice B mm d, .slice C l ee, .int .i64 t0, .int .i64 t1, .int .i64 u0, .int .i64 u1, .int .i64 v0, .int .i64 v1, .int .i64 h0, .int .i64 h1] 35)).alloc (.cells #[.int .i64 fh, .int .i64 st, .int .i64 x0, .int .i64 x1, .int .i64 d0, .int .i64 d1] 55)).alloc (.cells #[.int .i64 a, .int .i64 b] 30)).alloc (.cells #[.int .i64 0, .int .i64 0, .int .i64 0, .int .i64 0, .int .i64 0, .int .i64 0] 55)) = W0 := ⟨_, rfl⟩
 rw [hW0] at HE HK ⊢
 clear hW0
 obtain ⟨G, hG⟩ : ∃ G, w.heap.size = G := ⟨_, rfl⟩
 rw [hG] at HK ⊢
 have HG := Lib.hid hG; clear hG
 refine (C1.out _ HE.out).mono ?_
 rintro e w1 ⟨rfl, hq⟩
 have HE1 := Lib.hid (below_then HE.out hq); have HK1 := Lib.hid (HK.out.on hq)
 clear hq HE HK C1
 have m := HK1.out _ (.tail _ (.head _))
 have m0 := m.cell 0
 have m1 := m.cell 1
 simp at m0 m1
 clear m
 go_wp2_with fail
 refine (C2.out _).mono ?_
 rintro e w2 ⟨rfl, hq⟩
 have HE2 := Lib.hid (below_then HE1.out hq); have HK2 := Lib.hid (HK1.out.on hq)
 clear hq HE1 HK1 C2 m0 m1
 have m := HK2.out _ (.tail _ (.head _))
 have m0 := m.cell 0
 simp at m0
 clear m
 go_upto_region 7 with fail
 refine wp_region_lit ?_
 refine wpList_plain rfl (fun K hK => ?_)
 go_simp
 refine hK _ _ ?_
 clear hK K
 have HKR : Hid (Blk (w2.setRow (G + 1 + 1 + 1) #[.int .i64 0, .int .i64 0, .int .i64 0, .int .i64 0, .int .i64 0, .int .i64 0]) (G + 1 + 1 + 1) 55 #[.int .i64 0, .int .i64 0, .int .i64 0, .int .i64 0, .int .i64 0, .int .i64 0]) := Lib.hid (setRow_heap w2 (G + 1 + 1 + 1) _ _ 55 _ (HK2.out _ (.head _)))
 have HE9 := Lib.hid (below_setRow HE2.out (show w.heap.size ≤ G + 1 + 1 + 1 by have := HG.out; omega) #[.int .i64 0, .int .i64 0, .int .i64 0, .int .i64 0, .int .i64 0, .int .i64 0])
 refine wpList_store_row rfl 55 (.tmp 6) (.tmp 28) rfl (G + 1 + 1 + 1) #[.int .i64 0, .int .i64 0, .int .i64 0, .int .i64 0, .int .i64 0, .int .i64 0] rfl rfl 55 _ (HK2.out _ (.head _)) (by kernel_rfl) rfl (by kernel_rfl) ?_
 obtain ⟨W9, hW9⟩ : ∃ W9, w2.setRow (G + 1 + 1 + 1) #[.int .i64 0, .int .i64 0, .int .i64 0, .int .i64 0, .int .i64 0, .int .i64 0] = W9 := ⟨_, rfl⟩
 rw [hW9] at HKR HE9 ⊢
 clear hW9
 go_wp2
 exact bodyPost_ret (v := .tuple #[.agg #[.int .i64 0, .int .i64 0, .int .i64 0, .int .i64 0, .int .i64 0, .int .i64 0], .int .i64 1]) (results_cell_tmp_row Tryz.results30 _ _ (G + 1 + 1 + 1) 55 #[.int .i64 0, .int .i64 0, .int .i64 0, .int .i64 0, .int .i64 0, .int .i64 0] (0, 0) _ _ rfl rfl HKR.out Tryz.underlying55 rfl (by kernel_rfl)) rfl ⟨rfl, HE9.out⟩

set_option maxRecDepth 100000 in
set_option maxHeartbeats 4000000 in
theorem hDraw_e4 (vol mom hei : List P3) (id al ah t0 t1 u0 u1 v0 v1 h0 h1 : Int) (A B C : Option Addr) (n c mm d l ee : Nat) (fh x0 x1 d0 d1 a b st pe de se : Int) (n0 n1 n2 n3 n4 : Nat) (w : World) (hi : HoldIn w ⟨id, al, ah, vol, mom, hei, t0, t1, u0, u1, v0, v1, h0, h1⟩ ⟨A, n, c, B, mm, d, C, l, ee⟩)
  (g1 : fillErr ⟨id, al, ah, vol, mom, hei, t0, t1, u0, u1, v0, v1, h0, h1⟩ ⟨fh, st, x0, x1, d0, d1⟩ = 0) (g2 : errR a b = 0) (g3 : ¬ a < 0) (q0 : 0 ≤ st) (q5 : st ≤ 5) (hM : mM st = #[fnV n0, fnV n1, fnV n2, fnV n3, fnV n4, .int .i64 pe, .int .i64 de, .int .i64 se]) (gE : ¬ de = 0) :
  Calls Tryz.prog 30 #[.agg #[.int .i64 id, .int .i64 al, .int .i64 ah, .slice A n c, .slice B mm d, .slice C l ee, .int .i64 t0, .int .i64 t1, .int .i64 u0, .int .i64 u1, .int .i64 v0, .int .i64 v1, .int .i64 h0, .int .i64 h1], .agg #[.int .i64 fh, .int .i64 st, .int .i64 x0, .int .i64 x1, .int .i64 d0, .int .i64 d1], rv a b] w fun e w' => e = .returned (ft (noFill, de)) ∧ Below w.heap.size w w' := by
 have HE := Lib.hid (show Below w.heap.size w ((((w.alloc (.cells #[.int .i64 id, .int .i64 al, .int .i64 ah, .slice A n c, .slice B mm d, .slice C l ee, .int .i64 t0, .int .i64 t1, .int .i64 u0, .int .i64 u1, .int .i64 v0, .int .i64 v1, .int .i64 h0, .int .i64 h1] 35)).alloc (.cells #[.int .i64 fh, .int .i64 st, .int .i64 x0, .int .i64 x1, .int .i64 d0, .int .i64 d1] 55)).alloc (.cells #[.int .i64 a, .int .i64 b] 30)).alloc (.cells #[.int .i64 0, .int .i64 0, .int .i64 0, .int .i64 0, .int .i64 0, .int .i64 0] 55)) from below_a4 (Below.refl _ _))
 have HK := Lib.hid (boxes4' w 35 55 30 55 #[.int .i64 id, .int .i64 al, .int .i64 ah, .slice A n c, .slice B mm d, .slice C l ee, .int .i64 t0, .int .i64 t1, .int .i64 u0, .int .i64 u1, .int .i64 v0, .int .i64 v1, .int .i64 h0, .int .i64 h1] #[.int .i64 fh, .int .i64 st, .int .i64 x0, .int .i64 x1, .int .i64 d0, .int .i64 d1] #[.int .i64 a, .int .i64 b] #[.int .i64 0, .int .i64 0, .int .i64 0, .int .i64 0, .int .i64 0, .int .i64 0])
 obtain ⟨i1, i2, i3⟩ := hi
 dsimp only at i1 i2 i3
 have C1 : Hid (∀ W, Below w.heap.size w W → Calls Tryz.prog 53 #[.agg #[.int .i64 id, .int .i64 al, .int .i64 ah, .slice A n c, .slice B mm d, .slice C l ee, .int .i64 t0, .int .i64 t1, .int .i64 u0, .int .i64 u1, .int .i64 v0, .int .i64 v1, .int .i64 h0, .int .i64 h1], .agg #[.int .i64 fh, .int .i64 st, .int .i64 x0, .int .i64 x1, .int .i64 d0, .int .i64 d1]] W fun e w' => e = .returned (.int .i64 0) ∧ Below W.heap.size W w') := Lib.hid fun W hW => int_to (checkFill_any ⟨id, al, ah, vol, mom, hei, t0, t1, u0, u1, v0, v1, h0, h1⟩ ⟨A, n, c, B, mm, d, C, l, ee⟩ ⟨fh, st, x0, x1, d0, d1⟩ W ⟨i1.below hW, i2.below hW, i3.below hW⟩) g1
 have C2 : Hid (∀ W, Calls Tryz.prog 80 #[rv a b] W fun e w' => e = .returned (.int .i64 0) ∧ Below W.heap.size W w') := Lib.hid fun W => int_to (checkRange_any a b W) g2
 have C3 : Hid (∀ W, Calls Tryz.prog 75 #[.agg #[.int .i64 fh, .int .i64 st, .int .i64 x0, .int .i64 x1, .int .i64 d0, .int .i64 d1]] W fun e w' => e = .returned (.agg #[fnV n0, fnV n1, fnV n2, fnV n3, fnV n4, .int .i64 pe, .int .i64 de, .int .i64 se]) ∧ Below W.heap.size W w') := Lib.hid fun W => by
  have := meaningOf_any fh st x0 x1 d0 d1 W q0 q5
  rwa [hM] at this
 clear g1 g2 i1 i2 i3 q0 q5 hM
 go_enter Tryz.func30, Tryz.ntmps30
 go_wp2_with fail
 obtain ⟨W0, hW0⟩ : ∃ W0, ((((w.alloc (.cells #[.int .i64 id, .int .i64 al, .int .i64 ah, .slice A n c, .slice B mm d, .slice C l ee, .int .i64 t0, .int .i64 t1, .int .i64 u0, .int .i64 u1, .int .i64 v0, .int .i64 v1, .int .i64 h0, .int .i64 h1] 35)).alloc (.cells #[.int .i64 fh, .int .i64 st, .int .i64 x0, .int .i64 x1, .int .i64 d0, .int .i64 d1] 55)).alloc (.cells #[.int .i64 a, .int .i64 b] 30)).alloc (.cells #[.int .i64 0, .int .i64 0, .int .i64 0, .int .i64 0, .int .i64 0, .int .i64 0] 55)) = W0 := ⟨_, rfl⟩
 rw [hW0] at HE HK ⊢
 clear hW0
 obtain ⟨G, hG⟩ : ∃ G, w.heap.size = G := ⟨_, rfl⟩
 rw [hG] at HK ⊢
 have HG := Lib.hid hG; clear hG
 refine (C1.out _ HE.out).mono ?_
 rintro e w1 ⟨rfl, hq⟩
 have HE1 := Lib.hid (below_then HE.out hq); have HK1 := Lib.hid (HK.out.on hq)
 clear hq HE HK C1
 have m := HK1.out _ (.tail _ (.head _))
 have m0 := m.cell 0
 have m1 := m.cell 1
 simp at m0 m1
 clear m
 go_wp2_with fail
 refine (C2.out _).mono ?_
 rintro e w2 ⟨rfl, hq⟩
 have HE2 := Lib.hid (below_then HE1.out hq); have HK2 := Lib.hid (HK1.out.on hq)
 clear hq HE1 HK1 C2 m0 m1
 have m := HK2.out _ (.tail _ (.head _))
 have m0 := m.cell 0
 simp at m0
 clear m
 have f := HK2.out _ (.tail _ (.tail _ (.head _)))
 have f0 := f.cell 0
 have f1 := f.cell 1
 have f2 := f.cell 2
 have f3 := f.cell 3
 have f4 := f.cell 4
 have f5 := f.cell 5
 simp at f0 f1 f2 f3 f4 f5
 clear f
 go_wp2_with fail
 refine (C3.out _).mono ?_
 rintro e w3 ⟨rfl, hq⟩
 have HE3 := Lib.hid (below_then (below_then HE2.out hq) (below_alloc1 w3 (.cells #[fnV n0, fnV n1, fnV n2, fnV n3, fnV n4, .int .i64 pe, .int .i64 de, .int .i64 se] 123))); have HK3 := Lib.hid ((HK2.out.on hq).new 123 #[fnV n0, fnV n1, fnV n2, fnV n3, fnV n4, .int .i64 pe, .int .i64 de, .int .i64 se])
 have HD3 := Lib.hid (boxes_lt (HK2.out.on hq))
 clear hq HE2 HK2 C3 m0 f0 f1 f2 f3 f4 f5
 go_upto_region 9 with fail
 obtain ⟨W3, hW3⟩ : ∃ W3, w3.alloc (.cells #[fnV n0, fnV n1, fnV n2, fnV n3, fnV n4, .int .i64 pe, .int .i64 de, .int .i64 se] 123) = W3 := ⟨_, rfl⟩
 rw [hW3] at HE3 HK3 ⊢
 clear hW3
 obtain ⟨M, hM⟩ : ∃ M, w3.heap.size = M := ⟨_, rfl⟩
 rw [hM] at HK3 HD3 ⊢
 clear hM
 have s := HK3.out _ (.head _)
 have s6 := s.cell 6
 simp at s6
 clear s
 go_upto_region 10 with fail
 clear s6
 have HKs : Hid (Boxes W3 [(M, 123, #[fnV n0, fnV n1, fnV n2, fnV n3, fnV n4, .int .i64 pe, .int .i64 de, .int .i64 se]), (G + 1 + 1, 30, #[.int .i64 a, .int .i64 b]), (G + 1, 55, #[.int .i64 fh, .int .i64 st, .int .i64 x0, .int .i64 x1, .int .i64 d0, .int .i64 d1]), (G, 35, #[.int .i64 id, .int .i64 al, .int .i64 ah, .slice A n c, .slice B mm d, .slice C l ee, .int .i64 t0, .int .i64 t1, .int .i64 u0, .int .i64 u1, .int .i64 v0, .int .i64 v1, .int .i64 h0, .int .i64 h1])]) := Lib.hid (HK3.out.sub (fun x hx => by
  simp only [List.mem_cons, List.not_mem_nil, or_false] at hx ⊢
  rcases hx with h | h | h | h <;> simp [h]))
 have HK9 : Hid (Blk W3 (G + 1 + 1 + 1) 55 #[.int .i64 0, .int .i64 0, .int .i64 0, .int .i64 0, .int .i64 0, .int .i64 0]) := Lib.hid (HK3.out _ (.tail _ (.head _)))
 have hne : ∀ zz ∈ ([(M, 123, #[fnV n0, fnV n1, fnV n2, fnV n3, fnV n4, .int .i64 pe, .int .i64 de, .int .i64 se]), (G + 1 + 1, 30, #[.int .i64 a, .int .i64 b]), (G + 1, 55, #[.int .i64 fh, .int .i64 st, .int .i64 x0, .int .i64 x1, .int .i64 d0, .int .i64 d1]), (G, 35, #[.int .i64 id, .int .i64 al, .int .i64 ah, .slice A n c, .slice B mm d, .slice C l ee, .int .i64 t0, .int .i64 t1, .int .i64 u0, .int .i64 u1, .int .i64 v0, .int .i64 v1, .int .i64 h0, .int .i64 h1])] : List (Nat × TypeId × Array Value)), zz.1 ≠ G + 1 + 1 + 1 := by
  have a1 := HD3.out (_, _, _) (.head _)
  intro zz hz
  simp only [List.mem_cons, List.not_mem_nil, or_false] at hz
  rcases hz with h | h | h | h <;> (rw [h]; dsimp only at a1 ⊢; omega)
 have HNE := Lib.hid hne
 clear hne HK3 HD3
 have hS0 : Boxes W3.drew [(M, 123, #[fnV n0, fnV n1, fnV n2, fnV n3, fnV n4, .int .i64 pe, .int .i64 de, .int .i64 se]), (G + 1 + 1, 30, #[.int .i64 a, .int .i64 b]), (G + 1, 55, #[.int .i64 fh, .int .i64 st, .int .i64 x0, .int .i64 x1, .int .i64 d0, .int .i64 d1]), (G, 35, #[.int .i64 id, .int .i64 al, .int .i64 ah, .slice A n c, .slice B mm d, .slice C l ee, .int .i64 t0, .int .i64 t1, .int .i64 u0, .int .i64 u1, .int .i64 v0, .int .i64 v1, .int .i64 h0, .int .i64 h1])] := HKs.out
 have HEd := Lib.hid HE3.out.drew
 have HKd : Hid (Blk W3.drew (G + 1 + 1 + 1) 55 #[.int .i64 0, .int .i64 0, .int .i64 0, .int .i64 0, .int .i64 0, .int .i64 0]) := Lib.hid HK9.out.drew
 refine wp_region_held_drew (S := fun w' => Boxes w' [(M, 123, #[fnV n0, fnV n1, fnV n2, fnV n3, fnV n4, .int .i64 pe, .int .i64 de, .int .i64 se]), (G + 1 + 1, 30, #[.int .i64 a, .int .i64 b]), (G + 1, 55, #[.int .i64 fh, .int .i64 st, .int .i64 x0, .int .i64 x1, .int .i64 d0, .int .i64 d1]), (G, 35, #[.int .i64 id, .int .i64 al, .int .i64 ah, .slice A n c, .slice B mm d, .slice C l ee, .int .i64 t0, .int .i64 t1, .int .i64 u0, .int .i64 u1, .int .i64 v0, .int .i64 v1, .int .i64 h0, .int .i64 h1])]) (by kernel_rfl) hS0 (fun hHeld => ?_)
 obtain ⟨W4, hW⟩ : ∃ W', W3.drew = W' := ⟨_, rfl⟩
 rw [hW] at HEd HKd hHeld ⊢
 clear hW hS0 HE3 HKs
 clear HK9
 refine tK 34 (i := 0) (v := .agg #[.int .i64 0, .int .i64 0, .int .i64 0, .int .i64 0, .int .i64 0, .int .i64 0]) rfl rfl (by kernel_rfl) ?_ hHeld ?_
 ·intro w hSw; clear hSw; go_simp; try with_reducible rfl
 simp only [uZ, uS]
 refine tK 35 (i := 1) (v := .pointer (some ⟨M, 6, none⟩)) rfl rfl (by kernel_rfl) ?_ hHeld ?_
 ·intro w hSw; clear hSw; go_simp; try with_reducible rfl
 simp only [uZ, uS]
 refine tK 36 (i := 2) (v := .int .i64 de) rfl rfl (by kernel_rfl) ?_ hHeld ?_
 ·intro w hSw; have hz := (hSw _ (.head _)); have c6 := hz.cell 6; simp at c6; clear hz hSw; go_simp; try with_reducible rfl
 simp only [uZ, uS]
 refine wpAnyH_ready (rs := [3]) (by kernel_rfl) (by simp) ?_
 refine AllReadyH.cons rfl (fun K hK => ?_) AllReadyH.nil
 rw [if_pos (by kernel_rfl)]
 have HKR : Hid (Blk (W4.setRow (G + 1 + 1 + 1) #[.int .i64 0, .int .i64 0, .int .i64 0, .int .i64 0, .int .i64 0, .int .i64 0]) (G + 1 + 1 + 1) 55 #[.int .i64 0, .int .i64 0, .int .i64 0, .int .i64 0, .int .i64 0, .int .i64 0]) := Lib.hid (setRow_heap W4 (G + 1 + 1 + 1) _ _ 55 _ HKd.out)
 have HE9 := Lib.hid (below_setRow HEd.out (show w.heap.size ≤ G + 1 + 1 + 1 by have := HG.out; omega) #[.int .i64 0, .int .i64 0, .int .i64 0, .int .i64 0, .int .i64 0, .int .i64 0])
 have hS := hHeld.farRow (g := (G + 1 + 1 + 1)) HNE.out #[.int .i64 0, .int .i64 0, .int .i64 0, .int .i64 0, .int .i64 0, .int .i64 0]
 refine wp_store_row 55 (.tmp 6) (.tmp 34) rfl (G + 1 + 1 + 1) #[.int .i64 0, .int .i64 0, .int .i64 0, .int .i64 0, .int .i64 0, .int .i64 0] rfl rfl 55 _ HKd.out (by kernel_rfl) rfl (by kernel_rfl) ?_
 obtain ⟨Wz, hW⟩ : ∃ W', W4.setRow (G + 1 + 1 + 1) #[.int .i64 0, .int .i64 0, .int .i64 0, .int .i64 0, .int .i64 0, .int .i64 0] = W' := ⟨_, rfl⟩
 rw [hW] at HKR HE9 hS ⊢
 refine hK.out _ _ hS (fun hHeld2 => ?_)
 try simp only [Act.put, uA, uZ, uS]
 clear hW hS hK K hHeld HKd HEd
 have hHeld := hHeld2
 clear hHeld2
 refine tK 7 (i := 4) (v := .int .i64 de) rfl rfl (by kernel_rfl) ?_ hHeld ?_
 ·intro w hSw; clear hSw; go_simp; try with_reducible rfl
 simp only [uZ, uS]
 refine wpAnyH_done (by kernel_rfl) ?_ _
 clear hHeld
 go_wp2
 exact bodyPost_ret (v := .tuple #[.agg #[.int .i64 0, .int .i64 0, .int .i64 0, .int .i64 0, .int .i64 0, .int .i64 0], .int .i64 de]) (results_cell_tmp_row Tryz.results30 _ _ (G + 1 + 1 + 1) 55 #[.int .i64 0, .int .i64 0, .int .i64 0, .int .i64 0, .int .i64 0, .int .i64 0] (0, 0) _ _ rfl rfl HKR.out Tryz.underlying55 rfl (by kernel_rfl)) rfl ⟨rfl, HE9.out⟩

set_option maxRecDepth 100000 in
set_option maxHeartbeats 4000000 in
theorem draw_walk (vol mom hei : List P3) (id al ah t0 t1 u0 u1 v0 v1 h0 h1 : Int) (A B C : Option Addr) (n c mm d l ee : Nat) (fh st x0 x1 d0 d1 a b p q r s X Y u u' pe se : Int) (ja kv jc jd ks : Nat) (w : World) (hi : HoldIn w ⟨id, al, ah, vol, mom, hei, t0, t1, u0, u1, v0, v1, h0, h1⟩ ⟨A, n, c, B, mm, d, C, l, ee⟩)
  (g1 : fillErr ⟨id, al, ah, vol, mom, hei, t0, t1, u0, u1, v0, v1, h0, h1⟩ ⟨fh, st, x0, x1, d0, d1⟩ = 0) (g2 : errR a b = 0) (g3 : ¬ a < 0) (ht : tabOk vol = true) (hle : firstX vol ≤ lastX vol) (q0 : 0 ≤ st) (q5 : st ≤ 5) (s0 : ¬ st = 0) (hM : mM st = #[fnV ja, fnV kv, fnV jc, fnV jd, fnV ks, .int .i64 pe, .int .i64 0, .int .i64 se]) (hk : (kv = 195 ∧ ks = 197) ∨ (kv = 191 ∧ ks = 193))
  (hC4 : ∀ W, Below w.heap.size w W → Calls Tryz.prog kv #[.agg #[.int .i64 id, .int .i64 al, .int .i64 ah, .slice A n c, .slice B mm d, .slice C l ee, .int .i64 t0, .int .i64 t1, .int .i64 u0, .int .i64 u1, .int .i64 v0, .int .i64 v1, .int .i64 h0, .int .i64 h1], .agg #[.int .i64 fh, .int .i64 st, .int .i64 x0, .int .i64 x1, .int .i64 d0, .int .i64 d1]] W fun e w' => e = .returned (rv p q) ∧ Below W.heap.size W w')
  (hC7 : ∀ W, Below w.heap.size w W → Calls Tryz.prog ks #[.agg #[.int .i64 id, .int .i64 al, .int .i64 ah, .slice A n c, .slice B mm d, .slice C l ee, .int .i64 t0, .int .i64 t1, .int .i64 u0, .int .i64 u1, .int .i64 v0, .int .i64 v1, .int .i64 h0, .int .i64 h1], .agg #[.int .i64 fh, .int .i64 st, .int .i64 x0, .int .i64 x1, .int .i64 d0, .int .i64 d1]] W fun e w' => e = .returned (rv u u') ∧ Below W.heap.size W w')
  (k2 : litresS a b d0 d1 = (r, s)) (k3 : IntKind.i64.wrap (p - s) = X) (k4 : IntKind.i64.wrap (q - r) = Y) :
  Calls Tryz.prog 30 #[.agg #[.int .i64 id, .int .i64 al, .int .i64 ah, .slice A n c, .slice B mm d, .slice C l ee, .int .i64 t0, .int .i64 t1, .int .i64 u0, .int .i64 u1, .int .i64 v0, .int .i64 v1, .int .i64 h0, .int .i64 h1], .agg #[.int .i64 fh, .int .i64 st, .int .i64 x0, .int .i64 x1, .int .i64 d0, .int .i64 d1], rv a b] w fun e w' => e = .returned (ft (movedS vol id (max X 0) Y u (lastX vol) d0 d1)) ∧ Below w.heap.size w w' := by
 have HE := Lib.hid (show Below w.heap.size w ((((w.alloc (.cells #[.int .i64 id, .int .i64 al, .int .i64 ah, .slice A n c, .slice B mm d, .slice C l ee, .int .i64 t0, .int .i64 t1, .int .i64 u0, .int .i64 u1, .int .i64 v0, .int .i64 v1, .int .i64 h0, .int .i64 h1] 35)).alloc (.cells #[.int .i64 fh, .int .i64 st, .int .i64 x0, .int .i64 x1, .int .i64 d0, .int .i64 d1] 55)).alloc (.cells #[.int .i64 a, .int .i64 b] 30)).alloc (.cells #[.int .i64 0, .int .i64 0, .int .i64 0, .int .i64 0, .int .i64 0, .int .i64 0] 55)) from below_a4 (Below.refl _ _))
 have HK := Lib.hid (boxes4' w 35 55 30 55 #[.int .i64 id, .int .i64 al, .int .i64 ah, .slice A n c, .slice B mm d, .slice C l ee, .int .i64 t0, .int .i64 t1, .int .i64 u0, .int .i64 u1, .int .i64 v0, .int .i64 v1, .int .i64 h0, .int .i64 h1] #[.int .i64 fh, .int .i64 st, .int .i64 x0, .int .i64 x1, .int .i64 d0, .int .i64 d1] #[.int .i64 a, .int .i64 b] #[.int .i64 0, .int .i64 0, .int .i64 0, .int .i64 0, .int .i64 0, .int .i64 0])
 obtain ⟨i1, i2, i3⟩ := hi
 dsimp only at i1 i2 i3
 have C4 := Lib.hid hC4
 have C7 := Lib.hid hC7
 have HKV := Lib.hid hk
 clear hC4 hC7 hk
 have C1 : Hid (∀ W, Below w.heap.size w W → Calls Tryz.prog 53 #[.agg #[.int .i64 id, .int .i64 al, .int .i64 ah, .slice A n c, .slice B mm d, .slice C l ee, .int .i64 t0, .int .i64 t1, .int .i64 u0, .int .i64 u1, .int .i64 v0, .int .i64 v1, .int .i64 h0, .int .i64 h1], .agg #[.int .i64 fh, .int .i64 st, .int .i64 x0, .int .i64 x1, .int .i64 d0, .int .i64 d1]] W fun e w' => e = .returned (.int .i64 0) ∧ Below W.heap.size W w') := Lib.hid fun W hW => int_to (checkFill_any ⟨id, al, ah, vol, mom, hei, t0, t1, u0, u1, v0, v1, h0, h1⟩ ⟨A, n, c, B, mm, d, C, l, ee⟩ ⟨fh, st, x0, x1, d0, d1⟩ W ⟨i1.below hW, i2.below hW, i3.below hW⟩) g1
 have C2 : Hid (∀ W, Calls Tryz.prog 80 #[rv a b] W fun e w' => e = .returned (.int .i64 0) ∧ Below W.heap.size W w') := Lib.hid fun W => int_to (checkRange_any a b W) g2
 have C3 : Hid (∀ W, Calls Tryz.prog 75 #[.agg #[.int .i64 fh, .int .i64 st, .int .i64 x0, .int .i64 x1, .int .i64 d0, .int .i64 d1]] W fun e w' => e = .returned (.agg #[fnV ja, fnV kv, fnV jc, fnV jd, fnV ks, .int .i64 pe, .int .i64 0, .int .i64 se]) ∧ Below W.heap.size W w') := Lib.hid fun W => by
  have := meaningOf_any fh st x0 x1 d0 d1 W q0 q5
  rwa [hM] at this
 have C5 : Hid (∀ W, Calls Tryz.prog 76 #[rv a b, rv d0 d1] W fun e w' => e = .returned (rv r s) ∧ Below W.heap.size W w') := Lib.hid fun W => by
  have z1 : vR a b = true := by
   unfold errR at g2
   split at g2
   ·assumption
   ·omega
  have z2 := fill_dens' g1 (by dsimp only; omega)
  have := hlitres_any a b d0 d1 W (vR_small z1) (dens_in z2)
  rwa [k2] at this
 have C6 : Hid (∀ W, Below w.heap.size w W → Calls Tryz.prog 77 #[tv A n c] W fun e w' => e = .returned (rv (firstX vol) (lastX vol)) ∧ Below W.heap.size W w') := Lib.hid fun W hW => hplaces_tab A n c vol W (i1.below hW) ht
 obtain ⟨R, hR⟩ : ∃ R, movedS vol id (max X 0) Y u (lastX vol) d0 d1 = R := ⟨_, rfl⟩
 have C9 : Hid (∀ W, Below w.heap.size w W → Calls Tryz.prog 78 #[.agg #[.int .i64 id, .int .i64 al, .int .i64 ah, .slice A n c, .slice B mm d, .slice C l ee, .int .i64 t0, .int .i64 t1, .int .i64 u0, .int .i64 u1, .int .i64 v0, .int .i64 v1, .int .i64 h0, .int .i64 h1], rv (max X 0) Y, rv u (lastX vol), rv d0 d1] W fun e w' => e = .returned (ft R) ∧ Below W.heap.size W w') := Lib.hid fun W hW => by
  rw [← hR]; exact moved_any vol id al ah t0 t1 u0 u1 v0 v1 h0 h1 A B C n c mm d l ee (max X 0) Y u (lastX vol) d0 d1 W (i1.below hW) ht hle
 rw [hR]
 clear hR g1 g2 ht hle k2 i1 i2 i3 q0 q5 hM s0
 generalize firstX vol = f0 at *
 generalize lastX vol = f1 at *
 obtain ⟨⟨ff0, ff1, ff2, ff3, ff4, ff5⟩, re⟩ := R
 go_enter Tryz.func30, Tryz.ntmps30
 go_wp2_with fail
 obtain ⟨W0, hW0⟩ : ∃ W0, ((((w.alloc (.cells #[.int .i64 id, .int .i64 al, .int .i64 ah, .slice A n c, .slice B mm d, .slice C l ee, .int .i64 t0, .int .i64 t1, .int .i64 u0, .int .i64 u1, .int .i64 v0, .int .i64 v1, .int .i64 h0, .int .i64 h1] 35)).alloc (.cells #[.int .i64 fh, .int .i64 st, .int .i64 x0, .int .i64 x1, .int .i64 d0, .int .i64 d1] 55)).alloc (.cells #[.int .i64 a, .int .i64 b] 30)).alloc (.cells #[.int .i64 0, .int .i64 0, .int .i64 0, .int .i64 0, .int .i64 0, .int .i64 0] 55)) = W0 := ⟨_, rfl⟩
 rw [hW0] at HE HK ⊢
 clear hW0
 obtain ⟨G, hG⟩ : ∃ G, w.heap.size = G := ⟨_, rfl⟩
 rw [hG] at HK ⊢
 have HG := Lib.hid hG; clear hG
 refine (C1.out _ HE.out).mono ?_
 rintro e w1 ⟨rfl, hq⟩
 have HE1 := Lib.hid (below_then HE.out hq); have HK1 := Lib.hid (HK.out.on hq)
 clear hq HE HK C1
 have m := HK1.out _ (.tail _ (.head _))
 have m0 := m.cell 0
 have m1 := m.cell 1
 simp at m0 m1
 clear m
 go_wp2_with fail
 refine (C2.out _).mono ?_
 rintro e w2 ⟨rfl, hq⟩
 have HE2 := Lib.hid (below_then HE1.out hq); have HK2 := Lib.hid (HK1.out.on hq)
 clear hq HE1 HK1 C2 m0 m1
 have m := HK2.out _ (.tail _ (.head _))
 have m0 := m.cell 0
 simp at m0
 clear m
 have f := HK2.out _ (.tail _ (.tail _ (.head _)))
 have f0 := f.cell 0
 have f1 := f.cell 1
 have f2 := f.cell 2
 have f3 := f.cell 3
 have f4 := f.cell 4
 have f5 := f.cell 5
 simp at f0 f1 f2 f3 f4 f5
 clear f
 go_wp2_with fail
 refine (C3.out _).mono ?_
 rintro e w3 ⟨rfl, hq⟩
 have HE3 := Lib.hid (below_then (below_then HE2.out hq) (below_alloc1 w3 (.cells #[fnV ja, fnV kv, fnV jc, fnV jd, fnV ks, .int .i64 pe, .int .i64 0, .int .i64 se] 123))); have HK3 := Lib.hid ((HK2.out.on hq).new 123 #[fnV ja, fnV kv, fnV jc, fnV jd, fnV ks, .int .i64 pe, .int .i64 0, .int .i64 se])
 have HD3 := Lib.hid (boxes_lt (HK2.out.on hq))
 clear hq HE2 HK2 C3 m0 f0 f1 f2 f3 f4 f5
 go_upto_region 9 with fail
 obtain ⟨W3, hW3⟩ : ∃ W3, w3.alloc (.cells #[fnV ja, fnV kv, fnV jc, fnV jd, fnV ks, .int .i64 pe, .int .i64 0, .int .i64 se] 123) = W3 := ⟨_, rfl⟩
 rw [hW3] at HE3 HK3 ⊢
 clear hW3
 obtain ⟨M, hM⟩ : ∃ M, w3.heap.size = M := ⟨_, rfl⟩
 rw [hM] at HK3 HD3 ⊢
 clear hM
 have s := HK3.out _ (.head _)
 have s6 := s.cell 6
 simp at s6
 clear s
 go_upto_region 11 with fail
 clear s6
 obtain ⟨ML, hML⟩ : ∃ ML : Array Value, #[fnV ja, fnV kv, fnV jc, fnV jd, fnV ks, .int .i64 pe, .int .i64 0, .int .i64 se] = ML := ⟨_, rfl⟩
 rw [hML] at HK3
 have HM1 : Hid (ML[1]? = some (fnV kv)) := Lib.hid (by rw [← hML]; rfl)
 have HM4 : Hid (ML[4]? = some (fnV ks)) := Lib.hid (by rw [← hML]; rfl)
 clear hML
 go_cut [10, 11] (fun s10 s11 wx => ∃ N1 N2, s10 = .pointer (some ⟨N1, 0, none⟩) ∧ s11 = .pointer (some ⟨N2, 0, none⟩) ∧ Boxes wx ((N2, 30, #[.int .i64 r, .int .i64 s]) :: (N1, 30, #[.int .i64 p, .int .i64 q]) :: ((M, 123, ML) :: [(G + 1 + 1 + 1, 55, #[.int .i64 0, .int .i64 0, .int .i64 0, .int .i64 0, .int .i64 0, .int .i64 0]), (G + 1 + 1, 30, #[.int .i64 a, .int .i64 b]), (G + 1, 55, #[.int .i64 fh, .int .i64 st, .int .i64 x0, .int .i64 x1, .int .i64 d0, .int .i64 d1]), (G, 35, #[.int .i64 id, .int .i64 al, .int .i64 ah, .slice A n c, .slice B mm d, .slice C l ee, .int .i64 t0, .int .i64 t1, .int .i64 u0, .int .i64 u1, .int .i64 v0, .int .i64 v1, .int .i64 h0, .int .i64 h1])] : List (Nat × TypeId × Array Value))) ∧ Below w.heap.size w wx ∧ G + 1 + 1 + 1 ≠ N1 ∧ G + 1 + 1 + 1 ≠ N2)
 case first =>
  rcases HKV.out with ⟨rfl, rfl⟩ | ⟨rfl, rfl⟩
  all_goals
   have hS0 : Boxes W3.drew ((M, 123, ML) :: [(G + 1 + 1 + 1, 55, #[.int .i64 0, .int .i64 0, .int .i64 0, .int .i64 0, .int .i64 0, .int .i64 0]), (G + 1 + 1, 30, #[.int .i64 a, .int .i64 b]), (G + 1, 55, #[.int .i64 fh, .int .i64 st, .int .i64 x0, .int .i64 x1, .int .i64 d0, .int .i64 d1]), (G, 35, #[.int .i64 id, .int .i64 al, .int .i64 ah, .slice A n c, .slice B mm d, .slice C l ee, .int .i64 t0, .int .i64 t1, .int .i64 u0, .int .i64 u1, .int .i64 v0, .int .i64 v1, .int .i64 h0, .int .i64 h1])] : List (Nat × TypeId × Array Value)) := HK3.out
   have HEd := Lib.hid HE3.out.drew
   have HKd := Lib.hid hS0
   refine wp_region_held_drew (S := fun w' => Boxes w' ((M, 123, ML) :: [(G + 1 + 1 + 1, 55, #[.int .i64 0, .int .i64 0, .int .i64 0, .int .i64 0, .int .i64 0, .int .i64 0]), (G + 1 + 1, 30, #[.int .i64 a, .int .i64 b]), (G + 1, 55, #[.int .i64 fh, .int .i64 st, .int .i64 x0, .int .i64 x1, .int .i64 d0, .int .i64 d1]), (G, 35, #[.int .i64 id, .int .i64 al, .int .i64 ah, .slice A n c, .slice B mm d, .slice C l ee, .int .i64 t0, .int .i64 t1, .int .i64 u0, .int .i64 u1, .int .i64 v0, .int .i64 v1, .int .i64 h0, .int .i64 h1])] : List (Nat × TypeId × Array Value))) (by kernel_rfl) hS0 (fun hHeld => ?_)
   obtain ⟨W4, hW⟩ : ∃ W', W3.drew = W' := ⟨_, rfl⟩
   rw [hW] at HEd HKd hHeld ⊢
   clear hW hS0 HE3 HK3
   refine tK 37 (i := 0) (v := .pointer (some ⟨M, 1, none⟩)) rfl rfl (by kernel_rfl) ?_ hHeld ?_
   ·intro w hSw; clear hSw; go_simp; try with_reducible rfl
   simp only [uZ, uS]
   refine wpAnyH_take (i := 1) (v := ?_) rfl (by kernel_rfl) (by kernel_rfl) (by kernel_rfl) (fun _ _ _ h => h) (Or.inl ⟨by kernel_rfl, ?_⟩) hHeld ?_
   rotate_left
   ·intro w hSw; have c1 := (hSw _ (.head _)).cell 1; rw [HM1.out] at c1; clear hSw; go_simp; try with_reducible rfl
   change wpAnyH _ _ _ _ _ _ _ (Act.put _ (some 38) _) _
   try simp only [Act.put, uA, uZ, uS]
   refine tK 39 (i := 2) (v := .agg #[.int .i64 id, .int .i64 al, .int .i64 ah, .slice A n c, .slice B mm d, .slice C l ee, .int .i64 t0, .int .i64 t1, .int .i64 u0, .int .i64 u1, .int .i64 v0, .int .i64 v1, .int .i64 h0, .int .i64 h1]) rfl rfl (by kernel_rfl) ?_ hHeld ?_
   ·intro w hSw; have hz := (hSw _ (.tail _ (.tail _ (.tail _ (.tail _ (.head _)))))); have c0 := hz.cell 0; have c1 := hz.cell 1; have c2 := hz.cell 2; have c3 := hz.cell 3; have c4 := hz.cell 4; have c5 := hz.cell 5; have c6 := hz.cell 6; have c7 := hz.cell 7; have c8 := hz.cell 8; have c9 := hz.cell 9; have c10 := hz.cell 10; have c11 := hz.cell 11; have c12 := hz.cell 12; have c13 := hz.cell 13; simp at c0 c1 c2 c3 c4 c5 c6 c7 c8 c9 c10 c11 c12 c13; clear hz hSw; go_simp; try with_reducible rfl
   simp only [uZ, uS]
   refine tK 40 (i := 3) (v := .agg #[.int .i64 fh, .int .i64 st, .int .i64 x0, .int .i64 x1, .int .i64 d0, .int .i64 d1]) rfl rfl (by kernel_rfl) ?_ hHeld ?_
   ·intro w hSw; have hz := (hSw _ (.tail _ (.tail _ (.tail _ (.head _))))); have c0 := hz.cell 0; have c1 := hz.cell 1; have c2 := hz.cell 2; have c3 := hz.cell 3; have c4 := hz.cell 4; have c5 := hz.cell 5; simp at c0 c1 c2 c3 c4 c5; clear hz hSw; go_simp; try with_reducible rfl
   simp only [uZ, uS]
   refine tK 42 (i := 5) (v := rv a b) rfl rfl (by kernel_rfl) ?_ hHeld ?_
   ·intro w hSw; have hz := (hSw _ (.tail _ (.tail _ (.head _)))); have c0 := hz.cell 0; have c1 := hz.cell 1; simp at c0 c1; clear hz hSw; go_simp; try with_reducible rfl
   simp only [uZ, uS]
   refine tK 43 (i := 6) (v := .pointer (some ⟨G + 1, 4, none⟩)) rfl rfl (by kernel_rfl) ?_ hHeld ?_
   ·intro w hSw; clear hSw; go_simp; try with_reducible rfl
   simp only [uZ, uS]
   refine tK 44 (i := 7) (v := rv d0 d1) rfl rfl (by kernel_rfl) ?_ hHeld ?_
   ·intro w hSw; have hz := (hSw _ (.tail _ (.tail _ (.tail _ (.head _))))); have c4 := hz.cell 4; have c5 := hz.cell 5; simp at c4 c5; clear hz hSw; go_simp; try with_reducible rfl
   simp only [uZ, uS]
   have HEq := HEd
   have HKq := HKd
   clear HEd HKd
   rename World => yq
   refine wpAnyH_ready (rs := [4, 9, 10]) (by kernel_rfl) (by simp) ?_
   refine AllReadyH.cons rfl (fun K hK => ?_) (AllReadyH.cons rfl (fun K hK => ?_) (AllReadyH.cons rfl (fun K hK => ?_) AllReadyH.nil))
   all_goals
    go_simp
    first
    | (
     (with_reducible refine (C4.out _ HEq.out).mono ?_)
     rintro e yn ⟨rfl, hb⟩
     have HEr := Lib.hid (below_then HEq.out hb)
     have HKr := Lib.hid (HKq.out.on hb)
     have hS := hHeld.on hb
     clear hb
     refine hK.out _ _ hS (fun hHeld2 => ?_)
     try simp only [Act.put, uA, uZ, uS]
     clear hS hK K hHeld HEq HKq
     have hHeld := hHeld2
     clear hHeld2
     have HEq := HEr
     clear HEr
     have HKq := HKr
     clear HKr
     rename World => yq)
    | (
     (with_reducible refine (C5.out _).mono ?_)
     rintro e yn ⟨rfl, hb⟩
     have HEr := Lib.hid (below_then HEq.out hb)
     have HKr := Lib.hid (HKq.out.on hb)
     have hS := hHeld.on hb
     clear hb
     refine hK.out _ _ hS (fun hHeld2 => ?_)
     try simp only [Act.put, uA, uZ, uS]
     clear hS hK K hHeld HEq HKq
     have hHeld := hHeld2
     clear hHeld2
     have HEq := HEr
     clear HEr
     have HKq := HKr
     clear HKr
     rename World => yq)
    | (
     have hNA := NA
     have HEr := Lib.hid (below_then HEq.out (below_alloc1 yq (.cells #[.int .i64 0, .int .i64 0] 30)))
     have HKr := Lib.hid (HKq.out.new 30 #[.int .i64 0, .int .i64 0])
     have hS := hHeld.on (below_alloc1 yq (.cells #[.int .i64 0, .int .i64 0] 30))
     have HDB := Lib.hid (boxes_lt HKq.out)
     have HZB := Lib.hid HEq.out.size
     refine hK.out _ _ hS (fun hHeld2 => ?_)
     try simp only [Act.put, uA, uZ, uS]
     clear hS hK K hHeld HEq HKq
     have hHeld := hHeld2
     clear hHeld2
     have HEq := HEr
     clear HEr
     have HKq := HKr
     clear HKr
     clear hNA
     obtain ⟨y2, hW⟩ : ∃ W', yq.alloc (.cells #[.int .i64 0, .int .i64 0] 30) = W' := ⟨_, rfl⟩
     rw [hW] at HEq HKq hHeld ⊢
     clear hW
     obtain ⟨NB, hN⟩ : ∃ N, yq.heap.size = N := ⟨_, rfl⟩
     rw [hN] at HKq HDB HZB ⊢
     clear hN
     rename World => yq)
    | (
     have HEr := Lib.hid (below_then HEq.out (below_alloc1 yq (.cells #[.int .i64 0, .int .i64 0] 30)))
     have HKr := Lib.hid (HKq.out.new 30 #[.int .i64 0, .int .i64 0])
     have hS := hHeld.on (below_alloc1 yq (.cells #[.int .i64 0, .int .i64 0] 30))
     have HDA := Lib.hid (boxes_lt HKq.out)
     have HZA := Lib.hid HEq.out.size
     refine hK.out _ _ hS (fun hHeld2 => ?_)
     try simp only [Act.put, uA, uZ, uS]
     clear hS hK K hHeld HEq HKq
     have hHeld := hHeld2
     clear hHeld2
     have HEq := HEr
     clear HEr
     have HKq := HKr
     clear HKr
     obtain ⟨y2, hW⟩ : ∃ W', yq.alloc (.cells #[.int .i64 0, .int .i64 0] 30) = W' := ⟨_, rfl⟩
     rw [hW] at HEq HKq hHeld ⊢
     clear hW
     obtain ⟨NA, hN⟩ : ∃ N, yq.heap.size = N := ⟨_, rfl⟩
     rw [hN] at HKq HDA HZA ⊢
     clear hN
     rename World => yq)
   refine wpAnyH_ready (rs := [8, 9, 10]) (by kernel_rfl) (by simp) ?_
   refine AllReadyH.cons rfl (fun K hK => ?_) (AllReadyH.cons rfl (fun K hK => ?_) (AllReadyH.cons rfl (fun K hK => ?_) AllReadyH.nil))
   rotate_left 3
   refine wpAnyH_ready (rs := [4, 10]) (by kernel_rfl) (by simp) ?_
   refine AllReadyH.cons rfl (fun K hK => ?_) (AllReadyH.cons rfl (fun K hK => ?_) AllReadyH.nil)
   rotate_left 2
   refine wpAnyH_ready (rs := [4, 9]) (by kernel_rfl) (by simp) ?_
   refine AllReadyH.cons rfl (fun K hK => ?_) (AllReadyH.cons rfl (fun K hK => ?_) AllReadyH.nil)
   rotate_left 2
   all_goals
    go_simp
    first
    | (
     (with_reducible refine (C4.out _ HEq.out).mono ?_)
     rintro e yn ⟨rfl, hb⟩
     have HEr := Lib.hid (below_then HEq.out hb)
     have HKr := Lib.hid (HKq.out.on hb)
     have hS := hHeld.on hb
     clear hb
     refine hK.out _ _ hS (fun hHeld2 => ?_)
     try simp only [Act.put, uA, uZ, uS]
     clear hS hK K hHeld HEq HKq
     have hHeld := hHeld2
     clear hHeld2
     have HEq := HEr
     clear HEr
     have HKq := HKr
     clear HKr
     rename World => yq)
    | (
     (with_reducible refine (C5.out _).mono ?_)
     rintro e yn ⟨rfl, hb⟩
     have HEr := Lib.hid (below_then HEq.out hb)
     have HKr := Lib.hid (HKq.out.on hb)
     have hS := hHeld.on hb
     clear hb
     refine hK.out _ _ hS (fun hHeld2 => ?_)
     try simp only [Act.put, uA, uZ, uS]
     clear hS hK K hHeld HEq HKq
     have hHeld := hHeld2
     clear hHeld2
     have HEq := HEr
     clear HEr
     have HKq := HKr
     clear HKr
     rename World => yq)
    | (
     have hNA := NA
     have HEr := Lib.hid (below_then HEq.out (below_alloc1 yq (.cells #[.int .i64 0, .int .i64 0] 30)))
     have HKr := Lib.hid (HKq.out.new 30 #[.int .i64 0, .int .i64 0])
     have hS := hHeld.on (below_alloc1 yq (.cells #[.int .i64 0, .int .i64 0] 30))
     have HDB := Lib.hid (boxes_lt HKq.out)
     have HZB := Lib.hid HEq.out.size
     refine hK.out _ _ hS (fun hHeld2 => ?_)
     try simp only [Act.put, uA, uZ, uS]
     clear hS hK K hHeld HEq HKq
     have hHeld := hHeld2
     clear hHeld2
     have HEq := HEr
     clear HEr
     have HKq := HKr
     clear HKr
     clear hNA
     obtain ⟨y2, hW⟩ : ∃ W', yq.alloc (.cells #[.int .i64 0, .int .i64 0] 30) = W' := ⟨_, rfl⟩
     rw [hW] at HEq HKq hHeld ⊢
     clear hW
     obtain ⟨NB, hN⟩ : ∃ N, yq.heap.size = N := ⟨_, rfl⟩
     rw [hN] at HKq HDB HZB ⊢
     clear hN
     rename World => yq)
    | (
     have HEr := Lib.hid (below_then HEq.out (below_alloc1 yq (.cells #[.int .i64 0, .int .i64 0] 30)))
     have HKr := Lib.hid (HKq.out.new 30 #[.int .i64 0, .int .i64 0])
     have hS := hHeld.on (below_alloc1 yq (.cells #[.int .i64 0, .int .i64 0] 30))
     have HDA := Lib.hid (boxes_lt HKq.out)
     have HZA := Lib.hid HEq.out.size
     refine hK.out _ _ hS (fun hHeld2 => ?_)
     try simp only [Act.put, uA, uZ, uS]
     clear hS hK K hHeld HEq HKq
     have hHeld := hHeld2
     clear hHeld2
     have HEq := HEr
     clear HEr
     have HKq := HKr
     clear HKr
     obtain ⟨y2, hW⟩ : ∃ W', yq.alloc (.cells #[.int .i64 0, .int .i64 0] 30) = W' := ⟨_, rfl⟩
     rw [hW] at HEq HKq hHeld ⊢
     clear hW
     obtain ⟨NA, hN⟩ : ∃ N, yq.heap.size = N := ⟨_, rfl⟩
     rw [hN] at HKq HDA HZA ⊢
     clear hN
     rename World => yq)
   refine wpAnyH_ready (rs := [9, 10]) (by kernel_rfl) (by simp) ?_
   refine AllReadyH.cons rfl (fun K hK => ?_) (AllReadyH.cons rfl (fun K hK => ?_) AllReadyH.nil)
   rotate_left 2
   refine wpAnyH_ready (rs := [8, 10]) (by kernel_rfl) (by simp) ?_
   refine AllReadyH.cons rfl (fun K hK => ?_) (AllReadyH.cons rfl (fun K hK => ?_) AllReadyH.nil)
   rotate_left 2
   refine wpAnyH_ready (rs := [8, 9]) (by kernel_rfl) (by simp) ?_
   refine AllReadyH.cons rfl (fun K hK => ?_) (AllReadyH.cons rfl (fun K hK => ?_) AllReadyH.nil)
   rotate_left 2
   refine wpAnyH_ready (rs := [8, 10]) (by kernel_rfl) (by simp) ?_
   refine AllReadyH.cons rfl (fun K hK => ?_) (AllReadyH.cons rfl (fun K hK => ?_) AllReadyH.nil)
   rotate_left 2
   refine wpAnyH_ready (rs := [4]) (by kernel_rfl) (by simp) ?_
   refine AllReadyH.cons rfl (fun K hK => ?_) AllReadyH.nil
   rotate_left 1
   refine wpAnyH_ready (rs := [8, 9]) (by kernel_rfl) (by simp) ?_
   refine AllReadyH.cons rfl (fun K hK => ?_) (AllReadyH.cons rfl (fun K hK => ?_) AllReadyH.nil)
   rotate_left 2
   refine wpAnyH_ready (rs := [4]) (by kernel_rfl) (by simp) ?_
   refine AllReadyH.cons rfl (fun K hK => ?_) AllReadyH.nil
   rotate_left 1
   all_goals
    go_simp
    first
    | (
     (with_reducible refine (C4.out _ HEq.out).mono ?_)
     rintro e yn ⟨rfl, hb⟩
     have HEr := Lib.hid (below_then HEq.out hb)
     have HKr := Lib.hid (HKq.out.on hb)
     have hS := hHeld.on hb
     clear hb
     refine hK.out _ _ hS (fun hHeld2 => ?_)
     try simp only [Act.put, uA, uZ, uS]
     clear hS hK K hHeld HEq HKq
     have hHeld := hHeld2
     clear hHeld2
     have HEq := HEr
     clear HEr
     have HKq := HKr
     clear HKr
     rename World => yq)
    | (
     (with_reducible refine (C5.out _).mono ?_)
     rintro e yn ⟨rfl, hb⟩
     have HEr := Lib.hid (below_then HEq.out hb)
     have HKr := Lib.hid (HKq.out.on hb)
     have hS := hHeld.on hb
     clear hb
     refine hK.out _ _ hS (fun hHeld2 => ?_)
     try simp only [Act.put, uA, uZ, uS]
     clear hS hK K hHeld HEq HKq
     have hHeld := hHeld2
     clear hHeld2
     have HEq := HEr
     clear HEr
     have HKq := HKr
     clear HKr
     rename World => yq)
    | (
     have hNA := NA
     have HEr := Lib.hid (below_then HEq.out (below_alloc1 yq (.cells #[.int .i64 0, .int .i64 0] 30)))
     have HKr := Lib.hid (HKq.out.new 30 #[.int .i64 0, .int .i64 0])
     have hS := hHeld.on (below_alloc1 yq (.cells #[.int .i64 0, .int .i64 0] 30))
     have HDB := Lib.hid (boxes_lt HKq.out)
     have HZB := Lib.hid HEq.out.size
     refine hK.out _ _ hS (fun hHeld2 => ?_)
     try simp only [Act.put, uA, uZ, uS]
     clear hS hK K hHeld HEq HKq
     have hHeld := hHeld2
     clear hHeld2
     have HEq := HEr
     clear HEr
     have HKq := HKr
     clear HKr
     clear hNA
     obtain ⟨y2, hW⟩ : ∃ W', yq.alloc (.cells #[.int .i64 0, .int .i64 0] 30) = W' := ⟨_, rfl⟩
     rw [hW] at HEq HKq hHeld ⊢
     clear hW
     obtain ⟨NB, hN⟩ : ∃ N, yq.heap.size = N := ⟨_, rfl⟩
     rw [hN] at HKq HDB HZB ⊢
     clear hN
     rename World => yq)
    | (
     have HEr := Lib.hid (below_then HEq.out (below_alloc1 yq (.cells #[.int .i64 0, .int .i64 0] 30)))
     have HKr := Lib.hid (HKq.out.new 30 #[.int .i64 0, .int .i64 0])
     have hS := hHeld.on (below_alloc1 yq (.cells #[.int .i64 0, .int .i64 0] 30))
     have HDA := Lib.hid (boxes_lt HKq.out)
     have HZA := Lib.hid HEq.out.size
     refine hK.out _ _ hS (fun hHeld2 => ?_)
     try simp only [Act.put, uA, uZ, uS]
     clear hS hK K hHeld HEq HKq
     have hHeld := hHeld2
     clear hHeld2
     have HEq := HEr
     clear HEr
     have HKq := HKr
     clear HKr
     obtain ⟨y2, hW⟩ : ∃ W', yq.alloc (.cells #[.int .i64 0, .int .i64 0] 30) = W' := ⟨_, rfl⟩
     rw [hW] at HEq HKq hHeld ⊢
     clear hW
     obtain ⟨NA, hN⟩ : ∃ N, yq.heap.size = N := ⟨_, rfl⟩
     rw [hN] at HKq HDA HZA ⊢
     clear hN
     rename World => yq)
   refine wpAnyH_ready (rs := [10]) (by kernel_rfl) (by simp) ?_
   refine AllReadyH.cons rfl (fun K hK => ?_) AllReadyH.nil
   rotate_left 1
   refine wpAnyH_ready (rs := [9]) (by kernel_rfl) (by simp) ?_
   refine AllReadyH.cons rfl (fun K hK => ?_) AllReadyH.nil
   rotate_left 1
   refine wpAnyH_ready (rs := [10]) (by kernel_rfl) (by simp) ?_
   refine AllReadyH.cons rfl (fun K hK => ?_) AllReadyH.nil
   rotate_left 1
   refine wpAnyH_ready (rs := [8]) (by kernel_rfl) (by simp) ?_
   refine AllReadyH.cons rfl (fun K hK => ?_) AllReadyH.nil
   rotate_left 1
   refine wpAnyH_ready (rs := [9]) (by kernel_rfl) (by simp) ?_
   refine AllReadyH.cons rfl (fun K hK => ?_) AllReadyH.nil
   rotate_left 1
   refine wpAnyH_ready (rs := [8]) (by kernel_rfl) (by simp) ?_
   refine AllReadyH.cons rfl (fun K hK => ?_) AllReadyH.nil
   rotate_left 1
   refine wpAnyH_ready (rs := [10]) (by kernel_rfl) (by simp) ?_
   refine AllReadyH.cons rfl (fun K hK => ?_) AllReadyH.nil
   rotate_left 1
   refine wpAnyH_ready (rs := [8]) (by kernel_rfl) (by simp) ?_
   refine AllReadyH.cons rfl (fun K hK => ?_) AllReadyH.nil
   rotate_left 1
   refine wpAnyH_ready (rs := [8]) (by kernel_rfl) (by simp) ?_
   refine AllReadyH.cons rfl (fun K hK => ?_) AllReadyH.nil
   rotate_left 1
   refine wpAnyH_ready (rs := [9]) (by kernel_rfl) (by simp) ?_
   refine AllReadyH.cons rfl (fun K hK => ?_) AllReadyH.nil
   rotate_left 1
   refine wpAnyH_ready (rs := [8]) (by kernel_rfl) (by simp) ?_
   refine AllReadyH.cons rfl (fun K hK => ?_) AllReadyH.nil
   rotate_left 1
   refine wpAnyH_ready (rs := [8]) (by kernel_rfl) (by simp) ?_
   refine AllReadyH.cons rfl (fun K hK => ?_) AllReadyH.nil
   rotate_left 1
   all_goals
    go_simp
    first
    | (
     (with_reducible refine (C4.out _ HEq.out).mono ?_)
     rintro e yn ⟨rfl, hb⟩
     have HEr := Lib.hid (below_then HEq.out hb)
     have HKr := Lib.hid (HKq.out.on hb)
     have hS := hHeld.on hb
     clear hb
     refine hK.out _ _ hS (fun hHeld2 => ?_)
     try simp only [Act.put, uA, uZ, uS]
     clear hS hK K hHeld HEq HKq
     have hHeld := hHeld2
     clear hHeld2
     have HEq := HEr
     clear HEr
     have HKq := HKr
     clear HKr
     rename World => yq)
    | (
     (with_reducible refine (C5.out _).mono ?_)
     rintro e yn ⟨rfl, hb⟩
     have HEr := Lib.hid (below_then HEq.out hb)
     have HKr := Lib.hid (HKq.out.on hb)
     have hS := hHeld.on hb
     clear hb
     refine hK.out _ _ hS (fun hHeld2 => ?_)
     try simp only [Act.put, uA, uZ, uS]
     clear hS hK K hHeld HEq HKq
     have hHeld := hHeld2
     clear hHeld2
     have HEq := HEr
     clear HEr
     have HKq := HKr
     clear HKr
     rename World => yq)
    | (
     have hNA := NA
     have HEr := Lib.hid (below_then HEq.out (below_alloc1 yq (.cells #[.int .i64 0, .int .i64 0] 30)))
     have HKr := Lib.hid (HKq.out.new 30 #[.int .i64 0, .int .i64 0])
     have hS := hHeld.on (below_alloc1 yq (.cells #[.int .i64 0, .int .i64 0] 30))
     have HDB := Lib.hid (boxes_lt HKq.out)
     have HZB := Lib.hid HEq.out.size
     refine hK.out _ _ hS (fun hHeld2 => ?_)
     try simp only [Act.put, uA, uZ, uS]
     clear hS hK K hHeld HEq HKq
     have hHeld := hHeld2
     clear hHeld2
     have HEq := HEr
     clear HEr
     have HKq := HKr
     clear HKr
     clear hNA
     obtain ⟨y2, hW⟩ : ∃ W', yq.alloc (.cells #[.int .i64 0, .int .i64 0] 30) = W' := ⟨_, rfl⟩
     rw [hW] at HEq HKq hHeld ⊢
     clear hW
     obtain ⟨NB, hN⟩ : ∃ N, yq.heap.size = N := ⟨_, rfl⟩
     rw [hN] at HKq HDB HZB ⊢
     clear hN
     rename World => yq)
    | (
     have HEr := Lib.hid (below_then HEq.out (below_alloc1 yq (.cells #[.int .i64 0, .int .i64 0] 30)))
     have HKr := Lib.hid (HKq.out.new 30 #[.int .i64 0, .int .i64 0])
     have hS := hHeld.on (below_alloc1 yq (.cells #[.int .i64 0, .int .i64 0] 30))
     have HDA := Lib.hid (boxes_lt HKq.out)
     have HZA := Lib.hid HEq.out.size
     refine hK.out _ _ hS (fun hHeld2 => ?_)
     try simp only [Act.put, uA, uZ, uS]
     clear hS hK K hHeld HEq HKq
     have hHeld := hHeld2
     clear hHeld2
     have HEq := HEr
     clear HEr
     have HKq := HKr
     clear HKr
     obtain ⟨y2, hW⟩ : ∃ W', yq.alloc (.cells #[.int .i64 0, .int .i64 0] 30) = W' := ⟨_, rfl⟩
     rw [hW] at HEq HKq hHeld ⊢
     clear hW
     obtain ⟨NA, hN⟩ : ∃ N, yq.heap.size = N := ⟨_, rfl⟩
     rw [hN] at HKq HDA HZA ⊢
     clear hN
     rename World => yq)
   all_goals
    first
    | (
     refine wpAnyH_ready (rs := [11]) (by kernel_rfl) (by simp) ?_
     refine AllReadyH.cons rfl (fun K hK => ?_) AllReadyH.nil
     rw [if_pos (by kernel_rfl)]
     have ne1 : ∀ zz ∈ ((NB, 30, #[.int .i64 0, .int .i64 0]) :: ((M, 123, ML) :: [(G + 1 + 1 + 1, 55, #[.int .i64 0, .int .i64 0, .int .i64 0, .int .i64 0, .int .i64 0, .int .i64 0]), (G + 1 + 1, 30, #[.int .i64 a, .int .i64 b]), (G + 1, 55, #[.int .i64 fh, .int .i64 st, .int .i64 x0, .int .i64 x1, .int .i64 d0, .int .i64 d1]), (G, 35, #[.int .i64 id, .int .i64 al, .int .i64 ah, .slice A n c, .slice B mm d, .slice C l ee, .int .i64 t0, .int .i64 t1, .int .i64 u0, .int .i64 u1, .int .i64 v0, .int .i64 v1, .int .i64 h0, .int .i64 h1])] : List (Nat × TypeId × Array Value)) : List (Nat × TypeId × Array Value)), zz.1 ≠ NA := fun x hx => (List.mem_cons.1 hx).elim (fun e => by rw [e]; have q := HDB.out _ (.head _); exact fun z => q z.symm) (fun h => HDA.out x h)
     have HK1 : Hid (Boxes (yq.setRow NA #[.int .i64 p, .int .i64 q]) ((NA, 30, #[.int .i64 p, .int .i64 q]) :: (NB, 30, #[.int .i64 0, .int .i64 0]) :: ((M, 123, ML) :: [(G + 1 + 1 + 1, 55, #[.int .i64 0, .int .i64 0, .int .i64 0, .int .i64 0, .int .i64 0, .int .i64 0]), (G + 1 + 1, 30, #[.int .i64 a, .int .i64 b]), (G + 1, 55, #[.int .i64 fh, .int .i64 st, .int .i64 x0, .int .i64 x1, .int .i64 d0, .int .i64 d1]), (G, 35, #[.int .i64 id, .int .i64 al, .int .i64 ah, .slice A n c, .slice B mm d, .slice C l ee, .int .i64 t0, .int .i64 t1, .int .i64 u0, .int .i64 u1, .int .i64 v0, .int .i64 v1, .int .i64 h0, .int .i64 h1])] : List (Nat × TypeId × Array Value)))) := Lib.hid (Boxes.row HKq.out (.tail _ (.head _)) (fun p hp => ⟨(by rcases List.mem_cons.1 hp with rfl | hp; exact .head _; exact .tail _ (.tail _ hp)), ne1 p hp⟩) #[.int .i64 p, .int .i64 q])
     have HE1 := Lib.hid (below_setRow HEq.out (show w.heap.size ≤ NA from HZA.out) #[.int .i64 p, .int .i64 q])
     have hS := hHeld.farRow (g := NA) (fun p hp => ne1 p (.tail _ hp)) #[.int .i64 p, .int .i64 q]
     refine wp_store_row 30 (.tmp 10) (.tmp 41) rfl NA #[.int .i64 p, .int .i64 q] rfl rfl 30 _ (HKq.out _ (.tail _ (.head _))) (by kernel_rfl) rfl (by kernel_rfl) ?_
     obtain ⟨y1, hW⟩ : ∃ W', yq.setRow NA #[.int .i64 p, .int .i64 q] = W' := ⟨_, rfl⟩
     rw [hW] at HE1 HK1 hS ⊢
     refine hK.out _ _ hS (fun hHeld2 => ?_)
     try simp only [Act.put, uA, uZ, uS]
     clear hW hS hK K hHeld ne1 HEq HKq
     have hHeld := hHeld2
     clear hHeld2
     refine wpAnyH_ready (rs := [12]) (by kernel_rfl) (by simp) ?_
     refine AllReadyH.cons rfl (fun K hK => ?_) AllReadyH.nil
     rw [if_pos (by kernel_rfl)]
     have ne2 : ∀ zz ∈ ((NA, 30, #[.int .i64 p, .int .i64 q]) :: ((M, 123, ML) :: [(G + 1 + 1 + 1, 55, #[.int .i64 0, .int .i64 0, .int .i64 0, .int .i64 0, .int .i64 0, .int .i64 0]), (G + 1 + 1, 30, #[.int .i64 a, .int .i64 b]), (G + 1, 55, #[.int .i64 fh, .int .i64 st, .int .i64 x0, .int .i64 x1, .int .i64 d0, .int .i64 d1]), (G, 35, #[.int .i64 id, .int .i64 al, .int .i64 ah, .slice A n c, .slice B mm d, .slice C l ee, .int .i64 t0, .int .i64 t1, .int .i64 u0, .int .i64 u1, .int .i64 v0, .int .i64 v1, .int .i64 h0, .int .i64 h1])] : List (Nat × TypeId × Array Value)) : List (Nat × TypeId × Array Value)), zz.1 ≠ NB := fun x hx => (List.mem_cons.1 hx).elim (fun e => by rw [e]; have q := HDB.out _ (.head _); exact q) (fun h => HDB.out x (.tail _ h))
     have HK2 : Hid (Boxes (y1.setRow NB #[.int .i64 r, .int .i64 s]) ((NB, 30, #[.int .i64 r, .int .i64 s]) :: (NA, 30, #[.int .i64 p, .int .i64 q]) :: ((M, 123, ML) :: [(G + 1 + 1 + 1, 55, #[.int .i64 0, .int .i64 0, .int .i64 0, .int .i64 0, .int .i64 0, .int .i64 0]), (G + 1 + 1, 30, #[.int .i64 a, .int .i64 b]), (G + 1, 55, #[.int .i64 fh, .int .i64 st, .int .i64 x0, .int .i64 x1, .int .i64 d0, .int .i64 d1]), (G, 35, #[.int .i64 id, .int .i64 al, .int .i64 ah, .slice A n c, .slice B mm d, .slice C l ee, .int .i64 t0, .int .i64 t1, .int .i64 u0, .int .i64 u1, .int .i64 v0, .int .i64 v1, .int .i64 h0, .int .i64 h1])] : List (Nat × TypeId × Array Value)))) := Lib.hid (Boxes.row HK1.out (.tail _ (.head _)) (fun p hp => ⟨(by rcases List.mem_cons.1 hp with rfl | hp; exact .head _; exact .tail _ (.tail _ hp)), ne2 p hp⟩) #[.int .i64 r, .int .i64 s])
     have HE2 := Lib.hid (below_setRow HE1.out (show w.heap.size ≤ NB from HZB.out) #[.int .i64 r, .int .i64 s])
     have hS := hHeld.farRow (g := NB) (fun p hp => ne2 p (.tail _ hp)) #[.int .i64 r, .int .i64 s]
     refine wp_store_row 30 (.tmp 11) (.tmp 45) rfl NB #[.int .i64 r, .int .i64 s] rfl rfl 30 _ (HK1.out _ (.tail _ (.head _))) (by kernel_rfl) rfl (by kernel_rfl) ?_
     obtain ⟨y2, hW⟩ : ∃ W', y1.setRow NB #[.int .i64 r, .int .i64 s] = W' := ⟨_, rfl⟩
     rw [hW] at HE2 HK2 hS ⊢
     refine hK.out _ _ hS (fun hHeld2 => ?_)
     try simp only [Act.put, uA, uZ, uS]
     clear hW hS hK K hHeld ne2 HE1 HK1
     have hHeld := hHeld2
     clear hHeld2
     refine wpAnyH_done (by kernel_rfl) ?_ _
     go_wp2_with fail
     go_meet
     exact ⟨NA, NB, rfl, rfl, HK2.out, HE2.out, HDA.out (_, _, _) (.tail _ (.head _)), HDB.out (_, _, _) (.tail _ (.tail _ (.head _)))⟩)
    | (
     refine wpAnyH_ready (rs := [11]) (by kernel_rfl) (by simp) ?_
     refine AllReadyH.cons rfl (fun K hK => ?_) AllReadyH.nil
     rw [if_pos (by kernel_rfl)]
     have ne3 : ∀ zz ∈ ((NA, 30, #[.int .i64 0, .int .i64 0]) :: ((M, 123, ML) :: [(G + 1 + 1 + 1, 55, #[.int .i64 0, .int .i64 0, .int .i64 0, .int .i64 0, .int .i64 0, .int .i64 0]), (G + 1 + 1, 30, #[.int .i64 a, .int .i64 b]), (G + 1, 55, #[.int .i64 fh, .int .i64 st, .int .i64 x0, .int .i64 x1, .int .i64 d0, .int .i64 d1]), (G, 35, #[.int .i64 id, .int .i64 al, .int .i64 ah, .slice A n c, .slice B mm d, .slice C l ee, .int .i64 t0, .int .i64 t1, .int .i64 u0, .int .i64 u1, .int .i64 v0, .int .i64 v1, .int .i64 h0, .int .i64 h1])] : List (Nat × TypeId × Array Value)) : List (Nat × TypeId × Array Value)), zz.1 ≠ NB := fun x hx => (List.mem_cons.1 hx).elim (fun e => by rw [e]; have q := HDB.out _ (.head _); exact q) (fun h => HDB.out x (.tail _ h))
     have HK3 : Hid (Boxes (yq.setRow NB #[.int .i64 p, .int .i64 q]) ((NB, 30, #[.int .i64 p, .int .i64 q]) :: (NA, 30, #[.int .i64 0, .int .i64 0]) :: ((M, 123, ML) :: [(G + 1 + 1 + 1, 55, #[.int .i64 0, .int .i64 0, .int .i64 0, .int .i64 0, .int .i64 0, .int .i64 0]), (G + 1 + 1, 30, #[.int .i64 a, .int .i64 b]), (G + 1, 55, #[.int .i64 fh, .int .i64 st, .int .i64 x0, .int .i64 x1, .int .i64 d0, .int .i64 d1]), (G, 35, #[.int .i64 id, .int .i64 al, .int .i64 ah, .slice A n c, .slice B mm d, .slice C l ee, .int .i64 t0, .int .i64 t1, .int .i64 u0, .int .i64 u1, .int .i64 v0, .int .i64 v1, .int .i64 h0, .int .i64 h1])] : List (Nat × TypeId × Array Value)))) := Lib.hid (Boxes.row HKq.out (.head _) (fun p hp => ⟨.tail _ hp, ne3 p hp⟩) #[.int .i64 p, .int .i64 q])
     have HE3 := Lib.hid (below_setRow HEq.out (show w.heap.size ≤ NB from HZB.out) #[.int .i64 p, .int .i64 q])
     have hS := hHeld.farRow (g := NB) (fun p hp => ne3 p (.tail _ hp)) #[.int .i64 p, .int .i64 q]
     refine wp_store_row 30 (.tmp 10) (.tmp 41) rfl NB #[.int .i64 p, .int .i64 q] rfl rfl 30 _ (HKq.out _ (.head _)) (by kernel_rfl) rfl (by kernel_rfl) ?_
     obtain ⟨y3, hW⟩ : ∃ W', yq.setRow NB #[.int .i64 p, .int .i64 q] = W' := ⟨_, rfl⟩
     rw [hW] at HE3 HK3 hS ⊢
     refine hK.out _ _ hS (fun hHeld2 => ?_)
     try simp only [Act.put, uA, uZ, uS]
     clear hW hS hK K hHeld ne3 HEq HKq
     have hHeld := hHeld2
     clear hHeld2
     refine wpAnyH_ready (rs := [12]) (by kernel_rfl) (by simp) ?_
     refine AllReadyH.cons rfl (fun K hK => ?_) AllReadyH.nil
     rw [if_pos (by kernel_rfl)]
     have ne4 : ∀ zz ∈ ((NB, 30, #[.int .i64 p, .int .i64 q]) :: ((M, 123, ML) :: [(G + 1 + 1 + 1, 55, #[.int .i64 0, .int .i64 0, .int .i64 0, .int .i64 0, .int .i64 0, .int .i64 0]), (G + 1 + 1, 30, #[.int .i64 a, .int .i64 b]), (G + 1, 55, #[.int .i64 fh, .int .i64 st, .int .i64 x0, .int .i64 x1, .int .i64 d0, .int .i64 d1]), (G, 35, #[.int .i64 id, .int .i64 al, .int .i64 ah, .slice A n c, .slice B mm d, .slice C l ee, .int .i64 t0, .int .i64 t1, .int .i64 u0, .int .i64 u1, .int .i64 v0, .int .i64 v1, .int .i64 h0, .int .i64 h1])] : List (Nat × TypeId × Array Value)) : List (Nat × TypeId × Array Value)), zz.1 ≠ NA := fun x hx => (List.mem_cons.1 hx).elim (fun e => by rw [e]; have q := HDB.out _ (.head _); exact fun z => q z.symm) (fun h => HDA.out x h)
     have HK4 : Hid (Boxes (y3.setRow NA #[.int .i64 r, .int .i64 s]) ((NA, 30, #[.int .i64 r, .int .i64 s]) :: (NB, 30, #[.int .i64 p, .int .i64 q]) :: ((M, 123, ML) :: [(G + 1 + 1 + 1, 55, #[.int .i64 0, .int .i64 0, .int .i64 0, .int .i64 0, .int .i64 0, .int .i64 0]), (G + 1 + 1, 30, #[.int .i64 a, .int .i64 b]), (G + 1, 55, #[.int .i64 fh, .int .i64 st, .int .i64 x0, .int .i64 x1, .int .i64 d0, .int .i64 d1]), (G, 35, #[.int .i64 id, .int .i64 al, .int .i64 ah, .slice A n c, .slice B mm d, .slice C l ee, .int .i64 t0, .int .i64 t1, .int .i64 u0, .int .i64 u1, .int .i64 v0, .int .i64 v1, .int .i64 h0, .int .i64 h1])] : List (Nat × TypeId × Array Value)))) := Lib.hid (Boxes.row HK3.out (.tail _ (.head _)) (fun p hp => ⟨(by rcases List.mem_cons.1 hp with rfl | hp; exact .head _; exact .tail _ (.tail _ hp)), ne4 p hp⟩) #[.int .i64 r, .int .i64 s])
     have HE4 := Lib.hid (below_setRow HE3.out (show w.heap.size ≤ NA from HZA.out) #[.int .i64 r, .int .i64 s])
     have hS := hHeld.farRow (g := NA) (fun p hp => ne4 p (.tail _ hp)) #[.int .i64 r, .int .i64 s]
     refine wp_store_row 30 (.tmp 11) (.tmp 45) rfl NA #[.int .i64 r, .int .i64 s] rfl rfl 30 _ (HK3.out _ (.tail _ (.head _))) (by kernel_rfl) rfl (by kernel_rfl) ?_
     obtain ⟨y4, hW⟩ : ∃ W', y3.setRow NA #[.int .i64 r, .int .i64 s] = W' := ⟨_, rfl⟩
     rw [hW] at HE4 HK4 hS ⊢
     refine hK.out _ _ hS (fun hHeld2 => ?_)
     try simp only [Act.put, uA, uZ, uS]
     clear hW hS hK K hHeld ne4 HE3 HK3
     have hHeld := hHeld2
     clear hHeld2
     refine wpAnyH_done (by kernel_rfl) ?_ _
     go_wp2_with fail
     go_meet
     exact ⟨NB, NA, rfl, rfl, HK4.out, HE4.out, HDB.out (_, _, _) (.tail _ (.tail _ (.head _))), HDA.out (_, _, _) (.tail _ (.head _))⟩)
 case rest =>
  obtain ⟨N1, N2, rfl, rfl, hB, hE, n1, n2⟩ := hcut
  have HE5 := Lib.hid hE
  have HK5 := Lib.hid hB
  have Hn1 := Lib.hid n1
  have Hn2 := Lib.hid n2
  clear hB hE n1 n2 HE3 HK3 C4 C5
  have ua := HK5.out _ (.tail _ (.head _))
  have ua0 := ua.cell 0
  have ua1 := ua.cell 1
  simp at ua0 ua1
  clear ua
  have za := HK5.out _ (.head _)
  have za0 := za.cell 0
  have za1 := za.cell 1
  simp at za0 za1
  clear za
  have HE6 := Lib.hid (below_then HE5.out (below_alloc1 wc (.cells #[.int .i64 (max X 0), .int .i64 Y] 30)))
  have HK6 := Lib.hid (HK5.out.new 30 #[.int .i64 (max X 0), .int .i64 Y])
  have HDV := Lib.hid (boxes_lt HK5.out)
  clear HE5 HK5
  go_upto_region 13 with fail
  obtain ⟨W6, hW6⟩ : ∃ W6, wc.alloc (.cells #[.int .i64 (max X 0), .int .i64 Y] 30) = W6 := ⟨_, rfl⟩
  rw [hW6] at HE6 HK6 ⊢
  clear hW6 ua0 ua1 za0 za1
  obtain ⟨V, hV⟩ : ∃ V, wc.heap.size = V := ⟨_, rfl⟩
  rw [hV] at HK6 HDV ⊢
  clear hV
  have HK6' : Hid (Boxes W6 ((V, 30, #[.int .i64 (max X 0), .int .i64 Y]) :: ((M, 123, ML) :: [(G + 1 + 1 + 1, 55, #[.int .i64 0, .int .i64 0, .int .i64 0, .int .i64 0, .int .i64 0, .int .i64 0]), (G + 1 + 1, 30, #[.int .i64 a, .int .i64 b]), (G + 1, 55, #[.int .i64 fh, .int .i64 st, .int .i64 x0, .int .i64 x1, .int .i64 d0, .int .i64 d1]), (G, 35, #[.int .i64 id, .int .i64 al, .int .i64 ah, .slice A n c, .slice B mm d, .slice C l ee, .int .i64 t0, .int .i64 t1, .int .i64 u0, .int .i64 u1, .int .i64 v0, .int .i64 v1, .int .i64 h0, .int .i64 h1])] : List (Nat × TypeId × Array Value)) : List (Nat × TypeId × Array Value))) := Lib.hid (HK6.out.sub (fun x hx => (List.mem_cons.1 hx).elim (fun e => by rw [e]; exact .head _) (fun h => .tail _ (.tail _ (.tail _ h)))))
  have HV4 := Lib.hid (HDV.out (_, _, _) (.tail _ (.tail _ (.tail _ (.head _)))))
  clear HK6 HDV
  go_cut [13] (fun s13 wx => ∃ N3, s13 = .pointer (some ⟨N3, 0, none⟩) ∧ Boxes wx ((N3, 30, #[.int .i64 u, .int .i64 f1]) :: ((V, 30, #[.int .i64 (max X 0), .int .i64 Y]) :: ((M, 123, ML) :: [(G + 1 + 1 + 1, 55, #[.int .i64 0, .int .i64 0, .int .i64 0, .int .i64 0, .int .i64 0, .int .i64 0]), (G + 1 + 1, 30, #[.int .i64 a, .int .i64 b]), (G + 1, 55, #[.int .i64 fh, .int .i64 st, .int .i64 x0, .int .i64 x1, .int .i64 d0, .int .i64 d1]), (G, 35, #[.int .i64 id, .int .i64 al, .int .i64 ah, .slice A n c, .slice B mm d, .slice C l ee, .int .i64 t0, .int .i64 t1, .int .i64 u0, .int .i64 u1, .int .i64 v0, .int .i64 v1, .int .i64 h0, .int .i64 h1])] : List (Nat × TypeId × Array Value)) : List (Nat × TypeId × Array Value))) ∧ Below w.heap.size w wx ∧ G + 1 + 1 + 1 ≠ N3)
  case first =>
   rcases HKV.out with ⟨rfl, rfl⟩ | ⟨rfl, rfl⟩
   all_goals
    have hS0 : Boxes W6.drew ((V, 30, #[.int .i64 (max X 0), .int .i64 Y]) :: ((M, 123, ML) :: [(G + 1 + 1 + 1, 55, #[.int .i64 0, .int .i64 0, .int .i64 0, .int .i64 0, .int .i64 0, .int .i64 0]), (G + 1 + 1, 30, #[.int .i64 a, .int .i64 b]), (G + 1, 55, #[.int .i64 fh, .int .i64 st, .int .i64 x0, .int .i64 x1, .int .i64 d0, .int .i64 d1]), (G, 35, #[.int .i64 id, .int .i64 al, .int .i64 ah, .slice A n c, .slice B mm d, .slice C l ee, .int .i64 t0, .int .i64 t1, .int .i64 u0, .int .i64 u1, .int .i64 v0, .int .i64 v1, .int .i64 h0, .int .i64 h1])] : List (Nat × TypeId × Array Value)) : List (Nat × TypeId × Array Value)) := HK6'.out
    have HEd := Lib.hid HE6.out.drew
    have HKd := Lib.hid hS0
    refine wp_region_held_drew (S := fun w' => Boxes w' ((V, 30, #[.int .i64 (max X 0), .int .i64 Y]) :: ((M, 123, ML) :: [(G + 1 + 1 + 1, 55, #[.int .i64 0, .int .i64 0, .int .i64 0, .int .i64 0, .int .i64 0, .int .i64 0]), (G + 1 + 1, 30, #[.int .i64 a, .int .i64 b]), (G + 1, 55, #[.int .i64 fh, .int .i64 st, .int .i64 x0, .int .i64 x1, .int .i64 d0, .int .i64 d1]), (G, 35, #[.int .i64 id, .int .i64 al, .int .i64 ah, .slice A n c, .slice B mm d, .slice C l ee, .int .i64 t0, .int .i64 t1, .int .i64 u0, .int .i64 u1, .int .i64 v0, .int .i64 v1, .int .i64 h0, .int .i64 h1])] : List (Nat × TypeId × Array Value)) : List (Nat × TypeId × Array Value))) (by kernel_rfl) hS0 (fun hHeld => ?_)
    obtain ⟨W7, hW⟩ : ∃ W', W6.drew = W' := ⟨_, rfl⟩
    rw [hW] at HEd HKd hHeld ⊢
    clear hW hS0 HE6 HK6'
    refine tK 58 (i := 0) (v := .pointer (some ⟨M, 4, none⟩)) rfl rfl (by kernel_rfl) ?_ hHeld ?_
    ·intro w hSw; clear hSw; go_simp; try with_reducible rfl
    simp only [uZ, uS]
    refine wpAnyH_take (i := 1) (v := ?_) rfl (by kernel_rfl) (by kernel_rfl) (by kernel_rfl) (fun _ _ _ h => h) (Or.inl ⟨by kernel_rfl, ?_⟩) hHeld ?_
    rotate_left
    ·intro w hSw; have c1 := (hSw _ (.tail _ (.head _))).cell 4; rw [HM4.out] at c1; clear hSw; go_simp; try with_reducible rfl
    change wpAnyH _ _ _ _ _ _ _ (Act.put _ (some 59) _) _
    try simp only [Act.put, uA, uZ, uS]
    refine tK 60 (i := 2) (v := .agg #[.int .i64 id, .int .i64 al, .int .i64 ah, .slice A n c, .slice B mm d, .slice C l ee, .int .i64 t0, .int .i64 t1, .int .i64 u0, .int .i64 u1, .int .i64 v0, .int .i64 v1, .int .i64 h0, .int .i64 h1]) rfl rfl (by kernel_rfl) ?_ hHeld ?_
    ·intro w hSw; have hz := (hSw _ (.tail _ (.tail _ (.tail _ (.tail _ (.tail _ (.head _))))))); have c0 := hz.cell 0; have c1 := hz.cell 1; have c2 := hz.cell 2; have c3 := hz.cell 3; have c4 := hz.cell 4; have c5 := hz.cell 5; have c6 := hz.cell 6; have c7 := hz.cell 7; have c8 := hz.cell 8; have c9 := hz.cell 9; have c10 := hz.cell 10; have c11 := hz.cell 11; have c12 := hz.cell 12; have c13 := hz.cell 13; simp at c0 c1 c2 c3 c4 c5 c6 c7 c8 c9 c10 c11 c12 c13; clear hz hSw; go_simp; try with_reducible rfl
    simp only [uZ, uS]
    refine tK 61 (i := 3) (v := .agg #[.int .i64 fh, .int .i64 st, .int .i64 x0, .int .i64 x1, .int .i64 d0, .int .i64 d1]) rfl rfl (by kernel_rfl) ?_ hHeld ?_
    ·intro w hSw; have hz := (hSw _ (.tail _ (.tail _ (.tail _ (.tail _ (.head _)))))); have c0 := hz.cell 0; have c1 := hz.cell 1; have c2 := hz.cell 2; have c3 := hz.cell 3; have c4 := hz.cell 4; have c5 := hz.cell 5; simp at c0 c1 c2 c3 c4 c5; clear hz hSw; go_simp; try with_reducible rfl
    simp only [uZ, uS]
    refine tK 64 (i := 6) (v := .pointer (some ⟨G, 3, none⟩)) rfl rfl (by kernel_rfl) ?_ hHeld ?_
    ·intro w hSw; clear hSw; go_simp; try with_reducible rfl
    simp only [uZ, uS]
    refine tK 65 (i := 7) (v := tv A n c) rfl rfl (by kernel_rfl) ?_ hHeld ?_
    ·intro w hSw; have hz := (hSw _ (.tail _ (.tail _ (.tail _ (.tail _ (.tail _ (.head _))))))); have c3 := hz.cell 3; simp at c3; clear hz hSw; go_simp; try with_reducible rfl
    simp only [uZ, uS]
    have HEq := HEd
    have HKq := HKd
    clear HEd HKd
    rename World => yq
    refine wpAnyH_ready (rs := [4, 11]) (by kernel_rfl) (by simp) ?_
    refine AllReadyH.cons rfl (fun K hK => ?_) (AllReadyH.cons rfl (fun K hK => ?_) AllReadyH.nil)
    all_goals
     go_simp
     first
     | (
      (with_reducible refine (C7.out _ HEq.out).mono ?_)
      rintro e yn ⟨rfl, hb⟩
      have HEr := Lib.hid (below_then HEq.out hb)
      have HKr := Lib.hid (HKq.out.on hb)
      have hS := hHeld.on hb
      clear hb
      refine hK.out _ _ hS (fun hHeld2 => ?_)
      try simp only [Act.put, uA, uZ, uS]
      clear hS hK K hHeld HEq HKq
      have hHeld := hHeld2
      clear hHeld2
      have HEq := HEr
      clear HEr
      have HKq := HKr
      clear HKr
      refine tK 63 (i := 5) (v := .int .i64 u) rfl rfl (by kernel_rfl) ?_ hHeld ?_
      ·intro w hSw; clear hSw; go_simp; try with_reducible rfl
      simp only [uZ, uS]
      rename World => yq)
     | (
      (with_reducible refine (C6.out _ HEq.out).mono ?_)
      rintro e yn ⟨rfl, hb⟩
      have HEr := Lib.hid (below_then HEq.out hb)
      have HKr := Lib.hid (HKq.out.on hb)
      have hS := hHeld.on hb
      clear hb
      refine hK.out _ _ hS (fun hHeld2 => ?_)
      try simp only [Act.put, uA, uZ, uS]
      clear hS hK K hHeld HEq HKq
      have hHeld := hHeld2
      clear hHeld2
      have HEq := HEr
      clear HEr
      have HKq := HKr
      clear HKr
      refine tK 67 (i := 9) (v := .int .i64 f1) rfl rfl (by kernel_rfl) ?_ hHeld ?_
      ·intro w hSw; clear hSw; go_simp; try with_reducible rfl
      simp only [uZ, uS]
      refine tK 68 (i := 10) (v := rv u f1) rfl rfl (by kernel_rfl) ?_ hHeld ?_
      ·intro w hSw; clear hSw; go_simp; try with_reducible rfl
      simp only [uZ, uS]
      rename World => yq)
     | (
      have HEr := Lib.hid (below_then HEq.out (below_alloc1 yq (.cells #[.int .i64 0, .int .i64 0] 30)))
      have HKr := Lib.hid (HKq.out.new 30 #[.int .i64 0, .int .i64 0])
      have hS := hHeld.on (below_alloc1 yq (.cells #[.int .i64 0, .int .i64 0] 30))
      have HDA := Lib.hid (boxes_lt HKq.out)
      have HZA := Lib.hid HEq.out.size
      refine hK.out _ _ hS (fun hHeld2 => ?_)
      try simp only [Act.put, uA, uZ, uS]
      clear hS hK K hHeld HEq HKq
      have hHeld := hHeld2
      clear hHeld2
      have HEq := HEr
      clear HEr
      have HKq := HKr
      clear HKr
      obtain ⟨y2, hW⟩ : ∃ W', yq.alloc (.cells #[.int .i64 0, .int .i64 0] 30) = W' := ⟨_, rfl⟩
      rw [hW] at HEq HKq hHeld ⊢
      clear hW
      obtain ⟨NA, hN⟩ : ∃ N, yq.heap.size = N := ⟨_, rfl⟩
      rw [hN] at HKq HDA HZA ⊢
      clear hN
      rename World => yq)
    refine wpAnyH_ready (rs := [8, 11]) (by kernel_rfl) (by simp) ?_
    refine AllReadyH.cons rfl (fun K hK => ?_) (AllReadyH.cons rfl (fun K hK => ?_) AllReadyH.nil)
    rotate_left 2
    refine wpAnyH_ready (rs := [4]) (by kernel_rfl) (by simp) ?_
    refine AllReadyH.cons rfl (fun K hK => ?_) AllReadyH.nil
    rotate_left 1
    all_goals
     go_simp
     first
     | (
      (with_reducible refine (C7.out _ HEq.out).mono ?_)
      rintro e yn ⟨rfl, hb⟩
      have HEr := Lib.hid (below_then HEq.out hb)
      have HKr := Lib.hid (HKq.out.on hb)
      have hS := hHeld.on hb
      clear hb
      refine hK.out _ _ hS (fun hHeld2 => ?_)
      try simp only [Act.put, uA, uZ, uS]
      clear hS hK K hHeld HEq HKq
      have hHeld := hHeld2
      clear hHeld2
      have HEq := HEr
      clear HEr
      have HKq := HKr
      clear HKr
      refine tK 63 (i := 5) (v := .int .i64 u) rfl rfl (by kernel_rfl) ?_ hHeld ?_
      ·intro w hSw; clear hSw; go_simp; try with_reducible rfl
      simp only [uZ, uS]
      rename World => yq)
     | (
      (with_reducible refine (C6.out _ HEq.out).mono ?_)
      rintro e yn ⟨rfl, hb⟩
      have HEr := Lib.hid (below_then HEq.out hb)
      have HKr := Lib.hid (HKq.out.on hb)
      have hS := hHeld.on hb
      clear hb
      refine hK.out _ _ hS (fun hHeld2 => ?_)
      try simp only [Act.put, uA, uZ, uS]
      clear hS hK K hHeld HEq HKq
      have hHeld := hHeld2
      clear hHeld2
      have HEq := HEr
      clear HEr
      have HKq := HKr
      clear HKr
      refine tK 67 (i := 9) (v := .int .i64 f1) rfl rfl (by kernel_rfl) ?_ hHeld ?_
      ·intro w hSw; clear hSw; go_simp; try with_reducible rfl
      simp only [uZ, uS]
      refine tK 68 (i := 10) (v := rv u f1) rfl rfl (by kernel_rfl) ?_ hHeld ?_
      ·intro w hSw; clear hSw; go_simp; try with_reducible rfl
      simp only [uZ, uS]
      rename World => yq)
     | (
      have HEr := Lib.hid (below_then HEq.out (below_alloc1 yq (.cells #[.int .i64 0, .int .i64 0] 30)))
      have HKr := Lib.hid (HKq.out.new 30 #[.int .i64 0, .int .i64 0])
      have hS := hHeld.on (below_alloc1 yq (.cells #[.int .i64 0, .int .i64 0] 30))
      have HDA := Lib.hid (boxes_lt HKq.out)
      have HZA := Lib.hid HEq.out.size
      refine hK.out _ _ hS (fun hHeld2 => ?_)
      try simp only [Act.put, uA, uZ, uS]
      clear hS hK K hHeld HEq HKq
      have hHeld := hHeld2
      clear hHeld2
      have HEq := HEr
      clear HEr
      have HKq := HKr
      clear HKr
      obtain ⟨y2, hW⟩ : ∃ W', yq.alloc (.cells #[.int .i64 0, .int .i64 0] 30) = W' := ⟨_, rfl⟩
      rw [hW] at HEq HKq hHeld ⊢
      clear hW
      obtain ⟨NA, hN⟩ : ∃ N, yq.heap.size = N := ⟨_, rfl⟩
      rw [hN] at HKq HDA HZA ⊢
      clear hN
      rename World => yq)
    refine wpAnyH_ready (rs := [11]) (by kernel_rfl) (by simp) ?_
    refine AllReadyH.cons rfl (fun K hK => ?_) AllReadyH.nil
    rotate_left 1
    refine wpAnyH_ready (rs := [8]) (by kernel_rfl) (by simp) ?_
    refine AllReadyH.cons rfl (fun K hK => ?_) AllReadyH.nil
    rotate_left 1
    refine wpAnyH_ready (rs := [8]) (by kernel_rfl) (by simp) ?_
    refine AllReadyH.cons rfl (fun K hK => ?_) AllReadyH.nil
    rotate_left 1
    all_goals
     go_simp
     first
     | (
      (with_reducible refine (C7.out _ HEq.out).mono ?_)
      rintro e yn ⟨rfl, hb⟩
      have HEr := Lib.hid (below_then HEq.out hb)
      have HKr := Lib.hid (HKq.out.on hb)
      have hS := hHeld.on hb
      clear hb
      refine hK.out _ _ hS (fun hHeld2 => ?_)
      try simp only [Act.put, uA, uZ, uS]
      clear hS hK K hHeld HEq HKq
      have hHeld := hHeld2
      clear hHeld2
      have HEq := HEr
      clear HEr
      have HKq := HKr
      clear HKr
      refine tK 63 (i := 5) (v := .int .i64 u) rfl rfl (by kernel_rfl) ?_ hHeld ?_
      ·intro w hSw; clear hSw; go_simp; try with_reducible rfl
      simp only [uZ, uS]
      rename World => yq)
     | (
      (with_reducible refine (C6.out _ HEq.out).mono ?_)
      rintro e yn ⟨rfl, hb⟩
      have HEr := Lib.hid (below_then HEq.out hb)
      have HKr := Lib.hid (HKq.out.on hb)
      have hS := hHeld.on hb
      clear hb
      refine hK.out _ _ hS (fun hHeld2 => ?_)
      try simp only [Act.put, uA, uZ, uS]
      clear hS hK K hHeld HEq HKq
      have hHeld := hHeld2
      clear hHeld2
      have HEq := HEr
      clear HEr
      have HKq := HKr
      clear HKr
      refine tK 67 (i := 9) (v := .int .i64 f1) rfl rfl (by kernel_rfl) ?_ hHeld ?_
      ·intro w hSw; clear hSw; go_simp; try with_reducible rfl
      simp only [uZ, uS]
      refine tK 68 (i := 10) (v := rv u f1) rfl rfl (by kernel_rfl) ?_ hHeld ?_
      ·intro w hSw; clear hSw; go_simp; try with_reducible rfl
      simp only [uZ, uS]
      rename World => yq)
     | (
      have HEr := Lib.hid (below_then HEq.out (below_alloc1 yq (.cells #[.int .i64 0, .int .i64 0] 30)))
      have HKr := Lib.hid (HKq.out.new 30 #[.int .i64 0, .int .i64 0])
      have hS := hHeld.on (below_alloc1 yq (.cells #[.int .i64 0, .int .i64 0] 30))
      have HDA := Lib.hid (boxes_lt HKq.out)
      have HZA := Lib.hid HEq.out.size
      refine hK.out _ _ hS (fun hHeld2 => ?_)
      try simp only [Act.put, uA, uZ, uS]
      clear hS hK K hHeld HEq HKq
      have hHeld := hHeld2
      clear hHeld2
      have HEq := HEr
      clear HEr
      have HKq := HKr
      clear HKr
      obtain ⟨y2, hW⟩ : ∃ W', yq.alloc (.cells #[.int .i64 0, .int .i64 0] 30) = W' := ⟨_, rfl⟩
      rw [hW] at HEq HKq hHeld ⊢
      clear hW
      obtain ⟨NA, hN⟩ : ∃ N, yq.heap.size = N := ⟨_, rfl⟩
      rw [hN] at HKq HDA HZA ⊢
      clear hN
      rename World => yq)
    all_goals
     first
     | (
      refine wpAnyH_ready (rs := [12]) (by kernel_rfl) (by simp) ?_
      refine AllReadyH.cons rfl (fun K hK => ?_) AllReadyH.nil
      rw [if_pos (by kernel_rfl)]
      have ne1 : ∀ zz ∈ (((V, 30, #[.int .i64 (max X 0), .int .i64 Y]) :: ((M, 123, ML) :: [(G + 1 + 1 + 1, 55, #[.int .i64 0, .int .i64 0, .int .i64 0, .int .i64 0, .int .i64 0, .int .i64 0]), (G + 1 + 1, 30, #[.int .i64 a, .int .i64 b]), (G + 1, 55, #[.int .i64 fh, .int .i64 st, .int .i64 x0, .int .i64 x1, .int .i64 d0, .int .i64 d1]), (G, 35, #[.int .i64 id, .int .i64 al, .int .i64 ah, .slice A n c, .slice B mm d, .slice C l ee, .int .i64 t0, .int .i64 t1, .int .i64 u0, .int .i64 u1, .int .i64 v0, .int .i64 v1, .int .i64 h0, .int .i64 h1])] : List (Nat × TypeId × Array Value)) : List (Nat × TypeId × Array Value)) : List (Nat × TypeId × Array Value)), zz.1 ≠ NA := HDA.out
      have HK1 : Hid (Boxes (yq.setRow NA #[.int .i64 u, .int .i64 f1]) ((NA, 30, #[.int .i64 u, .int .i64 f1]) :: ((V, 30, #[.int .i64 (max X 0), .int .i64 Y]) :: ((M, 123, ML) :: [(G + 1 + 1 + 1, 55, #[.int .i64 0, .int .i64 0, .int .i64 0, .int .i64 0, .int .i64 0, .int .i64 0]), (G + 1 + 1, 30, #[.int .i64 a, .int .i64 b]), (G + 1, 55, #[.int .i64 fh, .int .i64 st, .int .i64 x0, .int .i64 x1, .int .i64 d0, .int .i64 d1]), (G, 35, #[.int .i64 id, .int .i64 al, .int .i64 ah, .slice A n c, .slice B mm d, .slice C l ee, .int .i64 t0, .int .i64 t1, .int .i64 u0, .int .i64 u1, .int .i64 v0, .int .i64 v1, .int .i64 h0, .int .i64 h1])] : List (Nat × TypeId × Array Value)) : List (Nat × TypeId × Array Value)))) := Lib.hid (Boxes.row HKq.out (.head _) (fun p hp => ⟨.tail _ hp, ne1 p hp⟩) #[.int .i64 u, .int .i64 f1])
      have HE1 := Lib.hid (below_setRow HEq.out (show w.heap.size ≤ NA from HZA.out) #[.int .i64 u, .int .i64 f1])
      have hS := hHeld.farRow (g := NA) (fun p hp => ne1 p (hp)) #[.int .i64 u, .int .i64 f1]
      refine wp_store_row 30 (.tmp 13) (.tmp 68) rfl NA #[.int .i64 u, .int .i64 f1] rfl rfl 30 _ (HKq.out _ (.head _)) (by kernel_rfl) rfl (by kernel_rfl) ?_
      obtain ⟨y1, hW⟩ : ∃ W', yq.setRow NA #[.int .i64 u, .int .i64 f1] = W' := ⟨_, rfl⟩
      rw [hW] at HE1 HK1 hS ⊢
      refine hK.out _ _ hS (fun hHeld2 => ?_)
      try simp only [Act.put, uA, uZ, uS]
      clear hW hS hK K hHeld ne1 HEq HKq
      have hHeld := hHeld2
      clear hHeld2
      refine wpAnyH_done (by kernel_rfl) ?_ _
      go_wp2_with fail
      go_meet
      exact ⟨NA, rfl, HK1.out, HE1.out, HDA.out (_, _, _) (.tail _ (.tail _ (.head _)))⟩)
  case rest =>
   obtain ⟨N3, rfl, hB, hE, n3⟩ := hcut
   rename World => W8
   have HE8 := Lib.hid hE
   have HK8 := Lib.hid hB
   have HN3 := Lib.hid n3
   clear hB hE n3 HE6 HK6' C6 C7
   go_upto_region 14 with fail
   have sa := HK8.out _ (.tail _ (.tail _ (.tail _ (.tail _ (.tail _ (.tail _ (.head _)))))))
   have sa0 := sa.cell 0
   have sa1 := sa.cell 1
   have sa2 := sa.cell 2
   have sa3 := sa.cell 3
   have sa4 := sa.cell 4
   have sa5 := sa.cell 5
   have sa6 := sa.cell 6
   have sa7 := sa.cell 7
   have sa8 := sa.cell 8
   have sa9 := sa.cell 9
   have sa10 := sa.cell 10
   have sa11 := sa.cell 11
   have sa12 := sa.cell 12
   have sa13 := sa.cell 13
   simp at sa0 sa1 sa2 sa3 sa4 sa5 sa6 sa7 sa8 sa9 sa10 sa11 sa12 sa13
   clear sa
   have sb := HK8.out _ (.tail _ (.tail _ (.tail _ (.tail _ (.tail _ (.head _))))))
   have sb4 := sb.cell 4
   have sb5 := sb.cell 5
   simp at sb4 sb5
   clear sb
   have sc := HK8.out _ (.tail _ (.head _))
   have sc0 := sc.cell 0
   have sc1 := sc.cell 1
   simp at sc0 sc1
   clear sc
   have sd := HK8.out _ (.head _)
   have sd0 := sd.cell 0
   have sd1 := sd.cell 1
   simp at sd0 sd1
   clear sd
   refine wp_region_lit ?_
   refine wpList_plain rfl (fun K hK => ?_)
   go_simp
   refine hK _ _ ?_
   clear hK K
   refine wpList_plain rfl (fun K hK => ?_)
   go_simp
   refine hK _ _ ?_
   clear hK K
   refine wpList_plain rfl (fun K hK => ?_)
   go_simp
   refine hK _ _ ?_
   clear hK K
   refine wpList_plain rfl (fun K hK => ?_)
   go_simp
   refine hK _ _ ?_
   clear hK K
   refine wpList_plain rfl (fun K hK => ?_)
   go_simp
   refine hK _ _ ?_
   clear hK K
   refine wpList_plain rfl (fun K hK => ?_)
   go_simp
   (with_reducible refine (C9.out _ HE8.out).mono ?_)
   rintro e w9 ⟨rfl, hq⟩
   have HE9 := Lib.hid (below_then HE8.out hq); have HK9 := Lib.hid (HK8.out.on hq)
   clear hq HE8 HK8 C9 sa0 sa1 sa2 sa3 sa4 sa5 sa6 sa7 sa8 sa9 sa10 sa11 sa12 sa13 sb4 sb5 sc0 sc1 sd0 sd1
   refine hK _ _ ?_
   clear hK K
   refine wpList_plain rfl (fun K hK => ?_)
   go_simp
   refine hK _ _ ?_
   clear hK K
   refine wpList_plain rfl (fun K hK => ?_)
   go_simp
   refine hK _ _ ?_
   clear hK K
   have HKR : Hid (Blk (w9.setRow (G + 1 + 1 + 1) #[.int .i64 ff0, .int .i64 ff1, .int .i64 ff2, .int .i64 ff3, .int .i64 ff4, .int .i64 ff5]) (G + 1 + 1 + 1) 55 #[.int .i64 ff0, .int .i64 ff1, .int .i64 ff2, .int .i64 ff3, .int .i64 ff4, .int .i64 ff5]) := Lib.hid (setRow_heap w9 (G + 1 + 1 + 1) _ _ 55 _ (HK9.out _ (.tail _ (.tail _ (.tail _ (.head _))))))
   have HEX := Lib.hid (below_setRow HE9.out (show w.heap.size ≤ G + 1 + 1 + 1 by have := HG.out; omega) #[.int .i64 ff0, .int .i64 ff1, .int .i64 ff2, .int .i64 ff3, .int .i64 ff4, .int .i64 ff5])
   refine wpList_store_row rfl 55 (.tmp 6) (.tmp 75) rfl (G + 1 + 1 + 1) #[.int .i64 ff0, .int .i64 ff1, .int .i64 ff2, .int .i64 ff3, .int .i64 ff4, .int .i64 ff5] rfl rfl 55 _ (HK9.out _ (.tail _ (.tail _ (.tail _ (.head _))))) (by kernel_rfl) rfl (by kernel_rfl) ?_
   obtain ⟨W9, hW9⟩ : ∃ W9, w9.setRow (G + 1 + 1 + 1) #[.int .i64 ff0, .int .i64 ff1, .int .i64 ff2, .int .i64 ff3, .int .i64 ff4, .int .i64 ff5] = W9 := ⟨_, rfl⟩
   rw [hW9] at HKR HEX ⊢
   clear hW9
   go_wp2
   exact bodyPost_ret (v := .tuple #[.agg #[.int .i64 ff0, .int .i64 ff1, .int .i64 ff2, .int .i64 ff3, .int .i64 ff4, .int .i64 ff5], .int .i64 re]) (results_cell_tmp_row Tryz.results30 _ _ (G + 1 + 1 + 1) 55 #[.int .i64 ff0, .int .i64 ff1, .int .i64 ff2, .int .i64 ff3, .int .i64 ff4, .int .i64 ff5] (0, 0) _ _ rfl rfl HKR.out Tryz.underlying55 rfl (by kernel_rfl)) rfl ⟨rfl, HEX.out⟩
end

section
open Go.RowKit

set_option maxRecDepth 100000 in
theorem hDraw_any (h : HoldD) (m : HoldM) (f : FillD) (a b : Int) (w : World) (hi : HoldIn w h m) :
    Calls Tryz.prog 30 #[holdV h m, fillV f, rv a b] w fun e w' => e = .returned (ft (drawS h f a b)) ∧ Below w.heap.size w w' := by
  obtain ⟨R, hR⟩ : ∃ R, drawS h f a b = R := ⟨_, rfl⟩
  rw [hR]
  unfold drawS at hR
  by_cases g1 : fillErr h f = 0
  rotate_left
  · rw [if_neg g1] at hR
    subst hR
    exact hDraw_e1 h.vol h.mom h.hei h.id h.al h.ah h.t0 h.t1 h.u0 h.u1 h.v0 h.v1 h.h0 h.h1 m.A m.B m.C m.n m.c m.m m.d m.l m.e f.hold f.x0 f.x1 f.d0 f.d1 a b f.st _ w hi rfl g1
  rw [if_pos g1] at hR
  by_cases g2 : errR a b = 0
  rotate_left
  · rw [if_neg g2] at hR
    subst hR
    exact hDraw_e2 h.vol h.mom h.hei h.id h.al h.ah h.t0 h.t1 h.u0 h.u1 h.v0 h.v1 h.h0 h.h1 m.A m.B m.C m.n m.c m.m m.d m.l m.e f.hold f.x0 f.x1 f.d0 f.d1 a b f.st _ w hi g1 rfl (by unfold errR at g2 ⊢; split at g2 <;> split <;> simp_all)
  rw [if_pos g2] at hR
  by_cases g3 : a < 0
  · rw [if_pos g3] at hR
    subst hR
    exact hDraw_e3 h.vol h.mom h.hei h.id h.al h.ah h.t0 h.t1 h.u0 h.u1 h.v0 h.v1 h.h0 h.h1 m.A m.B m.C m.n m.c m.m m.d m.l m.e f.hold f.x0 f.x1 f.d0 f.d1 a b f.st w hi g1 g2 g3
  rw [if_neg g3] at hR
  obtain ⟨q0, q5⟩ := fill_state g1
  have z1 : vR a b = true := by
    unfold errR at g2
    split at g2
    · assumption
    · omega
  have hv := vol_amt g1
  have ht := hold_tab (fill_zero g1).1
  have hle := first_le_last ht
  have hd := fun s => dens_in (fill_dens' g1 s)
  obtain ⟨id, al, ah, vol, mom, hei, t0, t1, u0, u1, v0, v1, h0, h1⟩ := h
  obtain ⟨A, n, c, B, mm, d, C, l, ee⟩ := m
  obtain ⟨fh, st, x0, x1, d0, d1⟩ := f
  dsimp only at q0 q5 hR hd
  obtain ⟨⟨r, s⟩, hl⟩ : ∃ v, litresS a b d0 d1 = v := ⟨_, rfl⟩
  obtain ⟨⟨p, q⟩, hvv⟩ : ∃ v, volS ⟨id, al, ah, vol, mom, hei, t0, t1, u0, u1, v0, v1, h0, h1⟩ ⟨fh, st, x0, x1, d0, d1⟩ = v := ⟨_, rfl⟩
  rw [hl, hvv] at hR
  rw [hvv] at hv
  obtain ⟨b1, b2, b3⟩ := hv
  dsimp only at hR b1 b2 b3
  have hk : st ≠ 0 → IntKind.i64.wrap (p - s) = p - s ∧ IntKind.i64.wrap (q - r) = q - r := fun k => by
    have hs := litres_small' (vR_small z1) (hd k)
    rw [hl] at hs
    dsimp only at hs
    exact ⟨IntWalk.i64_in _ ⟨by omega, by omega⟩, IntWalk.i64_in _ ⟨by omega, by omega⟩⟩
  obtain ⟨i1, i2, i3⟩ := hi
  dsimp only at i1 i2 i3
  rcases st_cases q0 q5 with rfl | rfl | rfl | rfl | rfl | rfl
  · rw [if_pos (by omega)] at hR
    subst hR
    exact hDraw_e4 vol mom hei id al ah t0 t1 u0 u1 v0 v1 h0 h1 A B C n c mm d l ee fh x0 x1 d0 d1 a b 0 0 22 22 _ _ _ _ _ w ⟨i1, i2, i3⟩ g1 g2 g3 q0 q5 rfl (by omega)
  · rw [if_neg (by omega), if_neg (by omega)] at hR
    subst hR
    exact draw_walk vol mom hei id al ah t0 t1 u0 u1 v0 v1 h0 h1 A B C n c mm d l ee fh 1 x0 x1 d0 d1 a b p q r s _ _ _ _ 24 22 _ _ _ _ _ w ⟨i1, i2, i3⟩ g1 g2 g3 ht hle q0 q5 (by omega) rfl (.inr ⟨rfl, rfl⟩)
      (fun W _ => by have e1 : (v0, v1) = (p, q) := hvv; injection e1 with k1 k2; rw [← k1, ← k2]; exact filledVol_to id al ah t0 t1 u0 u1 v0 v1 h0 h1 A B C n c mm d l ee fh 1 x0 x1 d0 d1 W)
      (fun W hW => filledSur_to vol id al ah t0 t1 u0 u1 v0 v1 h0 h1 A B C n c mm d l ee fh 1 x0 x1 d0 d1 W (i1.below hW) ht) hl (hk (by omega)).1 (hk (by omega)).2
  · rw [if_neg (by omega), if_neg (by omega)] at hR
    subst hR
    exact draw_walk vol mom hei id al ah t0 t1 u0 u1 v0 v1 h0 h1 A B C n c mm d l ee fh 2 x0 x1 d0 d1 a b p q r s _ _ _ _ 24 22 _ _ _ _ _ w ⟨i1, i2, i3⟩ g1 g2 g3 ht hle q0 q5 (by omega) rfl (.inr ⟨rfl, rfl⟩)
      (fun W _ => by have e1 : (v0, v1) = (p, q) := hvv; injection e1 with k1 k2; rw [← k1, ← k2]; exact filledVol_to id al ah t0 t1 u0 u1 v0 v1 h0 h1 A B C n c mm d l ee fh 2 x0 x1 d0 d1 W)
      (fun W hW => filledSur_to vol id al ah t0 t1 u0 u1 v0 v1 h0 h1 A B C n c mm d l ee fh 2 x0 x1 d0 d1 W (i1.below hW) ht) hl (hk (by omega)).1 (hk (by omega)).2
  · rw [if_neg (by omega), if_pos rfl] at hR
    subst hR
    exact draw_walk vol mom hei id al ah t0 t1 u0 u1 v0 v1 h0 h1 A B C n c mm d l ee fh 3 x0 x1 d0 d1 a b p q r s _ _ _ _ 0 0 _ _ _ _ _ w ⟨i1, i2, i3⟩ g1 g2 g3 ht hle q0 q5 (by omega) rfl (.inl ⟨rfl, rfl⟩)
      (fun W hW => by have := partlyVol_to vol id al ah t0 t1 u0 u1 v0 v1 h0 h1 A B C n c mm d l ee fh 3 x0 x1 d0 d1 W (i1.below hW); have e1 : ((overS vol x0 x1).1, (overS vol x0 x1).2.1) = (p, q) := hvv; injection e1 with k1 k2; rwa [k1, k2] at this)
      (fun W hW => partlySur_to id al ah t0 t1 u0 u1 v0 v1 h0 h1 A B C n c mm d l ee fh 3 x0 x1 d0 d1 W) hl (hk (by omega)).1 (hk (by omega)).2
  · rw [if_pos (by omega)] at hR
    subst hR
    exact hDraw_e4 vol mom hei id al ah t0 t1 u0 u1 v0 v1 h0 h1 A B C n c mm d l ee fh x0 x1 d0 d1 a b 4 22 22 0 _ _ _ _ _ w ⟨i1, i2, i3⟩ g1 g2 g3 q0 q5 rfl (by omega)
  · rw [if_pos (by omega)] at hR
    subst hR
    exact hDraw_e4 vol mom hei id al ah t0 t1 u0 u1 v0 v1 h0 h1 A B C n c mm d l ee fh x0 x1 d0 d1 a b 5 22 22 0 _ _ _ _ _ w ⟨i1, i2, i3⟩ g1 g2 g3 q0 q5 rfl (by omega)
end

section
open Go.RowKit

set_option maxRecDepth 100000 in
set_option maxHeartbeats 4000000 in
theorem hPour_e1 (vol mom hei : List P3) (id al ah t0 t1 u0 u1 v0 v1 h0 h1 : Int) (A B C : Option Addr) (n c mm d l ee : Nat) (fh x0 x1 d0 d1 a b e0 e1 st E : Int) (w : World) (hi : HoldIn w ⟨id, al, ah, vol, mom, hei, t0, t1, u0, u1, v0, v1, h0, h1⟩ ⟨A, n, c, B, mm, d, C, l, ee⟩)
  (g1 : fillErr ⟨id, al, ah, vol, mom, hei, t0, t1, u0, u1, v0, v1, h0, h1⟩ ⟨fh, st, x0, x1, d0, d1⟩ = E) (gE : ¬ E = 0) :
  Calls Tryz.prog 28 #[.agg #[.int .i64 id, .int .i64 al, .int .i64 ah, .slice A n c, .slice B mm d, .slice C l ee, .int .i64 t0, .int .i64 t1, .int .i64 u0, .int .i64 u1, .int .i64 v0, .int .i64 v1, .int .i64 h0, .int .i64 h1], .agg #[.int .i64 fh, .int .i64 st, .int .i64 x0, .int .i64 x1, .int .i64 d0, .int .i64 d1], rv a b, rv e0 e1] w fun e w' => e = .returned (ft (noFill, E)) ∧ Below w.heap.size w w' := by
 have HE := Lib.hid (show Below w.heap.size w (((((w.alloc (.cells #[.int .i64 id, .int .i64 al, .int .i64 ah, .slice A n c, .slice B mm d, .slice C l ee, .int .i64 t0, .int .i64 t1, .int .i64 u0, .int .i64 u1, .int .i64 v0, .int .i64 v1, .int .i64 h0, .int .i64 h1] 35)).alloc (.cells #[.int .i64 fh, .int .i64 st, .int .i64 x0, .int .i64 x1, .int .i64 d0, .int .i64 d1] 55)).alloc (.cells #[.int .i64 a, .int .i64 b] 30)).alloc (.cells #[.int .i64 e0, .int .i64 e1] 30)).alloc (.cells #[.int .i64 0, .int .i64 0, .int .i64 0, .int .i64 0, .int .i64 0, .int .i64 0] 55)) from below_a5 (Below.refl _ _))
 have HK := Lib.hid (boxes5' w 35 55 30 30 55 #[.int .i64 id, .int .i64 al, .int .i64 ah, .slice A n c, .slice B mm d, .slice C l ee, .int .i64 t0, .int .i64 t1, .int .i64 u0, .int .i64 u1, .int .i64 v0, .int .i64 v1, .int .i64 h0, .int .i64 h1] #[.int .i64 fh, .int .i64 st, .int .i64 x0, .int .i64 x1, .int .i64 d0, .int .i64 d1] #[.int .i64 a, .int .i64 b] #[.int .i64 e0, .int .i64 e1] #[.int .i64 0, .int .i64 0, .int .i64 0, .int .i64 0, .int .i64 0, .int .i64 0])
 obtain ⟨i1, i2, i3⟩ := hi
 dsimp only at i1 i2 i3
 have C1 : Hid (∀ W, Below w.heap.size w W → Calls Tryz.prog 53 #[.agg #[.int .i64 id, .int .i64 al, .int .i64 ah, .slice A n c, .slice B mm d, .slice C l ee, .int .i64 t0, .int .i64 t1, .int .i64 u0, .int .i64 u1, .int .i64 v0, .int .i64 v1, .int .i64 h0, .int .i64 h1], .agg #[.int .i64 fh, .int .i64 st, .int .i64 x0, .int .i64 x1, .int .i64 d0, .int .i64 d1]] W fun e w' => e = .returned (.int .i64 E) ∧ Below W.heap.size W w') := Lib.hid fun W hW => int_to (checkFill_any ⟨id, al, ah, vol, mom, hei, t0, t1, u0, u1, v0, v1, h0, h1⟩ ⟨A, n, c, B, mm, d, C, l, ee⟩ ⟨fh, st, x0, x1, d0, d1⟩ W ⟨i1.below hW, i2.below hW, i3.below hW⟩) g1
 clear g1 i1 i2 i3
 go_enter Tryz.func28, Tryz.ntmps28
 go_wp2_with fail
 obtain ⟨W0, hW0⟩ : ∃ W0, (((((w.alloc (.cells #[.int .i64 id, .int .i64 al, .int .i64 ah, .slice A n c, .slice B mm d, .slice C l ee, .int .i64 t0, .int .i64 t1, .int .i64 u0, .int .i64 u1, .int .i64 v0, .int .i64 v1, .int .i64 h0, .int .i64 h1] 35)).alloc (.cells #[.int .i64 fh, .int .i64 st, .int .i64 x0, .int .i64 x1, .int .i64 d0, .int .i64 d1] 55)).alloc (.cells #[.int .i64 a, .int .i64 b] 30)).alloc (.cells #[.int .i64 e0, .int .i64 e1] 30)).alloc (.cells #[.int .i64 0, .int .i64 0, .int .i64 0, .int .i64 0, .int .i64 0, .int .i64 0] 55)) = W0 := ⟨_, rfl⟩
 rw [hW0] at HE HK ⊢
 clear hW0
 obtain ⟨G, hG⟩ : ∃ G, w.heap.size = G := ⟨_, rfl⟩
 rw [hG] at HK ⊢
 have HG := Lib.hid hG; clear hG
 refine (C1.out _ HE.out).mono ?_
 rintro e w1 ⟨rfl, hq⟩
 have HE1 := Lib.hid (below_then HE.out hq); have HK1 := Lib.hid (HK.out.on hq)
 clear hq HE HK C1
 go_upto_region 3 with fail
 refine wp_region_lit ?_
 refine wpList_plain rfl (fun K hK => ?_)
 go_simp
 refine hK _ _ ?_
 clear hK K
 refine wpList_plain rfl (fun K hK => ?_)
 go_simp
 refine hK _ _ ?_
 clear hK K
 have HKR : Hid (Blk (w1.setRow (G + 1 + 1 + 1 + 1) #[.int .i64 0, .int .i64 0, .int .i64 0, .int .i64 0, .int .i64 0, .int .i64 0]) (G + 1 + 1 + 1 + 1) 55 #[.int .i64 0, .int .i64 0, .int .i64 0, .int .i64 0, .int .i64 0, .int .i64 0]) := Lib.hid (setRow_heap w1 (G + 1 + 1 + 1 + 1) _ _ 55 _ (HK1.out _ (.head _)))
 have HE9 := Lib.hid (below_setRow HE1.out (show w.heap.size ≤ G + 1 + 1 + 1 + 1 by have := HG.out; omega) #[.int .i64 0, .int .i64 0, .int .i64 0, .int .i64 0, .int .i64 0, .int .i64 0])
 refine wpList_store_row rfl 55 (.tmp 8) (.tmp 22) rfl (G + 1 + 1 + 1 + 1) #[.int .i64 0, .int .i64 0, .int .i64 0, .int .i64 0, .int .i64 0, .int .i64 0] rfl rfl 55 _ (HK1.out _ (.head _)) (by kernel_rfl) rfl (by kernel_rfl) ?_
 obtain ⟨W9, hW9⟩ : ∃ W9, w1.setRow (G + 1 + 1 + 1 + 1) #[.int .i64 0, .int .i64 0, .int .i64 0, .int .i64 0, .int .i64 0, .int .i64 0] = W9 := ⟨_, rfl⟩
 rw [hW9] at HKR HE9 ⊢
 clear hW9
 go_wp2
 exact bodyPost_ret (v := .tuple #[.agg #[.int .i64 0, .int .i64 0, .int .i64 0, .int .i64 0, .int .i64 0, .int .i64 0], .int .i64 E]) (results_cell_tmp_row Tryz.results28 _ _ (G + 1 + 1 + 1 + 1) 55 #[.int .i64 0, .int .i64 0, .int .i64 0, .int .i64 0, .int .i64 0, .int .i64 0] (0, 0) _ _ rfl rfl HKR.out Tryz.underlying55 rfl (by kernel_rfl)) rfl ⟨rfl, HE9.out⟩

set_option maxRecDepth 100000 in
set_option maxHeartbeats 4000000 in
theorem hPour_e2 (vol mom hei : List P3) (id al ah t0 t1 u0 u1 v0 v1 h0 h1 : Int) (A B C : Option Addr) (n c mm d l ee : Nat) (fh x0 x1 d0 d1 a b e0 e1 st E : Int) (w : World) (hi : HoldIn w ⟨id, al, ah, vol, mom, hei, t0, t1, u0, u1, v0, v1, h0, h1⟩ ⟨A, n, c, B, mm, d, C, l, ee⟩)
  (g1 : fillErr ⟨id, al, ah, vol, mom, hei, t0, t1, u0, u1, v0, v1, h0, h1⟩ ⟨fh, st, x0, x1, d0, d1⟩ = 0) (g2 : massErr a b e0 e1 = E) (gE : ¬ E = 0) :
  Calls Tryz.prog 28 #[.agg #[.int .i64 id, .int .i64 al, .int .i64 ah, .slice A n c, .slice B mm d, .slice C l ee, .int .i64 t0, .int .i64 t1, .int .i64 u0, .int .i64 u1, .int .i64 v0, .int .i64 v1, .int .i64 h0, .int .i64 h1], .agg #[.int .i64 fh, .int .i64 st, .int .i64 x0, .int .i64 x1, .int .i64 d0, .int .i64 d1], rv a b, rv e0 e1] w fun e w' => e = .returned (ft (noFill, E)) ∧ Below w.heap.size w w' := by
 have HE := Lib.hid (show Below w.heap.size w (((((w.alloc (.cells #[.int .i64 id, .int .i64 al, .int .i64 ah, .slice A n c, .slice B mm d, .slice C l ee, .int .i64 t0, .int .i64 t1, .int .i64 u0, .int .i64 u1, .int .i64 v0, .int .i64 v1, .int .i64 h0, .int .i64 h1] 35)).alloc (.cells #[.int .i64 fh, .int .i64 st, .int .i64 x0, .int .i64 x1, .int .i64 d0, .int .i64 d1] 55)).alloc (.cells #[.int .i64 a, .int .i64 b] 30)).alloc (.cells #[.int .i64 e0, .int .i64 e1] 30)).alloc (.cells #[.int .i64 0, .int .i64 0, .int .i64 0, .int .i64 0, .int .i64 0, .int .i64 0] 55)) from below_a5 (Below.refl _ _))
 have HK := Lib.hid (boxes5' w 35 55 30 30 55 #[.int .i64 id, .int .i64 al, .int .i64 ah, .slice A n c, .slice B mm d, .slice C l ee, .int .i64 t0, .int .i64 t1, .int .i64 u0, .int .i64 u1, .int .i64 v0, .int .i64 v1, .int .i64 h0, .int .i64 h1] #[.int .i64 fh, .int .i64 st, .int .i64 x0, .int .i64 x1, .int .i64 d0, .int .i64 d1] #[.int .i64 a, .int .i64 b] #[.int .i64 e0, .int .i64 e1] #[.int .i64 0, .int .i64 0, .int .i64 0, .int .i64 0, .int .i64 0, .int .i64 0])
 obtain ⟨i1, i2, i3⟩ := hi
 dsimp only at i1 i2 i3
 have C1 : Hid (∀ W, Below w.heap.size w W → Calls Tryz.prog 53 #[.agg #[.int .i64 id, .int .i64 al, .int .i64 ah, .slice A n c, .slice B mm d, .slice C l ee, .int .i64 t0, .int .i64 t1, .int .i64 u0, .int .i64 u1, .int .i64 v0, .int .i64 v1, .int .i64 h0, .int .i64 h1], .agg #[.int .i64 fh, .int .i64 st, .int .i64 x0, .int .i64 x1, .int .i64 d0, .int .i64 d1]] W fun e w' => e = .returned (.int .i64 0) ∧ Below W.heap.size W w') := Lib.hid fun W hW => int_to (checkFill_any ⟨id, al, ah, vol, mom, hei, t0, t1, u0, u1, v0, v1, h0, h1⟩ ⟨A, n, c, B, mm, d, C, l, ee⟩ ⟨fh, st, x0, x1, d0, d1⟩ W ⟨i1.below hW, i2.below hW, i3.below hW⟩) g1
 have C2 : Hid (∀ W, Calls Tryz.prog 74 #[rv a b, rv e0 e1] W fun e w' => e = .returned (.int .i64 E) ∧ Below W.heap.size W w') := Lib.hid fun W => int_to (checkMass_any a b e0 e1 W) g2
 clear g1 g2 i1 i2 i3
 go_enter Tryz.func28, Tryz.ntmps28
 go_wp2_with fail
 obtain ⟨W0, hW0⟩ : ∃ W0, (((((w.alloc (.cells #[.int .i64 id, .int .i64 al, .int .i64 ah, .slice A n c, .slice B mm d, .slice C l ee, .int .i64 t0, .int .i64 t1, .int .i64 u0, .int .i64 u1, .int .i64 v0, .int .i64 v1, .int .i64 h0, .int .i64 h1] 35)).alloc (.cells #[.int .i64 fh, .int .i64 st, .int .i64 x0, .int .i64 x1, .int .i64 d0, .int .i64 d1] 55)).alloc (.cells #[.int .i64 a, .int .i64 b] 30)).alloc (.cells #[.int .i64 e0, .int .i64 e1] 30)).alloc (.cells #[.int .i64 0, .int .i64 0, .int .i64 0, .int .i64 0, .int .i64 0, .int .i64 0] 55)) = W0 := ⟨_, rfl⟩
 rw [hW0] at HE HK ⊢
 clear hW0
 obtain ⟨G, hG⟩ : ∃ G, w.heap.size = G := ⟨_, rfl⟩
 rw [hG] at HK ⊢
 have HG := Lib.hid hG; clear hG
 refine (C1.out _ HE.out).mono ?_
 rintro e w1 ⟨rfl, hq⟩
 have HE1 := Lib.hid (below_then HE.out hq); have HK1 := Lib.hid (HK.out.on hq)
 clear hq HE HK C1
 have m := HK1.out _ (.tail _ (.tail _ (.head _)))
 have m0 := m.cell 0
 have m1 := m.cell 1
 simp at m0 m1
 clear m
 have nn := HK1.out _ (.tail _ (.head _))
 have nn0 := nn.cell 0
 have nn1 := nn.cell 1
 simp at nn0 nn1
 clear nn
 go_wp2_with fail
 refine (C2.out _).mono ?_
 rintro e w2 ⟨rfl, hq⟩
 have HE2 := Lib.hid (below_then HE1.out hq); have HK2 := Lib.hid (HK1.out.on hq)
 clear hq HE1 HK1 C2 m0 m1 nn0 nn1
 have m := HK2.out _ (.tail _ (.tail _ (.head _)))
 have m0 := m.cell 0
 simp at m0
 clear m
 go_upto_region 6 with fail
 refine wp_region_lit ?_
 refine wpList_plain rfl (fun K hK => ?_)
 go_simp
 refine hK _ _ ?_
 clear hK K
 refine wpList_plain rfl (fun K hK => ?_)
 go_simp
 refine hK _ _ ?_
 clear hK K
 have HKR : Hid (Blk (w2.setRow (G + 1 + 1 + 1 + 1) #[.int .i64 0, .int .i64 0, .int .i64 0, .int .i64 0, .int .i64 0, .int .i64 0]) (G + 1 + 1 + 1 + 1) 55 #[.int .i64 0, .int .i64 0, .int .i64 0, .int .i64 0, .int .i64 0, .int .i64 0]) := Lib.hid (setRow_heap w2 (G + 1 + 1 + 1 + 1) _ _ 55 _ (HK2.out _ (.head _)))
 have HE9 := Lib.hid (below_setRow HE2.out (show w.heap.size ≤ G + 1 + 1 + 1 + 1 by have := HG.out; omega) #[.int .i64 0, .int .i64 0, .int .i64 0, .int .i64 0, .int .i64 0, .int .i64 0])
 refine wpList_store_row rfl 55 (.tmp 8) (.tmp 29) rfl (G + 1 + 1 + 1 + 1) #[.int .i64 0, .int .i64 0, .int .i64 0, .int .i64 0, .int .i64 0, .int .i64 0] rfl rfl 55 _ (HK2.out _ (.head _)) (by kernel_rfl) rfl (by kernel_rfl) ?_
 obtain ⟨W9, hW9⟩ : ∃ W9, w2.setRow (G + 1 + 1 + 1 + 1) #[.int .i64 0, .int .i64 0, .int .i64 0, .int .i64 0, .int .i64 0, .int .i64 0] = W9 := ⟨_, rfl⟩
 rw [hW9] at HKR HE9 ⊢
 clear hW9
 go_wp2
 exact bodyPost_ret (v := .tuple #[.agg #[.int .i64 0, .int .i64 0, .int .i64 0, .int .i64 0, .int .i64 0, .int .i64 0], .int .i64 E]) (results_cell_tmp_row Tryz.results28 _ _ (G + 1 + 1 + 1 + 1) 55 #[.int .i64 0, .int .i64 0, .int .i64 0, .int .i64 0, .int .i64 0, .int .i64 0] (0, 0) _ _ rfl rfl HKR.out Tryz.underlying55 rfl (by kernel_rfl)) rfl ⟨rfl, HE9.out⟩

set_option maxRecDepth 100000 in
set_option maxHeartbeats 4000000 in
theorem hPour_e3 (vol mom hei : List P3) (id al ah t0 t1 u0 u1 v0 v1 h0 h1 : Int) (A B C : Option Addr) (n c mm d l ee : Nat) (fh x0 x1 d0 d1 a b e0 e1 st : Int) (w : World) (hi : HoldIn w ⟨id, al, ah, vol, mom, hei, t0, t1, u0, u1, v0, v1, h0, h1⟩ ⟨A, n, c, B, mm, d, C, l, ee⟩)
  (g1 : fillErr ⟨id, al, ah, vol, mom, hei, t0, t1, u0, u1, v0, v1, h0, h1⟩ ⟨fh, st, x0, x1, d0, d1⟩ = 0) (g2 : massErr a b e0 e1 = 0) (g3 : a < 0) :
  Calls Tryz.prog 28 #[.agg #[.int .i64 id, .int .i64 al, .int .i64 ah, .slice A n c, .slice B mm d, .slice C l ee, .int .i64 t0, .int .i64 t1, .int .i64 u0, .int .i64 u1, .int .i64 v0, .int .i64 v1, .int .i64 h0, .int .i64 h1], .agg #[.int .i64 fh, .int .i64 st, .int .i64 x0, .int .i64 x1, .int .i64 d0, .int .i64 d1], rv a b, rv e0 e1] w fun e w' => e = .returned (ft (noFill, 1)) ∧ Below w.heap.size w w' := by
 have HE := Lib.hid (show Below w.heap.size w (((((w.alloc (.cells #[.int .i64 id, .int .i64 al, .int .i64 ah, .slice A n c, .slice B mm d, .slice C l ee, .int .i64 t0, .int .i64 t1, .int .i64 u0, .int .i64 u1, .int .i64 v0, .int .i64 v1, .int .i64 h0, .int .i64 h1] 35)).alloc (.cells #[.int .i64 fh, .int .i64 st, .int .i64 x0, .int .i64 x1, .int .i64 d0, .int .i64 d1] 55)).alloc (.cells #[.int .i64 a, .int .i64 b] 30)).alloc (.cells #[.int .i64 e0, .int .i64 e1] 30)).alloc (.cells #[.int .i64 0, .int .i64 0, .int .i64 0, .int .i64 0, .int .i64 0, .int .i64 0] 55)) from below_a5 (Below.refl _ _))
 have HK := Lib.hid (boxes5' w 35 55 30 30 55 #[.int .i64 id, .int .i64 al, .int .i64 ah, .slice A n c, .slice B mm d, .slice C l ee, .int .i64 t0, .int .i64 t1, .int .i64 u0, .int .i64 u1, .int .i64 v0, .int .i64 v1, .int .i64 h0, .int .i64 h1] #[.int .i64 fh, .int .i64 st, .int .i64 x0, .int .i64 x1, .int .i64 d0, .int .i64 d1] #[.int .i64 a, .int .i64 b] #[.int .i64 e0, .int .i64 e1] #[.int .i64 0, .int .i64 0, .int .i64 0, .int .i64 0, .int .i64 0, .int .i64 0])
 obtain ⟨i1, i2, i3⟩ := hi
 dsimp only at i1 i2 i3
 have C1 : Hid (∀ W, Below w.heap.size w W → Calls Tryz.prog 53 #[.agg #[.int .i64 id, .int .i64 al, .int .i64 ah, .slice A n c, .slice B mm d, .slice C l ee, .int .i64 t0, .int .i64 t1, .int .i64 u0, .int .i64 u1, .int .i64 v0, .int .i64 v1, .int .i64 h0, .int .i64 h1], .agg #[.int .i64 fh, .int .i64 st, .int .i64 x0, .int .i64 x1, .int .i64 d0, .int .i64 d1]] W fun e w' => e = .returned (.int .i64 0) ∧ Below W.heap.size W w') := Lib.hid fun W hW => int_to (checkFill_any ⟨id, al, ah, vol, mom, hei, t0, t1, u0, u1, v0, v1, h0, h1⟩ ⟨A, n, c, B, mm, d, C, l, ee⟩ ⟨fh, st, x0, x1, d0, d1⟩ W ⟨i1.below hW, i2.below hW, i3.below hW⟩) g1
 have C2 : Hid (∀ W, Calls Tryz.prog 74 #[rv a b, rv e0 e1] W fun e w' => e = .returned (.int .i64 0) ∧ Below W.heap.size W w') := Lib.hid fun W => int_to (checkMass_any a b e0 e1 W) g2
 clear g1 g2 i1 i2 i3
 go_enter Tryz.func28, Tryz.ntmps28
 go_wp2_with fail
 obtain ⟨W0, hW0⟩ : ∃ W0, (((((w.alloc (.cells #[.int .i64 id, .int .i64 al, .int .i64 ah, .slice A n c, .slice B mm d, .slice C l ee, .int .i64 t0, .int .i64 t1, .int .i64 u0, .int .i64 u1, .int .i64 v0, .int .i64 v1, .int .i64 h0, .int .i64 h1] 35)).alloc (.cells #[.int .i64 fh, .int .i64 st, .int .i64 x0, .int .i64 x1, .int .i64 d0, .int .i64 d1] 55)).alloc (.cells #[.int .i64 a, .int .i64 b] 30)).alloc (.cells #[.int .i64 e0, .int .i64 e1] 30)).alloc (.cells #[.int .i64 0, .int .i64 0, .int .i64 0, .int .i64 0, .int .i64 0, .int .i64 0] 55)) = W0 := ⟨_, rfl⟩
 rw [hW0] at HE HK ⊢
 clear hW0
 obtain ⟨G, hG⟩ : ∃ G, w.heap.size = G := ⟨_, rfl⟩
 rw [hG] at HK ⊢
 have HG := Lib.hid hG; clear hG
 refine (C1.out _ HE.out).mono ?_
 rintro e w1 ⟨rfl, hq⟩
 have HE1 := Lib.hid (below_then HE.out hq); have HK1 := Lib.hid (HK.out.on hq)
 clear hq HE HK C1
 have m := HK1.out _ (.tail _ (.tail _ (.head _)))
 have m0 := m.cell 0
 have m1 := m.cell 1
 simp at m0 m1
 clear m
 have nn := HK1.out _ (.tail _ (.head _))
 have nn0 := nn.cell 0
 have nn1 := nn.cell 1
 simp at nn0 nn1
 clear nn
 go_wp2_with fail
 refine (C2.out _).mono ?_
 rintro e w2 ⟨rfl, hq⟩
 have HE2 := Lib.hid (below_then HE1.out hq); have HK2 := Lib.hid (HK1.out.on hq)
 clear hq HE1 HK1 C2 m0 m1 nn0 nn1
 have m := HK2.out _ (.tail _ (.tail _ (.head _)))
 have m0 := m.cell 0
 simp at m0
 clear m
 go_upto_region 8 with fail
 refine wp_region_lit ?_
 refine wpList_plain rfl (fun K hK => ?_)
 go_simp
 refine hK _ _ ?_
 clear hK K
 have HKR : Hid (Blk (w2.setRow (G + 1 + 1 + 1 + 1) #[.int .i64 0, .int .i64 0, .int .i64 0, .int .i64 0, .int .i64 0, .int .i64 0]) (G + 1 + 1 + 1 + 1) 55 #[.int .i64 0, .int .i64 0, .int .i64 0, .int .i64 0, .int .i64 0, .int .i64 0]) := Lib.hid (setRow_heap w2 (G + 1 + 1 + 1 + 1) _ _ 55 _ (HK2.out _ (.head _)))
 have HE9 := Lib.hid (below_setRow HE2.out (show w.heap.size ≤ G + 1 + 1 + 1 + 1 by have := HG.out; omega) #[.int .i64 0, .int .i64 0, .int .i64 0, .int .i64 0, .int .i64 0, .int .i64 0])
 refine wpList_store_row rfl 55 (.tmp 8) (.tmp 34) rfl (G + 1 + 1 + 1 + 1) #[.int .i64 0, .int .i64 0, .int .i64 0, .int .i64 0, .int .i64 0, .int .i64 0] rfl rfl 55 _ (HK2.out _ (.head _)) (by kernel_rfl) rfl (by kernel_rfl) ?_
 obtain ⟨W9, hW9⟩ : ∃ W9, w2.setRow (G + 1 + 1 + 1 + 1) #[.int .i64 0, .int .i64 0, .int .i64 0, .int .i64 0, .int .i64 0, .int .i64 0] = W9 := ⟨_, rfl⟩
 rw [hW9] at HKR HE9 ⊢
 clear hW9
 go_wp2
 exact bodyPost_ret (v := .tuple #[.agg #[.int .i64 0, .int .i64 0, .int .i64 0, .int .i64 0, .int .i64 0, .int .i64 0], .int .i64 1]) (results_cell_tmp_row Tryz.results28 _ _ (G + 1 + 1 + 1 + 1) 55 #[.int .i64 0, .int .i64 0, .int .i64 0, .int .i64 0, .int .i64 0, .int .i64 0] (0, 0) _ _ rfl rfl HKR.out Tryz.underlying55 rfl (by kernel_rfl)) rfl ⟨rfl, HE9.out⟩

set_option maxRecDepth 100000 in
set_option maxHeartbeats 4000000 in
theorem hPour_e4 (vol mom hei : List P3) (id al ah t0 t1 u0 u1 v0 v1 h0 h1 : Int) (A B C : Option Addr) (n c mm d l ee : Nat) (fh x0 x1 d0 d1 a b e0 e1 st pe de se : Int) (n0 n1 n2 n3 n4 : Nat) (w : World) (hi : HoldIn w ⟨id, al, ah, vol, mom, hei, t0, t1, u0, u1, v0, v1, h0, h1⟩ ⟨A, n, c, B, mm, d, C, l, ee⟩)
  (g1 : fillErr ⟨id, al, ah, vol, mom, hei, t0, t1, u0, u1, v0, v1, h0, h1⟩ ⟨fh, st, x0, x1, d0, d1⟩ = 0) (g2 : massErr a b e0 e1 = 0) (g3 : ¬ a < 0) (q0 : 0 ≤ st) (q5 : st ≤ 5) (hM : mM st = #[fnV n0, fnV n1, fnV n2, fnV n3, fnV n4, .int .i64 pe, .int .i64 de, .int .i64 se]) (gE : ¬ pe = 0) :
  Calls Tryz.prog 28 #[.agg #[.int .i64 id, .int .i64 al, .int .i64 ah, .slice A n c, .slice B mm d, .slice C l ee, .int .i64 t0, .int .i64 t1, .int .i64 u0, .int .i64 u1, .int .i64 v0, .int .i64 v1, .int .i64 h0, .int .i64 h1], .agg #[.int .i64 fh, .int .i64 st, .int .i64 x0, .int .i64 x1, .int .i64 d0, .int .i64 d1], rv a b, rv e0 e1] w fun e w' => e = .returned (ft (noFill, pe)) ∧ Below w.heap.size w w' := by
 have HE := Lib.hid (show Below w.heap.size w (((((w.alloc (.cells #[.int .i64 id, .int .i64 al, .int .i64 ah, .slice A n c, .slice B mm d, .slice C l ee, .int .i64 t0, .int .i64 t1, .int .i64 u0, .int .i64 u1, .int .i64 v0, .int .i64 v1, .int .i64 h0, .int .i64 h1] 35)).alloc (.cells #[.int .i64 fh, .int .i64 st, .int .i64 x0, .int .i64 x1, .int .i64 d0, .int .i64 d1] 55)).alloc (.cells #[.int .i64 a, .int .i64 b] 30)).alloc (.cells #[.int .i64 e0, .int .i64 e1] 30)).alloc (.cells #[.int .i64 0, .int .i64 0, .int .i64 0, .int .i64 0, .int .i64 0, .int .i64 0] 55)) from below_a5 (Below.refl _ _))
 have HK := Lib.hid (boxes5' w 35 55 30 30 55 #[.int .i64 id, .int .i64 al, .int .i64 ah, .slice A n c, .slice B mm d, .slice C l ee, .int .i64 t0, .int .i64 t1, .int .i64 u0, .int .i64 u1, .int .i64 v0, .int .i64 v1, .int .i64 h0, .int .i64 h1] #[.int .i64 fh, .int .i64 st, .int .i64 x0, .int .i64 x1, .int .i64 d0, .int .i64 d1] #[.int .i64 a, .int .i64 b] #[.int .i64 e0, .int .i64 e1] #[.int .i64 0, .int .i64 0, .int .i64 0, .int .i64 0, .int .i64 0, .int .i64 0])
 obtain ⟨i1, i2, i3⟩ := hi
 dsimp only at i1 i2 i3
 have C1 : Hid (∀ W, Below w.heap.size w W → Calls Tryz.prog 53 #[.agg #[.int .i64 id, .int .i64 al, .int .i64 ah, .slice A n c, .slice B mm d, .slice C l ee, .int .i64 t0, .int .i64 t1, .int .i64 u0, .int .i64 u1, .int .i64 v0, .int .i64 v1, .int .i64 h0, .int .i64 h1], .agg #[.int .i64 fh, .int .i64 st, .int .i64 x0, .int .i64 x1, .int .i64 d0, .int .i64 d1]] W fun e w' => e = .returned (.int .i64 0) ∧ Below W.heap.size W w') := Lib.hid fun W hW => int_to (checkFill_any ⟨id, al, ah, vol, mom, hei, t0, t1, u0, u1, v0, v1, h0, h1⟩ ⟨A, n, c, B, mm, d, C, l, ee⟩ ⟨fh, st, x0, x1, d0, d1⟩ W ⟨i1.below hW, i2.below hW, i3.below hW⟩) g1
 have C2 : Hid (∀ W, Calls Tryz.prog 74 #[rv a b, rv e0 e1] W fun e w' => e = .returned (.int .i64 0) ∧ Below W.heap.size W w') := Lib.hid fun W => int_to (checkMass_any a b e0 e1 W) g2
 have C3 : Hid (∀ W, Calls Tryz.prog 75 #[.agg #[.int .i64 fh, .int .i64 st, .int .i64 x0, .int .i64 x1, .int .i64 d0, .int .i64 d1]] W fun e w' => e = .returned (.agg #[fnV n0, fnV n1, fnV n2, fnV n3, fnV n4, .int .i64 pe, .int .i64 de, .int .i64 se]) ∧ Below W.heap.size W w') := Lib.hid fun W => by
  have := meaningOf_any fh st x0 x1 d0 d1 W q0 q5
  rwa [hM] at this
 clear g1 g2 i1 i2 i3 q0 q5 hM
 go_enter Tryz.func28, Tryz.ntmps28
 go_wp2_with fail
 obtain ⟨W0, hW0⟩ : ∃ W0, (((((w.alloc (.cells #[.int .i64 id, .int .i64 al, .int .i64 ah, .slice A n c, .slice B mm d, .slice C l ee, .int .i64 t0, .int .i64 t1, .int .i64 u0, .int .i64 u1, .int .i64 v0, .int .i64 v1, .int .i64 h0, .int .i64 h1] 35)).alloc (.cells #[.int .i64 fh, .int .i64 st, .int .i64 x0, .int .i64 x1, .int .i64 d0, .int .i64 d1] 55)).alloc (.cells #[.int .i64 a, .int .i64 b] 30)).alloc (.cells #[.int .i64 e0, .int .i64 e1] 30)).alloc (.cells #[.int .i64 0, .int .i64 0, .int .i64 0, .int .i64 0, .int .i64 0, .int .i64 0] 55)) = W0 := ⟨_, rfl⟩
 rw [hW0] at HE HK ⊢
 clear hW0
 obtain ⟨G, hG⟩ : ∃ G, w.heap.size = G := ⟨_, rfl⟩
 rw [hG] at HK ⊢
 have HG := Lib.hid hG; clear hG
 refine (C1.out _ HE.out).mono ?_
 rintro e w1 ⟨rfl, hq⟩
 have HE1 := Lib.hid (below_then HE.out hq); have HK1 := Lib.hid (HK.out.on hq)
 clear hq HE HK C1
 have m := HK1.out _ (.tail _ (.tail _ (.head _)))
 have m0 := m.cell 0
 have m1 := m.cell 1
 simp at m0 m1
 clear m
 have nn := HK1.out _ (.tail _ (.head _))
 have nn0 := nn.cell 0
 have nn1 := nn.cell 1
 simp at nn0 nn1
 clear nn
 go_wp2_with fail
 refine (C2.out _).mono ?_
 rintro e w2 ⟨rfl, hq⟩
 have HE2 := Lib.hid (below_then HE1.out hq); have HK2 := Lib.hid (HK1.out.on hq)
 clear hq HE1 HK1 C2 m0 m1 nn0 nn1
 have m := HK2.out _ (.tail _ (.tail _ (.head _)))
 have m0 := m.cell 0
 simp at m0
 clear m
 have f := HK2.out _ (.tail _ (.tail _ (.tail _ (.head _))))
 have f0 := f.cell 0
 have f1 := f.cell 1
 have f2 := f.cell 2
 have f3 := f.cell 3
 have f4 := f.cell 4
 have f5 := f.cell 5
 simp at f0 f1 f2 f3 f4 f5
 clear f
 go_wp2_with fail
 refine (C3.out _).mono ?_
 rintro e w3 ⟨rfl, hq⟩
 have HE3 := Lib.hid (below_then (below_then HE2.out hq) (below_alloc1 w3 (.cells #[fnV n0, fnV n1, fnV n2, fnV n3, fnV n4, .int .i64 pe, .int .i64 de, .int .i64 se] 123))); have HK3 := Lib.hid ((HK2.out.on hq).new 123 #[fnV n0, fnV n1, fnV n2, fnV n3, fnV n4, .int .i64 pe, .int .i64 de, .int .i64 se])
 have HD3 := Lib.hid (boxes_lt (HK2.out.on hq))
 clear hq HE2 HK2 C3 m0 f0 f1 f2 f3 f4 f5
 go_upto_region 10 with fail
 obtain ⟨W3, hW3⟩ : ∃ W3, w3.alloc (.cells #[fnV n0, fnV n1, fnV n2, fnV n3, fnV n4, .int .i64 pe, .int .i64 de, .int .i64 se] 123) = W3 := ⟨_, rfl⟩
 rw [hW3] at HE3 HK3 ⊢
 clear hW3
 obtain ⟨M, hM⟩ : ∃ M, w3.heap.size = M := ⟨_, rfl⟩
 rw [hM] at HK3 HD3 ⊢
 clear hM
 have s := HK3.out _ (.head _)
 have s5 := s.cell 5
 simp at s5
 clear s
 go_upto_region 11 with fail
 clear s5
 have HKs : Hid (Boxes W3 [(M, 123, #[fnV n0, fnV n1, fnV n2, fnV n3, fnV n4, .int .i64 pe, .int .i64 de, .int .i64 se]), (G + 1 + 1 + 1, 30, #[.int .i64 e0, .int .i64 e1]), (G + 1 + 1, 30, #[.int .i64 a, .int .i64 b]), (G + 1, 55, #[.int .i64 fh, .int .i64 st, .int .i64 x0, .int .i64 x1, .int .i64 d0, .int .i64 d1]), (G, 35, #[.int .i64 id, .int .i64 al, .int .i64 ah, .slice A n c, .slice B mm d, .slice C l ee, .int .i64 t0, .int .i64 t1, .int .i64 u0, .int .i64 u1, .int .i64 v0, .int .i64 v1, .int .i64 h0, .int .i64 h1])]) := Lib.hid (HK3.out.sub (fun x hx => by
  simp only [List.mem_cons, List.not_mem_nil, or_false] at hx ⊢
  rcases hx with h | h | h | h | h <;> simp [h]))
 have HK9 : Hid (Blk W3 (G + 1 + 1 + 1 + 1) 55 #[.int .i64 0, .int .i64 0, .int .i64 0, .int .i64 0, .int .i64 0, .int .i64 0]) := Lib.hid (HK3.out _ (.tail _ (.head _)))
 have hne : ∀ zz ∈ ([(M, 123, #[fnV n0, fnV n1, fnV n2, fnV n3, fnV n4, .int .i64 pe, .int .i64 de, .int .i64 se]), (G + 1 + 1 + 1, 30, #[.int .i64 e0, .int .i64 e1]), (G + 1 + 1, 30, #[.int .i64 a, .int .i64 b]), (G + 1, 55, #[.int .i64 fh, .int .i64 st, .int .i64 x0, .int .i64 x1, .int .i64 d0, .int .i64 d1]), (G, 35, #[.int .i64 id, .int .i64 al, .int .i64 ah, .slice A n c, .slice B mm d, .slice C l ee, .int .i64 t0, .int .i64 t1, .int .i64 u0, .int .i64 u1, .int .i64 v0, .int .i64 v1, .int .i64 h0, .int .i64 h1])] : List (Nat × TypeId × Array Value)), zz.1 ≠ G + 1 + 1 + 1 + 1 := by
  have a1 := HD3.out (_, _, _) (.head _)
  intro zz hz
  simp only [List.mem_cons, List.not_mem_nil, or_false] at hz
  rcases hz with h | h | h | h | h <;> (rw [h]; dsimp only at a1 ⊢; omega)
 have HNE := Lib.hid hne
 clear hne HK3 HD3
 have hS0 : Boxes W3.drew [(M, 123, #[fnV n0, fnV n1, fnV n2, fnV n3, fnV n4, .int .i64 pe, .int .i64 de, .int .i64 se]), (G + 1 + 1 + 1, 30, #[.int .i64 e0, .int .i64 e1]), (G + 1 + 1, 30, #[.int .i64 a, .int .i64 b]), (G + 1, 55, #[.int .i64 fh, .int .i64 st, .int .i64 x0, .int .i64 x1, .int .i64 d0, .int .i64 d1]), (G, 35, #[.int .i64 id, .int .i64 al, .int .i64 ah, .slice A n c, .slice B mm d, .slice C l ee, .int .i64 t0, .int .i64 t1, .int .i64 u0, .int .i64 u1, .int .i64 v0, .int .i64 v1, .int .i64 h0, .int .i64 h1])] := HKs.out
 have HEd := Lib.hid HE3.out.drew
 have HKd : Hid (Blk W3.drew (G + 1 + 1 + 1 + 1) 55 #[.int .i64 0, .int .i64 0, .int .i64 0, .int .i64 0, .int .i64 0, .int .i64 0]) := Lib.hid HK9.out.drew
 refine wp_region_held_drew (S := fun w' => Boxes w' [(M, 123, #[fnV n0, fnV n1, fnV n2, fnV n3, fnV n4, .int .i64 pe, .int .i64 de, .int .i64 se]), (G + 1 + 1 + 1, 30, #[.int .i64 e0, .int .i64 e1]), (G + 1 + 1, 30, #[.int .i64 a, .int .i64 b]), (G + 1, 55, #[.int .i64 fh, .int .i64 st, .int .i64 x0, .int .i64 x1, .int .i64 d0, .int .i64 d1]), (G, 35, #[.int .i64 id, .int .i64 al, .int .i64 ah, .slice A n c, .slice B mm d, .slice C l ee, .int .i64 t0, .int .i64 t1, .int .i64 u0, .int .i64 u1, .int .i64 v0, .int .i64 v1, .int .i64 h0, .int .i64 h1])]) (by kernel_rfl) hS0 (fun hHeld => ?_)
 obtain ⟨W4, hW⟩ : ∃ W', W3.drew = W' := ⟨_, rfl⟩
 rw [hW] at HEd HKd hHeld ⊢
 clear hW hS0 HE3 HKs
 clear HK9
 refine tK 40 (i := 0) (v := .agg #[.int .i64 0, .int .i64 0, .int .i64 0, .int .i64 0, .int .i64 0, .int .i64 0]) rfl rfl (by kernel_rfl) ?_ hHeld ?_
 ·intro w hSw; clear hSw; go_simp; try with_reducible rfl
 simp only [uZ, uS]
 refine tK 41 (i := 1) (v := .pointer (some ⟨M, 5, none⟩)) rfl rfl (by kernel_rfl) ?_ hHeld ?_
 ·intro w hSw; clear hSw; go_simp; try with_reducible rfl
 simp only [uZ, uS]
 refine tK 42 (i := 2) (v := .int .i64 pe) rfl rfl (by kernel_rfl) ?_ hHeld ?_
 ·intro w hSw; have hz := (hSw _ (.head _)); have c5 := hz.cell 5; simp at c5; clear hz hSw; go_simp; try with_reducible rfl
 simp only [uZ, uS]
 refine wpAnyH_ready (rs := [3]) (by kernel_rfl) (by simp) ?_
 refine AllReadyH.cons rfl (fun K hK => ?_) AllReadyH.nil
 rw [if_pos (by kernel_rfl)]
 have HKR : Hid (Blk (W4.setRow (G + 1 + 1 + 1 + 1) #[.int .i64 0, .int .i64 0, .int .i64 0, .int .i64 0, .int .i64 0, .int .i64 0]) (G + 1 + 1 + 1 + 1) 55 #[.int .i64 0, .int .i64 0, .int .i64 0, .int .i64 0, .int .i64 0, .int .i64 0]) := Lib.hid (setRow_heap W4 (G + 1 + 1 + 1 + 1) _ _ 55 _ HKd.out)
 have HE9 := Lib.hid (below_setRow HEd.out (show w.heap.size ≤ G + 1 + 1 + 1 + 1 by have := HG.out; omega) #[.int .i64 0, .int .i64 0, .int .i64 0, .int .i64 0, .int .i64 0, .int .i64 0])
 have hS := hHeld.farRow (g := (G + 1 + 1 + 1 + 1)) HNE.out #[.int .i64 0, .int .i64 0, .int .i64 0, .int .i64 0, .int .i64 0, .int .i64 0]
 refine wp_store_row 55 (.tmp 8) (.tmp 40) rfl (G + 1 + 1 + 1 + 1) #[.int .i64 0, .int .i64 0, .int .i64 0, .int .i64 0, .int .i64 0, .int .i64 0] rfl rfl 55 _ HKd.out (by kernel_rfl) rfl (by kernel_rfl) ?_
 obtain ⟨Wz, hW⟩ : ∃ W', W4.setRow (G + 1 + 1 + 1 + 1) #[.int .i64 0, .int .i64 0, .int .i64 0, .int .i64 0, .int .i64 0, .int .i64 0] = W' := ⟨_, rfl⟩
 rw [hW] at HKR HE9 hS ⊢
 refine hK.out _ _ hS (fun hHeld2 => ?_)
 try simp only [Act.put, uA, uZ, uS]
 clear hW hS hK K hHeld HKd HEd
 have hHeld := hHeld2
 clear hHeld2
 refine tK 9 (i := 4) (v := .int .i64 pe) rfl rfl (by kernel_rfl) ?_ hHeld ?_
 ·intro w hSw; clear hSw; go_simp; try with_reducible rfl
 simp only [uZ, uS]
 refine wpAnyH_done (by kernel_rfl) ?_ _
 clear hHeld
 go_wp2
 exact bodyPost_ret (v := .tuple #[.agg #[.int .i64 0, .int .i64 0, .int .i64 0, .int .i64 0, .int .i64 0, .int .i64 0], .int .i64 pe]) (results_cell_tmp_row Tryz.results28 _ _ (G + 1 + 1 + 1 + 1) 55 #[.int .i64 0, .int .i64 0, .int .i64 0, .int .i64 0, .int .i64 0, .int .i64 0] (0, 0) _ _ rfl rfl HKR.out Tryz.underlying55 rfl (by kernel_rfl)) rfl ⟨rfl, HE9.out⟩

set_option maxRecDepth 100000 in
theorem hPour_any (h : HoldD) (m : HoldM) (f : FillD) (a b e0 e1 : Int) (w : World) (hi : HoldIn w h m) :
    Calls Tryz.prog 28 #[holdV h m, fillV f, rv a b, rv e0 e1] w fun e w' => e = .returned (ft (pourS h f a b e0 e1)) ∧ Below w.heap.size w w' := by
  obtain ⟨R, hR⟩ : ∃ R, pourS h f a b e0 e1 = R := ⟨_, rfl⟩
  rw [hR]
  unfold pourS at hR
  by_cases g1 : fillErr h f = 0
  rotate_left
  · rw [if_neg g1] at hR
    subst hR
    exact hPour_e1 h.vol h.mom h.hei h.id h.al h.ah h.t0 h.t1 h.u0 h.u1 h.v0 h.v1 h.h0 h.h1 m.A m.B m.C m.n m.c m.m m.d m.l m.e f.hold f.x0 f.x1 f.d0 f.d1 a b e0 e1 f.st _ w hi rfl g1
  rw [if_pos g1] at hR
  by_cases g2 : massErr a b e0 e1 = 0
  rotate_left
  · rw [if_neg g2] at hR
    subst hR
    exact hPour_e2 h.vol h.mom h.hei h.id h.al h.ah h.t0 h.t1 h.u0 h.u1 h.v0 h.v1 h.h0 h.h1 m.A m.B m.C m.n m.c m.m m.d m.l m.e f.hold f.x0 f.x1 f.d0 f.d1 a b e0 e1 f.st _ w hi g1 rfl g2
  rw [if_pos g2] at hR
  by_cases g3 : a < 0
  · rw [if_pos g3] at hR
    subst hR
    exact hPour_e3 h.vol h.mom h.hei h.id h.al h.ah h.t0 h.t1 h.u0 h.u1 h.v0 h.v1 h.h0 h.h1 m.A m.B m.C m.n m.c m.m m.d m.l m.e f.hold f.x0 f.x1 f.d0 f.d1 a b e0 e1 f.st w hi g1 g2 g3
  rw [if_neg g3] at hR
  obtain ⟨q0, q5⟩ := fill_state g1
  obtain ⟨z1, z2⟩ := massErr_zero g2
  have hs := litres_small' (vR_small z1) (dens_in z2)
  have hv := vol_amt g1
  have ht := hold_tab (fill_zero g1).1
  have hle := first_le_last ht
  obtain ⟨id, al, ah, vol, mom, hei, t0, t1, u0, u1, v0, v1, h0, h1⟩ := h
  obtain ⟨A, n, c, B, mm, d, C, l, ee⟩ := m
  obtain ⟨fh, st, x0, x1, d0, d1⟩ := f
  dsimp only at q0 q5 hR
  obtain ⟨⟨r, s⟩, hl⟩ : ∃ v, litresS a b e0 e1 = v := ⟨_, rfl⟩
  rw [hl] at hR hs
  obtain ⟨⟨p, q⟩, hvv⟩ : ∃ v, volS ⟨id, al, ah, vol, mom, hei, t0, t1, u0, u1, v0, v1, h0, h1⟩ ⟨fh, st, x0, x1, d0, d1⟩ = v := ⟨_, rfl⟩
  rw [hvv] at hR hv
  obtain ⟨b1, b2, b3⟩ := hv
  dsimp only at hR hs b1 b2 b3
  have k3 : IntKind.i64.wrap (p + r) = p + r := IntWalk.i64_in _ ⟨by omega, by omega⟩
  have k4 : IntKind.i64.wrap (q + s) = q + s := IntWalk.i64_in _ ⟨by omega, by omega⟩
  rcases st_cases q0 q5 with rfl | rfl | rfl | rfl | rfl | rfl
  · rw [if_neg (by omega), if_neg (by omega), if_pos rfl] at hR
    subst hR
    exact pour_walk vol mom hei id al ah t0 t1 u0 u1 v0 v1 h0 h1 A B C n c mm d l ee fh 0 x0 x1 d0 d1 a b e0 e1 p q r s _ _ (lastX vol) (lastX vol) 22 22 _ _ _ _ _ w hi g1 g2 g3 ht hle q0 q5 rfl (.inr ⟨rfl, rfl⟩)
      (fun W _ => by have e1 : ((0 : Int), (0 : Int)) = (p, q) := hvv; injection e1 with ka kb; rw [← ka, ← kb]; exact nothing_to id al ah t0 t1 u0 u1 v0 v1 h0 h1 A B C n c mm d l ee fh 0 x0 x1 d0 d1 W)
      (fun W hW => emptySur_to vol id al ah t0 t1 u0 u1 v0 v1 h0 h1 A B C n c mm d l ee fh 0 x0 x1 d0 d1 W (hi.1.below hW) ht) hl k3 k4
  · rw [if_neg (by omega), if_pos (by omega)] at hR
    subst hR
    exact hPour_e4 vol mom hei id al ah t0 t1 u0 u1 v0 v1 h0 h1 A B C n c mm d l ee fh x0 x1 d0 d1 a b e0 e1 1 24 0 22 _ _ _ _ _ w hi g1 g2 g3 q0 q5 rfl (by omega)
  · rw [if_neg (by omega), if_pos (by omega)] at hR
    subst hR
    exact hPour_e4 vol mom hei id al ah t0 t1 u0 u1 v0 v1 h0 h1 A B C n c mm d l ee fh x0 x1 d0 d1 a b e0 e1 2 24 0 22 _ _ _ _ _ w hi g1 g2 g3 q0 q5 rfl (by omega)
  · rw [if_neg (by omega), if_neg (by omega), if_neg (by omega)] at hR
    subst hR
    have k1 : overS vol x0 x1 = (p, q, 0) := by
      have e1 : ((overS vol x0 x1).1, (overS vol x0 x1).2.1) = (p, q) := hvv
      have e2 : (overS vol x0 x1).2.2 = 0 := over_ok ht (fill_place g1 (by dsimp only; omega))
      injection e1 with e3 e4
      rw [← e3, ← e4, ← e2]
    exact pour_three vol mom hei id al ah t0 t1 u0 u1 v0 v1 h0 h1 A B C n c mm d l ee fh x0 x1 d0 d1 a b e0 e1 p q r s _ _ w hi g1 g2 g3 ht hle k1 hl k3 k4
  · rw [if_pos (by omega)] at hR
    subst hR
    exact hPour_e4 vol mom hei id al ah t0 t1 u0 u1 v0 v1 h0 h1 A B C n c mm d l ee fh x0 x1 d0 d1 a b e0 e1 4 22 22 0 _ _ _ _ _ w hi g1 g2 g3 q0 q5 rfl (by omega)
  · rw [if_pos (by omega)] at hR
    subst hR
    exact hPour_e4 vol mom hei id al ah t0 t1 u0 u1 v0 v1 h0 h1 A B C n c mm d l ee fh x0 x1 d0 d1 a b e0 e1 5 22 22 0 _ _ _ _ _ w hi g1 g2 g3 q0 q5 rfl (by omega)
end

end Go.Proofs.YtemlaaipnhmcoaaGreat
