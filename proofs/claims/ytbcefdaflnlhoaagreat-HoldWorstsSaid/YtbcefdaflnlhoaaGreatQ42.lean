/- The contracts of Settle, of hold and of the specification. Their condition: the hold's tables lie in memory. -/
import Derived.Test.YtbcefdaflnlhoaaGreatQ50
import Derived.Test.YtbcefdaflnlhoaaGreatQ29
import Derived.Test.YtbcefdaflnlhoaaGreatQ09
import Derived.Test.YtbcefdaflnlhoaaGreatQ03
set_option linter.unusedVariables false
set_option linter.unusedSimpArgs false
set_option linter.constructorNameAsVariable false
namespace Go.Proofs.YtbcefdaflnlhoaaGreat

section
open Go.RowKit
theorem fieldM7 (b0 b1 b2 b3 b4 b5 b6 b7 : Value) (w : World) : (Instr.field 103 (.agg #[b0, b1, b2, b3, b4, b5, b6, b7]) 7).run Tryz.prog w = .ok b7 w := by kernel_rfl
attribute [local go_sem ↓] fieldM7 run_minI run_maxI
set_option maxRecDepth 100000 in
set_option maxHeartbeats 4000000 in
theorem hSettle_e1 (vol mom hei : List P3) (id al ah t0 t1 u0 u1 v0 v1 h0 h1 : Int) (A B C : Option Addr) (n c mm d l ee : Nat) (fh st x0 x1 d0 d1 nn : Int) (E : Int) (g1 : fillErr ⟨id, al, ah, vol, mom, hei, t0, t1, u0, u1, v0, v1, h0, h1⟩ ⟨fh, st, x0, x1, d0, d1⟩ = E) (gE : ¬ E = 0) (w : World) (hi : HoldIn w ⟨id, al, ah, vol, mom, hei, t0, t1, u0, u1, v0, v1, h0, h1⟩ ⟨A, n, c, B, mm, d, C, l, ee⟩) :
    Calls Tryz.prog 25 #[.agg #[.int .i64 id, .int .i64 al, .int .i64 ah, .slice A n c, .slice B mm d, .slice C l ee, .int .i64 t0, .int .i64 t1, .int .i64 u0, .int .i64 u1, .int .i64 v0, .int .i64 v1, .int .i64 h0, .int .i64 h1], .agg #[.int .i64 fh, .int .i64 st, .int .i64 x0, .int .i64 x1, .int .i64 d0, .int .i64 d1], .int .i64 nn] w fun e w' => e = .returned (ft (noFill, E)) ∧ Below w.heap.size w w' := by
  have HE := Lib.hid (show Below w.heap.size w (((w.alloc (.cells #[.int .i64 id, .int .i64 al, .int .i64 ah, .slice A n c, .slice B mm d, .slice C l ee, .int .i64 t0, .int .i64 t1, .int .i64 u0, .int .i64 u1, .int .i64 v0, .int .i64 v1, .int .i64 h0, .int .i64 h1] 45)).alloc (.cells #[.int .i64 fh, .int .i64 st, .int .i64 x0, .int .i64 x1, .int .i64 d0, .int .i64 d1] 47)).alloc (.cells #[.int .i64 0, .int .i64 0, .int .i64 0, .int .i64 0, .int .i64 0, .int .i64 0] 47)) from below_a3 (Below.refl _ _))
  have HK := Lib.hid (boxes3' w 45 47 47 #[.int .i64 id, .int .i64 al, .int .i64 ah, .slice A n c, .slice B mm d, .slice C l ee, .int .i64 t0, .int .i64 t1, .int .i64 u0, .int .i64 u1, .int .i64 v0, .int .i64 v1, .int .i64 h0, .int .i64 h1] #[.int .i64 fh, .int .i64 st, .int .i64 x0, .int .i64 x1, .int .i64 d0, .int .i64 d1] #[.int .i64 0, .int .i64 0, .int .i64 0, .int .i64 0, .int .i64 0, .int .i64 0])
  have C1 : Hid (∀ W, Below w.heap.size w W → Calls Tryz.prog 65 #[.agg #[.int .i64 id, .int .i64 al, .int .i64 ah, .slice A n c, .slice B mm d, .slice C l ee, .int .i64 t0, .int .i64 t1, .int .i64 u0, .int .i64 u1, .int .i64 v0, .int .i64 v1, .int .i64 h0, .int .i64 h1], .agg #[.int .i64 fh, .int .i64 st, .int .i64 x0, .int .i64 x1, .int .i64 d0, .int .i64 d1]] W fun e w' => e = .returned (.int .i64 E) ∧ Below W.heap.size W w') := Lib.hid fun W hW => int_to (checkFill_any ⟨id, al, ah, vol, mom, hei, t0, t1, u0, u1, v0, v1, h0, h1⟩ ⟨A, n, c, B, mm, d, C, l, ee⟩ ⟨fh, st, x0, x1, d0, d1⟩ W (hi.below hW)) g1
  clear g1 hi
  go_enter Tryz.func25, Tryz.ntmps25
  go_wp2_with fail
  obtain ⟨W0, hW0⟩ : ∃ W0, (((w.alloc (.cells #[.int .i64 id, .int .i64 al, .int .i64 ah, .slice A n c, .slice B mm d, .slice C l ee, .int .i64 t0, .int .i64 t1, .int .i64 u0, .int .i64 u1, .int .i64 v0, .int .i64 v1, .int .i64 h0, .int .i64 h1] 45)).alloc (.cells #[.int .i64 fh, .int .i64 st, .int .i64 x0, .int .i64 x1, .int .i64 d0, .int .i64 d1] 47)).alloc (.cells #[.int .i64 0, .int .i64 0, .int .i64 0, .int .i64 0, .int .i64 0, .int .i64 0] 47)) = W0 := ⟨_, rfl⟩
  rw [hW0] at HE HK ⊢
  clear hW0
  obtain ⟨G, hG⟩ : ∃ G, w.heap.size = G := ⟨_, rfl⟩
  rw [hG] at HK ⊢
  have HG := Lib.hid hG; clear hG
  refine (C1.out _ HE.out).mono ?_
  rintro e w1 ⟨rfl, hq⟩
  have HE1 := Lib.hid (below_then HE.out hq); have HK1 := Lib.hid (HK.out.on hq)
  clear hq HE HK C1
  go_upto_region 3 with fail
  refine wp_region_lit ?_
  refine wpList_plain rfl (fun K hK => ?_)
  go_simp
  refine hK _ _ ?_
  clear hK K
  refine wpList_plain rfl (fun K hK => ?_)
  go_simp
  refine hK _ _ ?_
  clear hK K
  have HKR : Hid (Blk (w1.setRow (G + 1 + 1) #[.int .i64 0, .int .i64 0, .int .i64 0, .int .i64 0, .int .i64 0, .int .i64 0]) (G + 1 + 1) 47 #[.int .i64 0, .int .i64 0, .int .i64 0, .int .i64 0, .int .i64 0, .int .i64 0]) := Lib.hid (setRow_heap w1 (G + 1 + 1) _ _ 47 _ (HK1.out _ (.head _)))
  have HE9 := Lib.hid (below_setRow HE1.out (show w.heap.size ≤ G + 1 + 1 by have := HG.out; omega) #[.int .i64 0, .int .i64 0, .int .i64 0, .int .i64 0, .int .i64 0, .int .i64 0])
  refine wpList_store_row rfl 47 (.tmp 6) (.tmp 15) rfl (G + 1 + 1) #[.int .i64 0, .int .i64 0, .int .i64 0, .int .i64 0, .int .i64 0, .int .i64 0] rfl rfl 47 _ (HK1.out _ (.head _)) (by kernel_rfl) rfl (by kernel_rfl) ?_
  obtain ⟨W9, hW9⟩ : ∃ W9, w1.setRow (G + 1 + 1) #[.int .i64 0, .int .i64 0, .int .i64 0, .int .i64 0, .int .i64 0, .int .i64 0] = W9 := ⟨_, rfl⟩
  rw [hW9] at HKR HE9 ⊢
  clear hW9
  go_wp2
  exact bodyPost_ret (v := .tuple #[.agg #[.int .i64 0, .int .i64 0, .int .i64 0, .int .i64 0, .int .i64 0, .int .i64 0], .int .i64 E]) (results_cell_tmp_row Tryz.results25 _ _ (G + 1 + 1) 47 #[.int .i64 0, .int .i64 0, .int .i64 0, .int .i64 0, .int .i64 0, .int .i64 0] (0, 0) _ _ rfl rfl HKR.out Tryz.underlying47 rfl (by kernel_rfl)) rfl ⟨rfl, HE9.out⟩

set_option maxRecDepth 100000 in
set_option maxHeartbeats 4000000 in
theorem hSettle_e2 (vol mom hei : List P3) (id al ah t0 t1 u0 u1 v0 v1 h0 h1 : Int) (A B C : Option Addr) (n c mm d l ee : Nat) (fh st x0 x1 d0 d1 nn : Int) (g1 : fillErr ⟨id, al, ah, vol, mom, hei, t0, t1, u0, u1, v0, v1, h0, h1⟩ ⟨fh, st, x0, x1, d0, d1⟩ = 0) (q0 : 0 ≤ st) (q2 : st ≤ 2) (w : World) (hi : HoldIn w ⟨id, al, ah, vol, mom, hei, t0, t1, u0, u1, v0, v1, h0, h1⟩ ⟨A, n, c, B, mm, d, C, l, ee⟩) :
    Calls Tryz.prog 25 #[.agg #[.int .i64 id, .int .i64 al, .int .i64 ah, .slice A n c, .slice B mm d, .slice C l ee, .int .i64 t0, .int .i64 t1, .int .i64 u0, .int .i64 u1, .int .i64 v0, .int .i64 v1, .int .i64 h0, .int .i64 h1], .agg #[.int .i64 fh, .int .i64 st, .int .i64 x0, .int .i64 x1, .int .i64 d0, .int .i64 d1], .int .i64 nn] w fun e w' => e = .returned (ft (noFill, 22)) ∧ Below w.heap.size w w' := by
  have HE := Lib.hid (show Below w.heap.size w (((w.alloc (.cells #[.int .i64 id, .int .i64 al, .int .i64 ah, .slice A n c, .slice B mm d, .slice C l ee, .int .i64 t0, .int .i64 t1, .int .i64 u0, .int .i64 u1, .int .i64 v0, .int .i64 v1, .int .i64 h0, .int .i64 h1] 45)).alloc (.cells #[.int .i64 fh, .int .i64 st, .int .i64 x0, .int .i64 x1, .int .i64 d0, .int .i64 d1] 47)).alloc (.cells #[.int .i64 0, .int .i64 0, .int .i64 0, .int .i64 0, .int .i64 0, .int .i64 0] 47)) from below_a3 (Below.refl _ _))
  have HK := Lib.hid (boxes3' w 45 47 47 #[.int .i64 id, .int .i64 al, .int .i64 ah, .slice A n c, .slice B mm d, .slice C l ee, .int .i64 t0, .int .i64 t1, .int .i64 u0, .int .i64 u1, .int .i64 v0, .int .i64 v1, .int .i64 h0, .int .i64 h1] #[.int .i64 fh, .int .i64 st, .int .i64 x0, .int .i64 x1, .int .i64 d0, .int .i64 d1] #[.int .i64 0, .int .i64 0, .int .i64 0, .int .i64 0, .int .i64 0, .int .i64 0])
  have C1 : Hid (∀ W, Below w.heap.size w W → Calls Tryz.prog 65 #[.agg #[.int .i64 id, .int .i64 al, .int .i64 ah, .slice A n c, .slice B mm d, .slice C l ee, .int .i64 t0, .int .i64 t1, .int .i64 u0, .int .i64 u1, .int .i64 v0, .int .i64 v1, .int .i64 h0, .int .i64 h1], .agg #[.int .i64 fh, .int .i64 st, .int .i64 x0, .int .i64 x1, .int .i64 d0, .int .i64 d1]] W fun e w' => e = .returned (.int .i64 0) ∧ Below W.heap.size W w') := Lib.hid fun W hW => int_to (checkFill_any ⟨id, al, ah, vol, mom, hei, t0, t1, u0, u1, v0, v1, h0, h1⟩ ⟨A, n, c, B, mm, d, C, l, ee⟩ ⟨fh, st, x0, x1, d0, d1⟩ W (hi.below hW)) g1
  obtain ⟨b0, b1, b2, b3, b4, b5, b6, hM⟩ : ∃ b0 b1 b2 b3 b4 b5 b6, mM st = #[b0, b1, b2, b3, b4, b5, b6, .int .i64 22] := by
    have q : st = 0 ∨ st = 1 ∨ st = 2 := by omega
    rcases q with rfl | rfl | rfl <;> exact ⟨_, _, _, _, _, _, _, rfl⟩
  have C2 : Hid (∀ W, Calls Tryz.prog 66 #[.agg #[.int .i64 fh, .int .i64 st, .int .i64 x0, .int .i64 x1, .int .i64 d0, .int .i64 d1]] W fun e w' => e = .returned (.agg #[b0, b1, b2, b3, b4, b5, b6, .int .i64 22]) ∧ Below W.heap.size W w') := Lib.hid fun W => by
    have := meaningOf_any fh st x0 x1 d0 d1 W (by omega) (by omega)
    rwa [hM] at this
  clear g1 hi q0 q2 hM
  go_enter Tryz.func25, Tryz.ntmps25
  go_wp2_with fail
  obtain ⟨W0, hW0⟩ : ∃ W0, (((w.alloc (.cells #[.int .i64 id, .int .i64 al, .int .i64 ah, .slice A n c, .slice B mm d, .slice C l ee, .int .i64 t0, .int .i64 t1, .int .i64 u0, .int .i64 u1, .int .i64 v0, .int .i64 v1, .int .i64 h0, .int .i64 h1] 45)).alloc (.cells #[.int .i64 fh, .int .i64 st, .int .i64 x0, .int .i64 x1, .int .i64 d0, .int .i64 d1] 47)).alloc (.cells #[.int .i64 0, .int .i64 0, .int .i64 0, .int .i64 0, .int .i64 0, .int .i64 0] 47)) = W0 := ⟨_, rfl⟩
  rw [hW0] at HE HK ⊢
  clear hW0
  obtain ⟨G, hG⟩ : ∃ G, w.heap.size = G := ⟨_, rfl⟩
  rw [hG] at HK ⊢
  have HG := Lib.hid hG; clear hG
  refine (C1.out _ HE.out).mono ?_
  rintro e w1 ⟨rfl, hq⟩
  have HE1 := Lib.hid (below_then HE.out hq); have HK1 := Lib.hid (HK.out.on hq)
  clear hq HE HK C1
  have fa := HK1.out _ (.tail _ (.head _))
  have fa0 := fa.cell 0
  have fa1 := fa.cell 1
  have fa2 := fa.cell 2
  have fa3 := fa.cell 3
  have fa4 := fa.cell 4
  have fa5 := fa.cell 5
  simp at fa0 fa1 fa2 fa3 fa4 fa5
  clear fa
  go_wp2_with fail
  refine (C2.out _).mono ?_
  rintro e w2 ⟨rfl, hq⟩
  have HE2 := Lib.hid (below_then HE1.out hq); have HK2 := Lib.hid (HK1.out.on hq)
  clear hq HE1 HK1 C2 fa0 fa1 fa2 fa3 fa4 fa5
  go_upto_region 6 with fail
  refine wp_region_lit ?_
  refine wpList_plain rfl (fun K hK => ?_)
  go_simp
  refine hK _ _ ?_
  clear hK K
  refine wpList_plain rfl (fun K hK => ?_)
  go_simp
  refine hK _ _ ?_
  clear hK K
  have HKR : Hid (Blk (w2.setRow (G + 1 + 1) #[.int .i64 0, .int .i64 0, .int .i64 0, .int .i64 0, .int .i64 0, .int .i64 0]) (G + 1 + 1) 47 #[.int .i64 0, .int .i64 0, .int .i64 0, .int .i64 0, .int .i64 0, .int .i64 0]) := Lib.hid (setRow_heap w2 (G + 1 + 1) _ _ 47 _ (HK2.out _ (.head _)))
  have HE9 := Lib.hid (below_setRow HE2.out (show w.heap.size ≤ G + 1 + 1 by have := HG.out; omega) #[.int .i64 0, .int .i64 0, .int .i64 0, .int .i64 0, .int .i64 0, .int .i64 0])
  refine wpList_store_row rfl 47 (.tmp 6) (.tmp 22) rfl (G + 1 + 1) #[.int .i64 0, .int .i64 0, .int .i64 0, .int .i64 0, .int .i64 0, .int .i64 0] rfl rfl 47 _ (HK2.out _ (.head _)) (by kernel_rfl) rfl (by kernel_rfl) ?_
  obtain ⟨W9, hW9⟩ : ∃ W9, w2.setRow (G + 1 + 1) #[.int .i64 0, .int .i64 0, .int .i64 0, .int .i64 0, .int .i64 0, .int .i64 0] = W9 := ⟨_, rfl⟩
  rw [hW9] at HKR HE9 ⊢
  clear hW9
  go_wp2
  exact bodyPost_ret (v := .tuple #[.agg #[.int .i64 0, .int .i64 0, .int .i64 0, .int .i64 0, .int .i64 0, .int .i64 0], .int .i64 22]) (results_cell_tmp_row Tryz.results25 _ _ (G + 1 + 1) 47 #[.int .i64 0, .int .i64 0, .int .i64 0, .int .i64 0, .int .i64 0, .int .i64 0] (0, 0) _ _ rfl rfl HKR.out Tryz.underlying47 rfl (by kernel_rfl)) rfl ⟨rfl, HE9.out⟩

set_option maxRecDepth 100000 in
set_option maxHeartbeats 4000000 in
theorem hSettle_e3 (vol mom hei : List P3) (id al ah t0 t1 u0 u1 v0 v1 h0 h1 : Int) (A B C : Option Addr) (n c mm d l ee : Nat) (fh st x0 x1 d0 d1 nn : Int) (g1 : fillErr ⟨id, al, ah, vol, mom, hei, t0, t1, u0, u1, v0, v1, h0, h1⟩ ⟨fh, st, x0, x1, d0, d1⟩ = 0) (q0 : 3 ≤ st) (q2 : st ≤ 5) (gn : nn < 0 ∨ 1000000 < nn) (w : World) (hi : HoldIn w ⟨id, al, ah, vol, mom, hei, t0, t1, u0, u1, v0, v1, h0, h1⟩ ⟨A, n, c, B, mm, d, C, l, ee⟩) :
    Calls Tryz.prog 25 #[.agg #[.int .i64 id, .int .i64 al, .int .i64 ah, .slice A n c, .slice B mm d, .slice C l ee, .int .i64 t0, .int .i64 t1, .int .i64 u0, .int .i64 u1, .int .i64 v0, .int .i64 v1, .int .i64 h0, .int .i64 h1], .agg #[.int .i64 fh, .int .i64 st, .int .i64 x0, .int .i64 x1, .int .i64 d0, .int .i64 d1], .int .i64 nn] w fun e w' => e = .returned (ft (noFill, 1)) ∧ Below w.heap.size w w' := by
  have HE := Lib.hid (show Below w.heap.size w (((w.alloc (.cells #[.int .i64 id, .int .i64 al, .int .i64 ah, .slice A n c, .slice B mm d, .slice C l ee, .int .i64 t0, .int .i64 t1, .int .i64 u0, .int .i64 u1, .int .i64 v0, .int .i64 v1, .int .i64 h0, .int .i64 h1] 45)).alloc (.cells #[.int .i64 fh, .int .i64 st, .int .i64 x0, .int .i64 x1, .int .i64 d0, .int .i64 d1] 47)).alloc (.cells #[.int .i64 0, .int .i64 0, .int .i64 0, .int .i64 0, .int .i64 0, .int .i64 0] 47)) from below_a3 (Below.refl _ _))
  have HK := Lib.hid (boxes3' w 45 47 47 #[.int .i64 id, .int .i64 al, .int .i64 ah, .slice A n c, .slice B mm d, .slice C l ee, .int .i64 t0, .int .i64 t1, .int .i64 u0, .int .i64 u1, .int .i64 v0, .int .i64 v1, .int .i64 h0, .int .i64 h1] #[.int .i64 fh, .int .i64 st, .int .i64 x0, .int .i64 x1, .int .i64 d0, .int .i64 d1] #[.int .i64 0, .int .i64 0, .int .i64 0, .int .i64 0, .int .i64 0, .int .i64 0])
  have C1 : Hid (∀ W, Below w.heap.size w W → Calls Tryz.prog 65 #[.agg #[.int .i64 id, .int .i64 al, .int .i64 ah, .slice A n c, .slice B mm d, .slice C l ee, .int .i64 t0, .int .i64 t1, .int .i64 u0, .int .i64 u1, .int .i64 v0, .int .i64 v1, .int .i64 h0, .int .i64 h1], .agg #[.int .i64 fh, .int .i64 st, .int .i64 x0, .int .i64 x1, .int .i64 d0, .int .i64 d1]] W fun e w' => e = .returned (.int .i64 0) ∧ Below W.heap.size W w') := Lib.hid fun W hW => int_to (checkFill_any ⟨id, al, ah, vol, mom, hei, t0, t1, u0, u1, v0, v1, h0, h1⟩ ⟨A, n, c, B, mm, d, C, l, ee⟩ ⟨fh, st, x0, x1, d0, d1⟩ W (hi.below hW)) g1
  obtain ⟨b0, b1, b2, b3, b4, b5, b6, hM⟩ : ∃ b0 b1 b2 b3 b4 b5 b6, mM st = #[b0, b1, b2, b3, b4, b5, b6, .int .i64 0] := by
    have q : st = 3 ∨ st = 4 ∨ st = 5 := by omega
    rcases q with rfl | rfl | rfl <;> exact ⟨_, _, _, _, _, _, _, rfl⟩
  have C2 : Hid (∀ W, Calls Tryz.prog 66 #[.agg #[.int .i64 fh, .int .i64 st, .int .i64 x0, .int .i64 x1, .int .i64 d0, .int .i64 d1]] W fun e w' => e = .returned (.agg #[b0, b1, b2, b3, b4, b5, b6, .int .i64 0]) ∧ Below W.heap.size W w') := Lib.hid fun W => by
    have := meaningOf_any fh st x0 x1 d0 d1 W (by omega) (by omega)
    rwa [hM] at this
  have GN := Lib.hid gn
  clear g1 hi q0 q2 gn hM
  go_enter Tryz.func25, Tryz.ntmps25
  go_wp2_with fail
  obtain ⟨W0, hW0⟩ : ∃ W0, (((w.alloc (.cells #[.int .i64 id, .int .i64 al, .int .i64 ah, .slice A n c, .slice B mm d, .slice C l ee, .int .i64 t0, .int .i64 t1, .int .i64 u0, .int .i64 u1, .int .i64 v0, .int .i64 v1, .int .i64 h0, .int .i64 h1] 45)).alloc (.cells #[.int .i64 fh, .int .i64 st, .int .i64 x0, .int .i64 x1, .int .i64 d0, .int .i64 d1] 47)).alloc (.cells #[.int .i64 0, .int .i64 0, .int .i64 0, .int .i64 0, .int .i64 0, .int .i64 0] 47)) = W0 := ⟨_, rfl⟩
  rw [hW0] at HE HK ⊢
  clear hW0
  obtain ⟨G, hG⟩ : ∃ G, w.heap.size = G := ⟨_, rfl⟩
  rw [hG] at HK ⊢
  have HG := Lib.hid hG; clear hG
  refine (C1.out _ HE.out).mono ?_
  rintro e w1 ⟨rfl, hq⟩
  have HE1 := Lib.hid (below_then HE.out hq); have HK1 := Lib.hid (HK.out.on hq)
  clear hq HE HK C1
  have fa := HK1.out _ (.tail _ (.head _))
  have fa0 := fa.cell 0
  have fa1 := fa.cell 1
  have fa2 := fa.cell 2
  have fa3 := fa.cell 3
  have fa4 := fa.cell 4
  have fa5 := fa.cell 5
  simp at fa0 fa1 fa2 fa3 fa4 fa5
  clear fa
  go_wp2_with fail
  refine (C2.out _).mono ?_
  rintro e w2 ⟨rfl, hq⟩
  have HE2 := Lib.hid (below_then HE1.out hq); have HK2 := Lib.hid (HK1.out.on hq)
  clear hq HE1 HK1 C2 fa0 fa1 fa2 fa3 fa4 fa5
  rcases GN.out with g | g
  · have b0 : decide (nn < 0) = true := decide_eq_true g
    go_upto_region 8 with fail
    refine wp_region_lit ?_
    refine wpList_plain rfl (fun K hK => ?_)
    go_simp
    refine hK _ _ ?_
    clear hK K
    have HKR : Hid (Blk (w2.setRow (G + 1 + 1) #[.int .i64 0, .int .i64 0, .int .i64 0, .int .i64 0, .int .i64 0, .int .i64 0]) (G + 1 + 1) 47 #[.int .i64 0, .int .i64 0, .int .i64 0, .int .i64 0, .int .i64 0, .int .i64 0]) := Lib.hid (setRow_heap w2 (G + 1 + 1) _ _ 47 _ (HK2.out _ (.head _)))
    have HE9 := Lib.hid (below_setRow HE2.out (show w.heap.size ≤ G + 1 + 1 by have := HG.out; omega) #[.int .i64 0, .int .i64 0, .int .i64 0, .int .i64 0, .int .i64 0, .int .i64 0])
    refine wpList_store_row rfl 47 (.tmp 6) (.tmp 30) rfl (G + 1 + 1) #[.int .i64 0, .int .i64 0, .int .i64 0, .int .i64 0, .int .i64 0, .int .i64 0] rfl rfl 47 _ (HK2.out _ (.head _)) (by kernel_rfl) rfl (by kernel_rfl) ?_
    obtain ⟨W9, hW9⟩ : ∃ W9, w2.setRow (G + 1 + 1) #[.int .i64 0, .int .i64 0, .int .i64 0, .int .i64 0, .int .i64 0, .int .i64 0] = W9 := ⟨_, rfl⟩
    rw [hW9] at HKR HE9 ⊢
    clear hW9
    go_wp2
    exact bodyPost_ret (v := .tuple #[.agg #[.int .i64 0, .int .i64 0, .int .i64 0, .int .i64 0, .int .i64 0, .int .i64 0], .int .i64 1]) (results_cell_tmp_row Tryz.results25 _ _ (G + 1 + 1) 47 #[.int .i64 0, .int .i64 0, .int .i64 0, .int .i64 0, .int .i64 0, .int .i64 0] (0, 0) _ _ rfl rfl HKR.out Tryz.underlying47 rfl (by kernel_rfl)) rfl ⟨rfl, HE9.out⟩
  · have b0 : decide (nn < 0) = false := decide_eq_false (by omega)
    have b1 : decide (1000000 < nn) = true := decide_eq_true g
    go_upto_region 8 with fail
    refine wp_region_lit ?_
    refine wpList_plain rfl (fun K hK => ?_)
    go_simp
    refine hK _ _ ?_
    clear hK K
    have HKR : Hid (Blk (w2.setRow (G + 1 + 1) #[.int .i64 0, .int .i64 0, .int .i64 0, .int .i64 0, .int .i64 0, .int .i64 0]) (G + 1 + 1) 47 #[.int .i64 0, .int .i64 0, .int .i64 0, .int .i64 0, .int .i64 0, .int .i64 0]) := Lib.hid (setRow_heap w2 (G + 1 + 1) _ _ 47 _ (HK2.out _ (.head _)))
    have HE9 := Lib.hid (below_setRow HE2.out (show w.heap.size ≤ G + 1 + 1 by have := HG.out; omega) #[.int .i64 0, .int .i64 0, .int .i64 0, .int .i64 0, .int .i64 0, .int .i64 0])
    refine wpList_store_row rfl 47 (.tmp 6) (.tmp 30) rfl (G + 1 + 1) #[.int .i64 0, .int .i64 0, .int .i64 0, .int .i64 0, .int .i64 0, .int .i64 0] rfl rfl 47 _ (HK2.out _ (.head _)) (by kernel_rfl) rfl (by kernel_rfl) ?_
    obtain ⟨W9, hW9⟩ : ∃ W9, w2.setRow (G + 1 + 1) #[.int .i64 0, .int .i64 0, .int .i64 0, .int .i64 0, .int .i64 0, .int .i64 0] = W9 := ⟨_, rfl⟩
    rw [hW9] at HKR HE9 ⊢
    clear hW9
    go_wp2
    exact bodyPost_ret (v := .tuple #[.agg #[.int .i64 0, .int .i64 0, .int .i64 0, .int .i64 0, .int .i64 0, .int .i64 0], .int .i64 1]) (results_cell_tmp_row Tryz.results25 _ _ (G + 1 + 1) 47 #[.int .i64 0, .int .i64 0, .int .i64 0, .int .i64 0, .int .i64 0, .int .i64 0] (0, 0) _ _ rfl rfl HKR.out Tryz.underlying47 rfl (by kernel_rfl)) rfl ⟨rfl, HE9.out⟩

set_option maxRecDepth 100000 in
set_option maxHeartbeats 4000000 in
theorem hSettle_ok (vol mom hei : List P3) (id al ah t0 t1 u0 u1 v0 v1 h0 h1 : Int) (A B C : Option Addr) (n c mm d l ee : Nat) (fh st x0 x1 d0 d1 nn : Int) (g1 : fillErr ⟨id, al, ah, vol, mom, hei, t0, t1, u0, u1, v0, v1, h0, h1⟩ ⟨fh, st, x0, x1, d0, d1⟩ = 0) (q0 : 3 ≤ st) (q2 : st ≤ 5) (gn : 0 ≤ nn ∧ nn ≤ 1000000) (ht : tabOk vol = true) (kx : IntKind.i64.wrap (x1 + nn) = x1 + nn) (w : World) (hi : HoldIn w ⟨id, al, ah, vol, mom, hei, t0, t1, u0, u1, v0, v1, h0, h1⟩ ⟨A, n, c, B, mm, d, C, l, ee⟩) :
    Calls Tryz.prog 25 #[.agg #[.int .i64 id, .int .i64 al, .int .i64 ah, .slice A n c, .slice B mm d, .slice C l ee, .int .i64 t0, .int .i64 t1, .int .i64 u0, .int .i64 u1, .int .i64 v0, .int .i64 v1, .int .i64 h0, .int .i64 h1], .agg #[.int .i64 fh, .int .i64 st, .int .i64 x0, .int .i64 x1, .int .i64 d0, .int .i64 d1], .int .i64 nn] w fun e w' => e = .returned (ft (⟨fh, st, x0, min (x1 + nn) (lastX vol), d0, d1⟩, 0)) ∧ Below w.heap.size w w' := by
  have HE := Lib.hid (show Below w.heap.size w (((w.alloc (.cells #[.int .i64 id, .int .i64 al, .int .i64 ah, .slice A n c, .slice B mm d, .slice C l ee, .int .i64 t0, .int .i64 t1, .int .i64 u0, .int .i64 u1, .int .i64 v0, .int .i64 v1, .int .i64 h0, .int .i64 h1] 45)).alloc (.cells #[.int .i64 fh, .int .i64 st, .int .i64 x0, .int .i64 x1, .int .i64 d0, .int .i64 d1] 47)).alloc (.cells #[.int .i64 0, .int .i64 0, .int .i64 0, .int .i64 0, .int .i64 0, .int .i64 0] 47)) from below_a3 (Below.refl _ _))
  have HK := Lib.hid (boxes3' w 45 47 47 #[.int .i64 id, .int .i64 al, .int .i64 ah, .slice A n c, .slice B mm d, .slice C l ee, .int .i64 t0, .int .i64 t1, .int .i64 u0, .int .i64 u1, .int .i64 v0, .int .i64 v1, .int .i64 h0, .int .i64 h1] #[.int .i64 fh, .int .i64 st, .int .i64 x0, .int .i64 x1, .int .i64 d0, .int .i64 d1] #[.int .i64 0, .int .i64 0, .int .i64 0, .int .i64 0, .int .i64 0, .int .i64 0])
  have C1 : Hid (∀ W, Below w.heap.size w W → Calls Tryz.prog 65 #[.agg #[.int .i64 id, .int .i64 al, .int .i64 ah, .slice A n c, .slice B mm d, .slice C l ee, .int .i64 t0, .int .i64 t1, .int .i64 u0, .int .i64 u1, .int .i64 v0, .int .i64 v1, .int .i64 h0, .int .i64 h1], .agg #[.int .i64 fh, .int .i64 st, .int .i64 x0, .int .i64 x1, .int .i64 d0, .int .i64 d1]] W fun e w' => e = .returned (.int .i64 0) ∧ Below W.heap.size W w') := Lib.hid fun W hW => int_to (checkFill_any ⟨id, al, ah, vol, mom, hei, t0, t1, u0, u1, v0, v1, h0, h1⟩ ⟨A, n, c, B, mm, d, C, l, ee⟩ ⟨fh, st, x0, x1, d0, d1⟩ W (hi.below hW)) g1
  obtain ⟨b0, b1, b2, b3, b4, b5, b6, hM⟩ : ∃ b0 b1 b2 b3 b4 b5 b6, mM st = #[b0, b1, b2, b3, b4, b5, b6, .int .i64 0] := by
    have q : st = 3 ∨ st = 4 ∨ st = 5 := by omega
    rcases q with rfl | rfl | rfl <;> exact ⟨_, _, _, _, _, _, _, rfl⟩
  have C2 : Hid (∀ W, Calls Tryz.prog 66 #[.agg #[.int .i64 fh, .int .i64 st, .int .i64 x0, .int .i64 x1, .int .i64 d0, .int .i64 d1]] W fun e w' => e = .returned (.agg #[b0, b1, b2, b3, b4, b5, b6, .int .i64 0]) ∧ Below W.heap.size W w') := Lib.hid fun W => by
    have := meaningOf_any fh st x0 x1 d0 d1 W (by omega) (by omega)
    rwa [hM] at this
  have C4 : Hid (∀ W, Below w.heap.size w W → Calls Tryz.prog 57 #[tv A n c] W fun e w' => e = .returned (rv (firstX vol) (lastX vol)) ∧ Below W.heap.size W w') := Lib.hid fun W hW => hplaces_tab A n c vol W (hi.1.below hW) ht
  have b0 : decide (nn < 0) = false := decide_eq_false (by omega)
  have b1 : decide (1000000 < nn) = false := decide_eq_false (by omega)
  clear g1 hi q0 q2 gn ht hM
  generalize firstX vol = f0 at *
  generalize lastX vol = f1 at *
  go_enter Tryz.func25, Tryz.ntmps25
  go_wp2_with fail
  obtain ⟨W0, hW0⟩ : ∃ W0, (((w.alloc (.cells #[.int .i64 id, .int .i64 al, .int .i64 ah, .slice A n c, .slice B mm d, .slice C l ee, .int .i64 t0, .int .i64 t1, .int .i64 u0, .int .i64 u1, .int .i64 v0, .int .i64 v1, .int .i64 h0, .int .i64 h1] 45)).alloc (.cells #[.int .i64 fh, .int .i64 st, .int .i64 x0, .int .i64 x1, .int .i64 d0, .int .i64 d1] 47)).alloc (.cells #[.int .i64 0, .int .i64 0, .int .i64 0, .int .i64 0, .int .i64 0, .int .i64 0] 47)) = W0 := ⟨_, rfl⟩
  rw [hW0] at HE HK ⊢
  clear hW0
  obtain ⟨G, hG⟩ : ∃ G, w.heap.size = G := ⟨_, rfl⟩
  rw [hG] at HK ⊢
  have HG := Lib.hid hG; clear hG
  refine (C1.out _ HE.out).mono ?_
  rintro e w1 ⟨rfl, hq⟩
  have HE1 := Lib.hid (below_then HE.out hq); have HK1 := Lib.hid (HK.out.on hq)
  clear hq HE HK C1
  have fa := HK1.out _ (.tail _ (.head _))
  have fa0 := fa.cell 0
  have fa1 := fa.cell 1
  have fa2 := fa.cell 2
  have fa3 := fa.cell 3
  have fa4 := fa.cell 4
  have fa5 := fa.cell 5
  simp at fa0 fa1 fa2 fa3 fa4 fa5
  clear fa
  go_wp2_with fail
  refine (C2.out _).mono ?_
  rintro e w2 ⟨rfl, hq⟩
  have HE2 := Lib.hid (below_then HE1.out hq); have HK2 := Lib.hid (HK1.out.on hq)
  clear hq HE1 HK1 C2 fa0 fa1 fa2 fa3 fa4 fa5
  go_upto_region 9 with fail
  clear b0 b1
  have HKs : Hid (Boxes w2 ([(G, 45, #[.int .i64 id, .int .i64 al, .int .i64 ah, .slice A n c, .slice B mm d, .slice C l ee, .int .i64 t0, .int .i64 t1, .int .i64 u0, .int .i64 u1, .int .i64 v0, .int .i64 v1, .int .i64 h0, .int .i64 h1])] : List (Nat × TypeId × Array Value))) := Lib.hid (HK2.out.sub (fun x hx => .tail _ (.tail _ hx)))
  have HF : Hid (Blk w2 (G + 1) 47 #[.int .i64 fh, .int .i64 st, .int .i64 x0, .int .i64 x1, .int .i64 d0, .int .i64 d1]) := Lib.hid (HK2.out _ (.tail _ (.head _)))
  have HRS : Hid (Blk w2 (G + 1 + 1) 47 #[.int .i64 0, .int .i64 0, .int .i64 0, .int .i64 0, .int .i64 0, .int .i64 0]) := Lib.hid (HK2.out _ (.head _))
  clear HK2
  have hS0 : Boxes w2.drew ([(G, 45, #[.int .i64 id, .int .i64 al, .int .i64 ah, .slice A n c, .slice B mm d, .slice C l ee, .int .i64 t0, .int .i64 t1, .int .i64 u0, .int .i64 u1, .int .i64 v0, .int .i64 v1, .int .i64 h0, .int .i64 h1])] : List (Nat × TypeId × Array Value)) := HKs.out
  have HEd := Lib.hid HE2.out.drew
  have HFd : Hid (Blk w2.drew (G + 1) 47 #[.int .i64 fh, .int .i64 st, .int .i64 x0, .int .i64 x1, .int .i64 d0, .int .i64 d1]) := Lib.hid HF.out.drew
  have HRd : Hid (Blk w2.drew (G + 1 + 1) 47 #[.int .i64 0, .int .i64 0, .int .i64 0, .int .i64 0, .int .i64 0, .int .i64 0]) := Lib.hid HRS.out.drew
  refine wp_region_held_drew (S := fun w' => Boxes w' ([(G, 45, #[.int .i64 id, .int .i64 al, .int .i64 ah, .slice A n c, .slice B mm d, .slice C l ee, .int .i64 t0, .int .i64 t1, .int .i64 u0, .int .i64 u1, .int .i64 v0, .int .i64 v1, .int .i64 h0, .int .i64 h1])] : List (Nat × TypeId × Array Value))) (by kernel_rfl) hS0 (fun hHeld => ?_)
  obtain ⟨W5, hW⟩ : ∃ W', w2.drew = W' := ⟨_, rfl⟩
  rw [hW] at HEd HFd HRd hHeld ⊢
  clear hW hS0 HE2 HKs
  clear HF HRS
  refine wpAnyH_take (i := 0) (v := .pointer (some ⟨G + 1, 2, none⟩)) rfl (by kernel_rfl) (by kernel_rfl) (by kernel_rfl) (fun _ _ _ h => h) (Or.inl ⟨by kernel_rfl, ?_⟩) hHeld ?_
  · intro w hSw; clear hSw; go_simp; try with_reducible rfl
  change wpAnyH _ _ _ _ _ _ _ (Act.put _ (some 31) _) _
  try simp only [Act.put, List.setIfInBounds_toArray, List.set_cons_zero, List.set_cons_succ]
  refine wpAnyH_take (i := 1) (v := .pointer (some ⟨G + 1, 3, none⟩)) rfl (by kernel_rfl) (by kernel_rfl) (by kernel_rfl) (fun _ _ _ h => h) (Or.inl ⟨by kernel_rfl, ?_⟩) hHeld ?_
  · intro w hSw; clear hSw; go_simp; try with_reducible rfl
  change wpAnyH _ _ _ _ _ _ _ (Act.put _ (some 32) _) _
  try simp only [Act.put, List.setIfInBounds_toArray, List.set_cons_zero, List.set_cons_succ]
  refine wpAnyH_take (i := 3) (v := .int .i64 nn) rfl (by kernel_rfl) (by kernel_rfl) (by kernel_rfl) (fun _ _ _ h => h) (Or.inl ⟨by kernel_rfl, ?_⟩) hHeld ?_
  · intro w hSw; clear hSw; go_simp; try with_reducible rfl
  change wpAnyH _ _ _ _ _ _ _ (Act.put _ (some 34) _) _
  try simp only [Act.put, List.setIfInBounds_toArray, List.set_cons_zero, List.set_cons_succ]
  refine wpAnyH_take (i := 5) (v := .pointer (some ⟨G, 3, none⟩)) rfl (by kernel_rfl) (by kernel_rfl) (by kernel_rfl) (fun _ _ _ h => h) (Or.inl ⟨by kernel_rfl, ?_⟩) hHeld ?_
  · intro w hSw; clear hSw; go_simp; try with_reducible rfl
  change wpAnyH _ _ _ _ _ _ _ (Act.put _ (some 36) _) _
  try simp only [Act.put, List.setIfInBounds_toArray, List.set_cons_zero, List.set_cons_succ]
  refine wpAnyH_take (i := 6) (v := tv A n c) rfl (by kernel_rfl) (by kernel_rfl) (by kernel_rfl) (fun _ _ _ h => h) (Or.inl ⟨by kernel_rfl, ?_⟩) hHeld ?_
  · intro w hSw; have hz := (hSw _ (.head _)); have c3 := hz.cell 3; simp at c3; clear hz hSw; go_simp; try with_reducible rfl
  change wpAnyH _ _ _ _ _ _ _ (Act.put _ (some 37) _) _
  try simp only [Act.put, List.setIfInBounds_toArray, List.set_cons_zero, List.set_cons_succ]
  refine wpAnyH_ready (rs := [2, 7]) (by kernel_rfl) (by simp) ?_
  refine AllReadyH.cons rfl (fun K hK => ?_) (AllReadyH.cons rfl (fun K hK => ?_) AllReadyH.nil)
  · skip
    have q3 := HFd.out.cell 3
    simp at q3
    go_simp
    refine hK.out _ _ hHeld (fun hHeld2 => ?_)
    try simp only [Act.put, List.setIfInBounds_toArray, List.set_cons_zero, List.set_cons_succ]
    clear q3 hK K hHeld
    have hHeld := hHeld2
    clear hHeld2
    refine wpAnyH_take (i := 4) (v := .int .i64 (x1 + nn)) rfl (by kernel_rfl) (by kernel_rfl) (by kernel_rfl) (fun _ _ _ h => h) (Or.inl ⟨by kernel_rfl, ?_⟩) hHeld ?_
    · intro w hSw; clear hSw; go_simp; try with_reducible rfl
    change wpAnyH _ _ _ _ _ _ _ (Act.put _ (some 35) _) _
    try simp only [Act.put, List.setIfInBounds_toArray, List.set_cons_zero, List.set_cons_succ]
    refine wpAnyH_ready (rs := [7]) (by kernel_rfl) (by simp) ?_
    refine AllReadyH.cons rfl (fun K hK => ?_) AllReadyH.nil
    go_simp
    (with_reducible refine (C4.out _ HEd.out).mono ?_)
    rintro e yv ⟨rfl, hq⟩
    have HEv := Lib.hid (below_then HEd.out hq); have HFv := Lib.hid (blkOn HFd.out hq); have HRv := Lib.hid (blkOn HRd.out hq)
    have hS := hHeld.on hq
    clear hq
    refine hK.out _ _ hS (fun hHeld2 => ?_)
    try simp only [Act.put, List.setIfInBounds_toArray, List.set_cons_zero, List.set_cons_succ]
    clear hS hK K hHeld HEd HFd HRd
    have hHeld := hHeld2
    clear hHeld2
    refine wpAnyH_take (i := 8) (v := .int .i64 f1) rfl (by kernel_rfl) (by kernel_rfl) (by kernel_rfl) (fun _ _ _ h => h) (Or.inl ⟨by kernel_rfl, ?_⟩) hHeld ?_
    · intro w hSw; clear hSw; go_simp; try with_reducible rfl
    change wpAnyH _ _ _ _ _ _ _ (Act.put _ (some 39) _) _
    try simp only [Act.put, List.setIfInBounds_toArray, List.set_cons_zero, List.set_cons_succ]
    refine wpAnyH_ready (rs := [9]) (by kernel_rfl) (by simp) ?_
    refine AllReadyH.cons rfl (fun K hK => ?_) AllReadyH.nil
    go_simp
    refine hK.out _ _ hHeld (fun hHeld2 => ?_)
    try simp only [Act.put, List.setIfInBounds_toArray, List.set_cons_zero, List.set_cons_succ]
    clear hK K hHeld
    have hHeld := hHeld2
    clear hHeld2
    refine wpAnyH_take (i := 10) (v := .pointer (some ⟨G + 1, 2, none⟩)) rfl (by kernel_rfl) (by kernel_rfl) (by kernel_rfl) (fun _ _ _ h => h) (Or.inl ⟨by kernel_rfl, ?_⟩) hHeld ?_
    · intro w hSw; clear hSw; go_simp; try with_reducible rfl
    change wpAnyH _ _ _ _ _ _ _ (Act.put _ (some 41) _) _
    try simp only [Act.put, List.setIfInBounds_toArray, List.set_cons_zero, List.set_cons_succ]
    refine wpAnyH_take (i := 11) (v := .pointer (some ⟨G + 1, 3, none⟩)) rfl (by kernel_rfl) (by kernel_rfl) (by kernel_rfl) (fun _ _ _ h => h) (Or.inl ⟨by kernel_rfl, ?_⟩) hHeld ?_
    · intro w hSw; clear hSw; go_simp; try with_reducible rfl
    change wpAnyH _ _ _ _ _ _ _ (Act.put _ (some 42) _) _
    try simp only [Act.put, List.setIfInBounds_toArray, List.set_cons_zero, List.set_cons_succ]
    have q3 := HFv.out.cell 3
    have qf3 := HFv.out.frozen 3
    have ql := HFv.out.lt
    simp at q3 qf3
    refine wpAnyH_ready (rs := [12]) (by kernel_rfl) (by simp) ?_
    refine AllReadyH.cons rfl (fun K hK => ?_) AllReadyH.nil
    go_simp
    have HE7 := Lib.hid (HEv.out.setCell (p := ⟨G + 1, 3, none⟩) (show w.heap.size ≤ G + 1 by have := HG.out; omega) (.int .i64 (min (x1 + nn) f1)))
    have HF7 : Hid (Blk (yv.setCell ⟨G + 1, 3, none⟩ (.int .i64 (min (x1 + nn) f1))) (G + 1) 47 #[.int .i64 fh, .int .i64 st, .int .i64 x0, .int .i64 (min (x1 + nn) f1), .int .i64 d0, .int .i64 d1]) := Lib.hid (HFv.out.set_ 3 (.int .i64 (min (x1 + nn) f1)))
    have HR7 : Hid (Blk (yv.setCell ⟨G + 1, 3, none⟩ (.int .i64 (min (x1 + nn) f1))) (G + 1 + 1) 47 #[.int .i64 0, .int .i64 0, .int .i64 0, .int .i64 0, .int .i64 0, .int .i64 0]) := Lib.hid (HRv.out.far (p := ⟨G + 1, 3, none⟩) (show G + 1 + 1 ≠ G + 1 by omega) (.int .i64 (min (x1 + nn) f1)))
    have hS : Boxes (yv.setCell ⟨G + 1, 3, none⟩ (.int .i64 (min (x1 + nn) f1))) ([(G, 45, #[.int .i64 id, .int .i64 al, .int .i64 ah, .slice A n c, .slice B mm d, .slice C l ee, .int .i64 t0, .int .i64 t1, .int .i64 u0, .int .i64 u1, .int .i64 v0, .int .i64 v1, .int .i64 h0, .int .i64 h1])] : List (Nat × TypeId × Array Value)) := fun x hx => (hHeld x hx).far (p := ⟨G + 1, 3, none⟩) (by rw [List.mem_singleton.1 hx]; dsimp only; omega) (.int .i64 (min (x1 + nn) f1))
    obtain ⟨W7, hW⟩ : ∃ W', yv.setCell ⟨G + 1, 3, none⟩ (.int .i64 (min (x1 + nn) f1)) = W' := ⟨_, rfl⟩
    rw [hW] at HE7 HF7 HR7 hS ⊢
    clear hW q3 qf3 ql HEv HFv HRv
    refine hK.out _ _ hS (fun hHeld2 => ?_)
    try simp only [Act.put, List.setIfInBounds_toArray, List.set_cons_zero, List.set_cons_succ]
    clear hS hK K hHeld
    refine wpAnyH_done (by kernel_rfl) ?_ _
    clear hHeld2
    have q := HF7.out
    have qa0 := q.cell 0
    have qa1 := q.cell 1
    have qa2 := q.cell 2
    have qa3 := q.cell 3
    have qa4 := q.cell 4
    have qa5 := q.cell 5
    simp at qa0 qa1 qa2 qa3 qa4 qa5
    clear q
    go_upto_region 10 with fail
    refine wp_region_lit ?_
    refine wpList_plain rfl (fun K hK => ?_)
    go_simp
    refine hK _ _ ?_
    clear hK K
    have HKR : Hid (Blk (W7.setRow (G + 1 + 1) #[.int .i64 fh, .int .i64 st, .int .i64 x0, .int .i64 (min (x1 + nn) f1), .int .i64 d0, .int .i64 d1]) (G + 1 + 1) 47 #[.int .i64 fh, .int .i64 st, .int .i64 x0, .int .i64 (min (x1 + nn) f1), .int .i64 d0, .int .i64 d1]) := Lib.hid (setRow_heap W7 (G + 1 + 1) _ _ 47 _ (HR7.out))
    have HE9 := Lib.hid (below_setRow HE7.out (show w.heap.size ≤ G + 1 + 1 by have := HG.out; omega) #[.int .i64 fh, .int .i64 st, .int .i64 x0, .int .i64 (min (x1 + nn) f1), .int .i64 d0, .int .i64 d1])
    refine wpList_store_row rfl 47 (.tmp 6) (.tmp 43) rfl (G + 1 + 1) #[.int .i64 fh, .int .i64 st, .int .i64 x0, .int .i64 (min (x1 + nn) f1), .int .i64 d0, .int .i64 d1] rfl rfl 47 _ (HR7.out) (by kernel_rfl) rfl (by kernel_rfl) ?_
    obtain ⟨W9, hW9⟩ : ∃ W9, W7.setRow (G + 1 + 1) #[.int .i64 fh, .int .i64 st, .int .i64 x0, .int .i64 (min (x1 + nn) f1), .int .i64 d0, .int .i64 d1] = W9 := ⟨_, rfl⟩
    rw [hW9] at HKR HE9 ⊢
    clear hW9
    go_wp2
    exact bodyPost_ret (v := .tuple #[.agg #[.int .i64 fh, .int .i64 st, .int .i64 x0, .int .i64 (min (x1 + nn) f1), .int .i64 d0, .int .i64 d1], .int .i64 0]) (results_cell_tmp_row Tryz.results25 _ _ (G + 1 + 1) 47 #[.int .i64 fh, .int .i64 st, .int .i64 x0, .int .i64 (min (x1 + nn) f1), .int .i64 d0, .int .i64 d1] (0, 0) _ _ rfl rfl HKR.out Tryz.underlying47 rfl (by kernel_rfl)) rfl ⟨rfl, HE9.out⟩
  · skip
    go_simp
    (with_reducible refine (C4.out _ HEd.out).mono ?_)
    rintro e yv ⟨rfl, hq⟩
    have HEv := Lib.hid (below_then HEd.out hq); have HFv := Lib.hid (blkOn HFd.out hq); have HRv := Lib.hid (blkOn HRd.out hq)
    have hS := hHeld.on hq
    clear hq
    refine hK.out _ _ hS (fun hHeld2 => ?_)
    try simp only [Act.put, List.setIfInBounds_toArray, List.set_cons_zero, List.set_cons_succ]
    clear hS hK K hHeld HEd HFd HRd
    have hHeld := hHeld2
    clear hHeld2
    refine wpAnyH_take (i := 8) (v := .int .i64 f1) rfl (by kernel_rfl) (by kernel_rfl) (by kernel_rfl) (fun _ _ _ h => h) (Or.inl ⟨by kernel_rfl, ?_⟩) hHeld ?_
    · intro w hSw; clear hSw; go_simp; try with_reducible rfl
    change wpAnyH _ _ _ _ _ _ _ (Act.put _ (some 39) _) _
    try simp only [Act.put, List.setIfInBounds_toArray, List.set_cons_zero, List.set_cons_succ]
    refine wpAnyH_ready (rs := [2]) (by kernel_rfl) (by simp) ?_
    refine AllReadyH.cons rfl (fun K hK => ?_) AllReadyH.nil
    have q3 := HFv.out.cell 3
    simp at q3
    go_simp
    refine hK.out _ _ hHeld (fun hHeld2 => ?_)
    try simp only [Act.put, List.setIfInBounds_toArray, List.set_cons_zero, List.set_cons_succ]
    clear q3 hK K hHeld
    have hHeld := hHeld2
    clear hHeld2
    refine wpAnyH_take (i := 4) (v := .int .i64 (x1 + nn)) rfl (by kernel_rfl) (by kernel_rfl) (by kernel_rfl) (fun _ _ _ h => h) (Or.inl ⟨by kernel_rfl, ?_⟩) hHeld ?_
    · intro w hSw; clear hSw; go_simp; try with_reducible rfl
    change wpAnyH _ _ _ _ _ _ _ (Act.put _ (some 35) _) _
    try simp only [Act.put, List.setIfInBounds_toArray, List.set_cons_zero, List.set_cons_succ]
    refine wpAnyH_ready (rs := [9]) (by kernel_rfl) (by simp) ?_
    refine AllReadyH.cons rfl (fun K hK => ?_) AllReadyH.nil
    go_simp
    refine hK.out _ _ hHeld (fun hHeld2 => ?_)
    try simp only [Act.put, List.setIfInBounds_toArray, List.set_cons_zero, List.set_cons_succ]
    clear hK K hHeld
    have hHeld := hHeld2
    clear hHeld2
    refine wpAnyH_take (i := 10) (v := .pointer (some ⟨G + 1, 2, none⟩)) rfl (by kernel_rfl) (by kernel_rfl) (by kernel_rfl) (fun _ _ _ h => h) (Or.inl ⟨by kernel_rfl, ?_⟩) hHeld ?_
    · intro w hSw; clear hSw; go_simp; try with_reducible rfl
    change wpAnyH _ _ _ _ _ _ _ (Act.put _ (some 41) _) _
    try simp only [Act.put, List.setIfInBounds_toArray, List.set_cons_zero, List.set_cons_succ]
    refine wpAnyH_take (i := 11) (v := .pointer (some ⟨G + 1, 3, none⟩)) rfl (by kernel_rfl) (by kernel_rfl) (by kernel_rfl) (fun _ _ _ h => h) (Or.inl ⟨by kernel_rfl, ?_⟩) hHeld ?_
    · intro w hSw; clear hSw; go_simp; try with_reducible rfl
    change wpAnyH _ _ _ _ _ _ _ (Act.put _ (some 42) _) _
    try simp only [Act.put, List.setIfInBounds_toArray, List.set_cons_zero, List.set_cons_succ]
    have q3 := HFv.out.cell 3
    have qf3 := HFv.out.frozen 3
    have ql := HFv.out.lt
    simp at q3 qf3
    refine wpAnyH_ready (rs := [12]) (by kernel_rfl) (by simp) ?_
    refine AllReadyH.cons rfl (fun K hK => ?_) AllReadyH.nil
    go_simp
    have HE7 := Lib.hid (HEv.out.setCell (p := ⟨G + 1, 3, none⟩) (show w.heap.size ≤ G + 1 by have := HG.out; omega) (.int .i64 (min (x1 + nn) f1)))
    have HF7 : Hid (Blk (yv.setCell ⟨G + 1, 3, none⟩ (.int .i64 (min (x1 + nn) f1))) (G + 1) 47 #[.int .i64 fh, .int .i64 st, .int .i64 x0, .int .i64 (min (x1 + nn) f1), .int .i64 d0, .int .i64 d1]) := Lib.hid (HFv.out.set_ 3 (.int .i64 (min (x1 + nn) f1)))
    have HR7 : Hid (Blk (yv.setCell ⟨G + 1, 3, none⟩ (.int .i64 (min (x1 + nn) f1))) (G + 1 + 1) 47 #[.int .i64 0, .int .i64 0, .int .i64 0, .int .i64 0, .int .i64 0, .int .i64 0]) := Lib.hid (HRv.out.far (p := ⟨G + 1, 3, none⟩) (show G + 1 + 1 ≠ G + 1 by omega) (.int .i64 (min (x1 + nn) f1)))
    have hS : Boxes (yv.setCell ⟨G + 1, 3, none⟩ (.int .i64 (min (x1 + nn) f1))) ([(G, 45, #[.int .i64 id, .int .i64 al, .int .i64 ah, .slice A n c, .slice B mm d, .slice C l ee, .int .i64 t0, .int .i64 t1, .int .i64 u0, .int .i64 u1, .int .i64 v0, .int .i64 v1, .int .i64 h0, .int .i64 h1])] : List (Nat × TypeId × Array Value)) := fun x hx => (hHeld x hx).far (p := ⟨G + 1, 3, none⟩) (by rw [List.mem_singleton.1 hx]; dsimp only; omega) (.int .i64 (min (x1 + nn) f1))
    obtain ⟨W7, hW⟩ : ∃ W', yv.setCell ⟨G + 1, 3, none⟩ (.int .i64 (min (x1 + nn) f1)) = W' := ⟨_, rfl⟩
    rw [hW] at HE7 HF7 HR7 hS ⊢
    clear hW q3 qf3 ql HEv HFv HRv
    refine hK.out _ _ hS (fun hHeld2 => ?_)
    try simp only [Act.put, List.setIfInBounds_toArray, List.set_cons_zero, List.set_cons_succ]
    clear hS hK K hHeld
    refine wpAnyH_done (by kernel_rfl) ?_ _
    clear hHeld2
    have q := HF7.out
    have qa0 := q.cell 0
    have qa1 := q.cell 1
    have qa2 := q.cell 2
    have qa3 := q.cell 3
    have qa4 := q.cell 4
    have qa5 := q.cell 5
    simp at qa0 qa1 qa2 qa3 qa4 qa5
    clear q
    go_upto_region 10 with fail
    refine wp_region_lit ?_
    refine wpList_plain rfl (fun K hK => ?_)
    go_simp
    refine hK _ _ ?_
    clear hK K
    have HKR : Hid (Blk (W7.setRow (G + 1 + 1) #[.int .i64 fh, .int .i64 st, .int .i64 x0, .int .i64 (min (x1 + nn) f1), .int .i64 d0, .int .i64 d1]) (G + 1 + 1) 47 #[.int .i64 fh, .int .i64 st, .int .i64 x0, .int .i64 (min (x1 + nn) f1), .int .i64 d0, .int .i64 d1]) := Lib.hid (setRow_heap W7 (G + 1 + 1) _ _ 47 _ (HR7.out))
    have HE9 := Lib.hid (below_setRow HE7.out (show w.heap.size ≤ G + 1 + 1 by have := HG.out; omega) #[.int .i64 fh, .int .i64 st, .int .i64 x0, .int .i64 (min (x1 + nn) f1), .int .i64 d0, .int .i64 d1])
    refine wpList_store_row rfl 47 (.tmp 6) (.tmp 43) rfl (G + 1 + 1) #[.int .i64 fh, .int .i64 st, .int .i64 x0, .int .i64 (min (x1 + nn) f1), .int .i64 d0, .int .i64 d1] rfl rfl 47 _ (HR7.out) (by kernel_rfl) rfl (by kernel_rfl) ?_
    obtain ⟨W9, hW9⟩ : ∃ W9, W7.setRow (G + 1 + 1) #[.int .i64 fh, .int .i64 st, .int .i64 x0, .int .i64 (min (x1 + nn) f1), .int .i64 d0, .int .i64 d1] = W9 := ⟨_, rfl⟩
    rw [hW9] at HKR HE9 ⊢
    clear hW9
    go_wp2
    exact bodyPost_ret (v := .tuple #[.agg #[.int .i64 fh, .int .i64 st, .int .i64 x0, .int .i64 (min (x1 + nn) f1), .int .i64 d0, .int .i64 d1], .int .i64 0]) (results_cell_tmp_row Tryz.results25 _ _ (G + 1 + 1) 47 #[.int .i64 fh, .int .i64 st, .int .i64 x0, .int .i64 (min (x1 + nn) f1), .int .i64 d0, .int .i64 d1] (0, 0) _ _ rfl rfl HKR.out Tryz.underlying47 rfl (by kernel_rfl)) rfl ⟨rfl, HE9.out⟩

set_option maxRecDepth 100000 in
set_option maxHeartbeats 4000000 in
theorem sSettle_e1 (vol mom hei : List P3) (id al ah t0 t1 u0 u1 v0 v1 h0 h1 : Int) (A B C : Option Addr) (n c mm d l ee : Nat) (fh st x0 x1 d0 d1 nn : Int) (E : Int) (g1 : fillErr ⟨id, al, ah, vol, mom, hei, t0, t1, u0, u1, v0, v1, h0, h1⟩ ⟨fh, st, x0, x1, d0, d1⟩ = E) (gE : ¬ E = 0) (w : World) (hi : HoldIn w ⟨id, al, ah, vol, mom, hei, t0, t1, u0, u1, v0, v1, h0, h1⟩ ⟨A, n, c, B, mm, d, C, l, ee⟩) :
    Calls Tryz.prog 26 #[.agg #[.int .i64 id, .int .i64 al, .int .i64 ah, .slice A n c, .slice B mm d, .slice C l ee, .int .i64 t0, .int .i64 t1, .int .i64 u0, .int .i64 u1, .int .i64 v0, .int .i64 v1, .int .i64 h0, .int .i64 h1], .agg #[.int .i64 fh, .int .i64 st, .int .i64 x0, .int .i64 x1, .int .i64 d0, .int .i64 d1], .int .i64 nn] w fun e w' => e = .returned (ft (noFill, E)) ∧ Below w.heap.size w w' := by
  have HE := Lib.hid (show Below w.heap.size w (((w.alloc (.cells #[.int .i64 id, .int .i64 al, .int .i64 ah, .slice A n c, .slice B mm d, .slice C l ee, .int .i64 t0, .int .i64 t1, .int .i64 u0, .int .i64 u1, .int .i64 v0, .int .i64 v1, .int .i64 h0, .int .i64 h1] 45)).alloc (.cells #[.int .i64 fh, .int .i64 st, .int .i64 x0, .int .i64 x1, .int .i64 d0, .int .i64 d1] 47)).alloc (.cells #[.int .i64 0, .int .i64 0, .int .i64 0, .int .i64 0, .int .i64 0, .int .i64 0] 47)) from below_a3 (Below.refl _ _))
  have HK := Lib.hid (boxes3' w 45 47 47 #[.int .i64 id, .int .i64 al, .int .i64 ah, .slice A n c, .slice B mm d, .slice C l ee, .int .i64 t0, .int .i64 t1, .int .i64 u0, .int .i64 u1, .int .i64 v0, .int .i64 v1, .int .i64 h0, .int .i64 h1] #[.int .i64 fh, .int .i64 st, .int .i64 x0, .int .i64 x1, .int .i64 d0, .int .i64 d1] #[.int .i64 0, .int .i64 0, .int .i64 0, .int .i64 0, .int .i64 0, .int .i64 0])
  have C1 : Hid (∀ W, Below w.heap.size w W → Calls Tryz.prog 69 #[.agg #[.int .i64 id, .int .i64 al, .int .i64 ah, .slice A n c, .slice B mm d, .slice C l ee, .int .i64 t0, .int .i64 t1, .int .i64 u0, .int .i64 u1, .int .i64 v0, .int .i64 v1, .int .i64 h0, .int .i64 h1], .agg #[.int .i64 fh, .int .i64 st, .int .i64 x0, .int .i64 x1, .int .i64 d0, .int .i64 d1]] W fun e w' => e = .returned (.int .i64 E) ∧ Below W.heap.size W w') := Lib.hid fun W hW => int_to (sCheckFill_any ⟨id, al, ah, vol, mom, hei, t0, t1, u0, u1, v0, v1, h0, h1⟩ ⟨A, n, c, B, mm, d, C, l, ee⟩ ⟨fh, st, x0, x1, d0, d1⟩ W (hi.below hW)) g1
  clear g1 hi
  go_enter Tryz.func26, Tryz.ntmps26
  go_wp2_with fail
  obtain ⟨W0, hW0⟩ : ∃ W0, (((w.alloc (.cells #[.int .i64 id, .int .i64 al, .int .i64 ah, .slice A n c, .slice B mm d, .slice C l ee, .int .i64 t0, .int .i64 t1, .int .i64 u0, .int .i64 u1, .int .i64 v0, .int .i64 v1, .int .i64 h0, .int .i64 h1] 45)).alloc (.cells #[.int .i64 fh, .int .i64 st, .int .i64 x0, .int .i64 x1, .int .i64 d0, .int .i64 d1] 47)).alloc (.cells #[.int .i64 0, .int .i64 0, .int .i64 0, .int .i64 0, .int .i64 0, .int .i64 0] 47)) = W0 := ⟨_, rfl⟩
  rw [hW0] at HE HK ⊢
  clear hW0
  obtain ⟨G, hG⟩ : ∃ G, w.heap.size = G := ⟨_, rfl⟩
  rw [hG] at HK ⊢
  have HG := Lib.hid hG; clear hG
  refine (C1.out _ HE.out).mono ?_
  rintro e w1 ⟨rfl, hq⟩
  have HE1 := Lib.hid (below_then HE.out hq); have HK1 := Lib.hid (HK.out.on hq)
  clear hq HE HK C1
  go_upto_region 3 with fail
  refine wp_region_lit ?_
  refine wpList_plain rfl (fun K hK => ?_)
  go_simp
  refine hK _ _ ?_
  clear hK K
  refine wpList_plain rfl (fun K hK => ?_)
  go_simp
  refine hK _ _ ?_
  clear hK K
  have HKR : Hid (Blk (w1.setRow (G + 1 + 1) #[.int .i64 0, .int .i64 0, .int .i64 0, .int .i64 0, .int .i64 0, .int .i64 0]) (G + 1 + 1) 47 #[.int .i64 0, .int .i64 0, .int .i64 0, .int .i64 0, .int .i64 0, .int .i64 0]) := Lib.hid (setRow_heap w1 (G + 1 + 1) _ _ 47 _ (HK1.out _ (.head _)))
  have HE9 := Lib.hid (below_setRow HE1.out (show w.heap.size ≤ G + 1 + 1 by have := HG.out; omega) #[.int .i64 0, .int .i64 0, .int .i64 0, .int .i64 0, .int .i64 0, .int .i64 0])
  refine wpList_store_row rfl 47 (.tmp 6) (.tmp 14) rfl (G + 1 + 1) #[.int .i64 0, .int .i64 0, .int .i64 0, .int .i64 0, .int .i64 0, .int .i64 0] rfl rfl 47 _ (HK1.out _ (.head _)) (by kernel_rfl) rfl (by kernel_rfl) ?_
  obtain ⟨W9, hW9⟩ : ∃ W9, w1.setRow (G + 1 + 1) #[.int .i64 0, .int .i64 0, .int .i64 0, .int .i64 0, .int .i64 0, .int .i64 0] = W9 := ⟨_, rfl⟩
  rw [hW9] at HKR HE9 ⊢
  clear hW9
  go_wp2
  exact bodyPost_ret (v := .tuple #[.agg #[.int .i64 0, .int .i64 0, .int .i64 0, .int .i64 0, .int .i64 0, .int .i64 0], .int .i64 E]) (results_cell_tmp_row Tryz.results26 _ _ (G + 1 + 1) 47 #[.int .i64 0, .int .i64 0, .int .i64 0, .int .i64 0, .int .i64 0, .int .i64 0] (0, 0) _ _ rfl rfl HKR.out Tryz.underlying47 rfl (by kernel_rfl)) rfl ⟨rfl, HE9.out⟩

set_option maxRecDepth 100000 in
set_option maxHeartbeats 4000000 in
theorem sSettle_e2 (vol mom hei : List P3) (id al ah t0 t1 u0 u1 v0 v1 h0 h1 : Int) (A B C : Option Addr) (n c mm d l ee : Nat) (fh st x0 x1 d0 d1 nn : Int) (g1 : fillErr ⟨id, al, ah, vol, mom, hei, t0, t1, u0, u1, v0, v1, h0, h1⟩ ⟨fh, st, x0, x1, d0, d1⟩ = 0) (q0 : 0 ≤ st) (q2 : st ≤ 2) (w : World) (hi : HoldIn w ⟨id, al, ah, vol, mom, hei, t0, t1, u0, u1, v0, v1, h0, h1⟩ ⟨A, n, c, B, mm, d, C, l, ee⟩) :
    Calls Tryz.prog 26 #[.agg #[.int .i64 id, .int .i64 al, .int .i64 ah, .slice A n c, .slice B mm d, .slice C l ee, .int .i64 t0, .int .i64 t1, .int .i64 u0, .int .i64 u1, .int .i64 v0, .int .i64 v1, .int .i64 h0, .int .i64 h1], .agg #[.int .i64 fh, .int .i64 st, .int .i64 x0, .int .i64 x1, .int .i64 d0, .int .i64 d1], .int .i64 nn] w fun e w' => e = .returned (ft (noFill, 22)) ∧ Below w.heap.size w w' := by
  have HE := Lib.hid (show Below w.heap.size w (((w.alloc (.cells #[.int .i64 id, .int .i64 al, .int .i64 ah, .slice A n c, .slice B mm d, .slice C l ee, .int .i64 t0, .int .i64 t1, .int .i64 u0, .int .i64 u1, .int .i64 v0, .int .i64 v1, .int .i64 h0, .int .i64 h1] 45)).alloc (.cells #[.int .i64 fh, .int .i64 st, .int .i64 x0, .int .i64 x1, .int .i64 d0, .int .i64 d1] 47)).alloc (.cells #[.int .i64 0, .int .i64 0, .int .i64 0, .int .i64 0, .int .i64 0, .int .i64 0] 47)) from below_a3 (Below.refl _ _))
  have HK := Lib.hid (boxes3' w 45 47 47 #[.int .i64 id, .int .i64 al, .int .i64 ah, .slice A n c, .slice B mm d, .slice C l ee, .int .i64 t0, .int .i64 t1, .int .i64 u0, .int .i64 u1, .int .i64 v0, .int .i64 v1, .int .i64 h0, .int .i64 h1] #[.int .i64 fh, .int .i64 st, .int .i64 x0, .int .i64 x1, .int .i64 d0, .int .i64 d1] #[.int .i64 0, .int .i64 0, .int .i64 0, .int .i64 0, .int .i64 0, .int .i64 0])
  have C1 : Hid (∀ W, Below w.heap.size w W → Calls Tryz.prog 69 #[.agg #[.int .i64 id, .int .i64 al, .int .i64 ah, .slice A n c, .slice B mm d, .slice C l ee, .int .i64 t0, .int .i64 t1, .int .i64 u0, .int .i64 u1, .int .i64 v0, .int .i64 v1, .int .i64 h0, .int .i64 h1], .agg #[.int .i64 fh, .int .i64 st, .int .i64 x0, .int .i64 x1, .int .i64 d0, .int .i64 d1]] W fun e w' => e = .returned (.int .i64 0) ∧ Below W.heap.size W w') := Lib.hid fun W hW => int_to (sCheckFill_any ⟨id, al, ah, vol, mom, hei, t0, t1, u0, u1, v0, v1, h0, h1⟩ ⟨A, n, c, B, mm, d, C, l, ee⟩ ⟨fh, st, x0, x1, d0, d1⟩ W (hi.below hW)) g1
  have C2 : Hid (∀ W, Calls Tryz.prog 75 #[.int .i64 st] W fun e w' => e = .returned (.bool false) ∧ Below W.heap.size W w') := Lib.hid fun W => sFree_to st false W (decide_eq_false (by omega))
  clear g1 hi q0 q2
  go_enter Tryz.func26, Tryz.ntmps26
  go_wp2_with fail
  obtain ⟨W0, hW0⟩ : ∃ W0, (((w.alloc (.cells #[.int .i64 id, .int .i64 al, .int .i64 ah, .slice A n c, .slice B mm d, .slice C l ee, .int .i64 t0, .int .i64 t1, .int .i64 u0, .int .i64 u1, .int .i64 v0, .int .i64 v1, .int .i64 h0, .int .i64 h1] 45)).alloc (.cells #[.int .i64 fh, .int .i64 st, .int .i64 x0, .int .i64 x1, .int .i64 d0, .int .i64 d1] 47)).alloc (.cells #[.int .i64 0, .int .i64 0, .int .i64 0, .int .i64 0, .int .i64 0, .int .i64 0] 47)) = W0 := ⟨_, rfl⟩
  rw [hW0] at HE HK ⊢
  clear hW0
  obtain ⟨G, hG⟩ : ∃ G, w.heap.size = G := ⟨_, rfl⟩
  rw [hG] at HK ⊢
  have HG := Lib.hid hG; clear hG
  refine (C1.out _ HE.out).mono ?_
  rintro e w1 ⟨rfl, hq⟩
  have HE1 := Lib.hid (below_then HE.out hq); have HK1 := Lib.hid (HK.out.on hq)
  clear hq HE HK C1
  have fa := HK1.out _ (.tail _ (.head _))
  have fa1 := fa.cell 1
  simp at fa1
  clear fa
  go_wp2_with fail
  refine (C2.out _).mono ?_
  rintro e w2 ⟨rfl, hq⟩
  have HE2 := Lib.hid (below_then HE1.out hq); have HK2 := Lib.hid (HK1.out.on hq)
  clear hq HE1 HK1 C2 fa1
  go_upto_region 5 with fail
  refine wp_region_lit ?_
  refine wpList_plain rfl (fun K hK => ?_)
  go_simp
  refine hK _ _ ?_
  clear hK K
  have HKR : Hid (Blk (w2.setRow (G + 1 + 1) #[.int .i64 0, .int .i64 0, .int .i64 0, .int .i64 0, .int .i64 0, .int .i64 0]) (G + 1 + 1) 47 #[.int .i64 0, .int .i64 0, .int .i64 0, .int .i64 0, .int .i64 0, .int .i64 0]) := Lib.hid (setRow_heap w2 (G + 1 + 1) _ _ 47 _ (HK2.out _ (.head _)))
  have HE9 := Lib.hid (below_setRow HE2.out (show w.heap.size ≤ G + 1 + 1 by have := HG.out; omega) #[.int .i64 0, .int .i64 0, .int .i64 0, .int .i64 0, .int .i64 0, .int .i64 0])
  refine wpList_store_row rfl 47 (.tmp 6) (.tmp 20) rfl (G + 1 + 1) #[.int .i64 0, .int .i64 0, .int .i64 0, .int .i64 0, .int .i64 0, .int .i64 0] rfl rfl 47 _ (HK2.out _ (.head _)) (by kernel_rfl) rfl (by kernel_rfl) ?_
  obtain ⟨W9, hW9⟩ : ∃ W9, w2.setRow (G + 1 + 1) #[.int .i64 0, .int .i64 0, .int .i64 0, .int .i64 0, .int .i64 0, .int .i64 0] = W9 := ⟨_, rfl⟩
  rw [hW9] at HKR HE9 ⊢
  clear hW9
  go_wp2
  exact bodyPost_ret (v := .tuple #[.agg #[.int .i64 0, .int .i64 0, .int .i64 0, .int .i64 0, .int .i64 0, .int .i64 0], .int .i64 22]) (results_cell_tmp_row Tryz.results26 _ _ (G + 1 + 1) 47 #[.int .i64 0, .int .i64 0, .int .i64 0, .int .i64 0, .int .i64 0, .int .i64 0] (0, 0) _ _ rfl rfl HKR.out Tryz.underlying47 rfl (by kernel_rfl)) rfl ⟨rfl, HE9.out⟩

set_option maxRecDepth 100000 in
set_option maxHeartbeats 4000000 in
theorem sSettle_e3 (vol mom hei : List P3) (id al ah t0 t1 u0 u1 v0 v1 h0 h1 : Int) (A B C : Option Addr) (n c mm d l ee : Nat) (fh st x0 x1 d0 d1 nn : Int) (g1 : fillErr ⟨id, al, ah, vol, mom, hei, t0, t1, u0, u1, v0, v1, h0, h1⟩ ⟨fh, st, x0, x1, d0, d1⟩ = 0) (q0 : 3 ≤ st) (q2 : st ≤ 5) (gn : nn < 0 ∨ 1000000 < nn) (w : World) (hi : HoldIn w ⟨id, al, ah, vol, mom, hei, t0, t1, u0, u1, v0, v1, h0, h1⟩ ⟨A, n, c, B, mm, d, C, l, ee⟩) :
    Calls Tryz.prog 26 #[.agg #[.int .i64 id, .int .i64 al, .int .i64 ah, .slice A n c, .slice B mm d, .slice C l ee, .int .i64 t0, .int .i64 t1, .int .i64 u0, .int .i64 u1, .int .i64 v0, .int .i64 v1, .int .i64 h0, .int .i64 h1], .agg #[.int .i64 fh, .int .i64 st, .int .i64 x0, .int .i64 x1, .int .i64 d0, .int .i64 d1], .int .i64 nn] w fun e w' => e = .returned (ft (noFill, 1)) ∧ Below w.heap.size w w' := by
  have HE := Lib.hid (show Below w.heap.size w (((w.alloc (.cells #[.int .i64 id, .int .i64 al, .int .i64 ah, .slice A n c, .slice B mm d, .slice C l ee, .int .i64 t0, .int .i64 t1, .int .i64 u0, .int .i64 u1, .int .i64 v0, .int .i64 v1, .int .i64 h0, .int .i64 h1] 45)).alloc (.cells #[.int .i64 fh, .int .i64 st, .int .i64 x0, .int .i64 x1, .int .i64 d0, .int .i64 d1] 47)).alloc (.cells #[.int .i64 0, .int .i64 0, .int .i64 0, .int .i64 0, .int .i64 0, .int .i64 0] 47)) from below_a3 (Below.refl _ _))
  have HK := Lib.hid (boxes3' w 45 47 47 #[.int .i64 id, .int .i64 al, .int .i64 ah, .slice A n c, .slice B mm d, .slice C l ee, .int .i64 t0, .int .i64 t1, .int .i64 u0, .int .i64 u1, .int .i64 v0, .int .i64 v1, .int .i64 h0, .int .i64 h1] #[.int .i64 fh, .int .i64 st, .int .i64 x0, .int .i64 x1, .int .i64 d0, .int .i64 d1] #[.int .i64 0, .int .i64 0, .int .i64 0, .int .i64 0, .int .i64 0, .int .i64 0])
  have C1 : Hid (∀ W, Below w.heap.size w W → Calls Tryz.prog 69 #[.agg #[.int .i64 id, .int .i64 al, .int .i64 ah, .slice A n c, .slice B mm d, .slice C l ee, .int .i64 t0, .int .i64 t1, .int .i64 u0, .int .i64 u1, .int .i64 v0, .int .i64 v1, .int .i64 h0, .int .i64 h1], .agg #[.int .i64 fh, .int .i64 st, .int .i64 x0, .int .i64 x1, .int .i64 d0, .int .i64 d1]] W fun e w' => e = .returned (.int .i64 0) ∧ Below W.heap.size W w') := Lib.hid fun W hW => int_to (sCheckFill_any ⟨id, al, ah, vol, mom, hei, t0, t1, u0, u1, v0, v1, h0, h1⟩ ⟨A, n, c, B, mm, d, C, l, ee⟩ ⟨fh, st, x0, x1, d0, d1⟩ W (hi.below hW)) g1
  have C2 : Hid (∀ W, Calls Tryz.prog 75 #[.int .i64 st] W fun e w' => e = .returned (.bool true) ∧ Below W.heap.size W w') := Lib.hid fun W => sFree_to st true W (decide_eq_true (by omega))
  have C3 : Hid (∀ W, Calls Tryz.prog 50 #[.int .i64 nn, .int .i64 0, .int .i64 1000000] W fun e w' => e = .returned (.bool false) ∧ Below W.heap.size W w') := Lib.hid fun W => between_to nn 0 1000000 false W (decide_eq_false (by omega))
  have GN := Lib.hid gn
  clear g1 hi q0 q2 gn
  go_enter Tryz.func26, Tryz.ntmps26
  go_wp2_with fail
  obtain ⟨W0, hW0⟩ : ∃ W0, (((w.alloc (.cells #[.int .i64 id, .int .i64 al, .int .i64 ah, .slice A n c, .slice B mm d, .slice C l ee, .int .i64 t0, .int .i64 t1, .int .i64 u0, .int .i64 u1, .int .i64 v0, .int .i64 v1, .int .i64 h0, .int .i64 h1] 45)).alloc (.cells #[.int .i64 fh, .int .i64 st, .int .i64 x0, .int .i64 x1, .int .i64 d0, .int .i64 d1] 47)).alloc (.cells #[.int .i64 0, .int .i64 0, .int .i64 0, .int .i64 0, .int .i64 0, .int .i64 0] 47)) = W0 := ⟨_, rfl⟩
  rw [hW0] at HE HK ⊢
  clear hW0
  obtain ⟨G, hG⟩ : ∃ G, w.heap.size = G := ⟨_, rfl⟩
  rw [hG] at HK ⊢
  have HG := Lib.hid hG; clear hG
  refine (C1.out _ HE.out).mono ?_
  rintro e w1 ⟨rfl, hq⟩
  have HE1 := Lib.hid (below_then HE.out hq); have HK1 := Lib.hid (HK.out.on hq)
  clear hq HE HK C1
  have fa := HK1.out _ (.tail _ (.head _))
  have fa1 := fa.cell 1
  simp at fa1
  clear fa
  go_wp2_with fail
  refine (C2.out _).mono ?_
  rintro e w2 ⟨rfl, hq⟩
  have HE2 := Lib.hid (below_then HE1.out hq); have HK2 := Lib.hid (HK1.out.on hq)
  clear hq HE1 HK1 C2 fa1
  go_wp2_with fail
  refine (C3.out _).mono ?_
  rintro e w3 ⟨rfl, hq⟩
  have HE3 := Lib.hid (below_then HE2.out hq); have HK3 := Lib.hid (HK2.out.on hq)
  clear hq HE2 HK2 C3
  go_upto_region 7 with fail
  refine wp_region_lit ?_
  refine wpList_plain rfl (fun K hK => ?_)
  go_simp
  refine hK _ _ ?_
  clear hK K
  have HKR : Hid (Blk (w3.setRow (G + 1 + 1) #[.int .i64 0, .int .i64 0, .int .i64 0, .int .i64 0, .int .i64 0, .int .i64 0]) (G + 1 + 1) 47 #[.int .i64 0, .int .i64 0, .int .i64 0, .int .i64 0, .int .i64 0, .int .i64 0]) := Lib.hid (setRow_heap w3 (G + 1 + 1) _ _ 47 _ (HK3.out _ (.head _)))
  have HE9 := Lib.hid (below_setRow HE3.out (show w.heap.size ≤ G + 1 + 1 by have := HG.out; omega) #[.int .i64 0, .int .i64 0, .int .i64 0, .int .i64 0, .int .i64 0, .int .i64 0])
  refine wpList_store_row rfl 47 (.tmp 6) (.tmp 24) rfl (G + 1 + 1) #[.int .i64 0, .int .i64 0, .int .i64 0, .int .i64 0, .int .i64 0, .int .i64 0] rfl rfl 47 _ (HK3.out _ (.head _)) (by kernel_rfl) rfl (by kernel_rfl) ?_
  obtain ⟨W9, hW9⟩ : ∃ W9, w3.setRow (G + 1 + 1) #[.int .i64 0, .int .i64 0, .int .i64 0, .int .i64 0, .int .i64 0, .int .i64 0] = W9 := ⟨_, rfl⟩
  rw [hW9] at HKR HE9 ⊢
  clear hW9
  go_wp2
  exact bodyPost_ret (v := .tuple #[.agg #[.int .i64 0, .int .i64 0, .int .i64 0, .int .i64 0, .int .i64 0, .int .i64 0], .int .i64 1]) (results_cell_tmp_row Tryz.results26 _ _ (G + 1 + 1) 47 #[.int .i64 0, .int .i64 0, .int .i64 0, .int .i64 0, .int .i64 0, .int .i64 0] (0, 0) _ _ rfl rfl HKR.out Tryz.underlying47 rfl (by kernel_rfl)) rfl ⟨rfl, HE9.out⟩

set_option maxRecDepth 100000 in
set_option maxHeartbeats 4000000 in
theorem sSettle_ok (vol mom hei : List P3) (id al ah t0 t1 u0 u1 v0 v1 h0 h1 : Int) (A B C : Option Addr) (n c mm d l ee : Nat) (fh st x0 x1 d0 d1 nn : Int) (g1 : fillErr ⟨id, al, ah, vol, mom, hei, t0, t1, u0, u1, v0, v1, h0, h1⟩ ⟨fh, st, x0, x1, d0, d1⟩ = 0) (q0 : 3 ≤ st) (q2 : st ≤ 5) (gn : 0 ≤ nn ∧ nn ≤ 1000000) (ht : tabOk vol = true) (kx : IntKind.i64.wrap (x1 + nn) = x1 + nn) (w : World) (hi : HoldIn w ⟨id, al, ah, vol, mom, hei, t0, t1, u0, u1, v0, v1, h0, h1⟩ ⟨A, n, c, B, mm, d, C, l, ee⟩) :
    Calls Tryz.prog 26 #[.agg #[.int .i64 id, .int .i64 al, .int .i64 ah, .slice A n c, .slice B mm d, .slice C l ee, .int .i64 t0, .int .i64 t1, .int .i64 u0, .int .i64 u1, .int .i64 v0, .int .i64 v1, .int .i64 h0, .int .i64 h1], .agg #[.int .i64 fh, .int .i64 st, .int .i64 x0, .int .i64 x1, .int .i64 d0, .int .i64 d1], .int .i64 nn] w fun e w' => e = .returned (ft (⟨fh, st, x0, min (x1 + nn) (lastX vol), d0, d1⟩, 0)) ∧ Below w.heap.size w w' := by
  have HE := Lib.hid (show Below w.heap.size w (((w.alloc (.cells #[.int .i64 id, .int .i64 al, .int .i64 ah, .slice A n c, .slice B mm d, .slice C l ee, .int .i64 t0, .int .i64 t1, .int .i64 u0, .int .i64 u1, .int .i64 v0, .int .i64 v1, .int .i64 h0, .int .i64 h1] 45)).alloc (.cells #[.int .i64 fh, .int .i64 st, .int .i64 x0, .int .i64 x1, .int .i64 d0, .int .i64 d1] 47)).alloc (.cells #[.int .i64 0, .int .i64 0, .int .i64 0, .int .i64 0, .int .i64 0, .int .i64 0] 47)) from below_a3 (Below.refl _ _))
  have HK := Lib.hid (boxes3' w 45 47 47 #[.int .i64 id, .int .i64 al, .int .i64 ah, .slice A n c, .slice B mm d, .slice C l ee, .int .i64 t0, .int .i64 t1, .int .i64 u0, .int .i64 u1, .int .i64 v0, .int .i64 v1, .int .i64 h0, .int .i64 h1] #[.int .i64 fh, .int .i64 st, .int .i64 x0, .int .i64 x1, .int .i64 d0, .int .i64 d1] #[.int .i64 0, .int .i64 0, .int .i64 0, .int .i64 0, .int .i64 0, .int .i64 0])
  have C1 : Hid (∀ W, Below w.heap.size w W → Calls Tryz.prog 69 #[.agg #[.int .i64 id, .int .i64 al, .int .i64 ah, .slice A n c, .slice B mm d, .slice C l ee, .int .i64 t0, .int .i64 t1, .int .i64 u0, .int .i64 u1, .int .i64 v0, .int .i64 v1, .int .i64 h0, .int .i64 h1], .agg #[.int .i64 fh, .int .i64 st, .int .i64 x0, .int .i64 x1, .int .i64 d0, .int .i64 d1]] W fun e w' => e = .returned (.int .i64 0) ∧ Below W.heap.size W w') := Lib.hid fun W hW => int_to (sCheckFill_any ⟨id, al, ah, vol, mom, hei, t0, t1, u0, u1, v0, v1, h0, h1⟩ ⟨A, n, c, B, mm, d, C, l, ee⟩ ⟨fh, st, x0, x1, d0, d1⟩ W (hi.below hW)) g1
  have C2 : Hid (∀ W, Calls Tryz.prog 75 #[.int .i64 st] W fun e w' => e = .returned (.bool true) ∧ Below W.heap.size W w') := Lib.hid fun W => sFree_to st true W (decide_eq_true (by omega))
  have C3 : Hid (∀ W, Calls Tryz.prog 50 #[.int .i64 nn, .int .i64 0, .int .i64 1000000] W fun e w' => e = .returned (.bool true) ∧ Below W.heap.size W w') := Lib.hid fun W => between_to nn 0 1000000 true W (decide_eq_true (by omega))
  have C4 : Hid (∀ W, Below w.heap.size w W → Calls Tryz.prog 60 #[tv A n c] W fun e w' => e = .returned (.int .i64 (lastX vol)) ∧ Below W.heap.size W w') := Lib.hid fun W hW => sLast_tab A n c vol W (hi.1.below hW) ht
  have b0 : decide (nn < 0) = false := decide_eq_false (by omega)
  have b1 : decide (1000000 < nn) = false := decide_eq_false (by omega)
  clear g1 hi q0 q2 gn ht
  generalize firstX vol = f0 at *
  generalize lastX vol = f1 at *
  go_enter Tryz.func26, Tryz.ntmps26
  go_wp2_with fail
  obtain ⟨W0, hW0⟩ : ∃ W0, (((w.alloc (.cells #[.int .i64 id, .int .i64 al, .int .i64 ah, .slice A n c, .slice B mm d, .slice C l ee, .int .i64 t0, .int .i64 t1, .int .i64 u0, .int .i64 u1, .int .i64 v0, .int .i64 v1, .int .i64 h0, .int .i64 h1] 45)).alloc (.cells #[.int .i64 fh, .int .i64 st, .int .i64 x0, .int .i64 x1, .int .i64 d0, .int .i64 d1] 47)).alloc (.cells #[.int .i64 0, .int .i64 0, .int .i64 0, .int .i64 0, .int .i64 0, .int .i64 0] 47)) = W0 := ⟨_, rfl⟩
  rw [hW0] at HE HK ⊢
  clear hW0
  obtain ⟨G, hG⟩ : ∃ G, w.heap.size = G := ⟨_, rfl⟩
  rw [hG] at HK ⊢
  have HG := Lib.hid hG; clear hG
  refine (C1.out _ HE.out).mono ?_
  rintro e w1 ⟨rfl, hq⟩
  have HE1 := Lib.hid (below_then HE.out hq); have HK1 := Lib.hid (HK.out.on hq)
  clear hq HE HK C1
  have fa := HK1.out _ (.tail _ (.head _))
  have fa1 := fa.cell 1
  simp at fa1
  clear fa
  go_wp2_with fail
  refine (C2.out _).mono ?_
  rintro e w2 ⟨rfl, hq⟩
  have HE2 := Lib.hid (below_then HE1.out hq); have HK2 := Lib.hid (HK1.out.on hq)
  clear hq HE1 HK1 C2 fa1
  go_wp2_with fail
  refine (C3.out _).mono ?_
  rintro e w3 ⟨rfl, hq⟩
  have HE3 := Lib.hid (below_then HE2.out hq); have HK3 := Lib.hid (HK2.out.on hq)
  clear hq HE2 HK2 C3
  go_upto_region 8 with fail
  clear b0 b1
  have HKs : Hid (Boxes w3 ([(G, 45, #[.int .i64 id, .int .i64 al, .int .i64 ah, .slice A n c, .slice B mm d, .slice C l ee, .int .i64 t0, .int .i64 t1, .int .i64 u0, .int .i64 u1, .int .i64 v0, .int .i64 v1, .int .i64 h0, .int .i64 h1])] : List (Nat × TypeId × Array Value))) := Lib.hid (HK3.out.sub (fun x hx => .tail _ (.tail _ hx)))
  have HF : Hid (Blk w3 (G + 1) 47 #[.int .i64 fh, .int .i64 st, .int .i64 x0, .int .i64 x1, .int .i64 d0, .int .i64 d1]) := Lib.hid (HK3.out _ (.tail _ (.head _)))
  have HRS : Hid (Blk w3 (G + 1 + 1) 47 #[.int .i64 0, .int .i64 0, .int .i64 0, .int .i64 0, .int .i64 0, .int .i64 0]) := Lib.hid (HK3.out _ (.head _))
  clear HK3
  have hS0 : Boxes w3.drew ([(G, 45, #[.int .i64 id, .int .i64 al, .int .i64 ah, .slice A n c, .slice B mm d, .slice C l ee, .int .i64 t0, .int .i64 t1, .int .i64 u0, .int .i64 u1, .int .i64 v0, .int .i64 v1, .int .i64 h0, .int .i64 h1])] : List (Nat × TypeId × Array Value)) := HKs.out
  have HEd := Lib.hid HE3.out.drew
  have HFd : Hid (Blk w3.drew (G + 1) 47 #[.int .i64 fh, .int .i64 st, .int .i64 x0, .int .i64 x1, .int .i64 d0, .int .i64 d1]) := Lib.hid HF.out.drew
  have HRd : Hid (Blk w3.drew (G + 1 + 1) 47 #[.int .i64 0, .int .i64 0, .int .i64 0, .int .i64 0, .int .i64 0, .int .i64 0]) := Lib.hid HRS.out.drew
  refine wp_region_held_drew (S := fun w' => Boxes w' ([(G, 45, #[.int .i64 id, .int .i64 al, .int .i64 ah, .slice A n c, .slice B mm d, .slice C l ee, .int .i64 t0, .int .i64 t1, .int .i64 u0, .int .i64 u1, .int .i64 v0, .int .i64 v1, .int .i64 h0, .int .i64 h1])] : List (Nat × TypeId × Array Value))) (by kernel_rfl) hS0 (fun hHeld => ?_)
  obtain ⟨W5, hW⟩ : ∃ W', w3.drew = W' := ⟨_, rfl⟩
  rw [hW] at HEd HFd HRd hHeld ⊢
  clear hW hS0 HE3 HKs
  clear HF HRS
  refine wpAnyH_take (i := 0) (v := .pointer (some ⟨G + 1, 2, none⟩)) rfl (by kernel_rfl) (by kernel_rfl) (by kernel_rfl) (fun _ _ _ h => h) (Or.inl ⟨by kernel_rfl, ?_⟩) hHeld ?_
  · intro w hSw; clear hSw; go_simp; try with_reducible rfl
  change wpAnyH _ _ _ _ _ _ _ (Act.put _ (some 25) _) _
  try simp only [Act.put, List.setIfInBounds_toArray, List.set_cons_zero, List.set_cons_succ]
  refine wpAnyH_take (i := 1) (v := .pointer (some ⟨G + 1, 3, none⟩)) rfl (by kernel_rfl) (by kernel_rfl) (by kernel_rfl) (fun _ _ _ h => h) (Or.inl ⟨by kernel_rfl, ?_⟩) hHeld ?_
  · intro w hSw; clear hSw; go_simp; try with_reducible rfl
  change wpAnyH _ _ _ _ _ _ _ (Act.put _ (some 26) _) _
  try simp only [Act.put, List.setIfInBounds_toArray, List.set_cons_zero, List.set_cons_succ]
  refine wpAnyH_take (i := 3) (v := .int .i64 nn) rfl (by kernel_rfl) (by kernel_rfl) (by kernel_rfl) (fun _ _ _ h => h) (Or.inl ⟨by kernel_rfl, ?_⟩) hHeld ?_
  · intro w hSw; clear hSw; go_simp; try with_reducible rfl
  change wpAnyH _ _ _ _ _ _ _ (Act.put _ (some 28) _) _
  try simp only [Act.put, List.setIfInBounds_toArray, List.set_cons_zero, List.set_cons_succ]
  refine wpAnyH_take (i := 5) (v := .pointer (some ⟨G, 3, none⟩)) rfl (by kernel_rfl) (by kernel_rfl) (by kernel_rfl) (fun _ _ _ h => h) (Or.inl ⟨by kernel_rfl, ?_⟩) hHeld ?_
  · intro w hSw; clear hSw; go_simp; try with_reducible rfl
  change wpAnyH _ _ _ _ _ _ _ (Act.put _ (some 30) _) _
  try simp only [Act.put, List.setIfInBounds_toArray, List.set_cons_zero, List.set_cons_succ]
  refine wpAnyH_take (i := 6) (v := tv A n c) rfl (by kernel_rfl) (by kernel_rfl) (by kernel_rfl) (fun _ _ _ h => h) (Or.inl ⟨by kernel_rfl, ?_⟩) hHeld ?_
  · intro w hSw; have hz := (hSw _ (.head _)); have c3 := hz.cell 3; simp at c3; clear hz hSw; go_simp; try with_reducible rfl
  change wpAnyH _ _ _ _ _ _ _ (Act.put _ (some 31) _) _
  try simp only [Act.put, List.setIfInBounds_toArray, List.set_cons_zero, List.set_cons_succ]
  refine wpAnyH_ready (rs := [2, 7]) (by kernel_rfl) (by simp) ?_
  refine AllReadyH.cons rfl (fun K hK => ?_) (AllReadyH.cons rfl (fun K hK => ?_) AllReadyH.nil)
  · skip
    have q3 := HFd.out.cell 3
    simp at q3
    go_simp
    refine hK.out _ _ hHeld (fun hHeld2 => ?_)
    try simp only [Act.put, List.setIfInBounds_toArray, List.set_cons_zero, List.set_cons_succ]
    clear q3 hK K hHeld
    have hHeld := hHeld2
    clear hHeld2
    refine wpAnyH_take (i := 4) (v := .int .i64 (x1 + nn)) rfl (by kernel_rfl) (by kernel_rfl) (by kernel_rfl) (fun _ _ _ h => h) (Or.inl ⟨by kernel_rfl, ?_⟩) hHeld ?_
    · intro w hSw; clear hSw; go_simp; try with_reducible rfl
    change wpAnyH _ _ _ _ _ _ _ (Act.put _ (some 29) _) _
    try simp only [Act.put, List.setIfInBounds_toArray, List.set_cons_zero, List.set_cons_succ]
    refine wpAnyH_ready (rs := [7]) (by kernel_rfl) (by simp) ?_
    refine AllReadyH.cons rfl (fun K hK => ?_) AllReadyH.nil
    go_simp
    (with_reducible refine (C4.out _ HEd.out).mono ?_)
    rintro e yv ⟨rfl, hq⟩
    have HEv := Lib.hid (below_then HEd.out hq); have HFv := Lib.hid (blkOn HFd.out hq); have HRv := Lib.hid (blkOn HRd.out hq)
    have hS := hHeld.on hq
    clear hq
    refine hK.out _ _ hS (fun hHeld2 => ?_)
    try simp only [Act.put, List.setIfInBounds_toArray, List.set_cons_zero, List.set_cons_succ]
    clear hS hK K hHeld HEd HFd HRd
    have hHeld := hHeld2
    clear hHeld2
    refine wpAnyH_ready (rs := [8]) (by kernel_rfl) (by simp) ?_
    refine AllReadyH.cons rfl (fun K hK => ?_) AllReadyH.nil
    go_simp
    refine hK.out _ _ hHeld (fun hHeld2 => ?_)
    try simp only [Act.put, List.setIfInBounds_toArray, List.set_cons_zero, List.set_cons_succ]
    clear hK K hHeld
    have hHeld := hHeld2
    clear hHeld2
    refine wpAnyH_take (i := 9) (v := .pointer (some ⟨G + 1, 2, none⟩)) rfl (by kernel_rfl) (by kernel_rfl) (by kernel_rfl) (fun _ _ _ h => h) (Or.inl ⟨by kernel_rfl, ?_⟩) hHeld ?_
    · intro w hSw; clear hSw; go_simp; try with_reducible rfl
    change wpAnyH _ _ _ _ _ _ _ (Act.put _ (some 34) _) _
    try simp only [Act.put, List.setIfInBounds_toArray, List.set_cons_zero, List.set_cons_succ]
    refine wpAnyH_take (i := 10) (v := .pointer (some ⟨G + 1, 3, none⟩)) rfl (by kernel_rfl) (by kernel_rfl) (by kernel_rfl) (fun _ _ _ h => h) (Or.inl ⟨by kernel_rfl, ?_⟩) hHeld ?_
    · intro w hSw; clear hSw; go_simp; try with_reducible rfl
    change wpAnyH _ _ _ _ _ _ _ (Act.put _ (some 35) _) _
    try simp only [Act.put, List.setIfInBounds_toArray, List.set_cons_zero, List.set_cons_succ]
    have q3 := HFv.out.cell 3
    have qf3 := HFv.out.frozen 3
    have ql := HFv.out.lt
    simp at q3 qf3
    refine wpAnyH_ready (rs := [11]) (by kernel_rfl) (by simp) ?_
    refine AllReadyH.cons rfl (fun K hK => ?_) AllReadyH.nil
    go_simp
    have HE7 := Lib.hid (HEv.out.setCell (p := ⟨G + 1, 3, none⟩) (show w.heap.size ≤ G + 1 by have := HG.out; omega) (.int .i64 (min (x1 + nn) f1)))
    have HF7 : Hid (Blk (yv.setCell ⟨G + 1, 3, none⟩ (.int .i64 (min (x1 + nn) f1))) (G + 1) 47 #[.int .i64 fh, .int .i64 st, .int .i64 x0, .int .i64 (min (x1 + nn) f1), .int .i64 d0, .int .i64 d1]) := Lib.hid (HFv.out.set_ 3 (.int .i64 (min (x1 + nn) f1)))
    have HR7 : Hid (Blk (yv.setCell ⟨G + 1, 3, none⟩ (.int .i64 (min (x1 + nn) f1))) (G + 1 + 1) 47 #[.int .i64 0, .int .i64 0, .int .i64 0, .int .i64 0, .int .i64 0, .int .i64 0]) := Lib.hid (HRv.out.far (p := ⟨G + 1, 3, none⟩) (show G + 1 + 1 ≠ G + 1 by omega) (.int .i64 (min (x1 + nn) f1)))
    have hS : Boxes (yv.setCell ⟨G + 1, 3, none⟩ (.int .i64 (min (x1 + nn) f1))) ([(G, 45, #[.int .i64 id, .int .i64 al, .int .i64 ah, .slice A n c, .slice B mm d, .slice C l ee, .int .i64 t0, .int .i64 t1, .int .i64 u0, .int .i64 u1, .int .i64 v0, .int .i64 v1, .int .i64 h0, .int .i64 h1])] : List (Nat × TypeId × Array Value)) := fun x hx => (hHeld x hx).far (p := ⟨G + 1, 3, none⟩) (by rw [List.mem_singleton.1 hx]; dsimp only; omega) (.int .i64 (min (x1 + nn) f1))
    obtain ⟨W7, hW⟩ : ∃ W', yv.setCell ⟨G + 1, 3, none⟩ (.int .i64 (min (x1 + nn) f1)) = W' := ⟨_, rfl⟩
    rw [hW] at HE7 HF7 HR7 hS ⊢
    clear hW q3 qf3 ql HEv HFv HRv
    refine hK.out _ _ hS (fun hHeld2 => ?_)
    try simp only [Act.put, List.setIfInBounds_toArray, List.set_cons_zero, List.set_cons_succ]
    clear hS hK K hHeld
    refine wpAnyH_done (by kernel_rfl) ?_ _
    clear hHeld2
    have q := HF7.out
    have qa0 := q.cell 0
    have qa1 := q.cell 1
    have qa2 := q.cell 2
    have qa3 := q.cell 3
    have qa4 := q.cell 4
    have qa5 := q.cell 5
    simp at qa0 qa1 qa2 qa3 qa4 qa5
    clear q
    go_upto_region 9 with fail
    refine wp_region_lit ?_
    refine wpList_plain rfl (fun K hK => ?_)
    go_simp
    refine hK _ _ ?_
    clear hK K
    have HKR : Hid (Blk (W7.setRow (G + 1 + 1) #[.int .i64 fh, .int .i64 st, .int .i64 x0, .int .i64 (min (x1 + nn) f1), .int .i64 d0, .int .i64 d1]) (G + 1 + 1) 47 #[.int .i64 fh, .int .i64 st, .int .i64 x0, .int .i64 (min (x1 + nn) f1), .int .i64 d0, .int .i64 d1]) := Lib.hid (setRow_heap W7 (G + 1 + 1) _ _ 47 _ (HR7.out))
    have HE9 := Lib.hid (below_setRow HE7.out (show w.heap.size ≤ G + 1 + 1 by have := HG.out; omega) #[.int .i64 fh, .int .i64 st, .int .i64 x0, .int .i64 (min (x1 + nn) f1), .int .i64 d0, .int .i64 d1])
    refine wpList_store_row rfl 47 (.tmp 6) (.tmp 36) rfl (G + 1 + 1) #[.int .i64 fh, .int .i64 st, .int .i64 x0, .int .i64 (min (x1 + nn) f1), .int .i64 d0, .int .i64 d1] rfl rfl 47 _ (HR7.out) (by kernel_rfl) rfl (by kernel_rfl) ?_
    obtain ⟨W9, hW9⟩ : ∃ W9, W7.setRow (G + 1 + 1) #[.int .i64 fh, .int .i64 st, .int .i64 x0, .int .i64 (min (x1 + nn) f1), .int .i64 d0, .int .i64 d1] = W9 := ⟨_, rfl⟩
    rw [hW9] at HKR HE9 ⊢
    clear hW9
    go_wp2
    exact bodyPost_ret (v := .tuple #[.agg #[.int .i64 fh, .int .i64 st, .int .i64 x0, .int .i64 (min (x1 + nn) f1), .int .i64 d0, .int .i64 d1], .int .i64 0]) (results_cell_tmp_row Tryz.results26 _ _ (G + 1 + 1) 47 #[.int .i64 fh, .int .i64 st, .int .i64 x0, .int .i64 (min (x1 + nn) f1), .int .i64 d0, .int .i64 d1] (0, 0) _ _ rfl rfl HKR.out Tryz.underlying47 rfl (by kernel_rfl)) rfl ⟨rfl, HE9.out⟩
  · skip
    go_simp
    (with_reducible refine (C4.out _ HEd.out).mono ?_)
    rintro e yv ⟨rfl, hq⟩
    have HEv := Lib.hid (below_then HEd.out hq); have HFv := Lib.hid (blkOn HFd.out hq); have HRv := Lib.hid (blkOn HRd.out hq)
    have hS := hHeld.on hq
    clear hq
    refine hK.out _ _ hS (fun hHeld2 => ?_)
    try simp only [Act.put, List.setIfInBounds_toArray, List.set_cons_zero, List.set_cons_succ]
    clear hS hK K hHeld HEd HFd HRd
    have hHeld := hHeld2
    clear hHeld2
    refine wpAnyH_ready (rs := [2]) (by kernel_rfl) (by simp) ?_
    refine AllReadyH.cons rfl (fun K hK => ?_) AllReadyH.nil
    have q3 := HFv.out.cell 3
    simp at q3
    go_simp
    refine hK.out _ _ hHeld (fun hHeld2 => ?_)
    try simp only [Act.put, List.setIfInBounds_toArray, List.set_cons_zero, List.set_cons_succ]
    clear q3 hK K hHeld
    have hHeld := hHeld2
    clear hHeld2
    refine wpAnyH_take (i := 4) (v := .int .i64 (x1 + nn)) rfl (by kernel_rfl) (by kernel_rfl) (by kernel_rfl) (fun _ _ _ h => h) (Or.inl ⟨by kernel_rfl, ?_⟩) hHeld ?_
    · intro w hSw; clear hSw; go_simp; try with_reducible rfl
    change wpAnyH _ _ _ _ _ _ _ (Act.put _ (some 29) _) _
    try simp only [Act.put, List.setIfInBounds_toArray, List.set_cons_zero, List.set_cons_succ]
    refine wpAnyH_ready (rs := [8]) (by kernel_rfl) (by simp) ?_
    refine AllReadyH.cons rfl (fun K hK => ?_) AllReadyH.nil
    go_simp
    refine hK.out _ _ hHeld (fun hHeld2 => ?_)
    try simp only [Act.put, List.setIfInBounds_toArray, List.set_cons_zero, List.set_cons_succ]
    clear hK K hHeld
    have hHeld := hHeld2
    clear hHeld2
    refine wpAnyH_take (i := 9) (v := .pointer (some ⟨G + 1, 2, none⟩)) rfl (by kernel_rfl) (by kernel_rfl) (by kernel_rfl) (fun _ _ _ h => h) (Or.inl ⟨by kernel_rfl, ?_⟩) hHeld ?_
    · intro w hSw; clear hSw; go_simp; try with_reducible rfl
    change wpAnyH _ _ _ _ _ _ _ (Act.put _ (some 34) _) _
    try simp only [Act.put, List.setIfInBounds_toArray, List.set_cons_zero, List.set_cons_succ]
    refine wpAnyH_take (i := 10) (v := .pointer (some ⟨G + 1, 3, none⟩)) rfl (by kernel_rfl) (by kernel_rfl) (by kernel_rfl) (fun _ _ _ h => h) (Or.inl ⟨by kernel_rfl, ?_⟩) hHeld ?_
    · intro w hSw; clear hSw; go_simp; try with_reducible rfl
    change wpAnyH _ _ _ _ _ _ _ (Act.put _ (some 35) _) _
    try simp only [Act.put, List.setIfInBounds_toArray, List.set_cons_zero, List.set_cons_succ]
    have q3 := HFv.out.cell 3
    have qf3 := HFv.out.frozen 3
    have ql := HFv.out.lt
    simp at q3 qf3
    refine wpAnyH_ready (rs := [11]) (by kernel_rfl) (by simp) ?_
    refine AllReadyH.cons rfl (fun K hK => ?_) AllReadyH.nil
    go_simp
    have HE7 := Lib.hid (HEv.out.setCell (p := ⟨G + 1, 3, none⟩) (show w.heap.size ≤ G + 1 by have := HG.out; omega) (.int .i64 (min (x1 + nn) f1)))
    have HF7 : Hid (Blk (yv.setCell ⟨G + 1, 3, none⟩ (.int .i64 (min (x1 + nn) f1))) (G + 1) 47 #[.int .i64 fh, .int .i64 st, .int .i64 x0, .int .i64 (min (x1 + nn) f1), .int .i64 d0, .int .i64 d1]) := Lib.hid (HFv.out.set_ 3 (.int .i64 (min (x1 + nn) f1)))
    have HR7 : Hid (Blk (yv.setCell ⟨G + 1, 3, none⟩ (.int .i64 (min (x1 + nn) f1))) (G + 1 + 1) 47 #[.int .i64 0, .int .i64 0, .int .i64 0, .int .i64 0, .int .i64 0, .int .i64 0]) := Lib.hid (HRv.out.far (p := ⟨G + 1, 3, none⟩) (show G + 1 + 1 ≠ G + 1 by omega) (.int .i64 (min (x1 + nn) f1)))
    have hS : Boxes (yv.setCell ⟨G + 1, 3, none⟩ (.int .i64 (min (x1 + nn) f1))) ([(G, 45, #[.int .i64 id, .int .i64 al, .int .i64 ah, .slice A n c, .slice B mm d, .slice C l ee, .int .i64 t0, .int .i64 t1, .int .i64 u0, .int .i64 u1, .int .i64 v0, .int .i64 v1, .int .i64 h0, .int .i64 h1])] : List (Nat × TypeId × Array Value)) := fun x hx => (hHeld x hx).far (p := ⟨G + 1, 3, none⟩) (by rw [List.mem_singleton.1 hx]; dsimp only; omega) (.int .i64 (min (x1 + nn) f1))
    obtain ⟨W7, hW⟩ : ∃ W', yv.setCell ⟨G + 1, 3, none⟩ (.int .i64 (min (x1 + nn) f1)) = W' := ⟨_, rfl⟩
    rw [hW] at HE7 HF7 HR7 hS ⊢
    clear hW q3 qf3 ql HEv HFv HRv
    refine hK.out _ _ hS (fun hHeld2 => ?_)
    try simp only [Act.put, List.setIfInBounds_toArray, List.set_cons_zero, List.set_cons_succ]
    clear hS hK K hHeld
    refine wpAnyH_done (by kernel_rfl) ?_ _
    clear hHeld2
    have q := HF7.out
    have qa0 := q.cell 0
    have qa1 := q.cell 1
    have qa2 := q.cell 2
    have qa3 := q.cell 3
    have qa4 := q.cell 4
    have qa5 := q.cell 5
    simp at qa0 qa1 qa2 qa3 qa4 qa5
    clear q
    go_upto_region 9 with fail
    refine wp_region_lit ?_
    refine wpList_plain rfl (fun K hK => ?_)
    go_simp
    refine hK _ _ ?_
    clear hK K
    have HKR : Hid (Blk (W7.setRow (G + 1 + 1) #[.int .i64 fh, .int .i64 st, .int .i64 x0, .int .i64 (min (x1 + nn) f1), .int .i64 d0, .int .i64 d1]) (G + 1 + 1) 47 #[.int .i64 fh, .int .i64 st, .int .i64 x0, .int .i64 (min (x1 + nn) f1), .int .i64 d0, .int .i64 d1]) := Lib.hid (setRow_heap W7 (G + 1 + 1) _ _ 47 _ (HR7.out))
    have HE9 := Lib.hid (below_setRow HE7.out (show w.heap.size ≤ G + 1 + 1 by have := HG.out; omega) #[.int .i64 fh, .int .i64 st, .int .i64 x0, .int .i64 (min (x1 + nn) f1), .int .i64 d0, .int .i64 d1])
    refine wpList_store_row rfl 47 (.tmp 6) (.tmp 36) rfl (G + 1 + 1) #[.int .i64 fh, .int .i64 st, .int .i64 x0, .int .i64 (min (x1 + nn) f1), .int .i64 d0, .int .i64 d1] rfl rfl 47 _ (HR7.out) (by kernel_rfl) rfl (by kernel_rfl) ?_
    obtain ⟨W9, hW9⟩ : ∃ W9, W7.setRow (G + 1 + 1) #[.int .i64 fh, .int .i64 st, .int .i64 x0, .int .i64 (min (x1 + nn) f1), .int .i64 d0, .int .i64 d1] = W9 := ⟨_, rfl⟩
    rw [hW9] at HKR HE9 ⊢
    clear hW9
    go_wp2
    exact bodyPost_ret (v := .tuple #[.agg #[.int .i64 fh, .int .i64 st, .int .i64 x0, .int .i64 (min (x1 + nn) f1), .int .i64 d0, .int .i64 d1], .int .i64 0]) (results_cell_tmp_row Tryz.results26 _ _ (G + 1 + 1) 47 #[.int .i64 fh, .int .i64 st, .int .i64 x0, .int .i64 (min (x1 + nn) f1), .int .i64 d0, .int .i64 d1] (0, 0) _ _ rfl rfl HKR.out Tryz.underlying47 rfl (by kernel_rfl)) rfl ⟨rfl, HE9.out⟩
end

end Go.Proofs.YtbcefdaflnlhoaaGreat
