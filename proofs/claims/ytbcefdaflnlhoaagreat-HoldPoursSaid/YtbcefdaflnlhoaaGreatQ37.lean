/- HoldPours: whatever hold, fill and amount come in, the law returns true and leaves its arguments as they were. No conditions. -/
import Derived.Test.YtbcefdaflnlhoaaGreatQ35
import Derived.Test.YtbcefdaflnlhoaaGreatQ33
import Derived.Test.YtbcefdaflnlhoaaGreatQ36
import Derived.Test.YtbcefdaflnlhoaaGreatQ31
import Derived.Test.YtbcefdaflnlhoaaGreatQ14
set_option linter.unusedVariables false
set_option linter.unusedSimpArgs false
set_option linter.constructorNameAsVariable false
namespace Go.Proofs.YtbcefdaflnlhoaaGreat

section
open Go.RowKit

theorem sPour_any (h : HoldD) (m : HoldM) (f : FillD) (a b e0 e1 : Int) (w : World) (hi : HoldIn w h m) :
    Calls Tryz.prog 22 #[holdV h m, fillV f, rv a b, rv e0 e1] w fun e w' => e = .returned (ft (pourS h f a b e0 e1)) ∧ Below w.heap.size w w' := by
  rw [← pour_same]
  obtain ⟨R, hR⟩ : ∃ R, pourR h f a b e0 e1 = R := ⟨_, rfl⟩
  rw [hR]
  unfold pourR at hR
  obtain ⟨id, al, ah, vol, mom, hei, t0, t1, u0, u1, v0, v1, h0, h1⟩ := h
  obtain ⟨A, n, c, B, mm, d, C, l, ee⟩ := m
  obtain ⟨fh, st, x0, x1, d0, d1⟩ := f
  dsimp only at hR
  by_cases g1 : fillErr ⟨id, al, ah, vol, mom, hei, t0, t1, u0, u1, v0, v1, h0, h1⟩ ⟨fh, st, x0, x1, d0, d1⟩ = 0
  rotate_left
  · rw [if_neg g1] at hR
    subst hR
    exact sPour_e1 vol mom hei id al ah t0 t1 u0 u1 v0 v1 h0 h1 A B C n c mm d l ee fh x0 x1 d0 d1 a b e0 e1 st _ w hi rfl g1
  rw [if_pos g1] at hR
  by_cases g2 : massErr a b e0 e1 = 0
  rotate_left
  · rw [if_neg g2] at hR
    subst hR
    exact sPour_e2 vol mom hei id al ah t0 t1 u0 u1 v0 v1 h0 h1 A B C n c mm d l ee fh x0 x1 d0 d1 a b e0 e1 st _ w hi g1 rfl g2
  rw [if_pos g2] at hR
  obtain ⟨⟨r, s⟩, hl⟩ : ∃ v, litresS a b e0 e1 = v := ⟨_, rfl⟩
  by_cases g3 : a < 0
  · rw [if_pos g3] at hR
    subst hR
    exact sPour_e3 vol mom hei id al ah t0 t1 u0 u1 v0 v1 h0 h1 A B C n c mm d l ee fh x0 x1 d0 d1 a b e0 e1 r s st w hi g1 g2 hl g3
  rw [if_neg g3] at hR
  obtain ⟨q0, q5⟩ := fill_state g1
  dsimp only at q0 q5
  obtain ⟨z1, z2⟩ := massErr_zero g2
  have hs := litres_small' (vR_small z1) (dens_in z2)
  have hv := vol_amt g1
  obtain ⟨⟨p, q⟩, hvv⟩ : ∃ v, volS ⟨id, al, ah, vol, mom, hei, t0, t1, u0, u1, v0, v1, h0, h1⟩ ⟨fh, st, x0, x1, d0, d1⟩ = v := ⟨_, rfl⟩
  rw [hl, hvv] at hR
  rw [hl] at hs
  rw [hvv] at hv
  obtain ⟨b1, b2, b3⟩ := hv
  dsimp only at hR hs b1 b2 b3
  obtain ⟨⟨ua, ub, ue⟩, hU⟩ : ∃ v, ullS vol (p + r) (q + s) = v := ⟨_, rfl⟩
  rw [hU] at hR
  dsimp only at hR
  have k3 : IntKind.i64.wrap (p + r) = p + r := IntWalk.i64_in _ ⟨by omega, by omega⟩
  have k4 : IntKind.i64.wrap (q + s) = q + s := IntWalk.i64_in _ ⟨by omega, by omega⟩
  rcases st_cases q0 q5 with rfl | rfl | rfl | rfl | rfl | rfl
  · rw [if_neg (show ¬ ((0 : Int) = 4 ∨ (0 : Int) = 5) by omega), if_neg (show ¬ ((0 : Int) = 1 ∨ (0 : Int) = 2) by omega), if_neg (show ¬ (0 : Int) = 3 by omega)] at hR
    exact sPour_m0 vol mom hei id al ah t0 t1 u0 u1 v0 v1 h0 h1 A B C n c mm d l ee fh x0 x1 d0 d1 a b e0 e1 p q r s _ _ ua ub ue R w hi g1 g2 hl g3 hvv k3 k4 hU hR
  · rw [if_neg (show ¬ ((1 : Int) = 4 ∨ (1 : Int) = 5) by omega), if_pos (show ((1 : Int) = 1 ∨ (1 : Int) = 2) by omega)] at hR
    subst hR
    exact sPour_s1 vol mom hei id al ah t0 t1 u0 u1 v0 v1 h0 h1 A B C n c mm d l ee fh x0 x1 d0 d1 a b e0 e1 r s w hi g1 g2 hl g3
  · rw [if_neg (show ¬ ((2 : Int) = 4 ∨ (2 : Int) = 5) by omega), if_pos (show ((2 : Int) = 1 ∨ (2 : Int) = 2) by omega)] at hR
    subst hR
    exact sPour_s2 vol mom hei id al ah t0 t1 u0 u1 v0 v1 h0 h1 A B C n c mm d l ee fh x0 x1 d0 d1 a b e0 e1 r s w hi g1 g2 hl g3
  · rw [if_neg (show ¬ ((3 : Int) = 4 ∨ (3 : Int) = 5) by omega), if_neg (show ¬ ((3 : Int) = 1 ∨ (3 : Int) = 2) by omega), if_pos (show (3 : Int) = 3 from rfl)] at hR
    exact sPour_m3 vol mom hei id al ah t0 t1 u0 u1 v0 v1 h0 h1 A B C n c mm d l ee fh x0 x1 d0 d1 a b e0 e1 p q r s _ _ ua ub ue R w hi g1 g2 hl g3 hvv k3 k4 hU hR
  · rw [if_pos (show ((4 : Int) = 4 ∨ (4 : Int) = 5) by omega)] at hR
    subst hR
    exact sPour_s4 vol mom hei id al ah t0 t1 u0 u1 v0 v1 h0 h1 A B C n c mm d l ee fh x0 x1 d0 d1 a b e0 e1 r s w hi g1 g2 hl g3
  · rw [if_pos (show ((5 : Int) = 4 ∨ (5 : Int) = 5) by omega)] at hR
    subst hR
    exact sPour_s5 vol mom hei id al ah t0 t1 u0 u1 v0 v1 h0 h1 A B C n c mm d l ee fh x0 x1 d0 d1 a b e0 e1 r s w hi g1 g2 hl g3
theorem sDraw_any (h : HoldD) (m : HoldM) (f : FillD) (a b : Int) (w : World) (hi : HoldIn w h m) :
    Calls Tryz.prog 24 #[holdV h m, fillV f, rv a b] w fun e w' => e = .returned (ft (drawS h f a b)) ∧ Below w.heap.size w w' := by
  rw [← draw_same]
  obtain ⟨R, hR⟩ : ∃ R, drawR h f a b = R := ⟨_, rfl⟩
  rw [hR]
  unfold drawR at hR
  obtain ⟨id, al, ah, vol, mom, hei, t0, t1, u0, u1, v0, v1, h0, h1⟩ := h
  obtain ⟨A, n, c, B, mm, d, C, l, ee⟩ := m
  obtain ⟨fh, st, x0, x1, d0, d1⟩ := f
  dsimp only at hR
  by_cases g1 : fillErr ⟨id, al, ah, vol, mom, hei, t0, t1, u0, u1, v0, v1, h0, h1⟩ ⟨fh, st, x0, x1, d0, d1⟩ = 0
  rotate_left
  · rw [if_neg g1] at hR
    subst hR
    exact sDraw_e1 vol mom hei id al ah t0 t1 u0 u1 v0 v1 h0 h1 A B C n c mm d l ee fh x0 x1 d0 d1 a b st _ w hi rfl g1
  rw [if_pos g1] at hR
  by_cases g2 : errR a b = 0
  rotate_left
  · rw [if_neg g2] at hR
    subst hR
    exact sDraw_e2 vol mom hei id al ah t0 t1 u0 u1 v0 v1 h0 h1 A B C n c mm d l ee fh x0 x1 d0 d1 a b st _ w hi g1 rfl (by unfold errR at g2 ⊢; split at g2 <;> split <;> simp_all)
  rw [if_pos g2] at hR
  by_cases g3 : a < 0
  · rw [if_pos g3] at hR
    subst hR
    exact sDraw_e3 vol mom hei id al ah t0 t1 u0 u1 v0 v1 h0 h1 A B C n c mm d l ee fh x0 x1 d0 d1 a b st w hi g1 g2 g3
  rw [if_neg g3] at hR
  obtain ⟨q0, q5⟩ := fill_state g1
  dsimp only at q0 q5
  by_cases g4 : st = 0 ∨ st = 4 ∨ st = 5
  · rw [if_pos g4] at hR
    subst hR
    rcases g4 with rfl | rfl | rfl
    · exact sDraw_s0 vol mom hei id al ah t0 t1 u0 u1 v0 v1 h0 h1 A B C n c mm d l ee fh x0 x1 d0 d1 a b w hi g1 g2 g3
    · exact sDraw_s4 vol mom hei id al ah t0 t1 u0 u1 v0 v1 h0 h1 A B C n c mm d l ee fh x0 x1 d0 d1 a b w hi g1 g2 g3
    · exact sDraw_s5 vol mom hei id al ah t0 t1 u0 u1 v0 v1 h0 h1 A B C n c mm d l ee fh x0 x1 d0 d1 a b w hi g1 g2 g3
  rw [if_neg g4] at hR
  have z2 := fill_dens' g1 (show st ≠ 0 by omega)
  have hs := litres_small' (vR_small (errR_zero g2)) (dens_in z2)
  have hv := vol_amt g1
  obtain ⟨⟨r, s⟩, hl⟩ : ∃ v, litresS a b d0 d1 = v := ⟨_, rfl⟩
  obtain ⟨⟨p, q⟩, hvv⟩ : ∃ v, volS ⟨id, al, ah, vol, mom, hei, t0, t1, u0, u1, v0, v1, h0, h1⟩ ⟨fh, st, x0, x1, d0, d1⟩ = v := ⟨_, rfl⟩
  dsimp only at hs
  rw [hl, hvv] at hR
  rw [hl] at hs
  rw [hvv] at hv
  obtain ⟨b1, b2, b3⟩ := hv
  dsimp only at hR hs b1 b2 b3
  obtain ⟨⟨ua, ub, ue⟩, hU⟩ : ∃ v, ullS vol (max (p - s) 0) (q - r) = v := ⟨_, rfl⟩
  rw [hU] at hR
  dsimp only at hR
  have k3 : IntKind.i64.wrap (p - s) = p - s := IntWalk.i64_in _ ⟨by omega, by omega⟩
  have k4 : IntKind.i64.wrap (q - r) = q - r := IntWalk.i64_in _ ⟨by omega, by omega⟩
  have hst : st = 1 ∨ st = 2 ∨ st = 3 := by omega
  rcases hst with rfl | rfl | rfl
  · rw [if_neg (show ¬ (1 : Int) = 3 by omega)] at hR
    exact sDraw_m1 vol mom hei id al ah t0 t1 u0 u1 v0 v1 h0 h1 A B C n c mm d l ee fh x0 x1 d0 d1 a b p q r s _ _ ua ub ue R w hi g1 g2 hl g3 hvv k3 k4 hU hR
  · rw [if_neg (show ¬ (2 : Int) = 3 by omega)] at hR
    exact sDraw_m2 vol mom hei id al ah t0 t1 u0 u1 v0 v1 h0 h1 A B C n c mm d l ee fh x0 x1 d0 d1 a b p q r s _ _ ua ub ue R w hi g1 g2 hl g3 hvv k3 k4 hU hR
  · rw [if_pos (show (3 : Int) = 3 from rfl)] at hR
    exact sDraw_m3 vol mom hei id al ah t0 t1 u0 u1 v0 v1 h0 h1 A B C n c mm d l ee fh x0 x1 d0 d1 a b p q r s _ _ ua ub ue R w hi g1 g2 hl g3 hvv k3 k4 hU hR
theorem eqlFillSame (a b c d e f : Int) (w : World) : (binOp .eql 47 (.agg #[.int .i64 a, .int .i64 b, .int .i64 c, .int .i64 d, .int .i64 e, .int .i64 f]) (.agg #[.int .i64 a, .int .i64 b, .int .i64 c, .int .i64 d, .int .i64 e, .int .i64 f])).run Tryz.prog w = .ok (.bool true) w :=
  eqlFill a b c d e f a b c d e f true (by simp) w
attribute [local go_sem ↓] eqlFillSame
set_option maxRecDepth 100000 in
set_option maxHeartbeats 4000000 in
theorem holdPours_walk (h : HoldD) (m : HoldM) (f : FillD) (a b e0 e1 : Int) (w : World) (hi : HoldIn w h m) :
    Calls Tryz.prog 4 #[holdV h m, fillV f, .agg #[.int .i64 a, .int .i64 b, .int .i64 e0, .int .i64 e1]] w fun e w' => e = .returned (.bool true) ∧ Below w.heap.size w w' := by
  obtain ⟨⟨⟨p1, p2, p3, p4, p5, p6⟩, p7⟩, hp⟩ : ∃ r, pourS h f a b e0 e1 = r := ⟨_, rfl⟩
  obtain ⟨⟨⟨q1, q2, q3, q4, q5, q6⟩, q7⟩, hq⟩ : ∃ r, drawS h f a b = r := ⟨_, rfl⟩
  have CA0 : Hid (∀ W, Below w.heap.size w W → Calls Tryz.prog 21 #[holdV h m, fillV f, rv a b, rv e0 e1] W fun e w' => e = .returned (.tuple #[.agg #[.int .i64 p1, .int .i64 p2, .int .i64 p3, .int .i64 p4, .int .i64 p5, .int .i64 p6], .int .i64 p7]) ∧ Below W.heap.size W w') := Lib.hid fun W hW => by
    have := hPour_any h m f a b e0 e1 W (hi.below hW)
    rw [hp] at this; exact this
  have CA1 : Hid (∀ W, Below w.heap.size w W → Calls Tryz.prog 23 #[holdV h m, fillV f, rv a b] W fun e w' => e = .returned (.tuple #[.agg #[.int .i64 q1, .int .i64 q2, .int .i64 q3, .int .i64 q4, .int .i64 q5, .int .i64 q6], .int .i64 q7]) ∧ Below W.heap.size W w') := Lib.hid fun W hW => by
    have := hDraw_any h m f a b W (hi.below hW)
    rw [hq] at this; exact this
  have CB0 : Hid (∀ W, Below w.heap.size w W → Calls Tryz.prog 22 #[holdV h m, fillV f, rv a b, rv e0 e1] W fun e w' => e = .returned (.tuple #[.agg #[.int .i64 p1, .int .i64 p2, .int .i64 p3, .int .i64 p4, .int .i64 p5, .int .i64 p6], .int .i64 p7]) ∧ Below W.heap.size W w') := Lib.hid fun W hW => by
    have := sPour_any h m f a b e0 e1 W (hi.below hW)
    rw [hp] at this; exact this
  have CB1 : Hid (∀ W, Below w.heap.size w W → Calls Tryz.prog 24 #[holdV h m, fillV f, rv a b] W fun e w' => e = .returned (.tuple #[.agg #[.int .i64 q1, .int .i64 q2, .int .i64 q3, .int .i64 q4, .int .i64 q5, .int .i64 q6], .int .i64 q7]) ∧ Below W.heap.size W w') := Lib.hid fun W hW => by
    have := sDraw_any h m f a b W (hi.below hW)
    rw [hq] at this; exact this
  clear hp hq hi
  obtain ⟨id, al, ah, vol, mom, hei, t0, t1, u0, u1, v0, v1, h0, h1⟩ := h
  obtain ⟨A, n, c, B, mm, d, C, l, ee⟩ := m
  obtain ⟨fh, st, x0, x1, d0, d1⟩ := f
  have HE := Lib.hid (show Below w.heap.size w (((w.alloc (.cells #[.int .i64 id, .int .i64 al, .int .i64 ah, .slice A n c, .slice B mm d, .slice C l ee, .int .i64 t0, .int .i64 t1, .int .i64 u0, .int .i64 u1, .int .i64 v0, .int .i64 v1, .int .i64 h0, .int .i64 h1] 45)).alloc (.cells #[.int .i64 fh, .int .i64 st, .int .i64 x0, .int .i64 x1, .int .i64 d0, .int .i64 d1] 47)).alloc (.cells #[.int .i64 a, .int .i64 b, .int .i64 e0, .int .i64 e1] 49)) from below_a3 (Below.refl _ _))
  have HK := Lib.hid (boxes3' w 45 47 49 #[.int .i64 id, .int .i64 al, .int .i64 ah, .slice A n c, .slice B mm d, .slice C l ee, .int .i64 t0, .int .i64 t1, .int .i64 u0, .int .i64 u1, .int .i64 v0, .int .i64 v1, .int .i64 h0, .int .i64 h1] #[.int .i64 fh, .int .i64 st, .int .i64 x0, .int .i64 x1, .int .i64 d0, .int .i64 d1] #[.int .i64 a, .int .i64 b, .int .i64 e0, .int .i64 e1])
  go_enter Tryz.func4, Tryz.ntmps4
  go_upto_region 1 with fail
  obtain ⟨W0, hW0⟩ : ∃ W0 : World, (((w.alloc (.cells #[.int .i64 id, .int .i64 al, .int .i64 ah, .slice A n c, .slice B mm d, .slice C l ee, .int .i64 t0, .int .i64 t1, .int .i64 u0, .int .i64 u1, .int .i64 v0, .int .i64 v1, .int .i64 h0, .int .i64 h1] 45)).alloc (.cells #[.int .i64 fh, .int .i64 st, .int .i64 x0, .int .i64 x1, .int .i64 d0, .int .i64 d1] 47)).alloc (.cells #[.int .i64 a, .int .i64 b, .int .i64 e0, .int .i64 e1] 49)) = W0 := ⟨_, rfl⟩
  rw [hW0] at HE HK ⊢
  clear hW0
  obtain ⟨G, hG⟩ : ∃ G, w.heap.size = G := ⟨_, rfl⟩
  rw [hG] at HK ⊢
  have HG := Lib.hid hG; clear hG
  have g := HK.out _ (.head _)
  have g0 := g.cell 0
  have g1 := g.cell 1
  have g2 := g.cell 2
  have g3 := g.cell 3
  simp at g0 g1 g2 g3
  clear g
  have s := HK.out _ (.tail _ (.tail _ (.head _)))
  have s0 := s.cell 0
  have s1 := s.cell 1
  have s2 := s.cell 2
  have s3 := s.cell 3
  have s4 := s.cell 4
  have s5 := s.cell 5
  have s6 := s.cell 6
  have s7 := s.cell 7
  have s8 := s.cell 8
  have s9 := s.cell 9
  have s10 := s.cell 10
  have s11 := s.cell 11
  have s12 := s.cell 12
  have s13 := s.cell 13
  simp at s0 s1 s2 s3 s4 s5 s6 s7 s8 s9 s10 s11 s12 s13
  clear s
  have z := HK.out _ (.tail _ (.head _))
  have z0 := z.cell 0
  have z1 := z.cell 1
  have z2 := z.cell 2
  have z3 := z.cell 3
  have z4 := z.cell 4
  have z5 := z.cell 5
  simp at z0 z1 z2 z3 z4 z5
  clear z
  go_wp2_with fail
  refine (CA0.out _ HE.out).mono ?_
  rintro e y1 ⟨rfl, hb⟩
  have HE1 := Lib.hid (below_then (below_then HE.out hb) (below_alloc1 y1 (.cells #[.int .i64 p1, .int .i64 p2, .int .i64 p3, .int .i64 p4, .int .i64 p5, .int .i64 p6] 47))); have HK1 := Lib.hid ((HK.out.on hb).new 47 #[.int .i64 p1, .int .i64 p2, .int .i64 p3, .int .i64 p4, .int .i64 p5, .int .i64 p6])
  clear hb HE HK g0 g1 g2 g3 s0 s1 s2 s3 s4 s5 s6 s7 s8 s9 s10 s11 s12 s13 z0 z1 z2 z3 z4 z5 CA0
  go_upto_region 2 with fail
  obtain ⟨W1, hW⟩ : ∃ W1 : World, y1.alloc (.cells #[.int .i64 p1, .int .i64 p2, .int .i64 p3, .int .i64 p4, .int .i64 p5, .int .i64 p6] 47) = W1 := ⟨_, rfl⟩
  rw [hW] at HE1 HK1 ⊢
  clear hW
  obtain ⟨N1, hN⟩ : ∃ N, y1.heap.size = N := ⟨_, rfl⟩
  rw [hN] at HK1 ⊢
  clear hN
  have g := HK1.out _ (.tail _ (.head _))
  have g0 := g.cell 0
  have g1 := g.cell 1
  have g2 := g.cell 2
  have g3 := g.cell 3
  simp at g0 g1 g2 g3
  clear g
  have s := HK1.out _ (.tail _ (.tail _ (.tail _ (.head _))))
  have s0 := s.cell 0
  have s1 := s.cell 1
  have s2 := s.cell 2
  have s3 := s.cell 3
  have s4 := s.cell 4
  have s5 := s.cell 5
  have s6 := s.cell 6
  have s7 := s.cell 7
  have s8 := s.cell 8
  have s9 := s.cell 9
  have s10 := s.cell 10
  have s11 := s.cell 11
  have s12 := s.cell 12
  have s13 := s.cell 13
  simp at s0 s1 s2 s3 s4 s5 s6 s7 s8 s9 s10 s11 s12 s13
  clear s
  have z := HK1.out _ (.tail _ (.tail _ (.head _)))
  have z0 := z.cell 0
  have z1 := z.cell 1
  have z2 := z.cell 2
  have z3 := z.cell 3
  have z4 := z.cell 4
  have z5 := z.cell 5
  simp at z0 z1 z2 z3 z4 z5
  clear z
  go_wp2_with fail
  refine (CB0.out _ HE1.out).mono ?_
  rintro e y2 ⟨rfl, hb⟩
  have HE2 := Lib.hid (below_then (below_then HE1.out hb) (below_alloc1 y2 (.cells #[.int .i64 p1, .int .i64 p2, .int .i64 p3, .int .i64 p4, .int .i64 p5, .int .i64 p6] 47))); have HK2 := Lib.hid ((HK1.out.on hb).new 47 #[.int .i64 p1, .int .i64 p2, .int .i64 p3, .int .i64 p4, .int .i64 p5, .int .i64 p6])
  clear hb HE1 HK1 g0 g1 g2 g3 s0 s1 s2 s3 s4 s5 s6 s7 s8 s9 s10 s11 s12 s13 z0 z1 z2 z3 z4 z5 CB0
  go_upto_region 3 with fail
  obtain ⟨W2, hW⟩ : ∃ W2 : World, y2.alloc (.cells #[.int .i64 p1, .int .i64 p2, .int .i64 p3, .int .i64 p4, .int .i64 p5, .int .i64 p6] 47) = W2 := ⟨_, rfl⟩
  rw [hW] at HE2 HK2 ⊢
  clear hW
  obtain ⟨N2, hN⟩ : ∃ N, y2.heap.size = N := ⟨_, rfl⟩
  rw [hN] at HK2 ⊢
  clear hN
  as_aux_lemma =>
    have g := HK2.out _ (.tail _ (.tail _ (.head _)))
    have g0 := g.cell 0
    have g1 := g.cell 1
    simp at g0 g1
    clear g
    have s := HK2.out _ (.tail _ (.tail _ (.tail _ (.tail _ (.head _)))))
    have s0 := s.cell 0
    have s1 := s.cell 1
    have s2 := s.cell 2
    have s3 := s.cell 3
    have s4 := s.cell 4
    have s5 := s.cell 5
    have s6 := s.cell 6
    have s7 := s.cell 7
    have s8 := s.cell 8
    have s9 := s.cell 9
    have s10 := s.cell 10
    have s11 := s.cell 11
    have s12 := s.cell 12
    have s13 := s.cell 13
    simp at s0 s1 s2 s3 s4 s5 s6 s7 s8 s9 s10 s11 s12 s13
    clear s
    have z := HK2.out _ (.tail _ (.tail _ (.tail _ (.head _))))
    have z0 := z.cell 0
    have z1 := z.cell 1
    have z2 := z.cell 2
    have z3 := z.cell 3
    have z4 := z.cell 4
    have z5 := z.cell 5
    simp at z0 z1 z2 z3 z4 z5
    clear z
    go_wp2_with fail
    refine (CA1.out _ HE2.out).mono ?_
    rintro e y3 ⟨rfl, hb⟩
    have HE3 := Lib.hid (below_then (below_then HE2.out hb) (below_alloc1 y3 (.cells #[.int .i64 q1, .int .i64 q2, .int .i64 q3, .int .i64 q4, .int .i64 q5, .int .i64 q6] 47))); have HK3 := Lib.hid ((HK2.out.on hb).new 47 #[.int .i64 q1, .int .i64 q2, .int .i64 q3, .int .i64 q4, .int .i64 q5, .int .i64 q6])
    clear hb HE2 HK2 g0 g1 s0 s1 s2 s3 s4 s5 s6 s7 s8 s9 s10 s11 s12 s13 z0 z1 z2 z3 z4 z5 CA1
    go_upto_region 4 with fail
    obtain ⟨W3, hW⟩ : ∃ W3 : World, y3.alloc (.cells #[.int .i64 q1, .int .i64 q2, .int .i64 q3, .int .i64 q4, .int .i64 q5, .int .i64 q6] 47) = W3 := ⟨_, rfl⟩
    rw [hW] at HE3 HK3 ⊢
    clear hW
    obtain ⟨N3, hN⟩ : ∃ N, y3.heap.size = N := ⟨_, rfl⟩
    rw [hN] at HK3 ⊢
    clear hN
    have g := HK3.out _ (.tail _ (.tail _ (.tail _ (.head _))))
    have g0 := g.cell 0
    have g1 := g.cell 1
    simp at g0 g1
    clear g
    have s := HK3.out _ (.tail _ (.tail _ (.tail _ (.tail _ (.tail _ (.head _))))))
    have s0 := s.cell 0
    have s1 := s.cell 1
    have s2 := s.cell 2
    have s3 := s.cell 3
    have s4 := s.cell 4
    have s5 := s.cell 5
    have s6 := s.cell 6
    have s7 := s.cell 7
    have s8 := s.cell 8
    have s9 := s.cell 9
    have s10 := s.cell 10
    have s11 := s.cell 11
    have s12 := s.cell 12
    have s13 := s.cell 13
    simp at s0 s1 s2 s3 s4 s5 s6 s7 s8 s9 s10 s11 s12 s13
    clear s
    have z := HK3.out _ (.tail _ (.tail _ (.tail _ (.tail _ (.head _)))))
    have z0 := z.cell 0
    have z1 := z.cell 1
    have z2 := z.cell 2
    have z3 := z.cell 3
    have z4 := z.cell 4
    have z5 := z.cell 5
    simp at z0 z1 z2 z3 z4 z5
    clear z
    go_wp2_with fail
    refine (CB1.out _ HE3.out).mono ?_
    rintro e y4 ⟨rfl, hb⟩
    have HE4 := Lib.hid (below_then (below_then HE3.out hb) (below_alloc1 y4 (.cells #[.int .i64 q1, .int .i64 q2, .int .i64 q3, .int .i64 q4, .int .i64 q5, .int .i64 q6] 47))); have HK4 := Lib.hid ((HK3.out.on hb).new 47 #[.int .i64 q1, .int .i64 q2, .int .i64 q3, .int .i64 q4, .int .i64 q5, .int .i64 q6])
    clear hb HE3 HK3 g0 g1 s0 s1 s2 s3 s4 s5 s6 s7 s8 s9 s10 s11 s12 s13 z0 z1 z2 z3 z4 z5 CB1
    go_upto_region 5 with fail
    obtain ⟨W4, hW⟩ : ∃ W4 : World, y4.alloc (.cells #[.int .i64 q1, .int .i64 q2, .int .i64 q3, .int .i64 q4, .int .i64 q5, .int .i64 q6] 47) = W4 := ⟨_, rfl⟩
    rw [hW] at HE4 HK4 ⊢
    clear hW
    obtain ⟨N4, hN⟩ : ∃ N, y4.heap.size = N := ⟨_, rfl⟩
    rw [hN] at HK4 ⊢
    clear hN
    as_aux_lemma =>
      have a3_ := HK4.out _ (.tail _ (.tail _ (.tail _ (.head _))))
      have a3_0 := a3_.cell 0
      have a3_1 := a3_.cell 1
      have a3_2 := a3_.cell 2
      have a3_3 := a3_.cell 3
      have a3_4 := a3_.cell 4
      have a3_5 := a3_.cell 5
      simp at a3_0 a3_1 a3_2 a3_3 a3_4 a3_5
      clear a3_
      have a4_ := HK4.out _ (.tail _ (.tail _ (.head _)))
      have a4_0 := a4_.cell 0
      have a4_1 := a4_.cell 1
      have a4_2 := a4_.cell 2
      have a4_3 := a4_.cell 3
      have a4_4 := a4_.cell 4
      have a4_5 := a4_.cell 5
      simp at a4_0 a4_1 a4_2 a4_3 a4_4 a4_5
      clear a4_
      have a5_ := HK4.out _ (.tail _ (.head _))
      have a5_0 := a5_.cell 0
      have a5_1 := a5_.cell 1
      have a5_2 := a5_.cell 2
      have a5_3 := a5_.cell 3
      have a5_4 := a5_.cell 4
      have a5_5 := a5_.cell 5
      simp at a5_0 a5_1 a5_2 a5_3 a5_4 a5_5
      clear a5_
      have a6_ := HK4.out _ (.head _)
      have a6_0 := a6_.cell 0
      have a6_1 := a6_.cell 1
      have a6_2 := a6_.cell 2
      have a6_3 := a6_.cell 3
      have a6_4 := a6_.cell 4
      have a6_5 := a6_.cell 5
      simp at a6_0 a6_1 a6_2 a6_3 a6_4 a6_5
      clear a6_
      go_wp2_with fail
      refine (msane_any _).mono ?_
      rintro e z9 ⟨rfl, hb⟩
      have HE9 := Lib.hid (below_then HE4.out hb)
      clear hb
      go_wp2
      go_ret
      exact ⟨rfl, HE9.out⟩
end

section
open Go.ChangeShapes Go.WideShapes Go.ChangeAt Go.RowKit Go.Joins

set_option maxRecDepth 100000 in
theorem holdPours_lifted (os : Os) (started : os.Started) (H : Type) (enc : TypeId × Value → H) :
    ReturnsInHanded {} Tryz.checked os 4 .any (Rows.holdPoursSpec.pre6 enc Tryz.prog Tryz.f4 Rows.holdPoursRow.domain false) (Rows.holdPoursSpec.post enc Tryz.prog Tryz.f4 false true false false) := by
  refine returnsInHanded_of_change (C := Tryz.checked) own started (by kernel_rfl) Tryz.func4
    (ChangeSpec.witness6 (enc := enc) (C := Tryz.checked) false ⟨#[], #[.agg #[.int .i64 0, .int .i64 0, .int .i64 0, .slice none 0 0, .slice none 0 0, .slice none 0 0, .int .i64 0, .int .i64 0, .int .i64 0, .int .i64 0, .int .i64 0, .int .i64 0, .int .i64 0, .int .i64 0], .agg #[.int .i64 0, .int .i64 0, .int .i64 0, .int .i64 0, .int .i64 0, .int .i64 0], .agg #[.int .i64 0, .int .i64 0, .int .i64 0, .int .i64 0]], []⟩ 8 (by kernel_rfl) (by kernel_rfl) (by kernel_rfl) (by kernel_rfl)) ?_
  intro W base args ds gs before hval0 hW hcnd _
  have hval : ∀ (j : Nat) t v, Tryz.f4.params[j]? = some t → args[j]? = some v → Value.okWide Tryz.prog W .any base t v := hval0
  have hW' := hW
  obtain ⟨p, q, hA0, hV, rfl, hfz, hnd⟩ := hW
  have hA : DataW.TrodAll enc Tryz.prog W 0 (fun _ => true) true Tryz.f4.params.toList args.toList ds p := hA0
  rw [Tryz.params4] at hA hval
  obtain ⟨v0, v1, v2, d0, d1, d2, p0, p1, p2, hargs, rfl, rfl, h0, h1, h2⟩ := trodAll_three hA
  obtain rfl : args = #[v0, v1, v2] := by cases args; simp_all
  obtain ⟨rfl, rfl⟩ := trodVars_none hV
  obtain ⟨h, m, rfl, hi⟩ := open_hold (hval 0 45 v0 rfl rfl) h0
  obtain ⟨f, rfl⟩ := open_fill (hval 1 47 v1 rfl rfl) h1
  obtain ⟨a, b, e0, e1, rfl⟩ := open_amount (hval 2 49 v2 rfl rfl) h2
  refine (holdPours_walk h m f a b e0 e1 W hi).mono fun e W' ⟨he, hb⟩ => ?_
  subst he
  exact ⟨_, rfl, law_post rfl rfl (by intro t ht; rw [Tryz.params4] at ht
                                      have : t = 45 ∨ t = 47 ∨ t = 49 := by simpa using ht
                                      rcases this with rfl | rfl | rfl <;> exact ⟨by kernel_rfl, of_decide_eq_true (by kernel_rfl)⟩) hW' rfl rfl rfl hb⟩

theorem holdPours_holds : Rows.HoldPoursSaid :=
  OpenClaim.holds_of_wide 4 Tryz.f4 rfl rfl rfl rfl rfl rfl rfl ⟨rfl, rfl, rfl, rfl, rfl⟩ rfl rfl rfl rfl rfl (by kernel_rfl) Tryz.func4 (by kernel_rfl)
    (of_decide_eq_true (by kernel_rfl)) (by unfold Func.isWrapper; rw [if_neg (of_decide_eq_false (by kernel_rfl))]; exact ⟨rfl, rfl⟩)
    (fun os started H enc _ => holdPours_lifted os started H enc)
end

end Go.Proofs.YtbcefdaflnlhoaaGreat
