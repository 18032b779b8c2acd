/- HoldBetween: whatever hold and fills come in, the law returns true and leaves its arguments as they were. No conditions. -/
import Derived.Test.YtbcefdaflnlhoaaGreatQ40
import Derived.Test.YtbcefdaflnlhoaaGreatQ32
import Derived.Test.YtbcefdaflnlhoaaGreatQ31
import Derived.Test.YtbcefdaflnlhoaaGreatQ14
set_option linter.unusedVariables false
set_option linter.unusedSimpArgs false
set_option linter.constructorNameAsVariable false
namespace Go.Proofs.YtbcefdaflnlhoaaGreat

section
open Go.RowKit

/-- what Between returns -/
def betS (h : HoldD) (f g : FillD) : List FillD × Int :=
  if fillErr h f = 0 then (if fillErr h g = 0 then
    (if f.st = g.st then [⟨h.id, f.st, min f.x0 g.x0, max f.x1 g.x1, (mixS f.d0 f.d1 g.d0 g.d1).1, (mixS f.d0 f.d1 g.d0 g.d1).2⟩]
      else [f, ⟨h.id, 3, min (surS h f).1 (surS h g).1, max (surS h f).2 (surS h g).2, (mixS f.d0 f.d1 g.d0 g.d1).1, (mixS f.d0 f.d1 g.d0 g.d1).2⟩, g], 0)
    else ([], fillErr h g)) else ([], fillErr h f)
theorem hul_in {a b c d : Int} (h1 : 0 ≤ a ∧ a ≤ b ∧ b ≤ 1000000) (h2 : 0 ≤ c ∧ c ≤ d ∧ d ≤ 1000000) : hulS a b c d = (min a c, max b d) := by
  have v1 : vR a b = true := (vR_iff a b).2 (by omega)
  have v2 : vR c d = true := (vR_iff c d).2 (by omega)
  unfold hulS hullS
  rw [twoS_yes (by rw [v1, v2]; rfl)]
theorem fill_x {h : HoldD} {f : FillD} (e : fillErr h f = 0) : 0 ≤ f.x0 ∧ f.x0 ≤ f.x1 ∧ f.x1 ≤ 1000000 := by
  obtain ⟨pl1, pl2⟩ := places_in (hold_tab (fill_zero e).1)
  have g := (fill_zero e).2
  unfold fillS stateS at g
  simp only [Bool.and_eq_true, Bool.or_eq_true, decide_eq_true_eq, beq_iff_eq, inB] at g
  omega
theorem sur_x {h : HoldD} {f : FillD} (e : fillErr h f = 0) : 0 ≤ (surS h f).1 ∧ (surS h f).1 ≤ (surS h f).2 ∧ (surS h f).2 ≤ 1000000 := by
  have ht := hold_tab (fill_zero e).1
  obtain ⟨pl1, pl2⟩ := places_in ht
  have hle := first_le_last ht
  have hx := fill_x e
  unfold surS
  split
  · dsimp only; omega
  · split
    · dsimp only; omega
    · exact hx
theorem mix_ite {h : HoldD} {f g : FillD} (e1 : fillErr h f = 0) (e2 : fillErr h g = 0) : (if g.st = 0 then (f.d0, f.d1) else (if f.st = 0 then (g.d0, g.d1) else (min f.d0 g.d0, max f.d1 g.d1))) = mixS f.d0 f.d1 g.d0 g.d1 := by
  by_cases s1 : f.st = 0
  · obtain ⟨q1, q2⟩ := fill_empty e1 s1
    by_cases s2 : g.st = 0
    · obtain ⟨q3, q4⟩ := fill_empty e2 s2
      rw [if_pos s2, q1, q2, q3, q4, mix_none]
    · rw [if_neg s2, if_pos s1, q1, q2, mix_none]
  · have p1 := fill_dens' e1 s1
    by_cases s2 : g.st = 0
    · obtain ⟨q3, q4⟩ := fill_empty e2 s2
      have := dens_in p1
      rw [if_pos s2, q3, q4]
      unfold mixS
      rw [if_neg (by simp; omega), if_pos (show ((0 : Int) == 0 && (0 : Int) == 0) = true from rfl)]
    · rw [if_neg s2, if_neg s1, mix_both p1 (fill_dens' e2 s2)]
def BetOut (h : HoldD) (f g : FillD) (w : World) (e : Ending) (w' : World) : Prop := ∃ v, e = .returned (.tuple #[v, .int .i64 (betS h f g).2]) ∧ SlFills w' v (betS h f g).1 ∧ (v = .slice none 0 0 ↔ (betS h f g).1 = []) ∧ Below w.heap.size w w'
theorem bet_nil {h : HoldD} {f g : FillD} {w : World} {e : Ending} {w' : World} {E : Int} (hb : betS h f g = ([], E)) (q : e = .returned (.tuple #[.slice none 0 0, .int .i64 E]) ∧ Below w.heap.size w w') : BetOut h f g w e w' := by
  unfold BetOut
  rw [hb]
  exact ⟨_, q.1, .inl ⟨rfl, rfl⟩, by simp, q.2⟩
theorem bet_list {h : HoldD} {f g : FillD} {w : World} {e : Ending} {w' : World} {L : List FillD} (hb : betS h f g = (L, 0)) (q : ∃ v, e = .returned (.tuple #[v, .int .i64 0]) ∧ SlFills w' v L ∧ (v = .slice none 0 0 ↔ L = []) ∧ Below w.heap.size w w') : BetOut h f g w e w' := by
  unfold BetOut
  rw [hb]
  exact q
theorem hBetween_any (h : HoldD) (m : HoldM) (f g : FillD) (w : World) (hi : HoldIn w h m) :
    Calls Tryz.prog 31 #[holdV h m, fillV f, fillV g] w fun e w' => BetOut h f g w e w' := by
  by_cases g1 : fillErr h f = 0
  rotate_left
  · have hb : betS h f g = ([], fillErr h f) := by unfold betS; rw [if_neg g1]
    obtain ⟨id, al, ah, vol, mom, hei, t0, t1, u0, u1, v0, v1, h0, h1⟩ := h
    obtain ⟨A, n, c, B, mm, d, C, l, ee⟩ := m
    obtain ⟨fh, st, x0, x1, d0, d1⟩ := f
    obtain ⟨gh, gt, y0, y1, k0, k1⟩ := g
    exact (hBetween_e1 vol mom hei id al ah t0 t1 u0 u1 v0 v1 h0 h1 A B C n c mm d l ee fh st x0 x1 d0 d1 gh gt y0 y1 k0 k1 _ rfl g1 w hi).mono fun e w' q => bet_nil hb q
  by_cases g2 : fillErr h g = 0
  rotate_left
  · have hb : betS h f g = ([], fillErr h g) := by unfold betS; rw [if_pos g1, if_neg g2]
    obtain ⟨id, al, ah, vol, mom, hei, t0, t1, u0, u1, v0, v1, h0, h1⟩ := h
    obtain ⟨A, n, c, B, mm, d, C, l, ee⟩ := m
    obtain ⟨fh, st, x0, x1, d0, d1⟩ := f
    obtain ⟨gh, gt, y0, y1, k0, k1⟩ := g
    exact (hBetween_e2 vol mom hei id al ah t0 t1 u0 u1 v0 v1 h0 h1 A B C n c mm d l ee fh st x0 x1 d0 d1 gh gt y0 y1 k0 k1 _ g1 rfl g2 w hi).mono fun e w' q => bet_nil hb q
  have hf := fill_x g1
  have hg := fill_x g2
  have hsf := sur_x g1
  have hsg := sur_x g2
  obtain ⟨q0, q5⟩ := fill_state g1
  obtain ⟨p0, p5⟩ := fill_state g2
  have ht := hold_tab (fill_zero g1).1
  have hmx := mix_ite g1 g2
  by_cases s : f.st = g.st
  · have hb : betS h f g = ([⟨h.id, f.st, min f.x0 g.x0, max f.x1 g.x1, (mixS f.d0 f.d1 g.d0 g.d1).1, (mixS f.d0 f.d1 g.d0 g.d1).2⟩], 0) := by unfold betS; rw [if_pos g1, if_pos g2, if_pos s]
    obtain ⟨id, al, ah, vol, mom, hei, t0, t1, u0, u1, v0, v1, h0, h1⟩ := h
    obtain ⟨A, n, c, B, mm, d, C, l, ee⟩ := m
    obtain ⟨fh, st, x0, x1, d0, d1⟩ := f
    obtain ⟨gh, gt, y0, y1, k0, k1⟩ := g
    exact (hBetween_same vol mom hei id al ah t0 t1 u0 u1 v0 v1 h0 h1 A B C n c mm d l ee fh st x0 x1 d0 d1 gh gt y0 y1 k0 k1 _ _ _ _ g1 g2 (hul_in hf hg) rfl s w hi).mono fun e w' q => bet_list hb q
  · have hb : betS h f g = ([f, ⟨h.id, 3, min (surS h f).1 (surS h g).1, max (surS h f).2 (surS h g).2, (mixS f.d0 f.d1 g.d0 g.d1).1, (mixS f.d0 f.d1 g.d0 g.d1).2⟩, g], 0) := by unfold betS; rw [if_pos g1, if_pos g2, if_neg s]
    obtain ⟨id, al, ah, vol, mom, hei, t0, t1, u0, u1, v0, v1, h0, h1⟩ := h
    obtain ⟨A, n, c, B, mm, d, C, l, ee⟩ := m
    obtain ⟨fh, st, x0, x1, d0, d1⟩ := f
    obtain ⟨gh, gt, y0, y1, k0, k1⟩ := g
    exact (hBetween_two vol mom hei id al ah t0 t1 u0 u1 v0 v1 h0 h1 A B C n c mm d l ee fh st x0 x1 d0 d1 gh gt y0 y1 k0 k1 (min x0 y0) (max x1 y1) _ _ g1 g2 (hul_in hf hg) rfl _ _ _ _ _ _ s q0 q5 p0 p5 ht rfl rfl (hul_in hsf hsg) w hi).mono fun e w' q => bet_list hb q
theorem sBetween_any (h : HoldD) (m : HoldM) (f g : FillD) (w : World) (hi : HoldIn w h m) :
    Calls Tryz.prog 32 #[holdV h m, fillV f, fillV g] w fun e w' => BetOut h f g w e w' := by
  by_cases g1 : fillErr h f = 0
  rotate_left
  · have hb : betS h f g = ([], fillErr h f) := by unfold betS; rw [if_neg g1]
    obtain ⟨id, al, ah, vol, mom, hei, t0, t1, u0, u1, v0, v1, h0, h1⟩ := h
    obtain ⟨A, n, c, B, mm, d, C, l, ee⟩ := m
    obtain ⟨fh, st, x0, x1, d0, d1⟩ := f
    obtain ⟨gh, gt, y0, y1, k0, k1⟩ := g
    exact (sBetween_e1 vol mom hei id al ah t0 t1 u0 u1 v0 v1 h0 h1 A B C n c mm d l ee fh st x0 x1 d0 d1 gh gt y0 y1 k0 k1 _ rfl g1 w hi).mono fun e w' q => bet_nil hb q
  by_cases g2 : fillErr h g = 0
  rotate_left
  · have hb : betS h f g = ([], fillErr h g) := by unfold betS; rw [if_pos g1, if_neg g2]
    obtain ⟨id, al, ah, vol, mom, hei, t0, t1, u0, u1, v0, v1, h0, h1⟩ := h
    obtain ⟨A, n, c, B, mm, d, C, l, ee⟩ := m
    obtain ⟨fh, st, x0, x1, d0, d1⟩ := f
    obtain ⟨gh, gt, y0, y1, k0, k1⟩ := g
    exact (sBetween_e2 vol mom hei id al ah t0 t1 u0 u1 v0 v1 h0 h1 A B C n c mm d l ee fh st x0 x1 d0 d1 gh gt y0 y1 k0 k1 _ g1 rfl g2 w hi).mono fun e w' q => bet_nil hb q
  have hf := fill_x g1
  have hg := fill_x g2
  have hsf := sur_x g1
  have hsg := sur_x g2
  obtain ⟨q0, q5⟩ := fill_state g1
  obtain ⟨p0, p5⟩ := fill_state g2
  have ht := hold_tab (fill_zero g1).1
  have hmx := mix_ite g1 g2
  by_cases s : f.st = g.st
  · have hb : betS h f g = ([⟨h.id, f.st, min f.x0 g.x0, max f.x1 g.x1, (mixS f.d0 f.d1 g.d0 g.d1).1, (mixS f.d0 f.d1 g.d0 g.d1).2⟩], 0) := by unfold betS; rw [if_pos g1, if_pos g2, if_pos s]
    obtain ⟨id, al, ah, vol, mom, hei, t0, t1, u0, u1, v0, v1, h0, h1⟩ := h
    obtain ⟨A, n, c, B, mm, d, C, l, ee⟩ := m
    obtain ⟨fh, st, x0, x1, d0, d1⟩ := f
    obtain ⟨gh, gt, y0, y1, k0, k1⟩ := g
    exact (sBetween_same vol mom hei id al ah t0 t1 u0 u1 v0 v1 h0 h1 A B C n c mm d l ee fh st x0 x1 d0 d1 gh gt y0 y1 k0 k1 _ _ _ _ g1 g2 rfl hmx s w hi).mono fun e w' q => bet_list hb q
  · have hb : betS h f g = ([f, ⟨h.id, 3, min (surS h f).1 (surS h g).1, max (surS h f).2 (surS h g).2, (mixS f.d0 f.d1 g.d0 g.d1).1, (mixS f.d0 f.d1 g.d0 g.d1).2⟩, g], 0) := by unfold betS; rw [if_pos g1, if_pos g2, if_neg s]
    obtain ⟨id, al, ah, vol, mom, hei, t0, t1, u0, u1, v0, v1, h0, h1⟩ := h
    obtain ⟨A, n, c, B, mm, d, C, l, ee⟩ := m
    obtain ⟨fh, st, x0, x1, d0, d1⟩ := f
    obtain ⟨gh, gt, y0, y1, k0, k1⟩ := g
    exact (sBetween_two vol mom hei id al ah t0 t1 u0 u1 v0 v1 h0 h1 A B C n c mm d l ee fh st x0 x1 d0 d1 gh gt y0 y1 k0 k1 _ _ _ _ g1 g2 rfl hmx _ _ _ _ s q0 q5 p0 p5 ht rfl rfl w hi).mono fun e w' q => bet_list hb q

set_option maxRecDepth 100000 in
set_option maxHeartbeats 4000000 in
theorem holdBetween_walk (h : HoldD) (m : HoldM) (f g : FillD) (w : World) (hi : HoldIn w h m) :
    Calls Tryz.prog 6 #[holdV h m, fillV f, fillV g] w fun e w' => e = .returned (.bool true) ∧ Below w.heap.size w w' := by
  have C1 : Hid (∀ W, Below w.heap.size w W → Calls Tryz.prog 31 #[holdV h m, fillV f, fillV g] W fun e w' => BetOut h f g W e w') := Lib.hid fun W hW => hBetween_any h m f g W (hi.below hW)
  have C2 : Hid (∀ W, Below w.heap.size w W → Calls Tryz.prog 32 #[holdV h m, fillV f, fillV g] W fun e w' => BetOut h f g W e w') := Lib.hid fun W hW => sBetween_any h m f g W (hi.below hW)
  have hl : (betS h f g).1.length ≤ 40 := by
    unfold betS
    split
    · split
      · dsimp only
        split <;> simp
      · simp
    · simp
  unfold BetOut at C1 C2
  generalize (betS h f g).1 = L at *
  generalize (betS h f g).2 = E at *
  have HL := Lib.hid hl
  clear hi hl
  obtain ⟨id, al, ah, vol, mom, hei, t0, t1, u0, u1, v0, v1, h0, h1⟩ := h
  obtain ⟨A, n, c, B, mm, d, C, l, ee⟩ := m
  obtain ⟨fh, st, x0, x1, d0, d1⟩ := f
  obtain ⟨gh, gt, y0, y1, k0, k1⟩ := g
  have HE := Lib.hid (show Below w.heap.size w (((w.alloc (.cells #[.int .i64 id, .int .i64 al, .int .i64 ah, .slice A n c, .slice B mm d, .slice C l ee, .int .i64 t0, .int .i64 t1, .int .i64 u0, .int .i64 u1, .int .i64 v0, .int .i64 v1, .int .i64 h0, .int .i64 h1] 45)).alloc (.cells #[.int .i64 fh, .int .i64 st, .int .i64 x0, .int .i64 x1, .int .i64 d0, .int .i64 d1] 47)).alloc (.cells #[.int .i64 gh, .int .i64 gt, .int .i64 y0, .int .i64 y1, .int .i64 k0, .int .i64 k1] 47)) from below_a3 (Below.refl _ _))
  have HK := Lib.hid (boxes3' w 45 47 47 #[.int .i64 id, .int .i64 al, .int .i64 ah, .slice A n c, .slice B mm d, .slice C l ee, .int .i64 t0, .int .i64 t1, .int .i64 u0, .int .i64 u1, .int .i64 v0, .int .i64 v1, .int .i64 h0, .int .i64 h1] #[.int .i64 fh, .int .i64 st, .int .i64 x0, .int .i64 x1, .int .i64 d0, .int .i64 d1] #[.int .i64 gh, .int .i64 gt, .int .i64 y0, .int .i64 y1, .int .i64 k0, .int .i64 k1])
  go_enter Tryz.func6, Tryz.ntmps6
  go_upto_region 1 with fail
  obtain ⟨W0, hW0⟩ : ∃ W0 : World, (((w.alloc (.cells #[.int .i64 id, .int .i64 al, .int .i64 ah, .slice A n c, .slice B mm d, .slice C l ee, .int .i64 t0, .int .i64 t1, .int .i64 u0, .int .i64 u1, .int .i64 v0, .int .i64 v1, .int .i64 h0, .int .i64 h1] 45)).alloc (.cells #[.int .i64 fh, .int .i64 st, .int .i64 x0, .int .i64 x1, .int .i64 d0, .int .i64 d1] 47)).alloc (.cells #[.int .i64 gh, .int .i64 gt, .int .i64 y0, .int .i64 y1, .int .i64 k0, .int .i64 k1] 47)) = W0 := ⟨_, rfl⟩
  rw [hW0] at HE HK ⊢
  clear hW0
  obtain ⟨G, hG⟩ : ∃ G, w.heap.size = G := ⟨_, rfl⟩
  rw [hG] at HK ⊢
  have HG := Lib.hid hG; clear hG
  have s := HK.out _ (.tail _ (.tail _ (.head _)))
  have s0 := s.cell 0
  have s1 := s.cell 1
  have s2 := s.cell 2
  have s3 := s.cell 3
  have s4 := s.cell 4
  have s5 := s.cell 5
  have s6 := s.cell 6
  have s7 := s.cell 7
  have s8 := s.cell 8
  have s9 := s.cell 9
  have s10 := s.cell 10
  have s11 := s.cell 11
  have s12 := s.cell 12
  have s13 := s.cell 13
  simp at s0 s1 s2 s3 s4 s5 s6 s7 s8 s9 s10 s11 s12 s13
  clear s
  have z := HK.out _ (.tail _ (.head _))
  have z0 := z.cell 0
  have z1 := z.cell 1
  have z2 := z.cell 2
  have z3 := z.cell 3
  have z4 := z.cell 4
  have z5 := z.cell 5
  simp at z0 z1 z2 z3 z4 z5
  clear z
  have g := HK.out _ (.head _)
  have g0 := g.cell 0
  have g1 := g.cell 1
  have g2 := g.cell 2
  have g3 := g.cell 3
  have g4 := g.cell 4
  have g5 := g.cell 5
  simp at g0 g1 g2 g3 g4 g5
  clear g
  go_wp2_with fail
  refine (C1.out _ HE.out).mono ?_
  rintro e W1 ⟨r1, rfl, hs1, hn1, hq⟩
  have HE1 := Lib.hid (below_then HE.out hq); have HK1 := Lib.hid (HK.out.on hq)
  have HS1 := Lib.hid hs1; have HN1 := Lib.hid hn1
  clear hq hs1 hn1 HE HK s0 s1 s2 s3 s4 s5 s6 s7 s8 s9 s10 s11 s12 s13 z0 z1 z2 z3 z4 z5 g0 g1 g2 g3 g4 g5 C1
  have s := HK1.out _ (.tail _ (.tail _ (.head _)))
  have s0 := s.cell 0
  have s1 := s.cell 1
  have s2 := s.cell 2
  have s3 := s.cell 3
  have s4 := s.cell 4
  have s5 := s.cell 5
  have s6 := s.cell 6
  have s7 := s.cell 7
  have s8 := s.cell 8
  have s9 := s.cell 9
  have s10 := s.cell 10
  have s11 := s.cell 11
  have s12 := s.cell 12
  have s13 := s.cell 13
  simp at s0 s1 s2 s3 s4 s5 s6 s7 s8 s9 s10 s11 s12 s13
  clear s
  have z := HK1.out _ (.tail _ (.head _))
  have z0 := z.cell 0
  have z1 := z.cell 1
  have z2 := z.cell 2
  have z3 := z.cell 3
  have z4 := z.cell 4
  have z5 := z.cell 5
  simp at z0 z1 z2 z3 z4 z5
  clear z
  have g := HK1.out _ (.head _)
  have g0 := g.cell 0
  have g1 := g.cell 1
  have g2 := g.cell 2
  have g3 := g.cell 3
  have g4 := g.cell 4
  have g5 := g.cell 5
  simp at g0 g1 g2 g3 g4 g5
  clear g
  go_wp2_with fail
  refine (C2.out _ HE1.out).mono ?_
  rintro e W2 ⟨r2, rfl, hs2, hn2, hq⟩
  have HE2 := Lib.hid (below_then HE1.out hq); have HK2 := Lib.hid (HK1.out.on hq)
  have HS2 := Lib.hid hs2; have HN2 := Lib.hid hn2
  have HS3 := Lib.hid (HS1.out.below hq)
  clear hq hs2 hn2 HE1 HK1 s0 s1 s2 s3 s4 s5 s6 s7 s8 s9 s10 s11 s12 s13 z0 z1 z2 z3 z4 z5 g0 g1 g2 g3 g4 g5 C2
  go_wp2_with fail
  refine (sameFills_any r1 r2 L W2 HL.out HS3.out HS2.out HN1.out.symm HN2.out.symm).mono ?_
  rintro e z8 ⟨rfl, hq⟩
  have HE8 := Lib.hid (below_then HE2.out hq)
  clear hq
  go_wp2_with fail
  refine (msane_any _).mono ?_
  rintro e z9 ⟨rfl, hq⟩
  have HE9 := Lib.hid (below_then HE8.out hq)
  clear hq
  go_wp2
  go_ret
  exact ⟨rfl, HE9.out⟩
end

section
open Go.ChangeShapes Go.WideShapes Go.ChangeAt Go.RowKit Go.Joins

set_option maxRecDepth 100000 in
theorem holdBetween_lifted (os : Os) (started : os.Started) (H : Type) (enc : TypeId × Value → H) :
    ReturnsInHanded {} Tryz.checked os 6 .any (Rows.holdBetweenSpec.pre6 enc Tryz.prog Tryz.f6 Rows.holdBetweenRow.domain false) (Rows.holdBetweenSpec.post enc Tryz.prog Tryz.f6 false true false false) := by
  refine returnsInHanded_of_change (C := Tryz.checked) own started (by kernel_rfl) Tryz.func6
    (ChangeSpec.witness6 (enc := enc) (C := Tryz.checked) false ⟨#[], #[.agg #[.int .i64 0, .int .i64 0, .int .i64 0, .slice none 0 0, .slice none 0 0, .slice none 0 0, .int .i64 0, .int .i64 0, .int .i64 0, .int .i64 0, .int .i64 0, .int .i64 0, .int .i64 0, .int .i64 0], .agg #[.int .i64 0, .int .i64 0, .int .i64 0, .int .i64 0, .int .i64 0, .int .i64 0], .agg #[.int .i64 0, .int .i64 0, .int .i64 0, .int .i64 0, .int .i64 0, .int .i64 0]], []⟩ 8 (by kernel_rfl) (by kernel_rfl) (by kernel_rfl) (by kernel_rfl)) ?_
  intro W base args ds gs before hval0 hW hcnd _
  have hval : ∀ (j : Nat) t v, Tryz.f6.params[j]? = some t → args[j]? = some v → Value.okWide Tryz.prog W .any base t v := hval0
  have hW' := hW
  obtain ⟨p, q, hA0, hV, rfl, hfz, hnd⟩ := hW
  have hA : DataW.TrodAll enc Tryz.prog W 0 (fun _ => true) true Tryz.f6.params.toList args.toList ds p := hA0
  rw [Tryz.params6] at hA hval
  obtain ⟨v0, v1, v2, d0, d1, d2, p0, p1, p2, hargs, rfl, rfl, h0, h1, h2⟩ := trodAll_three hA
  obtain rfl : args = #[v0, v1, v2] := by cases args; simp_all
  obtain ⟨rfl, rfl⟩ := trodVars_none hV
  obtain ⟨h, m, rfl, hi⟩ := open_hold (hval 0 45 v0 rfl rfl) h0
  obtain ⟨f, rfl⟩ := open_fill (hval 1 47 v1 rfl rfl) h1
  obtain ⟨g, rfl⟩ := open_fill (hval 2 47 v2 rfl rfl) h2
  refine (holdBetween_walk h m f g W hi).mono fun e W' ⟨he, hb⟩ => ?_
  subst he
  exact ⟨_, rfl, law_post rfl rfl (by intro t ht; rw [Tryz.params6] at ht
                                      have : t = 45 ∨ t = 47 ∨ t = 47 := by simpa using ht
                                      rcases this with rfl | rfl | rfl <;> exact ⟨by kernel_rfl, of_decide_eq_true (by kernel_rfl)⟩) hW' rfl rfl rfl hb⟩

theorem holdBetween_holds : Rows.HoldBetweenSaid :=
  OpenClaim.holds_of_wide 6 Tryz.f6 rfl rfl rfl rfl rfl rfl rfl ⟨rfl, rfl, rfl, rfl, rfl⟩ rfl rfl rfl rfl rfl (by kernel_rfl) Tryz.func6 (by kernel_rfl)
    (of_decide_eq_true (by kernel_rfl)) (by unfold Func.isWrapper; rw [if_neg (of_decide_eq_false (by kernel_rfl))]; exact ⟨rfl, rfl⟩)
    (fun os started H enc _ => holdBetween_lifted os started H enc)
end

end Go.Proofs.YtbcefdaflnlhoaaGreat
