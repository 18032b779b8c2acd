/- Settle and CheckWorst of both, for all holds, fills and numbers. Their condition: the hold's tables lie in memory. -/
import Derived.Test.YtbcefdaflnlhoaaGreatQ50
import Derived.Test.YtbcefdaflnlhoaaGreatQ46
import Derived.Test.YtbcefdaflnlhoaaGreatQ42
set_option linter.unusedVariables false
set_option linter.unusedSimpArgs false
set_option linter.constructorNameAsVariable false
namespace Go.Proofs.YtbcefdaflnlhoaaGreat

section
open Go.RowKit

/-- what Settle returns -/
def settleS (h : HoldD) (f : FillD) (k : Int) : FillD × Int := if fillErr h f = 0 then (if f.st ≤ 2 then (noFill, 22) else if k < 0 ∨ 1000000 < k then (noFill, 1) else (⟨f.hold, f.st, f.x0, min (f.x1 + k) (lastX h.vol), f.d0, f.d1⟩, 0)) else (noFill, fillErr h f)
theorem settle_facts {h : HoldD} {f : FillD} {k : Int} (e : fillErr h f = 0) (s : 3 ≤ f.st) (gk : 0 ≤ k ∧ k ≤ 1000000) : tabOk h.vol = true ∧ IntKind.i64.wrap (f.x1 + k) = f.x1 + k := by
  obtain ⟨_, ⟨m1, _, _⟩, _, _⟩ := hold_parts (fill_zero e).1
  have ht := measures_ok m1
  obtain ⟨p1, p2⟩ := places_in ht
  have hb : f.x0 ≤ f.x1 ∧ firstX h.vol ≤ f.x0 ∧ f.x1 ≤ lastX h.vol := by simpa [inB] using fill_place e s
  exact ⟨ht, IntWalk.i64_in _ ⟨by omega, by omega⟩⟩
theorem hSettle_any (h : HoldD) (m : HoldM) (f : FillD) (k : Int) (w : World) (hi : HoldIn w h m) :
    Calls Tryz.prog 25 #[holdV h m, fillV f, .int .i64 k] w fun e w' => e = .returned (ft (settleS h f k)) ∧ Below w.heap.size w w' := by
  by_cases e : fillErr h f = 0
  rotate_left
  · have hs : settleS h f k = (noFill, fillErr h f) := by unfold settleS; rw [if_neg e]
    rw [hs]
    obtain ⟨id, al, ah, vol, mom, hei, t0, t1, u0, u1, v0, v1, h0, h1⟩ := h
    obtain ⟨A, n, c, B, mm, d, C, l, ee⟩ := m
    obtain ⟨fh, st, x0, x1, d0, d1⟩ := f
    exact hSettle_e1 vol mom hei id al ah t0 t1 u0 u1 v0 v1 h0 h1 A B C n c mm d l ee fh st x0 x1 d0 d1 k _ rfl e w hi
  obtain ⟨q0, q5⟩ := fill_state e
  by_cases s : f.st ≤ 2
  · have hs : settleS h f k = (noFill, 22) := by unfold settleS; rw [if_pos e, if_pos s]
    rw [hs]
    obtain ⟨id, al, ah, vol, mom, hei, t0, t1, u0, u1, v0, v1, h0, h1⟩ := h
    obtain ⟨A, n, c, B, mm, d, C, l, ee⟩ := m
    obtain ⟨fh, st, x0, x1, d0, d1⟩ := f
    exact hSettle_e2 vol mom hei id al ah t0 t1 u0 u1 v0 v1 h0 h1 A B C n c mm d l ee fh st x0 x1 d0 d1 k e q0 s w hi
  by_cases g : k < 0 ∨ 1000000 < k
  · have hs : settleS h f k = (noFill, 1) := by unfold settleS; rw [if_pos e, if_neg s, if_pos g]
    rw [hs]
    have s3 : 3 ≤ f.st := by omega
    obtain ⟨id, al, ah, vol, mom, hei, t0, t1, u0, u1, v0, v1, h0, h1⟩ := h
    obtain ⟨A, n, c, B, mm, d, C, l, ee⟩ := m
    obtain ⟨fh, st, x0, x1, d0, d1⟩ := f
    exact hSettle_e3 vol mom hei id al ah t0 t1 u0 u1 v0 v1 h0 h1 A B C n c mm d l ee fh st x0 x1 d0 d1 k e s3 q5 g w hi
  have hs : settleS h f k = (⟨f.hold, f.st, f.x0, min (f.x1 + k) (lastX h.vol), f.d0, f.d1⟩, 0) := by unfold settleS; rw [if_pos e, if_neg s, if_neg g]
  rw [hs]
  have s3 : 3 ≤ f.st := by omega
  have gk : 0 ≤ k ∧ k ≤ 1000000 := by omega
  obtain ⟨ht, kx⟩ := settle_facts e s3 gk
  obtain ⟨id, al, ah, vol, mom, hei, t0, t1, u0, u1, v0, v1, h0, h1⟩ := h
  obtain ⟨A, n, c, B, mm, d, C, l, ee⟩ := m
  obtain ⟨fh, st, x0, x1, d0, d1⟩ := f
  exact hSettle_ok vol mom hei id al ah t0 t1 u0 u1 v0 v1 h0 h1 A B C n c mm d l ee fh st x0 x1 d0 d1 k e s3 q5 gk ht kx w hi
theorem sSettle_any (h : HoldD) (m : HoldM) (f : FillD) (k : Int) (w : World) (hi : HoldIn w h m) :
    Calls Tryz.prog 26 #[holdV h m, fillV f, .int .i64 k] w fun e w' => e = .returned (ft (settleS h f k)) ∧ Below w.heap.size w w' := by
  by_cases e : fillErr h f = 0
  rotate_left
  · have hs : settleS h f k = (noFill, fillErr h f) := by unfold settleS; rw [if_neg e]
    rw [hs]
    obtain ⟨id, al, ah, vol, mom, hei, t0, t1, u0, u1, v0, v1, h0, h1⟩ := h
    obtain ⟨A, n, c, B, mm, d, C, l, ee⟩ := m
    obtain ⟨fh, st, x0, x1, d0, d1⟩ := f
    exact sSettle_e1 vol mom hei id al ah t0 t1 u0 u1 v0 v1 h0 h1 A B C n c mm d l ee fh st x0 x1 d0 d1 k _ rfl e w hi
  obtain ⟨q0, q5⟩ := fill_state e
  by_cases s : f.st ≤ 2
  · have hs : settleS h f k = (noFill, 22) := by unfold settleS; rw [if_pos e, if_pos s]
    rw [hs]
    obtain ⟨id, al, ah, vol, mom, hei, t0, t1, u0, u1, v0, v1, h0, h1⟩ := h
    obtain ⟨A, n, c, B, mm, d, C, l, ee⟩ := m
    obtain ⟨fh, st, x0, x1, d0, d1⟩ := f
    exact sSettle_e2 vol mom hei id al ah t0 t1 u0 u1 v0 v1 h0 h1 A B C n c mm d l ee fh st x0 x1 d0 d1 k e q0 s w hi
  by_cases g : k < 0 ∨ 1000000 < k
  · have hs : settleS h f k = (noFill, 1) := by unfold settleS; rw [if_pos e, if_neg s, if_pos g]
    rw [hs]
    have s3 : 3 ≤ f.st := by omega
    obtain ⟨id, al, ah, vol, mom, hei, t0, t1, u0, u1, v0, v1, h0, h1⟩ := h
    obtain ⟨A, n, c, B, mm, d, C, l, ee⟩ := m
    obtain ⟨fh, st, x0, x1, d0, d1⟩ := f
    exact sSettle_e3 vol mom hei id al ah t0 t1 u0 u1 v0 v1 h0 h1 A B C n c mm d l ee fh st x0 x1 d0 d1 k e s3 q5 g w hi
  have hs : settleS h f k = (⟨f.hold, f.st, f.x0, min (f.x1 + k) (lastX h.vol), f.d0, f.d1⟩, 0) := by unfold settleS; rw [if_pos e, if_neg s, if_neg g]
  rw [hs]
  have s3 : 3 ≤ f.st := by omega
  have gk : 0 ≤ k ∧ k ≤ 1000000 := by omega
  obtain ⟨ht, kx⟩ := settle_facts e s3 gk
  obtain ⟨id, al, ah, vol, mom, hei, t0, t1, u0, u1, v0, v1, h0, h1⟩ := h
  obtain ⟨A, n, c, B, mm, d, C, l, ee⟩ := m
  obtain ⟨fh, st, x0, x1, d0, d1⟩ := f
  exact sSettle_ok vol mom hei id al ah t0 t1 u0 u1 v0 v1 h0 h1 A B C n c mm d l ee fh st x0 x1 d0 d1 k e s3 q5 gk ht kx w hi

/-- what CheckWorst returns -/
def cwW (h : HoldD) (f : FillD) (u k : Int) : Int := if fillErr h f = 0 then (if f.st = 3 then (if (f.x0 ≤ u ∧ u ≤ f.x1) ∧ k = (momS h f).2 ∧ (atS h.mom u).2 = (momS h f).2 then 0 else 1) else (if u = 0 ∧ k = (momS h f).2 then 0 else 1)) else fillErr h f
theorem cw_worst (h : HoldD) (f : FillD) : cwW h f (worstW h f).1 (worstW h f).2.1 = (worstW h f).2.2 := by
  by_cases e : fillErr h f = 0
  · by_cases s : f.st = 3
    · obtain ⟨ht, ⟨b1, b2, b3⟩, hm⟩ := mom_three e s
      obtain ⟨⟨x1, x2⟩, x3, _⟩ := topX_is ht b1 b2 b3
      have hw : worstW h f = (topX h.mom f.x0 f.x1, (momS h f).2, 0) := by unfold worstW; rw [if_pos e, if_pos s]
      rw [hw]
      unfold cwW
      rw [if_pos e, if_pos s, if_pos ⟨⟨x1, x2⟩, rfl, by rw [hm]; exact x3⟩]
    · have hw : worstW h f = (0, (momS h f).2, 0) := by unfold worstW; rw [if_pos e, if_neg s]
      rw [hw]
      unfold cwW
      rw [if_pos e, if_neg s, if_pos ⟨rfl, rfl⟩]
  · have hw : worstW h f = (0, 0, fillErr h f) := by unfold worstW; rw [if_neg e]
    rw [hw]
    unfold cwW
    rw [if_neg e]
theorem sCheckWorst_any (h : HoldD) (m : HoldM) (f : FillD) (u k : Int) (w : World) (hi : HoldIn w h m) :
    Calls Tryz.prog 30 #[holdV h m, fillV f, .int .i64 u, .int .i64 k] w fun e w' => e = .returned (.int .i64 (cwW h f u k)) ∧ Below w.heap.size w w' := by
  obtain ⟨R, hR⟩ : ∃ R, cwW h f u k = R := ⟨_, rfl⟩
  rw [hR]
  unfold cwW at hR
  by_cases e : fillErr h f = 0
  · rw [if_pos e] at hR
    by_cases s : f.st = 3
    · rw [if_pos s] at hR
      obtain ⟨ht, ⟨b1, b2, b3⟩, hm⟩ := mom_three e s
      have hw : worstW h f = (topX h.mom f.x0 f.x1, (momS h f).2, 0) := by unfold worstW; rw [if_pos e, if_pos s]
      obtain ⟨id, al, ah, vol, mom, hei, t0, t1, u0, u1, v0, v1, h0, h1⟩ := h
      obtain ⟨A, n, c, B, mm, d, C, l, ee⟩ := m
      obtain ⟨fh, st, x0, x1, d0, d1⟩ := f
      exact sCheckWorst_y vol mom hei id al ah t0 t1 u0 u1 v0 v1 h0 h1 A B C n c mm d l ee fh st x0 x1 d0 d1 u k _ _ _ R w hi hw rfl hR s ht b1 b3
    · rw [if_neg s] at hR
      have hw : worstW h f = (0, (momS h f).2, 0) := by unfold worstW; rw [if_pos e, if_neg s]
      obtain ⟨id, al, ah, vol, mom, hei, t0, t1, u0, u1, v0, v1, h0, h1⟩ := h
      obtain ⟨A, n, c, B, mm, d, C, l, ee⟩ := m
      obtain ⟨fh, st, x0, x1, d0, d1⟩ := f
      exact sCheckWorst_n vol mom hei id al ah t0 t1 u0 u1 v0 v1 h0 h1 A B C n c mm d l ee fh st x0 x1 d0 d1 u k _ _ _ R w hi hw rfl s hR
  · rw [if_neg e] at hR
    subst hR
    have hw : worstW h f = (0, 0, fillErr h f) := by unfold worstW; rw [if_neg e]
    obtain ⟨id, al, ah, vol, mom, hei, t0, t1, u0, u1, v0, v1, h0, h1⟩ := h
    obtain ⟨A, n, c, B, mm, d, C, l, ee⟩ := m
    obtain ⟨fh, st, x0, x1, d0, d1⟩ := f
    exact sCheckWorst_e vol mom hei id al ah t0 t1 u0 u1 v0 v1 h0 h1 A B C n c mm d l ee fh st x0 x1 d0 d1 u k _ _ _ w hi hw e
theorem at_is {ps : List P3} {x : Int} (ht : tabOk ps = true) (h0 : firstX ps ≤ x) (h1 : x ≤ lastX ps) : AtS ps x = ((atS ps x).1, (atS ps x).2, 0) := by
  have hp : placesS ps x x = 0 := by unfold placesS; rw [if_pos ht, if_pos (inB_yes (Int.le_refl _) h0 h1)]
  unfold AtS; rw [if_pos hp]
theorem hCheckWorst_any (h : HoldD) (m : HoldM) (f : FillD) (u k : Int) (w : World) (hi : HoldIn w h m) :
    Calls Tryz.prog 29 #[holdV h m, fillV f, .int .i64 u, .int .i64 k] w fun e w' => e = .returned (.int .i64 (cwW h f u k)) ∧ Below w.heap.size w w' := by
  obtain ⟨R, hR⟩ : ∃ R, cwW h f u k = R := ⟨_, rfl⟩
  rw [hR]
  unfold cwW at hR
  by_cases e : fillErr h f = 0
  · rw [if_pos e] at hR
    have hw : tellS h f (momS h f) = ((momS h f).1, (momS h f).2, 0) := by unfold tellS; rw [if_pos e]
    by_cases s : f.st = 3
    · rw [if_pos s] at hR
      obtain ⟨ht, ⟨b1, b2, b3⟩, hm⟩ := mom_three e s
      obtain ⟨p1, p2⟩ := places_in ht
      have hh : hasS f.x0 f.x1 u = decide (f.x0 ≤ u ∧ u ≤ f.x1) := by
        unfold hasS
        rw [(vR_iff f.x0 f.x1).2 ⟨b2, by omega, by omega⟩]
        simp
      obtain ⟨⟨pa, pb, pe⟩, hA⟩ : ∃ q, AtS h.mom u = q := ⟨_, rfl⟩
      have hR2 : (if (hasS f.x0 f.x1 u && pb == k) = true ∧ k = (momS h f).2 then (0 : Int) else 1) = R := by
        rw [← hR, hh]
        by_cases g : f.x0 ≤ u ∧ u ≤ f.x1
        · have hb : pb = (atS h.mom u).2 := by
            rw [at_is ht (by omega) (by omega)] at hA
            exact (congrArg (fun q => q.2.1) hA).symm
          subst hb
          by_cases g2 : k = (momS h f).2
          · subst g2; simp [g]
          · rw [if_neg (fun q => g2 q.2), if_neg (fun q => g2 q.2.1)]
        · have g1 : ¬ ((decide (f.x0 ≤ u ∧ u ≤ f.x1) && pb == k) = true ∧ k = (momS h f).2) := by rw [decide_eq_false g]; simp
          rw [if_neg g1, if_neg (fun q => g q.1)]
      obtain ⟨id, al, ah, vol, mom, hei, t0, t1, u0, u1, v0, v1, h0, h1⟩ := h
      obtain ⟨A, n, c, B, mm, d, C, l, ee⟩ := m
      obtain ⟨fh, st, x0, x1, d0, d1⟩ := f
      exact hCheckWorst_y vol mom hei id al ah t0 t1 u0 u1 v0 v1 h0 h1 A B C n c mm d l ee fh st x0 x1 d0 d1 u k _ _ _ R _ w hi hw rfl hR2 (fun W hW => isWorst_y vol mom hei id al ah t0 t1 u0 u1 v0 v1 h0 h1 A B C n c mm d l ee fh st x0 x1 d0 d1 u k pa pb pe _ W (hi.below hW) s hA rfl)
    · rw [if_neg s] at hR
      have hR2 : (if (u == 0) = true ∧ k = (momS h f).2 then (0 : Int) else 1) = R := by rw [← hR]; simp
      obtain ⟨id, al, ah, vol, mom, hei, t0, t1, u0, u1, v0, v1, h0, h1⟩ := h
      obtain ⟨A, n, c, B, mm, d, C, l, ee⟩ := m
      obtain ⟨fh, st, x0, x1, d0, d1⟩ := f
      exact hCheckWorst_y vol mom hei id al ah t0 t1 u0 u1 v0 v1 h0 h1 A B C n c mm d l ee fh st x0 x1 d0 d1 u k _ _ _ R _ w hi hw rfl hR2 (fun W hW => isWorst_n vol mom hei id al ah t0 t1 u0 u1 v0 v1 h0 h1 A B C n c mm d l ee fh st x0 x1 d0 d1 u k _ W (hi.below hW) s rfl)
  · rw [if_neg e] at hR
    subst hR
    have hw : tellS h f (momS h f) = (0, 0, fillErr h f) := by unfold tellS; rw [if_neg e]
    obtain ⟨id, al, ah, vol, mom, hei, t0, t1, u0, u1, v0, v1, h0, h1⟩ := h
    obtain ⟨A, n, c, B, mm, d, C, l, ee⟩ := m
    obtain ⟨fh, st, x0, x1, d0, d1⟩ := f
    exact hCheckWorst_e vol mom hei id al ah t0 t1 u0 u1 v0 v1 h0 h1 A B C n c mm d l ee fh st x0 x1 d0 d1 u k _ _ _ w hi hw e
end

end Go.Proofs.YtbcefdaflnlhoaaGreat
