/- Plain, for HoldInstants: the fill between two fills of a hold. No conditions. -/
import Derived.Test.YtemlaaipnhmcoaaGreatR44
import Derived.Test.YtemlaaipnhmcoaaGreatR40
import Derived.Test.YtemlaaipnhmcoaaGreatR25
import Derived.Test.YtemlaaipnhmcoaaGreatR05
import Derived.Test.YtemlaaipnhmcoaaGreatR11
import Derived.Test.YtemlaaipnhmcoaaGreatR52
import Derived.Test.YtemlaaipnhmcoaaGreatR43
set_option linter.unusedVariables false
set_option linter.unusedSimpArgs false
set_option linter.constructorNameAsVariable false
namespace Go.Proofs.YtemlaaipnhmcoaaGreat

section
open Go.RowKit

theorem mix_none (a b : Int) : mixS 0 0 a b = (a, b) := by unfold mixS; rfl
theorem mix_both {a b c d : Int} (h1 : densS a b = true) (h2 : densS c d = true) : mixS a b c d = (min a c, max b d) := by
  obtain ⟨p1, p2, p3⟩ := dens_in h1
  obtain ⟨q1, q2, q3⟩ := dens_in h2
  have v1 : vR a b = true := (vR_iff a b).2 (by omega)
  have v2 : vR c d = true := (vR_iff c d).2 (by omega)
  unfold mixS
  rw [if_neg (by simp; omega), if_neg (by simp; omega)]
  unfold hulS hullS
  rw [twoS_yes (by rw [v1, v2]; rfl)]
theorem fill_empty {h : HoldD} {f : FillD} (e : fillErr h f = 0) (s : f.st = 0) : f.d0 = 0 ∧ f.d1 = 0 := by
  have g := (fill_zero e).2
  unfold fillS stateS at g
  simp only [Bool.and_eq_true, Bool.or_eq_true, decide_eq_true_eq, beq_iff_eq] at g
  omega
end

section
open Go.RowKit

def betS (h : HoldD) (f g : FillD) : List FillD × Int :=
  if fillErr h f = 0 then (if fillErr h g = 0 then
    (if f.st = g.st then [⟨h.id, f.st, min f.x0 g.x0, max f.x1 g.x1, (mixS f.d0 f.d1 g.d0 g.d1).1, (mixS f.d0 f.d1 g.d0 g.d1).2⟩]
      else [f, ⟨h.id, 3, min (surS h f).1 (surS h g).1, max (surS h f).2 (surS h g).2, (mixS f.d0 f.d1 g.d0 g.d1).1, (mixS f.d0 f.d1 g.d0 g.d1).2⟩, g], 0)
    else ([], fillErr h g)) else ([], fillErr h f)
theorem hul_in {a b c d : Int} (h1 : 0 ≤ a ∧ a ≤ b ∧ b ≤ 1000000) (h2 : 0 ≤ c ∧ c ≤ d ∧ d ≤ 1000000) : hulS a b c d = (min a c, max b d) := by
  have v1 : vR a b = true := (vR_iff a b).2 (by omega)
  have v2 : vR c d = true := (vR_iff c d).2 (by omega)
  unfold hulS hullS
  rw [twoS_yes (by rw [v1, v2]; rfl)]
theorem fill_x {h : HoldD} {f : FillD} (e : fillErr h f = 0) : 0 ≤ f.x0 ∧ f.x0 ≤ f.x1 ∧ f.x1 ≤ 1000000 := by
  obtain ⟨pl1, pl2⟩ := places_in (hold_tab (fill_zero e).1)
  have g := (fill_zero e).2
  unfold fillS stateS at g
  simp only [Bool.and_eq_true, Bool.or_eq_true, decide_eq_true_eq, beq_iff_eq, inB] at g
  omega
theorem sur_x {h : HoldD} {f : FillD} (e : fillErr h f = 0) : 0 ≤ (surS h f).1 ∧ (surS h f).1 ≤ (surS h f).2 ∧ (surS h f).2 ≤ 1000000 := by
  have ht := hold_tab (fill_zero e).1
  obtain ⟨pl1, pl2⟩ := places_in ht
  have hle := first_le_last ht
  have hx := fill_x e
  unfold surS
  split
  · dsimp only; omega
  · split
    · dsimp only; omega
    · exact hx
theorem mix_ite {h : HoldD} {f g : FillD} (e1 : fillErr h f = 0) (e2 : fillErr h g = 0) : (if g.st = 0 then (f.d0, f.d1) else (if f.st = 0 then (g.d0, g.d1) else (min f.d0 g.d0, max f.d1 g.d1))) = mixS f.d0 f.d1 g.d0 g.d1 := by
  by_cases s1 : f.st = 0
  · obtain ⟨q1, q2⟩ := fill_empty e1 s1
    by_cases s2 : g.st = 0
    · obtain ⟨q3, q4⟩ := fill_empty e2 s2
      rw [if_pos s2, q1, q2, q3, q4, mix_none]
    · rw [if_neg s2, if_pos s1, q1, q2, mix_none]
  · have p1 := fill_dens' e1 s1
    by_cases s2 : g.st = 0
    · obtain ⟨q3, q4⟩ := fill_empty e2 s2
      have := dens_in p1
      rw [if_pos s2, q3, q4]
      unfold mixS
      rw [if_neg (by simp; omega), if_pos (show ((0 : Int) == 0 && (0 : Int) == 0) = true from rfl)]
    · rw [if_neg s2, if_neg s1, mix_both p1 (fill_dens' e2 s2)]
def BetOut (h : HoldD) (f g : FillD) (w : World) (e : Ending) (w' : World) : Prop := ∃ v, e = .returned (.tuple #[v, .int .i64 (betS h f g).2]) ∧ SlFills w' v (betS h f g).1 ∧ (v = .slice none 0 0 ↔ (betS h f g).1 = []) ∧ Below w.heap.size w w'
theorem bet_nil {h : HoldD} {f g : FillD} {w : World} {e : Ending} {w' : World} {E : Int} (hb : betS h f g = ([], E)) (q : e = .returned (.tuple #[.slice none 0 0, .int .i64 E]) ∧ Below w.heap.size w w') : BetOut h f g w e w' := by
  unfold BetOut
  rw [hb]
  exact ⟨_, q.1, .inl ⟨rfl, rfl⟩, by simp, q.2⟩
theorem bet_list {h : HoldD} {f g : FillD} {w : World} {e : Ending} {w' : World} {L : List FillD} (hb : betS h f g = (L, 0)) (q : ∃ v, e = .returned (.tuple #[v, .int .i64 0]) ∧ SlFills w' v L ∧ (v = .slice none 0 0 ↔ L = []) ∧ Below w.heap.size w w') : BetOut h f g w e w' := by
  unfold BetOut
  rw [hb]
  exact q
theorem hBetween_any (h : HoldD) (m : HoldM) (f g : FillD) (w : World) (hi : HoldIn w h m) :
    Calls Tryz.prog 31 #[holdV h m, fillV f, fillV g] w fun e w' => BetOut h f g w e w' := by
  by_cases g1 : fillErr h f = 0
  rotate_left
  · have hb : betS h f g = ([], fillErr h f) := by unfold betS; rw [if_neg g1]
    obtain ⟨id, al, ah, vol, mom, hei, t0, t1, u0, u1, v0, v1, h0, h1⟩ := h
    obtain ⟨A, n, c, B, mm, d, C, l, ee⟩ := m
    obtain ⟨fh, st, x0, x1, d0, d1⟩ := f
    obtain ⟨gh, gt, y0, y1, k0, k1⟩ := g
    exact (hBetween_e1 vol mom hei id al ah t0 t1 u0 u1 v0 v1 h0 h1 A B C n c mm d l ee fh st x0 x1 d0 d1 gh gt y0 y1 k0 k1 _ rfl g1 w hi).mono fun e w' q => bet_nil hb q
  by_cases g2 : fillErr h g = 0
  rotate_left
  · have hb : betS h f g = ([], fillErr h g) := by unfold betS; rw [if_pos g1, if_neg g2]
    obtain ⟨id, al, ah, vol, mom, hei, t0, t1, u0, u1, v0, v1, h0, h1⟩ := h
    obtain ⟨A, n, c, B, mm, d, C, l, ee⟩ := m
    obtain ⟨fh, st, x0, x1, d0, d1⟩ := f
    obtain ⟨gh, gt, y0, y1, k0, k1⟩ := g
    exact (hBetween_e2 vol mom hei id al ah t0 t1 u0 u1 v0 v1 h0 h1 A B C n c mm d l ee fh st x0 x1 d0 d1 gh gt y0 y1 k0 k1 _ g1 rfl g2 w hi).mono fun e w' q => bet_nil hb q
  have hf := fill_x g1
  have hg := fill_x g2
  have hsf := sur_x g1
  have hsg := sur_x g2
  obtain ⟨q0, q5⟩ := fill_state g1
  obtain ⟨p0, p5⟩ := fill_state g2
  have ht := hold_tab (fill_zero g1).1
  have hmx := mix_ite g1 g2
  by_cases s : f.st = g.st
  · have hb : betS h f g = ([⟨h.id, f.st, min f.x0 g.x0, max f.x1 g.x1, (mixS f.d0 f.d1 g.d0 g.d1).1, (mixS f.d0 f.d1 g.d0 g.d1).2⟩], 0) := by unfold betS; rw [if_pos g1, if_pos g2, if_pos s]
    obtain ⟨id, al, ah, vol, mom, hei, t0, t1, u0, u1, v0, v1, h0, h1⟩ := h
    obtain ⟨A, n, c, B, mm, d, C, l, ee⟩ := m
    obtain ⟨fh, st, x0, x1, d0, d1⟩ := f
    obtain ⟨gh, gt, y0, y1, k0, k1⟩ := g
    exact (hBetween_same vol mom hei id al ah t0 t1 u0 u1 v0 v1 h0 h1 A B C n c mm d l ee fh st x0 x1 d0 d1 gh gt y0 y1 k0 k1 _ _ _ _ g1 g2 (hul_in hf hg) rfl s w hi).mono fun e w' q => bet_list hb q
  · have hb : betS h f g = ([f, ⟨h.id, 3, min (surS h f).1 (surS h g).1, max (surS h f).2 (surS h g).2, (mixS f.d0 f.d1 g.d0 g.d1).1, (mixS f.d0 f.d1 g.d0 g.d1).2⟩, g], 0) := by unfold betS; rw [if_pos g1, if_pos g2, if_neg s]
    obtain ⟨id, al, ah, vol, mom, hei, t0, t1, u0, u1, v0, v1, h0, h1⟩ := h
    obtain ⟨A, n, c, B, mm, d, C, l, ee⟩ := m
    obtain ⟨fh, st, x0, x1, d0, d1⟩ := f
    obtain ⟨gh, gt, y0, y1, k0, k1⟩ := g
    exact (hBetween_two vol mom hei id al ah t0 t1 u0 u1 v0 v1 h0 h1 A B C n c mm d l ee fh st x0 x1 d0 d1 gh gt y0 y1 k0 k1 (min x0 y0) (max x1 y1) _ _ g1 g2 (hul_in hf hg) rfl _ _ _ _ _ _ s q0 q5 p0 p5 ht rfl rfl (hul_in hsf hsg) w hi).mono fun e w' q => bet_list hb q
end

section
open Go.RowKit

theorem fill_none {h : HoldD} {f : FillD} (e : fillErr h f = 0) (s : f.st = 0) : f.x0 = 0 ∧ f.x1 = 0 ∧ f.d0 = 0 ∧ f.d1 = 0 := by
  have g := (fill_zero e).2
  unfold fillS stateS at g
  simp only [Bool.and_eq_true, Bool.or_eq_true, decide_eq_true_eq, beq_iff_eq] at g
  omega
theorem fill_full {h : HoldD} {f : FillD} (e : fillErr h f = 0) (s : 1 ≤ f.st ∧ f.st ≤ 2) : f.x0 = 0 ∧ f.x1 = 0 := by
  have g := (fill_zero e).2
  unfold fillS stateS at g
  simp only [Bool.and_eq_true, Bool.or_eq_true, decide_eq_true_eq, beq_iff_eq] at g
  omega
theorem fill_st {h : HoldD} {f : FillD} (e : fillErr h f = 0) : 0 ≤ f.st ∧ f.st ≤ 5 ∧ f.hold = h.id := by
  have g := (fill_zero e).2
  unfold fillS stateS at g
  simp only [Bool.and_eq_true, Bool.or_eq_true, decide_eq_true_eq, beq_iff_eq] at g
  omega
theorem mix_has {h : HoldD} {f g : FillD} (ef : fillErr h f = 0) (eg : fillErr h g = 0) : (f.st = 0 ∨ ((mixS f.d0 f.d1 g.d0 g.d1).1 ≤ f.d0 ∧ f.d1 ≤ (mixS f.d0 f.d1 g.d0 g.d1).2)) ∧ (g.st = 0 ∨ ((mixS f.d0 f.d1 g.d0 g.d1).1 ≤ g.d0 ∧ g.d1 ≤ (mixS f.d0 f.d1 g.d0 g.d1).2)) ∧
    (f.st = 0 → g.st = 0 → mixS f.d0 f.d1 g.d0 g.d1 = (0, 0)) ∧ (¬ f.st = 0 ∨ ¬ g.st = 0 → densS (mixS f.d0 f.d1 g.d0 g.d1).1 (mixS f.d0 f.d1 g.d0 g.d1).2 = true) := by
  by_cases s1 : f.st = 0
  · obtain ⟨_, _, a1, a2⟩ := fill_none ef s1
    have : mixS f.d0 f.d1 g.d0 g.d1 = (g.d0, g.d1) := by unfold mixS; rw [a1, a2]; rfl
    rw [this]
    refine ⟨.inl s1, .inr ⟨Int.le_refl _, Int.le_refl _⟩, fun _ s2 => ?_, fun k => ?_⟩
    · obtain ⟨_, _, b1, b2⟩ := fill_none eg s2
      rw [b1, b2]
    · exact fill_dens' eg (k.resolve_left (fun q => q s1))
  · have d1 := dens_in (fill_dens' ef s1)
    by_cases s2 : g.st = 0
    · obtain ⟨_, _, b1, b2⟩ := fill_none eg s2
      have : mixS f.d0 f.d1 g.d0 g.d1 = (f.d0, f.d1) := by
        unfold mixS
        rw [if_neg (by simp only [Bool.and_eq_true, beq_iff_eq]; omega), b1, b2]; rfl
      rw [this]
      exact ⟨.inr ⟨Int.le_refl _, Int.le_refl _⟩, .inl s2, fun q => absurd q s1, fun _ => fill_dens' ef s1⟩
    · have d2 := dens_in (fill_dens' eg s2)
      have : mixS f.d0 f.d1 g.d0 g.d1 = (min f.d0 g.d0, max f.d1 g.d1) := by
        unfold mixS
        rw [if_neg (by simp only [Bool.and_eq_true, beq_iff_eq]; omega), if_neg (by simp only [Bool.and_eq_true, beq_iff_eq]; omega), hul_in (by omega) (by omega)]
      rw [this]
      refine ⟨.inr ⟨by dsimp only; omega, by dsimp only; omega⟩, .inr ⟨by dsimp only; omega, by dsimp only; omega⟩, fun q => absurd q s1, fun _ => ?_⟩
      unfold densS
      simp only [inB, decide_eq_true_eq]
      omega
theorem sur_in {h : HoldD} {f : FillD} (e : fillErr h f = 0) : firstX h.vol ≤ (surS h f).1 ∧ (surS h f).1 ≤ (surS h f).2 ∧ (surS h f).2 ≤ lastX h.vol := by
  have hle := hold_first (fill_zero e).1
  obtain ⟨s1, s2, _⟩ := fill_st e
  unfold surS
  split
  · exact ⟨hle, Int.le_refl _, Int.le_refl _⟩
  · split
    · exact ⟨Int.le_refl _, Int.le_refl _, hle⟩
    · have := fill_place e (show 3 ≤ f.st by omega)
      simp only [inB, decide_eq_true_eq] at this
      dsimp only
      omega
theorem between_has {h : HoldD} {f g : FillD} (ef : fillErr h f = 0) (eg : fillErr h g = 0) :
    ∃ m, ((f.st = g.st ∧ betS h f g = ([m], 0) ∧ m.st = f.st) ∨ (¬ f.st = g.st ∧ betS h f g = ([f, m, g], 0) ∧ m.st = 3)) ∧ fillErr h m = 0 ∧ (m.st = 3 → m.x0 = min (surS h f).1 (surS h g).1 ∧ m.x1 = max (surS h f).2 (surS h g).2) ∧
      (f.st = 0 ∨ (m.d0 ≤ f.d0 ∧ f.d1 ≤ m.d1)) ∧ (g.st = 0 ∨ (m.d0 ≤ g.d0 ∧ g.d1 ≤ m.d1)) := by
  obtain ⟨hS, _⟩ := fill_zero ef
  obtain ⟨m1, m2, m3, m4⟩ := mix_has ef eg
  obtain ⟨t1, t2, t3⟩ := fill_st ef
  obtain ⟨t4, t5, t6⟩ := fill_st eg
  have u1 := sur_in ef
  have u2 := sur_in eg
  obtain ⟨e0, he0⟩ : ∃ z, (mixS f.d0 f.d1 g.d0 g.d1).1 = z := ⟨_, rfl⟩
  obtain ⟨e1, he1⟩ : ∃ z, (mixS f.d0 f.d1 g.d0 g.d1).2 = z := ⟨_, rfl⟩
  unfold betS
  rw [if_pos ef, if_pos eg, he0, he1]
  rw [he0, he1] at m1 m2 m4
  have hz : f.st = 0 → g.st = 0 → e0 = 0 ∧ e1 = 0 := fun a b => by
    have := m3 a b
    rw [← he0, ← he1, this]; exact ⟨rfl, rfl⟩
  by_cases s : f.st = g.st
  · rw [if_pos s]
    refine ⟨⟨h.id, f.st, min f.x0 g.x0, max f.x1 g.x1, e0, e1⟩, .inl ⟨s, rfl, rfl⟩, ?_, fun k => ?_, m1, m2⟩
    · unfold fillErr
      rw [if_pos hS]
      have : fillS h ⟨h.id, f.st, min f.x0 g.x0, max f.x1 g.x1, e0, e1⟩ = true := by
        unfold fillS stateS
        simp only [Bool.and_eq_true, Bool.or_eq_true, decide_eq_true_eq, beq_iff_eq]
        refine ⟨by trivial, ?_⟩
        rcases (show f.st = 0 ∨ (1 ≤ f.st ∧ f.st ≤ 2) ∨ 3 ≤ f.st by omega) with k | k | k
        · obtain ⟨a1, a2, _, _⟩ := fill_none ef k
          obtain ⟨b1, b2, _, _⟩ := fill_none eg (by omega)
          obtain ⟨z1, z2⟩ := hz k (by omega)
          exact .inl ⟨k, ⟨by omega, by omega⟩, z1, z2⟩
        · obtain ⟨a1, a2⟩ := fill_full ef k
          obtain ⟨b1, b2⟩ := fill_full eg (by omega)
          exact .inr (.inl ⟨k, ⟨by omega, by omega⟩, m4 (.inl (by omega))⟩)
        · have a := fill_place ef k
          have b := fill_place eg (by omega)
          simp only [inB, decide_eq_true_eq] at a b ⊢
          exact .inr (.inr ⟨⟨k, t2⟩, by omega, m4 (.inl (by omega))⟩)
      rw [if_pos this]
    · have k' : f.st = 3 := k
      have q1 : surS h f = (f.x0, f.x1) := by unfold surS; rw [if_neg (by omega), if_neg (by omega)]
      have q2 : surS h g = (g.x0, g.x1) := by unfold surS; rw [if_neg (by omega), if_neg (by omega)]
      rw [q1, q2]
      exact ⟨rfl, rfl⟩
  · rw [if_neg s]
    refine ⟨⟨h.id, 3, min (surS h f).1 (surS h g).1, max (surS h f).2 (surS h g).2, e0, e1⟩, .inr ⟨s, rfl, rfl⟩, ?_, fun _ => ⟨rfl, rfl⟩, m1, m2⟩
    unfold fillErr
    rw [if_pos hS]
    have : fillS h ⟨h.id, 3, min (surS h f).1 (surS h g).1, max (surS h f).2 (surS h g).2, e0, e1⟩ = true := by
      unfold fillS stateS
      simp only [Bool.and_eq_true, Bool.or_eq_true, decide_eq_true_eq, inB]
      exact ⟨by trivial, .inr (.inr ⟨by omega, by omega, m4 (by omega)⟩)⟩
    rw [if_pos this]
theorem instants_mom {h : HoldD} {f g m : FillD} {cs : List Int} {a b u num den : Int} (ef : fillErr h f = 0) (eg : fillErr h g = 0) (em : fillErr h m = 0) (s3 : m.st = 3) (hx : m.x0 = min (surS h f).1 (surS h g).1 ∧ m.x1 = max (surS h f).2 (surS h g).2)
    (ha : (surS h f).1 ≤ a ∧ a ≤ (surS h f).2) (hb : (surS h g).1 ≤ b ∧ b ≤ (surS h g).2) (hu : min a b ≤ u ∧ u ≤ max a b) (i2 : InTab h.mom cs) (V : ValOf h.mom cs u num den) :
    0 < den ∧ den ≤ 1000000 ∧ (momS h m).1 * den ≤ num ∧ num ≤ (momS h m).2 * den := by
  obtain ⟨hS, _⟩ := fill_zero em
  obtain ⟨⟨a1, a2, a3, a4⟩, ⟨m1, m2, m3⟩, ⟨l1, l2⟩, _⟩ := hold_parts hS
  have pl := fill_place em (show 3 ≤ m.st by omega)
  have hmS : momS h m = ((overS h.mom m.x0 m.x1).1, (overS h.mom m.x0 m.x1).2.1) := by unfold momS; rw [if_neg (by omega), if_neg (by omega), if_neg (by omega), if_pos s3]
  rw [hmS]
  exact overS_has (measures_ok m2) i2 V (along_in l1 pl) (by omega) (by omega)
end

end Go.Proofs.YtemlaaipnhmcoaaGreat
