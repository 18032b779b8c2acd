/- What Worst wants besides: runs of a table, the moment of the specification, arrays. -/
import Derived.Test.YtbcefdaflnlhoaaGreatQ06
import Derived.Test.YtbcefdaflnlhoaaGreatQ16
import Derived.Test.YtbcefdaflnlhoaaGreatQ25
import Derived.Deep.AppendLies
import Derived.RangeFuncBox
import Derived.Deep.RegionLaw
import Derived.RangeFuncCalls
import Derived.WalkSmall
import Derived.RegionTactic
import Derived.BigRegion
import Derived.Test.YtbcefdaflnlhoaaGreatQ03
import Derived.Test.YtbcefdaflnlhoaaGreatQ01
import Derived.Test.YtbcefdaflnlhoaaGreatQ02
import Derived.Test.YtbcefdaflnlhoaaGreatQ05
import Derived.Deep.Onto
import Derived.Deep.DeepCutAuto
import Derived.Deep.RegionHeld3
import Derived.Test.YtbcefdaflnlhoaaGreatQ00
import Derived.Deep.Slices
import Derived.Deep.Strs
import Derived.Test.YtbcefdaflnlhoaaGreatQ15
import Derived.Test.YtbcefdaflnlhoaaGreatQ07
import Derived.Test.YtbcefdaflnlhoaaGreatQ08
import Derived.StillTailTactics
import Derived.BigQuiet
import Derived.Test.YtbcefdaflnlhoaaGreatQ09
import Derived.Test.YtbcefdaflnlhoaaGreatQ24
import Derived.Test.YtbcefdaflnlhoaaGreatQ21
set_option linter.unusedVariables false
set_option linter.unusedSimpArgs false
set_option linter.constructorNameAsVariable false
namespace Go.Proofs.YtbcefdaflnlhoaaGreat

section
open Go.RowKit
def I64 (x : Int) : Prop := -9223372036854775808 ≤ x ∧ x ≤ 9223372036854775807
end

section
open Go.ChangeShapes Go.WideShapes Go.ChangeAt Go.RowKit Go.Joins Go.Deep
theorem okWide_arr {P : Program} {w : World} {r : Reach} {base : Nat} {t e : TypeId} {n : Nat} {v : Value} (ht : P.underlying t = some (.array n e)) (h : Value.okWide P w r base t v) : ∃ cs, v = .agg cs ∧ cs.size = P.cellsOf t := by
  simp only [Value.okWide, ht] at h
  obtain ⟨cs, h1, h2, _⟩ := h
  exact ⟨cs, h1, h2⟩
end

section
open Go.RowKit
theorem pAt_high_way (p q : P3) : (∀ x y, x ≤ y → (pAt p q x).2 ≤ (pAt p q y).2) ∨ (∀ x y, x ≤ y → (pAt p q y).2 ≤ (pAt p q x).2) := by
  rcases Int.le_total 0 (p.2.2 - q.2.2) with c | c
  · exact .inr fun x y h => by have := riseS_up (D := q.1 - p.1) (show x - p.1 ≤ y - p.1 by omega) c; simp only [pAt]; omega
  · exact .inl fun x y h => by have := riseS_down (D := q.1 - p.1) (show x - p.1 ≤ y - p.1 by omega) c; simp only [pAt]; omega

/-- Over has what lies between -/
theorem foldG_le : ∀ (l : List (Int × Int)) (s : Int × Int × Bool), s.2.2 = true → ((l.foldl stepG s).1 ≤ s.1 ∧ s.2.1 ≤ (l.foldl stepG s).2.1) ∧ (∀ r ∈ l, (l.foldl stepG s).1 ≤ r.1 ∧ r.2 ≤ (l.foldl stepG s).2.1)
  | [], s, _ => ⟨⟨Int.le_refl _, Int.le_refl _⟩, fun r h => by simp at h⟩
  | z :: l, s, h => by
    rw [List.foldl_cons]
    have e : stepG s z = (min s.1 z.1, max s.2.1 z.2, true) := by unfold stepG; rw [if_pos h]
    obtain ⟨h1, h2⟩ := foldG_le l (stepG s z) (by rw [e])
    rw [e] at h1 h2 ⊢
    dsimp only at h1
    refine ⟨by omega, fun r hr => ?_⟩
    rcases List.mem_cons.1 hr with rfl | hr
    · omega
    · exact h2 r hr
theorem foldG_has {l : List (Int × Int)} {r : Int × Int} (hr : r ∈ l) : (foldG l).1 ≤ r.1 ∧ r.2 ≤ (foldG l).2.1 := by
  cases l with
  | nil => simp at hr
  | cons z l =>
    unfold foldG
    rw [List.foldl_cons]
    have e : stepG (0, 0, false) z = (z.1, z.2, true) := rfl
    obtain ⟨h1, h2⟩ := foldG_le l (stepG (0, 0, false) z) (by rw [e])
    rw [e] at h1 h2 ⊢
    rcases List.mem_cons.1 hr with rfl | hr
    · exact h1
    · exact h2 r hr
theorem over_corner {ps : List P3} {a b c : Int} (h : c ∈ cornersS ps a b) : (overGood ps a b).1 ≤ (atS ps c).1 ∧ (atS ps c).2 ≤ (overGood ps a b).2.1 :=
  foldG_has (List.mem_map_of_mem h)
theorem corner_mem {ps : List P3} {a b c : Int} (hab : a ≤ b) (h : c = a ∨ c = b ∨ (a ≤ c ∧ c ≤ b ∧ ∃ p ∈ ps, p.1 = c)) : c ∈ cornersS ps a b := by
  unfold cornersS
  rw [List.cons_append, List.mem_cons]
  by_cases h1 : c = a
  · exact .inl h1
  · refine .inr (List.mem_append.2 ?_)
    by_cases h2 : c = b
    · right; rw [if_pos (by omega)]; simp [h2]
    · rcases h with h | h | ⟨h3, h4, p, hp, rfl⟩
      · exact absurd h h1
      · exact absurd h h2
      · left
        exact List.mem_map.2 ⟨p, List.mem_filter.2 ⟨hp, by simp; omega⟩, rfl⟩
theorem over_has {ps : List P3} {a b x : Int} (ht : tabOk ps = true) (h0 : firstX ps ≤ a) (h1 : a ≤ x) (h2 : x ≤ b) (h3 : b ≤ lastX ps) : (overGood ps a b).1 ≤ (atS ps x).1 ∧ (atS ps x).2 ≤ (overGood ps a b).2.1 := by
  obtain ⟨i, pq, hi, b1, b2, _⟩ := piece_at ht (show firstX ps ≤ x by omega) (show x ≤ lastX ps by omega)
  obtain ⟨m1, m2, _⟩ := piece_mem ht hi
  have c1 : max a pq.1.1 ∈ cornersS ps a b := corner_mem (by omega) (by
    rcases Int.le_total pq.1.1 a with c | c
    · left; omega
    · right; right; exact ⟨by omega, by omega, pq.1, m1, by omega⟩)
  have c2 : min b pq.2.1 ∈ cornersS ps a b := corner_mem (by omega) (by
    rcases Int.le_total b pq.2.1 with c | c
    · right; left; omega
    · right; right; exact ⟨by omega, by omega, pq.2, m2, by omega⟩)
  have o1 := over_corner c1
  have o2 := over_corner c2
  rw [atS_any ht hi (by omega) (by omega)] at o1 o2 ⊢
  have k1 : max a pq.1.1 ≤ x := by omega
  have k2 : x ≤ min b pq.2.1 := by omega
  constructor
  · rcases pAt_low_way pq.1 pq.2 with w | w
    · have := w _ _ k1; omega
    · have := w _ _ k2; omega
  · rcases pAt_high_way pq.1 pq.2 with w | w
    · have := w _ _ k2; omega
    · have := w _ _ k1; omega

end

section
open Go.RowKit

/-- A question that turns once at most, from a to b. -/
def OneWay (so : Int → Bool) (a b : Int) : Prop := (∀ x y, a ≤ x → x ≤ y → y ≤ b → so x = true → so y = true) ∨ (∀ x y, a ≤ x → x ≤ y → y ≤ b → so y = true → so x = true)
theorem stretch_turn {so : Int → Bool} {a b : Int} (hab : a ≤ b) (h : OneWay so a b) (hne : ¬ so a = so b) : ∃ t, a + bs (fun i => !(so (a + i) == so a)) (b - a).toNat 0 (b - a) = t ∧ a < t ∧ t ≤ b ∧ (∀ x, a ≤ x → x < t → so x = so a) ∧ (∀ x, t ≤ x → x ≤ b → so x = so b) := by
  have hmono : ∀ x y, a ≤ x → x ≤ y → y ≤ b → so x ≠ so a → so y ≠ so a := fun x y h1 h2 h3 hx hy => by
    cases ha : so a with
    | false =>
      rw [ha] at hx hy
      have hx' : so x = true := by cases h : so x <;> simp_all
      rcases h with m | m
      · have := m x y h1 h2 h3 hx'; rw [hy] at this; cases this
      · have := m a x (Int.le_refl _) h1 (by omega) hx'; rw [ha] at this; cases this
    | true =>
      rw [ha] at hx hy
      have hx' : so x = false := by cases h : so x <;> simp_all
      rcases h with m | m
      · have := m a x (Int.le_refl _) h1 (by omega) ha; rw [hx'] at this; cases this
      · have := m x y h1 h2 h3 hy; rw [hx'] at this; cases this
  obtain ⟨⟨r1, r2⟩, r3, r4⟩ := bs_turn (fun i => !(so (a + i) == so a)) (b - a).toNat 0 (b - a) (by omega) (by omega) (fun u v h1 h2 h3 hu => by
    have hu' : so (a + u) ≠ so a := by simpa using hu
    have := hmono (a + u) (a + v) (by omega) (by omega) (by omega) hu'
    simpa using this)
  refine ⟨_, rfl, ?_, by omega, fun x h1 h2 => ?_, fun x h1 h2 => ?_⟩
  · rcases Int.lt_or_le 0 (bs (fun i => !(so (a + i) == so a)) (b - a).toNat 0 (b - a)) with c | c
    · omega
    · exfalso
      have h0 : a < b := by
        rcases Int.lt_or_le a b with d | d
        · exact d
        · have : a = b := by omega
          subst this; exact absurd rfl hne
      have := r4 0 (by omega) (by omega)
      simp at this
  · have := r3 (x - a) (by omega) (by omega)
    rw [show a + (x - a) = x by omega] at this
    simpa using this
  · by_cases e : x = b
    · rw [e]
    · have := r4 (x - a) (by omega) (by omega)
      rw [show a + (x - a) = x by omega] at this
      have h1 : so x ≠ so a := by simpa using this
      cases hx : so x <;> cases hb : so b <;> cases ha : so a <;> simp_all
theorem stretch_iff {so : Int → Bool} {a b : Int} (hab : a ≤ b) (h : OneWay so a b) :
    (∀ x, ((stretchS so a b).1 ≤ x ∧ x ≤ (stretchS so a b).2) ↔ (a ≤ x ∧ x ≤ b ∧ so x = true)) ∧ a ≤ (stretchS so a b).1 ∧ (stretchS so a b).2 ≤ b ∧ ((stretchS so a b).1 ≤ (stretchS so a b).2 ∨ ((stretchS so a b).1 = b + 1 ∧ (stretchS so a b).2 = b)) := by
  unfold stretchS
  by_cases e : so a = so b
  · rw [if_pos e]
    cases ha : so a with
    | true =>
      rw [if_pos rfl]
      dsimp only
      refine ⟨fun x => ⟨fun ⟨h1, h2⟩ => ⟨h1, h2, ?_⟩, fun ⟨h1, h2, _⟩ => ⟨h1, h2⟩⟩, Int.le_refl _, Int.le_refl _, .inl hab⟩
      rcases h with m | m
      · exact m a x (Int.le_refl _) h1 h2 ha
      · exact m x b h1 h2 (Int.le_refl _) (by rw [← e]; exact ha)
    | false =>
      simp only [Bool.false_eq_true, if_false]
      refine ⟨fun x => ⟨fun ⟨h1, h2⟩ => by omega, fun ⟨h1, h2, h3⟩ => ?_⟩, by omega, Int.le_refl _, .inr (by simp)⟩
      exfalso
      rcases h with m | m
      · have := m x b h1 h2 (Int.le_refl _) h3; rw [← e, ha] at this; cases this
      · have := m a x (Int.le_refl _) h1 h2 h3; rw [ha] at this; cases this
  · rw [if_neg e]
    obtain ⟨t, ht, t1, t2, t3, t4⟩ := stretch_turn hab h e
    rw [ht]
    cases ha : so a with
    | true =>
      rw [if_pos rfl]
      dsimp only
      have hb : so b = false := by cases hb : so b <;> simp_all
      refine ⟨fun x => ⟨fun ⟨h1, h2⟩ => ⟨h1, by omega, by rw [t3 x h1 (by omega), ha]⟩, fun ⟨h1, h2, h3⟩ => ⟨h1, ?_⟩⟩, Int.le_refl _, by omega, .inl (by omega)⟩
      rcases Int.lt_or_le x t with c | c
      · omega
      · have := t4 x c h2; rw [h3, hb] at this; cases this
    | false =>
      simp only [Bool.false_eq_true, if_false]
      have hb : so b = true := by cases hb : so b <;> simp_all
      refine ⟨fun x => ⟨fun ⟨h1, h2⟩ => ⟨by omega, h2, by rw [t4 x h1 h2, hb]⟩, fun ⟨h1, h2, h3⟩ => ⟨?_, h2⟩⟩, by omega, Int.le_refl _, .inl (by omega)⟩
      rcases Int.lt_or_le x t with c | c
      · have := t3 x h1 c; rw [h3, ha] at this; cases this
      · exact c

/-- Runs that have a place. -/
def InRuns (L : List (Int × Int)) (x : Int) : Prop := ∃ r ∈ L, r.1 ≤ x ∧ x ≤ r.2
def Full (L : List (Int × Int)) : Prop := ∀ r ∈ L, r.1 ≤ r.2
theorem addRun_has {L : List (Int × Int)} {r : Int × Int} (hL : Full L) (hr : r.1 ≤ r.2) : Full (addRun L r) ∧ ∀ x, InRuns (addRun L r) x ↔ (InRuns L x ∨ (r.1 ≤ x ∧ x ≤ r.2)) := by
  unfold addRun
  cases hz : L.getLast? with
  | none =>
    have : L = [] := List.getLast?_eq_none_iff.1 hz
    subst this
    exact ⟨fun z hz => by simp at hz; subst hz; exact hr, fun x => by simp [InRuns]⟩
  | some z =>
    obtain ⟨init, rfl⟩ : ∃ init, L = init ++ [z] := List.getLast?_eq_some_iff.1 hz
    have hzf := hL z (by simp)
    dsimp only
    by_cases e : r.1 = z.2
    · rw [if_pos e, List.dropLast_concat]
      refine ⟨fun y hy => ?_, fun x => ?_⟩
      · rcases List.mem_append.1 hy with hy | hy
        · exact hL y (List.mem_append.2 (.inl hy))
        · simp at hy; subst hy; dsimp only; omega
      · constructor
        · rintro ⟨y, hy, h1, h2⟩
          rcases List.mem_append.1 hy with hy | hy
          · exact .inl ⟨y, List.mem_append.2 (.inl hy), h1, h2⟩
          · simp at hy; subst hy
            dsimp only at h1 h2
            rcases Int.lt_or_le z.2 x with c | c
            · right; omega
            · left; exact ⟨z, by simp, h1, c⟩
        · rintro (⟨y, hy, h1, h2⟩ | ⟨h1, h2⟩)
          · rcases List.mem_append.1 hy with hy | hy
            · exact ⟨y, List.mem_append.2 (.inl hy), h1, h2⟩
            · simp at hy; subst hy
              exact ⟨(y.1, r.2), by simp, h1, by dsimp only; omega⟩
          · exact ⟨(z.1, r.2), by simp, by dsimp only; omega, h2⟩
    · rw [if_neg e]
      refine ⟨fun y hy => ?_, fun x => ?_⟩
      · rcases List.mem_append.1 hy with hy | hy
        · exact hL y hy
        · simp at hy; subst hy; exact hr
      · constructor
        · rintro ⟨y, hy, h1, h2⟩
          rcases List.mem_append.1 hy with hy | hy
          · exact .inl ⟨y, hy, h1, h2⟩
          · simp at hy; subst hy; exact .inr ⟨h1, h2⟩
        · rintro (⟨y, hy, h1, h2⟩ | ⟨h1, h2⟩)
          · exact ⟨y, List.mem_append.2 (.inl hy), h1, h2⟩
          · exact ⟨r, by simp, h1, h2⟩
theorem runs_fold (f : P3 → P3 → Int × Int) : ∀ (xs : List Pr) (L : List (Int × Int)), Full L → Full (xs.foldl (runStep f) L) ∧ ∀ x, InRuns (xs.foldl (runStep f) L) x ↔ (InRuns L x ∨ ∃ y ∈ xs, (f y.1.1 y.1.2).1 ≤ x ∧ x ≤ (f y.1.1 y.1.2).2)
  | [], L, h => ⟨h, fun x => by simp⟩
  | y :: xs, L, h => by
    rw [List.foldl_cons]
    by_cases c : (f y.1.1 y.1.2).1 ≤ (f y.1.1 y.1.2).2
    · have e : runStep f L y = addRun L (f y.1.1 y.1.2) := by unfold runStep; rw [if_pos c]
      obtain ⟨a1, a2⟩ := addRun_has h c
      obtain ⟨b1, b2⟩ := runs_fold f xs (runStep f L y) (by rw [e]; exact a1)
      refine ⟨b1, fun x => ?_⟩
      rw [b2 x, e, a2 x]
      simp only [List.mem_cons, exists_eq_or_imp]
      exact or_assoc
    · have e : runStep f L y = L := by unfold runStep; rw [if_neg c]
      obtain ⟨b1, b2⟩ := runs_fold f xs (runStep f L y) (by rw [e]; exact h)
      refine ⟨b1, fun x => ?_⟩
      rw [b2 x, e]
      simp only [List.mem_cons, exists_eq_or_imp]
      constructor
      · rintro (h | h)
        · exact .inl h
        · exact .inr (.inr h)
      · rintro (h | ⟨h1, h2⟩ | h)
        · exact .inl h
        · exact absurd (Int.le_trans h1 h2) c
        · exact .inr h
theorem runs_iff (f : P3 → P3 → Int × Int) (xs : List Pr) (x : Int) : InRuns (runsF f xs) x ↔ ∃ y ∈ xs, (f y.1.1 y.1.2).1 ≤ x ∧ x ≤ (f y.1.1 y.1.2).2 := by
  have := (runs_fold f xs [] (fun r h => by simp at h)).2 x
  unfold runsF
  rw [this]
  simp [InRuns]

/-- The runs of a table, by what its pieces' questions tell. -/
theorem table_runs {ps : List P3} {xs : List Pr} {f : P3 → P3 → Int × Int} {Q : Int × Int → Prop} (ht : tabOk ps = true) (hxs : xs.map (·.1) = pcs ps)
    (hf : ∀ p q : P3, p.1 ≤ q.1 → ∀ x, ((f p q).1 ≤ x ∧ x ≤ (f p q).2) ↔ (p.1 ≤ x ∧ x ≤ q.1 ∧ Q (pAt p q x))) {x : Int} (h1 : firstX ps ≤ x) (h2 : x ≤ lastX ps) : InRuns (runsF f xs) x ↔ Q (atS ps x) := by
  rw [runs_iff]
  constructor
  · rintro ⟨y, hy, hx⟩
    have hm : y.1 ∈ pcs ps := by rw [← hxs]; exact List.mem_map_of_mem hy
    obtain ⟨i, hi⟩ := List.mem_iff_getElem?.1 hm
    obtain ⟨a, b, c⟩ := (hf _ _ y.2.2.2 x).1 hx
    rw [atS_any ht hi a b]; exact c
  · intro hq
    obtain ⟨i, pq, hi, b1, b2, _⟩ := piece_at ht h1 h2
    have hm := List.mem_of_getElem? hi
    rw [← hxs] at hm
    obtain ⟨y, hy, rfl⟩ := List.mem_map.1 hm
    refine ⟨y, hy, (hf _ _ y.2.2.2 x).2 ⟨b1, b2, ?_⟩⟩
    rw [← atS_any ht hi b1 b2]; exact hq
theorem lowSo_way (p q : P3) (lo hi a b : Int) : OneWay (lowSo p q lo hi) a b := by
  rcases pAt_low_way p q with w | w
  · exact .inr fun x y _ h _ hy => by simp only [lowSo, decide_eq_true_eq] at hy ⊢; have := w x y h; omega
  · exact .inl fun x y _ h _ hy => by simp only [lowSo, decide_eq_true_eq] at hy ⊢; have := w x y h; omega
theorem highSo_way (p q : P3) (lo hi a b : Int) : OneWay (highSo p q lo hi) a b := by
  rcases pAt_high_way p q with w | w
  · exact .inl fun x y _ h _ hy => by simp only [highSo, decide_eq_true_eq] at hy ⊢; have := w x y h; omega
  · exact .inr fun x y _ h _ hy => by simp only [highSo, decide_eq_true_eq] at hy ⊢; have := w x y h; omega
theorem whereS_iff (lo hi : Int) (p q : P3) (hpq : p.1 ≤ q.1) (x : Int) : ((whereS lo hi p q).1 ≤ x ∧ x ≤ (whereS lo hi p q).2) ↔ (p.1 ≤ x ∧ x ≤ q.1 ∧ ((pAt p q x).1 ≤ hi ∧ lo ≤ (pAt p q x).2)) := by
  have s1 := (stretch_iff hpq (lowSo_way p q lo hi p.1 q.1)).1 x
  have s2 := (stretch_iff hpq (highSo_way p q lo hi p.1 q.1)).1 x
  simp only [whereS]
  have e1 : lowSo p q lo hi x = true ↔ (pAt p q x).1 ≤ hi := by simp [lowSo]
  have e2 : highSo p q lo hi x = true ↔ lo ≤ (pAt p q x).2 := by simp [highSo]
  rw [e1] at s1
  rw [e2] at s2
  constructor
  · intro h
    have a := s1.1 (by omega)
    have b := s2.1 (by omega)
    exact ⟨a.1, a.2.1, a.2.2, b.2.2⟩
  · rintro ⟨h1, h2, h3, h4⟩
    have a := s1.2 ⟨h1, h2, h3⟩
    have b := s2.2 ⟨h1, h2, h4⟩
    omega
theorem where_iff {ps : List P3} {xs : List Pr} {lo hi x : Int} (ht : tabOk ps = true) (hxs : xs.map (·.1) = pcs ps) (h1 : firstX ps ≤ x) (h2 : x ≤ lastX ps) : InRuns (runsF (whereS lo hi) xs) x ↔ ((atS ps x).1 ≤ hi ∧ lo ≤ (atS ps x).2) :=
  table_runs (Q := fun r => r.1 ≤ hi ∧ lo ≤ r.2) ht hxs (fun p q hpq x => whereS_iff lo hi p q hpq x) h1 h2
end

section
open Go.RowKit

set_option maxRecDepth 100000 in
set_option maxHeartbeats 4000000 in
theorem smom_to (h : HoldD) (m : HoldM) (f : FillD) (w : World) (hi : HoldIn w h m) (q0 : 0 ≤ f.st) (q5 : f.st ≤ 5) :
    Calls Tryz.prog 80 #[holdV h m, fillV f] w fun e w' => e = .returned (rv (momS h f).1 (momS h f).2) ∧ Below w.heap.size w w' := by
  obtain ⟨⟨ra, rb⟩, hR⟩ : ∃ r, momS h f = r := ⟨_, rfl⟩
  rw [hR]
  have HR := Lib.hid hR
  unfold momS at HR
  clear hR
  obtain ⟨id, al, ah, vol, mom, hei, t0, t1, u0, u1, v0, v1, h0, h1⟩ := h
  obtain ⟨A, n, c, B, mm, d, C, l, ee⟩ := m
  obtain ⟨fh, st, x0, x1, d0, d1⟩ := f
  obtain ⟨i1, i2, i3⟩ := hi
  dsimp only at i1 i2 i3 q0 q5 HR
  have HE := Lib.hid (show Below w.heap.size w (((w.alloc (.cells #[.int .i64 id, .int .i64 al, .int .i64 ah, .slice A n c, .slice B mm d, .slice C l ee, .int .i64 t0, .int .i64 t1, .int .i64 u0, .int .i64 u1, .int .i64 v0, .int .i64 v1, .int .i64 h0, .int .i64 h1] 45)).alloc (.cells #[.int .i64 fh, .int .i64 st, .int .i64 x0, .int .i64 x1, .int .i64 d0, .int .i64 d1] 47)).alloc (.cells #[.int .i64 0, .int .i64 0] 23)) from below_a3 (Below.refl _ _))
  have HK := Lib.hid (boxes3' w 45 47 23 #[.int .i64 id, .int .i64 al, .int .i64 ah, .slice A n c, .slice B mm d, .slice C l ee, .int .i64 t0, .int .i64 t1, .int .i64 u0, .int .i64 u1, .int .i64 v0, .int .i64 v1, .int .i64 h0, .int .i64 h1] #[.int .i64 fh, .int .i64 st, .int .i64 x0, .int .i64 x1, .int .i64 d0, .int .i64 d1] #[.int .i64 0, .int .i64 0])
  have CO : Hid (∀ W, Below w.heap.size w W → Calls Tryz.prog 39 #[tv B mm d, rv x0 x1] W fun e w' => e = .returned (rv (overS mom x0 x1).1 (overS mom x0 x1).2.1) ∧ Below W.heap.size W w') := Lib.hid fun W hW => sover_any B mm d mom x0 x1 W (i2.below hW)
  clear i1 i2 i3
  generalize overS mom x0 x1 = Q at *
  obtain ⟨qa, qb, qe⟩ := Q
  dsimp only at HR CO
  rcases st_cases q0 q5 with rfl | rfl | rfl | rfl | rfl | rfl
  · have e : ((0 : Int), (0 : Int)) = (ra, rb) := HR.out
    injection e with e1 e2
    subst e1 e2
    clear HR CO HK
    go_enter Tryz.func80, Tryz.ntmps80
    go_wp2
    refine bodyPost_ret (v := rv 0 0) (by simp [results, Tryz.results80, go_sem]) rfl ⟨rfl, ?_⟩
    repeat (first | exact HE.out | exact Below.refl _ _ | refine Below.setCell ?_ (by simp <;> omega) _ | refine Below.alloc ?_ (by simp <;> omega) _)
  · have e : ((t0 : Int), (t1 : Int)) = (ra, rb) := HR.out
    injection e with e1 e2
    subst e1 e2
    clear HR CO HK
    go_enter Tryz.func80, Tryz.ntmps80
    go_wp2
    refine bodyPost_ret (v := rv t0 t1) (by simp [results, Tryz.results80, go_sem]) rfl ⟨rfl, ?_⟩
    repeat (first | exact HE.out | exact Below.refl _ _ | refine Below.setCell ?_ (by simp <;> omega) _ | refine Below.alloc ?_ (by simp <;> omega) _)
  · have e : ((u0 : Int), (u1 : Int)) = (ra, rb) := HR.out
    injection e with e1 e2
    subst e1 e2
    clear HR CO HK
    go_enter Tryz.func80, Tryz.ntmps80
    go_wp2
    refine bodyPost_ret (v := rv u0 u1) (by simp [results, Tryz.results80, go_sem]) rfl ⟨rfl, ?_⟩
    repeat (first | exact HE.out | exact Below.refl _ _ | refine Below.setCell ?_ (by simp <;> omega) _ | refine Below.alloc ?_ (by simp <;> omega) _)
  · have e : ((qa : Int), (qb : Int)) = (ra, rb) := HR.out
    injection e with e1 e2
    subst e1 e2
    clear HR
    go_enter Tryz.func80, Tryz.ntmps80
    go_upto_region 1 with fail
    obtain ⟨W0, hW0⟩ : ∃ W0, (((w.alloc (.cells #[.int .i64 id, .int .i64 al, .int .i64 ah, .slice A n c, .slice B mm d, .slice C l ee, .int .i64 t0, .int .i64 t1, .int .i64 u0, .int .i64 u1, .int .i64 v0, .int .i64 v1, .int .i64 h0, .int .i64 h1] 45)).alloc (.cells #[.int .i64 fh, .int .i64 3, .int .i64 x0, .int .i64 x1, .int .i64 d0, .int .i64 d1] 47)).alloc (.cells #[.int .i64 0, .int .i64 0] 23)) = W0 := ⟨_, rfl⟩
    rw [hW0] at HE HK ⊢
    clear hW0
    obtain ⟨G, hG⟩ : ∃ G, w.heap.size = G := ⟨_, rfl⟩
    rw [hG] at HK ⊢
    have HG := Lib.hid hG; clear hG
    have p := HK.out _ (.tail _ (.tail _ (.head _)))
    have p4 := p.cell 4
    simp at p4
    clear p
    have f := HK.out _ (.tail _ (.head _))
    have f1 := f.cell 1
    have f2 := f.cell 2
    have f3 := f.cell 3
    simp at f1 f2 f3
    clear f
    go_wp2_with fail
    refine (CO.out _ HE.out).mono ?_
    rintro e y1 ⟨rfl, hb⟩
    have HE9 := Lib.hid (below_then (below_then HE.out hb) (below_alloc1 y1 (.cells #[.int .i64 qa, .int .i64 qb] 23))); have HK9 := Lib.hid ((HK.out.on hb).new 23 #[.int .i64 qa, .int .i64 qb])
    clear hb HE HK p4 f1 f2 f3 CO
    go_upto_region 7 with fail
    obtain ⟨W9, hW⟩ : ∃ W9, y1.alloc (.cells #[.int .i64 qa, .int .i64 qb] 23) = W9 := ⟨_, rfl⟩
    rw [hW] at HE9 HK9 ⊢
    clear hW
    obtain ⟨N9, hN⟩ : ∃ N, y1.heap.size = N := ⟨_, rfl⟩
    rw [hN] at HK9 ⊢
    clear hN
    have a := HK9.out _ (.head _)
    have a0 := a.cell 0
    have a1 := a.cell 1
    simp at a0 a1
    clear a
    have z := HK9.out _ (.tail _ (.head _))
    have z0 := z.cell 0
    have zf0 := z.frozen 0
    have z1 := z.cell 1
    have zf1 := z.frozen 1
    have zl := z.lt
    simp at z0 zf0 z1 zf1
    clear z
    go_wp2
    refine bodyPost_ret (v := rv qa qb) (by simp [results, Tryz.results80, go_sem, z0, z1]) rfl ⟨rfl, ?_⟩
    have hg := HG.out
    repeat (first | exact HE9.out | refine Below.setCell ?_ (by simp <;> omega) _)
  · have e : ((0 : Int), (0 : Int)) = (ra, rb) := HR.out
    injection e with e1 e2
    subst e1 e2
    clear HR CO HK
    go_enter Tryz.func80, Tryz.ntmps80
    go_wp2
    refine bodyPost_ret (v := rv 0 0) (by simp [results, Tryz.results80, go_sem]) rfl ⟨rfl, ?_⟩
    repeat (first | exact HE.out | exact Below.refl _ _ | refine Below.setCell ?_ (by simp <;> omega) _ | refine Below.alloc ?_ (by simp <;> omega) _)
  · have e : ((0 : Int), (0 : Int)) = (ra, rb) := HR.out
    injection e with e1 e2
    subst e1 e2
    clear HR CO HK
    go_enter Tryz.func80, Tryz.ntmps80
    go_wp2
    refine bodyPost_ret (v := rv 0 0) (by simp [results, Tryz.results80, go_sem]) rfl ⟨rfl, ?_⟩
    repeat (first | exact HE.out | exact Below.refl _ _ | refine Below.setCell ?_ (by simp <;> omega) _ | refine Below.alloc ?_ (by simp <;> omega) _)
end

section
open Go.RowKit
theorem along_in {ps qs : List P3} {a b : Int} (h : alongS ps qs = true) (g : inB a b (firstX ps) (lastX ps) = true) : inB a b (firstX qs) (lastX qs) = true := by
  unfold alongS at h
  simp only [Bool.and_eq_true, decide_eq_true_eq] at h
  rw [← h.1, ← h.2]; exact g
end

end Go.Proofs.YtbcefdaflnlhoaaGreat
