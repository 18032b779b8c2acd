/- What is wanted besides of the texts ahead. -/
import Derived.Test.YtekkiedlajhaiaaGreatQ17
import Derived.Test.YtekkiedlajhaiaaGreatQ50
import Derived.Test.YtekkiedlajhaiaaGreatQ98
set_option linter.unusedVariables false
set_option linter.unusedSimpArgs false
set_option linter.constructorNameAsVariable false
namespace Go.Proofs.YtekkiedlajhaiaaGreat

section
open Go.RowKit
theorem bs_turn (f : Int → Bool) : ∀ (k : Nat) (i j : Int), i ≤ j → (j - i).toNat ≤ k → (∀ u v, i ≤ u → u ≤ v → v < j → f u = true → f v = true) →
    (i ≤ bs f k i j ∧ bs f k i j ≤ j) ∧ (∀ v, i ≤ v → v < bs f k i j → f v = false) ∧ (∀ v, bs f k i j ≤ v → v < j → f v = true)
  | 0, i, j, h, hk, _ => ⟨by simp [bs]; omega, fun v h1 h2 => by simp [bs] at h2; omega, fun v h1 h2 => by simp [bs] at h1; omega⟩
  | k + 1, i, j, h, hk, hm => by
    rw [bs]
    by_cases hlt : i < j
    · rw [if_pos hlt]
      have m1 : i ≤ (i + j) / 2 := by omega
      have m2 : (i + j) / 2 < j := by omega
      cases hf : f ((i + j) / 2)
      · simp only [Bool.false_eq_true, if_false]
        obtain ⟨⟨r1, r2⟩, r3, r4⟩ := bs_turn f k ((i + j) / 2 + 1) j (by omega) (by omega) (fun u v a b c => hm u v (by omega) b c)
        refine ⟨by omega, fun v h1 h2 => ?_, r4⟩
        rcases Int.lt_or_le ((i + j) / 2) v with c | c
        · exact r3 v (by omega) h2
        · cases hv : f v
          · rfl
          · have := hm v ((i + j) / 2) h1 c m2 hv
            rw [hf] at this; cases this
      · simp only [if_true]
        obtain ⟨⟨r1, r2⟩, r3, r4⟩ := bs_turn f k i ((i + j) / 2) (by omega) (by omega) (fun u v a b c => hm u v a b (by omega))
        refine ⟨by omega, r3, fun v h1 h2 => ?_⟩
        rcases Int.lt_or_le v ((i + j) / 2) with c | c
        · exact r4 v h1 c
        · exact hm ((i + j) / 2) v m1 c h2 hf
    · rw [if_neg hlt]
      exact ⟨by omega, fun v h1 h2 => by omega, fun v h1 h2 => by omega⟩
def OneWay (so : Int → Bool) (a b : Int) : Prop := (∀ x y, a ≤ x → x ≤ y → y ≤ b → so x = true → so y = true) ∨ (∀ x y, a ≤ x → x ≤ y → y ≤ b → so y = true → so x = true)
theorem stretch_turn {so : Int → Bool} {a b : Int} (hab : a ≤ b) (h : OneWay so a b) (hne : ¬ so a = so b) : ∃ t, a + bs (fun i => !(so (a + i) == so a)) (b - a).toNat 0 (b - a) = t ∧ a < t ∧ t ≤ b ∧ (∀ x, a ≤ x → x < t → so x = so a) ∧ (∀ x, t ≤ x → x ≤ b → so x = so b) := by
  have hmono : ∀ x y, a ≤ x → x ≤ y → y ≤ b → so x ≠ so a → so y ≠ so a := fun x y h1 h2 h3 hx hy => by
    cases ha : so a with
    | false =>
      rw [ha] at hx hy
      have hx' : so x = true := by cases h : so x <;> simp_all
      rcases h with m | m
      · have := m x y h1 h2 h3 hx'; rw [hy] at this; cases this
      · have := m a x (Int.le_refl _) h1 (by omega) hx'; rw [ha] at this; cases this
    | true =>
      rw [ha] at hx hy
      have hx' : so x = false := by cases h : so x <;> simp_all
      rcases h with m | m
      · have := m a x (Int.le_refl _) h1 (by omega) ha; rw [hx'] at this; cases this
      · have := m x y h1 h2 h3 hy; rw [hx'] at this; cases this
  obtain ⟨⟨r1, r2⟩, r3, r4⟩ := bs_turn (fun i => !(so (a + i) == so a)) (b - a).toNat 0 (b - a) (by omega) (by omega) (fun u v h1 h2 h3 hu => by
    have hu' : so (a + u) ≠ so a := by simpa using hu
    have := hmono (a + u) (a + v) (by omega) (by omega) (by omega) hu'
    simpa using this)
  refine ⟨_, rfl, ?_, by omega, fun x h1 h2 => ?_, fun x h1 h2 => ?_⟩
  · rcases Int.lt_or_le 0 (bs (fun i => !(so (a + i) == so a)) (b - a).toNat 0 (b - a)) with c | c
    · omega
    · exfalso
      have h0 : a < b := by
        rcases Int.lt_or_le a b with d | d
        · exact d
        · have : a = b := by omega
          subst this; exact absurd rfl hne
      have := r4 0 (by omega) (by omega)
      simp at this
  · have := r3 (x - a) (by omega) (by omega)
    rw [show a + (x - a) = x by omega] at this
    simpa using this
  · by_cases e : x = b
    · rw [e]
    · have := r4 (x - a) (by omega) (by omega)
      rw [show a + (x - a) = x by omega] at this
      have h1 : so x ≠ so a := by simpa using this
      cases hx : so x <;> cases hb : so b <;> cases ha : so a <;> simp_all
theorem stretch_iff {so : Int → Bool} {a b : Int} (hab : a ≤ b) (h : OneWay so a b) :
    (∀ x, ((stretchS so a b).1 ≤ x ∧ x ≤ (stretchS so a b).2) ↔ (a ≤ x ∧ x ≤ b ∧ so x = true)) ∧ a ≤ (stretchS so a b).1 ∧ (stretchS so a b).2 ≤ b ∧ ((stretchS so a b).1 ≤ (stretchS so a b).2 ∨ ((stretchS so a b).1 = b + 1 ∧ (stretchS so a b).2 = b)) := by
  unfold stretchS
  by_cases e : so a = so b
  · rw [if_pos e]
    cases ha : so a with
    | true =>
      rw [if_pos rfl]
      dsimp only
      refine ⟨fun x => ⟨fun ⟨h1, h2⟩ => ⟨h1, h2, ?_⟩, fun ⟨h1, h2, _⟩ => ⟨h1, h2⟩⟩, Int.le_refl _, Int.le_refl _, .inl hab⟩
      rcases h with m | m
      · exact m a x (Int.le_refl _) h1 h2 ha
      · exact m x b h1 h2 (Int.le_refl _) (by rw [← e]; exact ha)
    | false =>
      simp only [Bool.false_eq_true, if_false]
      refine ⟨fun x => ⟨fun ⟨h1, h2⟩ => by omega, fun ⟨h1, h2, h3⟩ => ?_⟩, by omega, Int.le_refl _, .inr (by simp)⟩
      exfalso
      rcases h with m | m
      · have := m x b h1 h2 (Int.le_refl _) h3; rw [← e, ha] at this; cases this
      · have := m a x (Int.le_refl _) h1 h2 h3; rw [ha] at this; cases this
  · rw [if_neg e]
    obtain ⟨t, ht, t1, t2, t3, t4⟩ := stretch_turn hab h e
    rw [ht]
    cases ha : so a with
    | true =>
      rw [if_pos rfl]
      dsimp only
      have hb : so b = false := by cases hb : so b <;> simp_all
      refine ⟨fun x => ⟨fun ⟨h1, h2⟩ => ⟨h1, by omega, by rw [t3 x h1 (by omega), ha]⟩, fun ⟨h1, h2, h3⟩ => ⟨h1, ?_⟩⟩, Int.le_refl _, by omega, .inl (by omega)⟩
      rcases Int.lt_or_le x t with c | c
      · omega
      · have := t4 x c h2; rw [h3, hb] at this; cases this
    | false =>
      simp only [Bool.false_eq_true, if_false]
      have hb : so b = true := by cases hb : so b <;> simp_all
      refine ⟨fun x => ⟨fun ⟨h1, h2⟩ => ⟨by omega, h2, by rw [t4 x h1 h2, hb]⟩, fun ⟨h1, h2, h3⟩ => ⟨?_, h2⟩⟩, by omega, Int.le_refl _, .inl (by omega)⟩
      rcases Int.lt_or_le x t with c | c
      · have := t3 x h1 c; rw [h3, ha] at this; cases this
      · exact c
def InRuns (L : List (Int × Int)) (x : Int) : Prop := ∃ r ∈ L, r.1 ≤ x ∧ x ≤ r.2
def Full (L : List (Int × Int)) : Prop := ∀ r ∈ L, r.1 ≤ r.2
theorem addRun_has {L : List (Int × Int)} {r : Int × Int} (hL : Full L) (hr : r.1 ≤ r.2) : Full (addRun L r) ∧ ∀ x, InRuns (addRun L r) x ↔ (InRuns L x ∨ (r.1 ≤ x ∧ x ≤ r.2)) := by
  unfold addRun
  cases hz : L.getLast? with
  | none =>
    have : L = [] := List.getLast?_eq_none_iff.1 hz
    subst this
    exact ⟨fun z hz => by simp at hz; subst hz; exact hr, fun x => by simp [InRuns]⟩
  | some z =>
    obtain ⟨init, rfl⟩ : ∃ init, L = init ++ [z] := List.getLast?_eq_some_iff.1 hz
    have hzf := hL z (by simp)
    dsimp only
    by_cases e : r.1 = z.2
    · rw [if_pos e, List.dropLast_concat]
      refine ⟨fun y hy => ?_, fun x => ?_⟩
      · rcases List.mem_append.1 hy with hy | hy
        · exact hL y (List.mem_append.2 (.inl hy))
        · simp at hy; subst hy; dsimp only; omega
      · constructor
        · rintro ⟨y, hy, h1, h2⟩
          rcases List.mem_append.1 hy with hy | hy
          · exact .inl ⟨y, List.mem_append.2 (.inl hy), h1, h2⟩
          · simp at hy; subst hy
            dsimp only at h1 h2
            rcases Int.lt_or_le z.2 x with c | c
            · right; omega
            · left; exact ⟨z, by simp, h1, c⟩
        · rintro (⟨y, hy, h1, h2⟩ | ⟨h1, h2⟩)
          · rcases List.mem_append.1 hy with hy | hy
            · exact ⟨y, List.mem_append.2 (.inl hy), h1, h2⟩
            · simp at hy; subst hy
              exact ⟨(y.1, r.2), by simp, h1, by dsimp only; omega⟩
          · exact ⟨(z.1, r.2), by simp, by dsimp only; omega, h2⟩
    · rw [if_neg e]
      refine ⟨fun y hy => ?_, fun x => ?_⟩
      · rcases List.mem_append.1 hy with hy | hy
        · exact hL y hy
        · simp at hy; subst hy; exact hr
      · constructor
        · rintro ⟨y, hy, h1, h2⟩
          rcases List.mem_append.1 hy with hy | hy
          · exact .inl ⟨y, hy, h1, h2⟩
          · simp at hy; subst hy; exact .inr ⟨h1, h2⟩
        · rintro (⟨y, hy, h1, h2⟩ | ⟨h1, h2⟩)
          · exact ⟨y, List.mem_append.2 (.inl hy), h1, h2⟩
          · exact ⟨r, by simp, h1, h2⟩
theorem runs_fold (f : P3 → P3 → Int × Int) : ∀ (xs : List Pr) (L : List (Int × Int)), Full L → Full (xs.foldl (runStep f) L) ∧ ∀ x, InRuns (xs.foldl (runStep f) L) x ↔ (InRuns L x ∨ ∃ y ∈ xs, (f y.1.1 y.1.2).1 ≤ x ∧ x ≤ (f y.1.1 y.1.2).2)
  | [], L, h => ⟨h, fun x => by simp⟩
  | y :: xs, L, h => by
    rw [List.foldl_cons]
    by_cases c : (f y.1.1 y.1.2).1 ≤ (f y.1.1 y.1.2).2
    · have e : runStep f L y = addRun L (f y.1.1 y.1.2) := by unfold runStep; rw [if_pos c]
      obtain ⟨a1, a2⟩ := addRun_has h c
      obtain ⟨b1, b2⟩ := runs_fold f xs (runStep f L y) (by rw [e]; exact a1)
      refine ⟨b1, fun x => ?_⟩
      rw [b2 x, e, a2 x]
      simp only [List.mem_cons, exists_eq_or_imp]
      exact or_assoc
    · have e : runStep f L y = L := by unfold runStep; rw [if_neg c]
      obtain ⟨b1, b2⟩ := runs_fold f xs (runStep f L y) (by rw [e]; exact h)
      refine ⟨b1, fun x => ?_⟩
      rw [b2 x, e]
      simp only [List.mem_cons, exists_eq_or_imp]
      constructor
      · rintro (h | h)
        · exact .inl h
        · exact .inr (.inr h)
      · rintro (h | ⟨h1, h2⟩ | h)
        · exact .inl h
        · exact absurd (Int.le_trans h1 h2) c
        · exact .inr h
theorem runs_iff (f : P3 → P3 → Int × Int) (xs : List Pr) (x : Int) : InRuns (runsF f xs) x ↔ ∃ y ∈ xs, (f y.1.1 y.1.2).1 ≤ x ∧ x ≤ (f y.1.1 y.1.2).2 := by
  have := (runs_fold f xs [] (fun r h => by simp at h)).2 x
  unfold runsF
  rw [this]
  simp [InRuns]
theorem table_runs {ps : List P3} {xs : List Pr} {f : P3 → P3 → Int × Int} {Q : Int × Int → Prop} (ht : tabOk ps = true) (hxs : xs.map (·.1) = pcs ps)
    (hf : ∀ p q : P3, p.1 ≤ q.1 → ∀ x, ((f p q).1 ≤ x ∧ x ≤ (f p q).2) ↔ (p.1 ≤ x ∧ x ≤ q.1 ∧ Q (pAt p q x))) {x : Int} (h1 : firstX ps ≤ x) (h2 : x ≤ lastX ps) : InRuns (runsF f xs) x ↔ Q (atS ps x) := by
  rw [runs_iff]
  constructor
  · rintro ⟨y, hy, hx⟩
    have hm : y.1 ∈ pcs ps := by rw [← hxs]; exact List.mem_map_of_mem hy
    obtain ⟨i, hi⟩ := List.mem_iff_getElem?.1 hm
    obtain ⟨a, b, c⟩ := (hf _ _ y.2.2.2 x).1 hx
    rw [atS_any ht hi a b]; exact c
  · intro hq
    obtain ⟨i, pq, hi, b1, b2, _⟩ := piece_at ht h1 h2
    have hm := List.mem_of_getElem? hi
    rw [← hxs] at hm
    obtain ⟨y, hy, rfl⟩ := List.mem_map.1 hm
    refine ⟨y, hy, (hf _ _ y.2.2.2 x).2 ⟨b1, b2, ?_⟩⟩
    rw [← atS_any ht hi b1 b2]; exact hq
theorem lowSo_way (p q : P3) (lo hi a b : Int) : OneWay (lowSo p q lo hi) a b := by
  rcases pAt_low_way p q with w | w
  · exact .inr fun x y _ h _ hy => by simp only [lowSo, decide_eq_true_eq] at hy ⊢; have := w x y h; omega
  · exact .inl fun x y _ h _ hy => by simp only [lowSo, decide_eq_true_eq] at hy ⊢; have := w x y h; omega
theorem highSo_way (p q : P3) (lo hi a b : Int) : OneWay (highSo p q lo hi) a b := by
  rcases pAt_high_way p q with w | w
  · exact .inl fun x y _ h _ hy => by simp only [highSo, decide_eq_true_eq] at hy ⊢; have := w x y h; omega
  · exact .inr fun x y _ h _ hy => by simp only [highSo, decide_eq_true_eq] at hy ⊢; have := w x y h; omega
theorem whereS_iff (lo hi : Int) (p q : P3) (hpq : p.1 ≤ q.1) (x : Int) : ((whereS lo hi p q).1 ≤ x ∧ x ≤ (whereS lo hi p q).2) ↔ (p.1 ≤ x ∧ x ≤ q.1 ∧ ((pAt p q x).1 ≤ hi ∧ lo ≤ (pAt p q x).2)) := by
  have s1 := (stretch_iff hpq (lowSo_way p q lo hi p.1 q.1)).1 x
  have s2 := (stretch_iff hpq (highSo_way p q lo hi p.1 q.1)).1 x
  simp only [whereS]
  have e1 : lowSo p q lo hi x = true ↔ (pAt p q x).1 ≤ hi := by simp [lowSo]
  have e2 : highSo p q lo hi x = true ↔ lo ≤ (pAt p q x).2 := by simp [highSo]
  rw [e1] at s1
  rw [e2] at s2
  constructor
  · intro h
    have a := s1.1 (by omega)
    have b := s2.1 (by omega)
    exact ⟨a.1, a.2.1, a.2.2, b.2.2⟩
  · rintro ⟨h1, h2, h3, h4⟩
    have a := s1.2 ⟨h1, h2, h3⟩
    have b := s2.2 ⟨h1, h2, h4⟩
    omega
theorem where_iff {ps : List P3} {xs : List Pr} {lo hi x : Int} (ht : tabOk ps = true) (hxs : xs.map (·.1) = pcs ps) (h1 : firstX ps ≤ x) (h2 : x ≤ lastX ps) : InRuns (runsF (whereS lo hi) xs) x ↔ ((atS ps x).1 ≤ hi ∧ lo ≤ (atS ps x).2) :=
  table_runs (Q := fun r => r.1 ≤ hi ∧ lo ≤ r.2) ht hxs (fun p q hpq x => whereS_iff lo hi p q hpq x) h1 h2
end

end Go.Proofs.YtekkiedlajhaiaaGreat
