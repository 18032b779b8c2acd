/- FixCurves: whatever table, numbers, places and range come in, the law returns true and leaves its arguments as they were. No conditions. -/
import Derived.Test.YthhcejcpopgkiaaY0
import Derived.Test.YthhcejcpopgkiaaE4
import Derived.Test.YthhcejcpopgkiaaV1
import Derived.Test.YthhcejcpopgkiaaE5
import Derived.Test.YthhcejcpopgkiaaM3
import Derived.Test.YthhcejcpopgkiaaR4
import Derived.Test.YthhcejcpopgkiaaI1
import Derived.Test.YthhcejcpopgkiaaU1
set_option linter.unusedVariables false
set_option linter.unusedSimpArgs false
set_option linter.constructorNameAsVariable false
namespace Go.Proofs.Ythhcejcpopgkiaa

section
open Go.RowKit

/-- A table at a place of one of its pieces, whichever. -/
theorem piece_start {ps : List P3} (ht : tabOk ps = true) {i j : Nat} {pq r : P3 × P3} (hi : (pcs ps)[i]? = some pq) (hj : (pcs ps)[j]? = some r) (h : j < i) : r.2.1 ≤ pq.1.1 := by
  rcases Nat.lt_or_ge ps.length 2 with c | c
  · exfalso
    have hl := (tabOk_len ht).1
    obtain ⟨p, rfl⟩ : ∃ p, ps = [p] := List.length_eq_one_iff.1 (by omega)
    have := (List.getElem?_eq_some_iff.1 hi).1
    simp [pcs] at this
    omega
  · have h1 := pcs_before c hj
    have h2 := hi
    rw [pcs_two c, List.getElem?_zip_eq_some] at h2
    exact rising_le ht h1 h2.1 (by omega)
theorem piece_mem {ps : List P3} (ht : tabOk ps = true) {i : Nat} {pq : P3 × P3} (hi : (pcs ps)[i]? = some pq) : pq.1 ∈ ps ∧ pq.2 ∈ ps ∧ pq.1.1 ≤ pq.2.1 := by
  rcases Nat.lt_or_ge ps.length 2 with c | c
  · have hl := (tabOk_len ht).1
    obtain ⟨p, rfl⟩ : ∃ p, ps = [p] := List.length_eq_one_iff.1 (by omega)
    have : pq = (p, p) := by
      have := List.mem_of_getElem? hi
      simpa [pcs] using this
    subst this
    exact ⟨by simp, by simp, Int.le_refl _⟩
  · have h2 := hi
    rw [pcs_two c, List.getElem?_zip_eq_some] at h2
    have h1 := pcs_before c hi
    exact ⟨List.mem_of_getElem? h2.1, List.mem_of_getElem? h1, rising_le ht h2.1 h1 (by omega)⟩
theorem pAt_start (p q : P3) : pAt p q p.1 = (p.2.1, p.2.2) := by simp [pAt, riseS]
theorem atS_any {ps : List P3} (ht : tabOk ps = true) {i : Nat} {pq : P3 × P3} {x : Int} (hi : (pcs ps)[i]? = some pq) (h1 : pq.1.1 ≤ x) (h2 : x ≤ pq.2.1) : atS ps x = pAt pq.1 pq.2 x := by
  by_cases he : pq.1.1 = x
  · subst he
    rw [atS_point ht (piece_mem ht hi).1, pAt_start]
  · exact atS_piece hi h2 (fun j hj r hr => by have := piece_start ht hi hr hj; omega)

/-- rise goes one way -/
theorem riseS_up {u v D dy : Int} (h : u ≤ v) (hy : 0 ≤ dy) : riseS u D dy ≤ riseS v D dy :=
  Int.ediv_le_ediv (by omega) (Int.mul_le_mul_of_nonneg_right h hy)
theorem riseS_down {u v D dy : Int} (h : u ≤ v) (hy : dy ≤ 0) : riseS v D dy ≤ riseS u D dy :=
  Int.ediv_le_ediv (by omega) (by
    have := Int.mul_le_mul_of_nonneg_right h (show 0 ≤ -dy by omega)
    rw [Int.mul_neg, Int.mul_neg] at this; omega)
/-- the lines of a piece go one way -/
theorem pAt_low_way (p q : P3) : (∀ x y, x ≤ y → (pAt p q x).1 ≤ (pAt p q y).1) ∨ (∀ x y, x ≤ y → (pAt p q y).1 ≤ (pAt p q x).1) := by
  rcases Int.le_total 0 (q.2.1 - p.2.1) with c | c
  · exact .inl fun x y h => by have := riseS_up (D := q.1 - p.1) (show x - p.1 ≤ y - p.1 by omega) c; simp only [pAt]; omega
  · exact .inr fun x y h => by have := riseS_down (D := q.1 - p.1) (show x - p.1 ≤ y - p.1 by omega) c; simp only [pAt]; omega
theorem pAt_high_way (p q : P3) : (∀ x y, x ≤ y → (pAt p q x).2 ≤ (pAt p q y).2) ∨ (∀ x y, x ≤ y → (pAt p q y).2 ≤ (pAt p q x).2) := by
  rcases Int.le_total 0 (p.2.2 - q.2.2) with c | c
  · exact .inr fun x y h => by have := riseS_up (D := q.1 - p.1) (show x - p.1 ≤ y - p.1 by omega) c; simp only [pAt]; omega
  · exact .inl fun x y h => by have := riseS_down (D := q.1 - p.1) (show x - p.1 ≤ y - p.1 by omega) c; simp only [pAt]; omega

/-- Over has what lies between -/
theorem foldG_le : ∀ (l : List (Int × Int)) (s : Int × Int × Bool), s.2.2 = true → ((l.foldl stepG s).1 ≤ s.1 ∧ s.2.1 ≤ (l.foldl stepG s).2.1) ∧ (∀ r ∈ l, (l.foldl stepG s).1 ≤ r.1 ∧ r.2 ≤ (l.foldl stepG s).2.1)
  | [], s, _ => ⟨⟨Int.le_refl _, Int.le_refl _⟩, fun r h => by simp at h⟩
  | z :: l, s, h => by
    rw [List.foldl_cons]
    have e : stepG s z = (min s.1 z.1, max s.2.1 z.2, true) := by unfold stepG; rw [if_pos h]
    obtain ⟨h1, h2⟩ := foldG_le l (stepG s z) (by rw [e])
    rw [e] at h1 h2 ⊢
    dsimp only at h1
    refine ⟨by omega, fun r hr => ?_⟩
    rcases List.mem_cons.1 hr with rfl | hr
    · omega
    · exact h2 r hr
theorem foldG_has {l : List (Int × Int)} {r : Int × Int} (hr : r ∈ l) : (foldG l).1 ≤ r.1 ∧ r.2 ≤ (foldG l).2.1 := by
  cases l with
  | nil => simp at hr
  | cons z l =>
    unfold foldG
    rw [List.foldl_cons]
    have e : stepG (0, 0, false) z = (z.1, z.2, true) := rfl
    obtain ⟨h1, h2⟩ := foldG_le l (stepG (0, 0, false) z) (by rw [e])
    rw [e] at h1 h2 ⊢
    rcases List.mem_cons.1 hr with rfl | hr
    · exact h1
    · exact h2 r hr
theorem over_corner {ps : List P3} {a b c : Int} (h : c ∈ cornersS ps a b) : (overGood ps a b).1 ≤ (atS ps c).1 ∧ (atS ps c).2 ≤ (overGood ps a b).2.1 :=
  foldG_has (List.mem_map_of_mem h)
theorem corner_mem {ps : List P3} {a b c : Int} (hab : a ≤ b) (h : c = a ∨ c = b ∨ (a ≤ c ∧ c ≤ b ∧ ∃ p ∈ ps, p.1 = c)) : c ∈ cornersS ps a b := by
  unfold cornersS
  rw [List.cons_append, List.mem_cons]
  by_cases h1 : c = a
  · exact .inl h1
  · refine .inr (List.mem_append.2 ?_)
    by_cases h2 : c = b
    · right; rw [if_pos (by omega)]; simp [h2]
    · rcases h with h | h | ⟨h3, h4, p, hp, rfl⟩
      · exact absurd h h1
      · exact absurd h h2
      · left
        exact List.mem_map.2 ⟨p, List.mem_filter.2 ⟨hp, by simp; omega⟩, rfl⟩
theorem over_has {ps : List P3} {a b x : Int} (ht : tabOk ps = true) (h0 : firstX ps ≤ a) (h1 : a ≤ x) (h2 : x ≤ b) (h3 : b ≤ lastX ps) : (overGood ps a b).1 ≤ (atS ps x).1 ∧ (atS ps x).2 ≤ (overGood ps a b).2.1 := by
  obtain ⟨i, pq, hi, b1, b2, _⟩ := piece_at ht (show firstX ps ≤ x by omega) (show x ≤ lastX ps by omega)
  obtain ⟨m1, m2, _⟩ := piece_mem ht hi
  have c1 : max a pq.1.1 ∈ cornersS ps a b := corner_mem (by omega) (by
    rcases Int.le_total pq.1.1 a with c | c
    · left; omega
    · right; right; exact ⟨by omega, by omega, pq.1, m1, by omega⟩)
  have c2 : min b pq.2.1 ∈ cornersS ps a b := corner_mem (by omega) (by
    rcases Int.le_total b pq.2.1 with c | c
    · right; left; omega
    · right; right; exact ⟨by omega, by omega, pq.2, m2, by omega⟩)
  have o1 := over_corner c1
  have o2 := over_corner c2
  rw [atS_any ht hi (by omega) (by omega)] at o1 o2 ⊢
  have k1 : max a pq.1.1 ≤ x := by omega
  have k2 : x ≤ min b pq.2.1 := by omega
  constructor
  · rcases pAt_low_way pq.1 pq.2 with w | w
    · have := w _ _ k1; omega
    · have := w _ _ k2; omega
  · rcases pAt_high_way pq.1 pq.2 with w | w
    · have := w _ _ k2; omega
    · have := w _ _ k1; omega

/-- The binary search finds where a question turns. -/
theorem bs_turn (f : Int → Bool) : ∀ (k : Nat) (i j : Int), i ≤ j → (j - i).toNat ≤ k → (∀ u v, i ≤ u → u ≤ v → v < j → f u = true → f v = true) →
    (i ≤ bs f k i j ∧ bs f k i j ≤ j) ∧ (∀ v, i ≤ v → v < bs f k i j → f v = false) ∧ (∀ v, bs f k i j ≤ v → v < j → f v = true)
  | 0, i, j, h, hk, _ => ⟨by simp [bs]; omega, fun v h1 h2 => by simp [bs] at h2; omega, fun v h1 h2 => by simp [bs] at h1; omega⟩
  | k + 1, i, j, h, hk, hm => by
    rw [bs]
    by_cases hlt : i < j
    · rw [if_pos hlt]
      have m1 : i ≤ (i + j) / 2 := by omega
      have m2 : (i + j) / 2 < j := by omega
      cases hf : f ((i + j) / 2)
      · simp only [Bool.false_eq_true, if_false]
        obtain ⟨⟨r1, r2⟩, r3, r4⟩ := bs_turn f k ((i + j) / 2 + 1) j (by omega) (by omega) (fun u v a b c => hm u v (by omega) b c)
        refine ⟨by omega, fun v h1 h2 => ?_, r4⟩
        rcases Int.lt_or_le ((i + j) / 2) v with c | c
        · exact r3 v (by omega) h2
        · cases hv : f v
          · rfl
          · have := hm v ((i + j) / 2) h1 c m2 hv
            rw [hf] at this; cases this
      · simp only [if_true]
        obtain ⟨⟨r1, r2⟩, r3, r4⟩ := bs_turn f k i ((i + j) / 2) (by omega) (by omega) (fun u v a b c => hm u v a b (by omega))
        refine ⟨by omega, r3, fun v h1 h2 => ?_⟩
        rcases Int.lt_or_le v ((i + j) / 2) with c | c
        · exact r4 v h1 c
        · exact hm ((i + j) / 2) v m1 c h2 hf
    · rw [if_neg hlt]
      exact ⟨by omega, fun v h1 h2 => by omega, fun v h1 h2 => by omega⟩

/-- A question that turns once at most, from a to b. -/
def OneWay (so : Int → Bool) (a b : Int) : Prop := (∀ x y, a ≤ x → x ≤ y → y ≤ b → so x = true → so y = true) ∨ (∀ x y, a ≤ x → x ≤ y → y ≤ b → so y = true → so x = true)
theorem stretch_turn {so : Int → Bool} {a b : Int} (hab : a ≤ b) (h : OneWay so a b) (hne : ¬ so a = so b) : ∃ t, a + bs (fun i => !(so (a + i) == so a)) (b - a).toNat 0 (b - a) = t ∧ a < t ∧ t ≤ b ∧ (∀ x, a ≤ x → x < t → so x = so a) ∧ (∀ x, t ≤ x → x ≤ b → so x = so b) := by
  have hmono : ∀ x y, a ≤ x → x ≤ y → y ≤ b → so x ≠ so a → so y ≠ so a := fun x y h1 h2 h3 hx hy => by
    cases ha : so a with
    | false =>
      rw [ha] at hx hy
      have hx' : so x = true := by cases h : so x <;> simp_all
      rcases h with m | m
      · have := m x y h1 h2 h3 hx'; rw [hy] at this; cases this
      · have := m a x (Int.le_refl _) h1 (by omega) hx'; rw [ha] at this; cases this
    | true =>
      rw [ha] at hx hy
      have hx' : so x = false := by cases h : so x <;> simp_all
      rcases h with m | m
      · have := m a x (Int.le_refl _) h1 (by omega) ha; rw [hx'] at this; cases this
      · have := m x y h1 h2 h3 hy; rw [hx'] at this; cases this
  obtain ⟨⟨r1, r2⟩, r3, r4⟩ := bs_turn (fun i => !(so (a + i) == so a)) (b - a).toNat 0 (b - a) (by omega) (by omega) (fun u v h1 h2 h3 hu => by
    have hu' : so (a + u) ≠ so a := by simpa using hu
    have := hmono (a + u) (a + v) (by omega) (by omega) (by omega) hu'
    simpa using this)
  refine ⟨_, rfl, ?_, by omega, fun x h1 h2 => ?_, fun x h1 h2 => ?_⟩
  · rcases Int.lt_or_le 0 (bs (fun i => !(so (a + i) == so a)) (b - a).toNat 0 (b - a)) with c | c
    · omega
    · exfalso
      have h0 : a < b := by
        rcases Int.lt_or_le a b with d | d
        · exact d
        · have : a = b := by omega
          subst this; exact absurd rfl hne
      have := r4 0 (by omega) (by omega)
      simp at this
  · have := r3 (x - a) (by omega) (by omega)
    rw [show a + (x - a) = x by omega] at this
    simpa using this
  · by_cases e : x = b
    · rw [e]
    · have := r4 (x - a) (by omega) (by omega)
      rw [show a + (x - a) = x by omega] at this
      have h1 : so x ≠ so a := by simpa using this
      cases hx : so x <;> cases hb : so b <;> cases ha : so a <;> simp_all
theorem stretch_iff {so : Int → Bool} {a b : Int} (hab : a ≤ b) (h : OneWay so a b) :
    (∀ x, ((stretchS so a b).1 ≤ x ∧ x ≤ (stretchS so a b).2) ↔ (a ≤ x ∧ x ≤ b ∧ so x = true)) ∧ a ≤ (stretchS so a b).1 ∧ (stretchS so a b).2 ≤ b ∧ ((stretchS so a b).1 ≤ (stretchS so a b).2 ∨ ((stretchS so a b).1 = b + 1 ∧ (stretchS so a b).2 = b)) := by
  unfold stretchS
  by_cases e : so a = so b
  · rw [if_pos e]
    cases ha : so a with
    | true =>
      rw [if_pos rfl]
      dsimp only
      refine ⟨fun x => ⟨fun ⟨h1, h2⟩ => ⟨h1, h2, ?_⟩, fun ⟨h1, h2, _⟩ => ⟨h1, h2⟩⟩, Int.le_refl _, Int.le_refl _, .inl hab⟩
      rcases h with m | m
      · exact m a x (Int.le_refl _) h1 h2 ha
      · exact m x b h1 h2 (Int.le_refl _) (by rw [← e]; exact ha)
    | false =>
      simp only [Bool.false_eq_true, if_false]
      refine ⟨fun x => ⟨fun ⟨h1, h2⟩ => by omega, fun ⟨h1, h2, h3⟩ => ?_⟩, by omega, Int.le_refl _, .inr (by simp)⟩
      exfalso
      rcases h with m | m
      · have := m x b h1 h2 (Int.le_refl _) h3; rw [← e, ha] at this; cases this
      · have := m a x (Int.le_refl _) h1 h2 h3; rw [ha] at this; cases this
  · rw [if_neg e]
    obtain ⟨t, ht, t1, t2, t3, t4⟩ := stretch_turn hab h e
    rw [ht]
    cases ha : so a with
    | true =>
      rw [if_pos rfl]
      dsimp only
      have hb : so b = false := by cases hb : so b <;> simp_all
      refine ⟨fun x => ⟨fun ⟨h1, h2⟩ => ⟨h1, by omega, by rw [t3 x h1 (by omega), ha]⟩, fun ⟨h1, h2, h3⟩ => ⟨h1, ?_⟩⟩, Int.le_refl _, by omega, .inl (by omega)⟩
      rcases Int.lt_or_le x t with c | c
      · omega
      · have := t4 x c h2; rw [h3, hb] at this; cases this
    | false =>
      simp only [Bool.false_eq_true, if_false]
      have hb : so b = true := by cases hb : so b <;> simp_all
      refine ⟨fun x => ⟨fun ⟨h1, h2⟩ => ⟨by omega, h2, by rw [t4 x h1 h2, hb]⟩, fun ⟨h1, h2, h3⟩ => ⟨?_, h2⟩⟩, by omega, Int.le_refl _, .inl (by omega)⟩
      rcases Int.lt_or_le x t with c | c
      · have := t3 x h1 c; rw [h3, ha] at this; cases this
      · exact c

/-- Runs that have a place. -/
def InRuns (L : List (Int × Int)) (x : Int) : Prop := ∃ r ∈ L, r.1 ≤ x ∧ x ≤ r.2
def Full (L : List (Int × Int)) : Prop := ∀ r ∈ L, r.1 ≤ r.2
theorem addRun_has {L : List (Int × Int)} {r : Int × Int} (hL : Full L) (hr : r.1 ≤ r.2) : Full (addRun L r) ∧ ∀ x, InRuns (addRun L r) x ↔ (InRuns L x ∨ (r.1 ≤ x ∧ x ≤ r.2)) := by
  unfold addRun
  cases hz : L.getLast? with
  | none =>
    have : L = [] := List.getLast?_eq_none_iff.1 hz
    subst this
    exact ⟨fun z hz => by simp at hz; subst hz; exact hr, fun x => by simp [InRuns]⟩
  | some z =>
    obtain ⟨init, rfl⟩ : ∃ init, L = init ++ [z] := List.getLast?_eq_some_iff.1 hz
    have hzf := hL z (by simp)
    dsimp only
    by_cases e : r.1 = z.2
    · rw [if_pos e, List.dropLast_concat]
      refine ⟨fun y hy => ?_, fun x => ?_⟩
      · rcases List.mem_append.1 hy with hy | hy
        · exact hL y (List.mem_append.2 (.inl hy))
        · simp at hy; subst hy; dsimp only; omega
      · constructor
        · rintro ⟨y, hy, h1, h2⟩
          rcases List.mem_append.1 hy with hy | hy
          · exact .inl ⟨y, List.mem_append.2 (.inl hy), h1, h2⟩
          · simp at hy; subst hy
            dsimp only at h1 h2
            rcases Int.lt_or_le z.2 x with c | c
            · right; omega
            · left; exact ⟨z, by simp, h1, c⟩
        · rintro (⟨y, hy, h1, h2⟩ | ⟨h1, h2⟩)
          · rcases List.mem_append.1 hy with hy | hy
            · exact ⟨y, List.mem_append.2 (.inl hy), h1, h2⟩
            · simp at hy; subst hy
              exact ⟨(y.1, r.2), by simp, h1, by dsimp only; omega⟩
          · exact ⟨(z.1, r.2), by simp, by dsimp only; omega, h2⟩
    · rw [if_neg e]
      refine ⟨fun y hy => ?_, fun x => ?_⟩
      · rcases List.mem_append.1 hy with hy | hy
        · exact hL y hy
        · simp at hy; subst hy; exact hr
      · constructor
        · rintro ⟨y, hy, h1, h2⟩
          rcases List.mem_append.1 hy with hy | hy
          · exact .inl ⟨y, hy, h1, h2⟩
          · simp at hy; subst hy; exact .inr ⟨h1, h2⟩
        · rintro (⟨y, hy, h1, h2⟩ | ⟨h1, h2⟩)
          · exact ⟨y, List.mem_append.2 (.inl hy), h1, h2⟩
          · exact ⟨r, by simp, h1, h2⟩
theorem runs_fold (f : P3 → P3 → Int × Int) : ∀ (xs : List Pr) (L : List (Int × Int)), Full L → Full (xs.foldl (runStep f) L) ∧ ∀ x, InRuns (xs.foldl (runStep f) L) x ↔ (InRuns L x ∨ ∃ y ∈ xs, (f y.1.1 y.1.2).1 ≤ x ∧ x ≤ (f y.1.1 y.1.2).2)
  | [], L, h => ⟨h, fun x => by simp⟩
  | y :: xs, L, h => by
    rw [List.foldl_cons]
    by_cases c : (f y.1.1 y.1.2).1 ≤ (f y.1.1 y.1.2).2
    · have e : runStep f L y = addRun L (f y.1.1 y.1.2) := by unfold runStep; rw [if_pos c]
      obtain ⟨a1, a2⟩ := addRun_has h c
      obtain ⟨b1, b2⟩ := runs_fold f xs (runStep f L y) (by rw [e]; exact a1)
      refine ⟨b1, fun x => ?_⟩
      rw [b2 x, e, a2 x]
      simp only [List.mem_cons, exists_eq_or_imp]
      exact or_assoc
    · have e : runStep f L y = L := by unfold runStep; rw [if_neg c]
      obtain ⟨b1, b2⟩ := runs_fold f xs (runStep f L y) (by rw [e]; exact h)
      refine ⟨b1, fun x => ?_⟩
      rw [b2 x, e]
      simp only [List.mem_cons, exists_eq_or_imp]
      constructor
      · rintro (h | h)
        · exact .inl h
        · exact .inr (.inr h)
      · rintro (h | ⟨h1, h2⟩ | h)
        · exact .inl h
        · exact absurd (Int.le_trans h1 h2) c
        · exact .inr h
theorem runs_iff (f : P3 → P3 → Int × Int) (xs : List Pr) (x : Int) : InRuns (runsF f xs) x ↔ ∃ y ∈ xs, (f y.1.1 y.1.2).1 ≤ x ∧ x ≤ (f y.1.1 y.1.2).2 := by
  have := (runs_fold f xs [] (fun r h => by simp at h)).2 x
  unfold runsF
  rw [this]
  simp [InRuns]

/-- The runs of a table, by what its pieces' questions tell. -/
theorem table_runs {ps : List P3} {xs : List Pr} {f : P3 → P3 → Int × Int} {Q : Int × Int → Prop} (ht : tabOk ps = true) (hxs : xs.map (·.1) = pcs ps)
    (hf : ∀ p q : P3, p.1 ≤ q.1 → ∀ x, ((f p q).1 ≤ x ∧ x ≤ (f p q).2) ↔ (p.1 ≤ x ∧ x ≤ q.1 ∧ Q (pAt p q x))) {x : Int} (h1 : firstX ps ≤ x) (h2 : x ≤ lastX ps) : InRuns (runsF f xs) x ↔ Q (atS ps x) := by
  rw [runs_iff]
  constructor
  · rintro ⟨y, hy, hx⟩
    have hm : y.1 ∈ pcs ps := by rw [← hxs]; exact List.mem_map_of_mem hy
    obtain ⟨i, hi⟩ := List.mem_iff_getElem?.1 hm
    obtain ⟨a, b, c⟩ := (hf _ _ y.2.2.2 x).1 hx
    rw [atS_any ht hi a b]; exact c
  · intro hq
    obtain ⟨i, pq, hi, b1, b2, _⟩ := piece_at ht h1 h2
    have hm := List.mem_of_getElem? hi
    rw [← hxs] at hm
    obtain ⟨y, hy, rfl⟩ := List.mem_map.1 hm
    refine ⟨y, hy, (hf _ _ y.2.2.2 x).2 ⟨b1, b2, ?_⟩⟩
    rw [← atS_any ht hi b1 b2]; exact hq
theorem lowSo_way (p q : P3) (lo hi a b : Int) : OneWay (lowSo p q lo hi) a b := by
  rcases pAt_low_way p q with w | w
  · exact .inr fun x y _ h _ hy => by simp only [lowSo, decide_eq_true_eq] at hy ⊢; have := w x y h; omega
  · exact .inl fun x y _ h _ hy => by simp only [lowSo, decide_eq_true_eq] at hy ⊢; have := w x y h; omega
theorem highSo_way (p q : P3) (lo hi a b : Int) : OneWay (highSo p q lo hi) a b := by
  rcases pAt_high_way p q with w | w
  · exact .inl fun x y _ h _ hy => by simp only [highSo, decide_eq_true_eq] at hy ⊢; have := w x y h; omega
  · exact .inr fun x y _ h _ hy => by simp only [highSo, decide_eq_true_eq] at hy ⊢; have := w x y h; omega
theorem whereS_iff (lo hi : Int) (p q : P3) (hpq : p.1 ≤ q.1) (x : Int) : ((whereS lo hi p q).1 ≤ x ∧ x ≤ (whereS lo hi p q).2) ↔ (p.1 ≤ x ∧ x ≤ q.1 ∧ ((pAt p q x).1 ≤ hi ∧ lo ≤ (pAt p q x).2)) := by
  have s1 := (stretch_iff hpq (lowSo_way p q lo hi p.1 q.1)).1 x
  have s2 := (stretch_iff hpq (highSo_way p q lo hi p.1 q.1)).1 x
  simp only [whereS]
  have e1 : lowSo p q lo hi x = true ↔ (pAt p q x).1 ≤ hi := by simp [lowSo]
  have e2 : highSo p q lo hi x = true ↔ lo ≤ (pAt p q x).2 := by simp [highSo]
  rw [e1] at s1
  rw [e2] at s2
  constructor
  · intro h
    have a := s1.1 (by omega)
    have b := s2.1 (by omega)
    exact ⟨a.1, a.2.1, a.2.2, b.2.2⟩
  · rintro ⟨h1, h2, h3, h4⟩
    have a := s1.2 ⟨h1, h2, h3⟩
    have b := s2.2 ⟨h1, h2, h4⟩
    omega
theorem aboveSo_way (p q : P3) (y a b : Int) : OneWay (aboveSo p q y) a b := by
  rcases pAt_low_way p q with w | w
  · exact .inl fun x z _ h _ hy => by simp only [aboveSo, decide_eq_true_eq] at hy ⊢; have := w x z h; omega
  · exact .inr fun x z _ h _ hy => by simp only [aboveSo, decide_eq_true_eq] at hy ⊢; have := w x z h; omega
theorem aboveS_iff (y : Int) (p q : P3) (hpq : p.1 ≤ q.1) (x : Int) : ((aboveS y p q).1 ≤ x ∧ x ≤ (aboveS y p q).2) ↔ (p.1 ≤ x ∧ x ≤ q.1 ∧ y ≤ (pAt p q x).1) := by
  have s1 := (stretch_iff hpq (aboveSo_way p q y p.1 q.1)).1 x
  have e1 : aboveSo p q y x = true ↔ y ≤ (pAt p q x).1 := by simp [aboveSo]
  rw [e1] at s1
  exact s1
theorem where_iff {ps : List P3} {xs : List Pr} {lo hi x : Int} (ht : tabOk ps = true) (hxs : xs.map (·.1) = pcs ps) (h1 : firstX ps ≤ x) (h2 : x ≤ lastX ps) : InRuns (runsF (whereS lo hi) xs) x ↔ ((atS ps x).1 ≤ hi ∧ lo ≤ (atS ps x).2) :=
  table_runs (Q := fun r => r.1 ≤ hi ∧ lo ≤ r.2) ht hxs (fun p q hpq x => whereS_iff lo hi p q hpq x) h1 h2
theorem above_iff {ps : List P3} {xs : List Pr} {y x : Int} (ht : tabOk ps = true) (hxs : xs.map (·.1) = pcs ps) (h1 : firstX ps ≤ x) (h2 : x ≤ lastX ps) : InRuns (runsF (aboveS y) xs) x ↔ y ≤ (atS ps x).1 :=
  table_runs (Q := fun r => y ≤ r.1) ht hxs (fun p q hpq x => aboveS_iff y p q hpq x) h1 h2

/-- A value with a fraction lies within a range. -/
def Lies (a b W N : Int) : Prop := a ≤ W ∧ (W < b ∨ (W = b ∧ N = 0))
theorem Lies.wider {a b c d W N : Int} (h : Lies a b W N) (h1 : c ≤ a) (h2 : b ≤ d) : Lies c d W N := by
  unfold Lies at h ⊢; omega
/-- The value of numbers within a table at its points lies within the table's range at the place. -/
theorem value_lies {p q : P3} {y z x : Int} (h1 : p.1 < x) (h2 : x < q.1) (a1 : p.2.1 ≤ y) (a2 : y ≤ p.2.2) (b1 : q.2.1 ≤ z) (b2 : z ≤ q.2.2) :
    Lies (pAt p q x).1 (pAt p q x).2 (y + (z - y) * (x - p.1) / (q.1 - p.1)) ((z - y) * (x - p.1) % (q.1 - p.1)) := by
  have hm : max (q.1 - p.1) 1 = q.1 - p.1 := by omega
  have hD : 1 ≤ q.1 - p.1 := by omega
  rw [pAt_lo, pAt_hi, hm]
  generalize hDD : q.1 - p.1 = D at *
  generalize hu : x - p.1 = u at *
  have u0 : 0 ≤ u := by omega
  have u1 : 0 ≤ D - u := by omega
  have e : y * (D - u) + z * u = (z - y) * u + y * D := by grind
  have n1 : p.2.1 * (D - u) + q.2.1 * u ≤ y * (D - u) + z * u := by
    have := Int.mul_le_mul_of_nonneg_right a1 u1
    have := Int.mul_le_mul_of_nonneg_right b1 u0
    omega
  have n2 : y * (D - u) + z * u ≤ p.2.2 * (D - u) + q.2.2 * u := by
    have := Int.mul_le_mul_of_nonneg_right a2 u1
    have := Int.mul_le_mul_of_nonneg_right b2 u0
    omega
  have hN : -p.2.2 * (D - u) + -q.2.2 * u = -(p.2.2 * (D - u) + q.2.2 * u) := by grind
  rw [hN]
  have h := area_lies hD n1 n2
  have e1 : (y * (D - u) + z * u) / D = y + (z - y) * u / D := by
    rw [e, Int.add_mul_ediv_right _ _ (by omega)]; omega
  have e2 : (y * (D - u) + z * u) % D = (z - y) * u % D := by
    rw [e, Int.add_mul_emod_self_right]
  rw [e1, e2] at h
  have hr := Int.emod_nonneg ((z - y) * u) (show D ≠ 0 by omega)
  unfold Lies
  omega
end

section
open Go.RowKit Go.Shelf

set_option maxRecDepth 100000 in
set_option maxHeartbeats 2000000 in
theorem above_good (b0 o n c : Nat) (ps : List P3) (xs : List Pr) (lv : Int) (w : World) (hn : n = ps.length) (h2 : 1 ≤ n) (hb : b0 < w.heap.size) (ht : tabOk ps = true) (hxs : xs.map (·.1) = pcs ps) (hc : PtsAt w b0 o ps) :
    Calls Try.prog 52 #[tv (some ⟨b0, o, none⟩) n c, .int .i64 lv] w (GivesRunsOk w (runsF (aboveS lv) xs)) := by
  have h40 := (tabOk_len ht).2
  have hml : n ≤ maxLen := by unfold maxLen; omega
  have HN := Lib.hid hn; clear hn
  have HT := Lib.hid ht; clear ht
  have HX := Lib.hid hxs; clear hxs
  have hB0 : Below w.heap.size w ((w.alloc (.cells #[.slice (some ⟨b0, o, none⟩) n c] 43)).alloc (.cells #[.int .i64 lv] 3)) := below_a2 (Below.refl _ _)
  have HC := Lib.hid (hc.below hB0 hb); clear hc
  have hb0 : b0 < ((w.alloc (.cells #[.slice (some ⟨b0, o, none⟩) n c] 43)).alloc (.cells #[.int .i64 lv] 3)).heap.size := by simp; omega
  have bT := (Blk.new w 43 #[.slice (some ⟨b0, o, none⟩) n c]).alloc (.cells #[.int .i64 lv] 3)
  have bR := Blk.new (w.alloc (.cells #[.slice (some ⟨b0, o, none⟩) n c] 43)) 3 #[.int .i64 lv]
  simp only [World.size_alloc] at bR
  have HB := Lib.hid hb0; have HBT := Lib.hid bT; have HBR := Lib.hid bR; have HB0 := Lib.hid hB0
  clear hb0 bT bR hB0
  go_enter Try.func52, Try.ntmps52
  go_wp2_with fail
  refine (checkTable_to _ n c ps _ _ _ HN.out hml (HC.out.pts HB.out) HT.out rfl).mono ?_
  rintro e w1 ⟨rfl, hb1⟩
  have bT1 := HBT.out.below hb1 HBT.out.lt
  have bR1 := HBR.out.below hb1 HBR.out.lt
  have P1 := HC.out.below hb1 HB.out
  have hB1 := below_then HB0.out hb1
  have hz1 : w.heap.size + 1 < w1.heap.size := by have := hb1.size; simp at this; omega
  have t0 := bT1.cell 0
  simp at t0
  have HBT1 := Lib.hid bT1; have HBR1 := Lib.hid bR1; have HP1 := Lib.hid P1; have HB1 := Lib.hid hB1
  clear bT1 bR1 P1 hB1 hb1
  have hza : w.heap.size < w1.heap.size := by omega
  go_wp2_with fail
  refine (collect_above b0 o n c (w.heap.size + 1) ps xs lv w1 HN.out h2 (by omega) HT.out HX.out HP1.out HBR1.out).mono ?_
  rintro e w3 ⟨v, rfl, ho, hb3⟩
  have hB3 := below_then HB1.out hb3
  have HO := Lib.hid ho; have HB3 := Lib.hid hB3
  clear ho hB3 hb3
  go_wp2
  refine bodyPost_ret (v := .tuple #[v, .int .i64 0]) (by simp [results, Try.results52, go_sem]) rfl ⟨v, rfl, HO.out.mono (by omega), HB3.out⟩

/-- A row of runs in memory, or nothing. -/
def RunsP (w : World) (A : Option Addr) (L : List (Int × Int)) : Prop := L = [] ∨ ∃ b o, A = some ⟨b, o, none⟩ ∧ b < w.heap.size ∧ RunsMem w b o L
theorem RunsP.below {w w' : World} {A : Option Addr} {L : List (Int × Int)} (h : RunsP w A L) (hB : Below w.heap.size w w') : RunsP w' A L := by
  rcases h with h | ⟨b, o, h1, h2, h3⟩
  · exact .inl h
  · exact .inr ⟨b, o, h1, Nat.lt_of_lt_of_le h2 hB.size, h3.below hB h2⟩
theorem runCells_at : ∀ (L : List (Int × Int)) (k : Nat) (r : Int × Int), L[k]? = some r → (runCells L)[k * 2]? = some (.int .i64 r.1) ∧ (runCells L)[k * 2 + 1]? = some (.int .i64 r.2)
  | [], k, r, h => by simp at h
  | z :: L, 0, r, h => by simp at h; subst h; simp [runCells]
  | z :: L, k + 1, r, h => by
    have := runCells_at L k r (by simpa using h)
    have e : runCells (z :: L) = [Value.int .i64 z.1, .int .i64 z.2] ++ runCells L := by simp [runCells]
    rw [e, List.getElem?_append_right (by simp; omega), List.getElem?_append_right (by simp; omega)]
    rw [show (k + 1) * 2 - [Value.int .i64 z.1, .int .i64 z.2].length = k * 2 by simp; omega, show (k + 1) * 2 + 1 - [Value.int .i64 z.1, .int .i64 z.2].length = k * 2 + 1 by simp; omega]
    exact this
theorem OwnRuns.runsP {base : Nat} {w : World} {v : Value} {L : List (Int × Int)} (ho : OwnRuns base w v L) : ∃ A c, v = .slice A L.length c ∧ RunsP w A L := by
  have ho' : w.ownsRow base 23 2 v L.length (runCells L) := ho
  rcases Nat.lt_or_ge 0 L.length with hl | hl
  · obtain ⟨g, cap, rfl, _, h2⟩ := ho'.form hl
    refine ⟨_, _, rfl, .inr ⟨g, 0, rfl, h2, fun k p hp => ?_⟩⟩
    have hk := (List.getElem?_eq_some_iff.1 hp).1
    obtain ⟨a, b⟩ := runCells_at L k p hp
    have c0 := (ho'.cellAt (k * 2) (by omega)).trans a
    have c1 := (ho'.cellAt (k * 2 + 1) (by omega)).trans b
    rw [Nat.zero_add]
    exact ⟨c0, c1⟩
  · obtain rfl : L = [] := List.eq_nil_of_length_eq_zero (by omega)
    rcases ho'.2 with ⟨h, _⟩ | ⟨g, cap, _, h, _⟩
    · exact ⟨_, _, h, .inl rfl⟩
    · exact ⟨_, _, h, .inl rfl⟩
/-- Runs are handed back, with no error. -/
def GivesRow2 (w : World) (L : List (Int × Int)) (e : Ending) (w' : World) : Prop := ∃ A c, e = .returned (.tuple #[.slice A L.length c, .int .i64 0]) ∧ RunsP w' A L ∧ Below w.heap.size w w'
theorem givesRow2_of {w w' : World} {L : List (Int × Int)} {e : Ending} (h : GivesRunsOk w L e w') : GivesRow2 w L e w' := by
  obtain ⟨v, rfl, ho, hb⟩ := h
  obtain ⟨A, c, rfl, hp⟩ := ho.runsP
  exact ⟨A, c, rfl, hp, hb⟩

/-- in -/
def inB2 (L : List (Int × Int)) (x : Int) : Bool := L.any fun r => decide (r.1 ≤ x) && decide (x ≤ r.2)
theorem inB2_iff (L : List (Int × Int)) (x : Int) : inB2 L x = true ↔ InRuns L x := by
  simp [inB2, InRuns]
theorem inB2_snoc {L : List (Int × Int)} {x : Int} {k : Nat} {r : Int × Int} (h : L[k]? = some r) : inB2 (L.drop k) x = ((decide (r.1 ≤ x) && decide (x ≤ r.2)) || inB2 (L.drop (k + 1)) x) := by
  obtain ⟨hk, rfl⟩ := List.getElem?_eq_some_iff.1 h
  unfold inB2
  rw [List.drop_eq_getElem_cons hk, List.any_cons]
theorem inB2_end {L : List (Int × Int)} {x : Int} {k : Nat} (h : L.length ≤ k) : inB2 (L.drop k) x = false := by
  rw [List.drop_of_length_le h]; rfl

set_option maxRecDepth 100000 in
set_option maxHeartbeats 2000000 in
theorem in_any (A : Option Addr) (n c : Nat) (L : List (Int × Int)) (x : Int) (w : World) (hn : n = L.length) (hm : n ≤ 1000000) (hp : RunsP w A L) :
    Calls Try.prog 69 #[.slice A n c, .int .i64 x] w fun e w' => e = .returned (.bool (inB2 L x)) ∧ Below w.heap.size w w' := by
  generalize hR : inB2 L x = R
  have HR := Lib.hid (show inB2 (L.drop 0) x = R from hR); clear hR
  have HN := Lib.hid hn; have HP := Lib.hid hp; clear hn hp
  go_enter Try.func69, Try.ntmps69
  go_wp2_with fail
  go_loopw [9] (fun i wr => ∃ k : Nat, k ≤ n ∧ i = .int .i64 k ∧ Hid (inB2 (L.drop k) x = R) ∧ Below w.heap.size w wr) (fun i _ => n - (intOf i).toNat)
  case atStart => exact ⟨0, by omega, rfl, HR, Below.refl _ _⟩
  case round =>
    obtain ⟨k, hk, rfl, HK, hB⟩ := hrel
    by_cases hlt : k < n
    · obtain ⟨⟨a, b⟩, hr⟩ : ∃ p, L[k]? = some p := ⟨_, List.getElem?_eq_getElem (show k < L.length by rw [← HN.out]; exact hlt)⟩
      obtain ⟨b', o', rfl, hb', hmem⟩ : ∃ b o, A = some ⟨b, o, none⟩ ∧ b < w.heap.size ∧ RunsMem w b o L := by
        rcases HP.out with h | h
        · have := HN.out; rw [h] at this; simp at this; omega
        · exact h
      obtain ⟨c0, c1⟩ := hmem k _ hr
      rw [← hB.cell (p := ⟨b', o' + k * 2, none⟩) hb'] at c0
      rw [← hB.cell (p := ⟨b', o' + k * 2 + 1, none⟩) hb'] at c1
      dsimp only at c0 c1
      have HS := Lib.hid (inB2_snoc (x := x) hr)
      have HB := Lib.hid (hB.alloc hB.size (.cells #[.int .i64 a, .int .i64 b] 23))
      clear hr hmem hB
      by_cases h1 : a ≤ x
      · by_cases h2 : x ≤ b
        · have hr : true = R := by rw [← HK.out, HS.out, decide_eq_true h1, decide_eq_true h2]; rfl
          subst hr
          go_wp2
          go_ret
          exact ⟨rfl, HB.out⟩
        · have hr : inB2 (L.drop (k + 1)) x = R := by rw [← HK.out, HS.out, decide_eq_true h1, decide_eq_false h2]; rfl
          have HK2 := Lib.hid hr; clear hr HK HS
          go_wp2
          go_roundw
          case rel => exact ⟨k + 1, by omega, by go_num, HK2, HB.out⟩
          case measure => simp [intOf]; omega
      · have hr : inB2 (L.drop (k + 1)) x = R := by rw [← HK.out, HS.out, decide_eq_false h1]; rfl
        have HK2 := Lib.hid hr; clear hr HK HS
        go_wp2
        go_roundw
        case rel => exact ⟨k + 1, by omega, by go_num, HK2, HB.out⟩
        case measure => simp [intOf]; omega
    · have hr : false = R := by rw [← HK.out, inB2_end (by have := HN.out; omega)]
      subst hr
      clear HK HR
      go_wp2
      go_ret
      exact ⟨rfl, hB⟩

/-- lies -/
def liesB (a b W N : Int) : Bool := decide (a ≤ W) && (decide (W < b) || (decide (W = b) && decide (N = 0)))
theorem liesB_iff (a b W N : Int) : liesB a b W N = true ↔ Lies a b W N := by simp [liesB, Lies]
set_option maxRecDepth 100000 in
set_option maxHeartbeats 2000000 in
theorem lies_any (a b W N D : Int) (w : World) :
    Calls Try.prog 68 #[rv a b, fv W N D] w fun e w' => e = .returned (.bool (liesB a b W N)) ∧ Below w.heap.size w w' := by
  have hE : Below w.heap.size w ((w.alloc (.cells #[.int .i64 a, .int .i64 b] 23)).alloc (.cells #[.int .i64 W, .int .i64 N, .int .i64 D] 71)) := below_a2 (Below.refl _ _)
  have HE := Lib.hid hE; clear hE
  by_cases h1 : a ≤ W
  · by_cases h2 : W < b
    · have hr : liesB a b W N = true := by unfold liesB; rw [decide_eq_true h1, decide_eq_true h2]; rfl
      rw [hr]; clear hr
      go_enter Try.func68, Try.ntmps68
      go_wp2
      go_ret
      exact ⟨rfl, HE.out⟩
    · by_cases h3 : W = b
      · subst h3
        by_cases h4 : N = 0
        · subst h4
          have hr : liesB a W W 0 = true := by unfold liesB; rw [decide_eq_true h1]; simp
          rw [hr]; clear hr
          go_enter Try.func68, Try.ntmps68
          go_wp2
          go_ret
          exact ⟨rfl, HE.out⟩
        · have hr : liesB a W W N = false := by unfold liesB; simp [h4]
          rw [hr]; clear hr
          have hz : (N == 0) = false := beq_eq_false_iff_ne.2 h4
          go_enter Try.func68, Try.ntmps68
          go_wp2
          go_ret
          exact ⟨rfl, HE.out⟩
      · have hr : liesB a b W N = false := by unfold liesB; simp [h3, h2]
        rw [hr]; clear hr
        have hz : (W == b) = false := beq_eq_false_iff_ne.2 h3
        go_enter Try.func68, Try.ntmps68
        go_wp2
        go_ret
        exact ⟨rfl, HE.out⟩
  · have hr : liesB a b W N = false := by unfold liesB; simp [h1]
    rw [hr]; clear hr
    go_enter Try.func68, Try.ntmps68
    go_wp2
    go_ret
    exact ⟨rfl, HE.out⟩
end

section
open Go.RowKit

theorem val_lies {ps : List P3} {ys : List Int} {x : Int} {w w' : World} {e : Ending} (ht : tabOk ps = true) (hl : x ≤ lastX ps) (hi : InTab ps ys) (h : GivesVal (xsOf ps) ys x w e w') :
    ∃ V N D, e = .returned (fv V N D) ∧ Lies (atS ps x).1 (atS ps x).2 V N ∧ Below w.heap.size w w' := by
  obtain ⟨k, xk, yk, hxk, hyk, hle, hnx, hb, h⟩ := h
  obtain ⟨p, hp, hp1⟩ := getElem?_fst hxk
  have hp1' : p.1 = xk := hp1
  subst hp1'
  have hbd := hi.2 k p yk hp hyk
  have hnx' : ∀ q, ps[k + 1]? = some q → x < q.1 := fun q hq => hnx q.1 (by rw [List.getElem?_map, hq]; rfl)
  obtain ⟨r1, r2⟩ := ref_at ht hp hle hl hnx'
  rcases h with ⟨he, rfl⟩ | ⟨hne, z, yz, hz, hyz, rfl⟩
  · refine ⟨yk, 0, 1, rfl, ?_, hb⟩
    rw [r1 he]
    unfold Lies
    dsimp only
    omega
  · obtain ⟨q, hq, hq1⟩ := getElem?_fst hz
    have hq1' : q.1 = z := hq1
    subst hq1'
    have hbq := hi.2 (k + 1) q yz hq hyz
    have h2 : 2 ≤ ps.length := by have := (List.getElem?_eq_some_iff.1 hq).1; omega
    have hlt := hnx' q hq
    refine ⟨_, _, _, rfl, ?_, hb⟩
    rw [atS_any ht (pcs_at h2 hp hq) hle (Int.le_of_lt hlt)]
    exact value_lies (by dsimp only; omega) (by dsimp only; omega) hbd.1 hbd.2 hbq.1 hbq.2
theorem curveOk_of : ∀ (ps : List P3) (ys : List Int), (∀ p ∈ ps, Okp p) → InTab ps ys → curveOk ps ys = true
  | [], [], _, _ => rfl
  | [], _ :: _, _, h => by have := h.1; simp at this
  | _ :: _, [], _, h => by have := h.1; simp at this
  | p :: ps, y :: ys, ho, h => by
    obtain ⟨b, t⟩ := h.tail
    unfold curveOk
    rw [curveOk_of ps ys (fun q hq => ho q (List.mem_cons_of_mem _ hq)) t, Bool.and_true, decide_eq_true b.1, decide_eq_true b.2]; rfl
theorem curveS_zero {ps : List P3} {ys : List Int} (ht : tabOk ps = true) (h : InTab ps ys) : curveS ps ys = 0 := by
  unfold curveS
  rw [if_pos ht, if_pos h.1, if_pos (curveOk_of ps ys (fun p hp => (okp_of ps (-1) (tabOk_pts ht) (by omega) p hp).1) h)]
end

section
open Go.RowKit

/-- A row of numbers in memory is handed back. -/
def GivesRow (w : World) (n : Nat) (L : List Int) (e : Ending) (w' : World) : Prop := ∃ pg cap, e = .returned (.slice (some ⟨pg, 0, none⟩) n cap) ∧ pg < w'.heap.size ∧ IntsMem w' pg 0 L ∧ Below w.heap.size w w'
theorem row_of {w w' : World} {n : Nat} {L : List Int} {e : Ending} (h : GivesInts w L e w') (hn : n = L.length) (h1 : 1 ≤ n) : GivesRow w n L e w' := by
  subst hn
  obtain ⟨pg, cap, rfl, _, l, m, hb⟩ := gives_form h (by intro c; rw [c] at h1; simp at h1)
  exact ⟨pg, cap, rfl, l, fun k x hx => by rw [Nat.zero_add]; exact m k x hx, hb⟩
end

section
open Go.RowKit
attribute [local go_sem ↓] run_minI run_maxI

set_option maxRecDepth 100000 in
set_option maxHeartbeats 16000000 in
theorem fixCurves_walk (A A' : Option Addr) (n n' c c' : Nat) (ps : List P3) (cs : List Int) (z0 z1 z2 ra rb : Int) (w : World) (hn : n = ps.length) (hn' : n' = cs.length) (hm : n ≤ maxLen) (hm' : n' ≤ maxLen) (hp : Pts w A ps) (hq : IntsP w A' cs) :
    Calls Try.prog 8 #[.agg #[.slice A n c, .slice A' n' c'], .agg #[.int .i64 z0, .int .i64 z1, .int .i64 z2], rv ra rb] w fun e w' => e = .returned (.bool true) ∧ Below w.heap.size w w' := by
  have hK : Boxes (((w.alloc (.cells #[.slice A n c, .slice A' n' c'] 66)).alloc (.cells #[.int .i64 z0, .int .i64 z1, .int .i64 z2] 67)).alloc (.cells #[.int .i64 ra, .int .i64 rb] 23)) [(w.heap.size + 1 + 1, 23, #[.int .i64 ra, .int .i64 rb]), (w.heap.size + 1, 67, #[.int .i64 z0, .int .i64 z1, .int .i64 z2]), (w.heap.size, 66, #[.slice A n c, .slice A' n' c'])] := by
    have h1 : Boxes (w.alloc (.cells #[.slice A n c, .slice A' n' c'] 66)) [(w.heap.size, 66, #[.slice A n c, .slice A' n' c'])] := fun p hp => by
      have := List.mem_singleton.1 hp; subst this; exact Blk.new w _ _
    have h2 := (h1.new 67 #[.int .i64 z0, .int .i64 z1, .int .i64 z2]).new 23 #[.int .i64 ra, .int .i64 rb]
    simp only [World.size_alloc] at h2
    exact h2
  have HK0 := Lib.hid hK; clear hK
  have HE0 := Lib.hid (show Below w.heap.size w (((w.alloc (.cells #[.slice A n c, .slice A' n' c'] 66)).alloc (.cells #[.int .i64 z0, .int .i64 z1, .int .i64 z2] 67)).alloc (.cells #[.int .i64 ra, .int .i64 rb] 23)) from below_a3 (Below.refl _ _))
  by_cases ht : tabOk ps = true
  · have h1 := (tabOk_len ht).1
    have h40 := (tabOk_len ht).2
    have hn1 : 1 ≤ n := by omega
    have hn40 : n ≤ 40 := by omega
    obtain ⟨b, o, rfl, hb, hc⟩ := hp.block h1
    have hfl := first_le_last ht
    have i0 := placeS_in hfl z0
    have i1 := placeS_in hfl z1
    have i2 := placeS_in hfl z2
    obtain ⟨pl1, pl2⟩ := places_in ht
    obtain ⟨a, ha⟩ : ∃ r, placeS ps z0 = r := ⟨_, rfl⟩
    obtain ⟨d1, hd1⟩ : ∃ r, placeS ps z1 = r := ⟨_, rfl⟩
    obtain ⟨d2, hd2⟩ : ∃ r, placeS ps z2 = r := ⟨_, rfl⟩
    rw [ha] at i0
    rw [hd1] at i1
    rw [hd2] at i2
    obtain ⟨x, hx⟩ : ∃ r, min a d1 = r := ⟨_, rfl⟩
    obtain ⟨y, hy⟩ : ∃ r, max a d2 = r := ⟨_, rfl⟩
    have q1 : placesS ps x y = 0 := by unfold placesS; rw [if_pos ht, if_pos (inB_yes (by omega) (by omega) (by omega))]
    have q3 : placesS ps a a = 0 := by unfold placesS; rw [if_pos ht, if_pos (inB_yes (by omega) (by omega) (by omega))]
    have hv : vR x y = true := (vR_iff x y).2 ⟨by omega, by omega, by omega⟩
    obtain ⟨L1, L2, L3, L4, L5, L6⟩ := tab_lines ht
    have hcl := curveFrom_len cs 0 ps
    have hit := curve_inTab cs ht
    have hiy : InY (curveFrom cs 0 ps) := curve_inY ht
    have CV : Hid (∀ W, Below w.heap.size w W → Calls Try.prog 63 #[tv (some ⟨b, o, none⟩) n c] W fun e w' => e = .returned (.bool true) ∧ Below W.heap.size W w') := Lib.hid fun W hW => by
      have h := validTable_any _ n c ps W hn (by unfold maxLen; omega) ((hc.below hW hb).pts (Nat.lt_of_lt_of_le hb hW.size))
      rw [ht] at h; exact h
    have CC : Hid (∀ W, Below w.heap.size w W → Calls Try.prog 64 #[.agg #[.slice (some ⟨b, o, none⟩) n c, .slice A' n' c']] W (GivesRow W n (curveFrom cs 0 ps))) := Lib.hid fun W hW =>
      (curve_any b o n c A' n' c' ps cs W hn (Nat.lt_of_lt_of_le hb hW.size) ht (hc.below hW hb) hn' hm' (hq.below hW)).mono fun e w' h => row_of h (by rw [hcl]; exact hn) hn1
    generalize curveFrom cs 0 ps = ys at *
    have ov := over_has ht (show firstX ps ≤ x by omega) (show x ≤ a by omega) (show a ≤ y by omega) (show y ≤ lastX ps by omega)
    obtain ⟨xs, hxs⟩ := rise_list ht
    have hxl : xs.length ≤ 40 := by have h1 := congrArg List.length hxs; have h2 := pcs_len ps; simp at h1; omega
    have u1 := runsF_len (aboveS ra) xs
    have u2 := runsF_len (whereS ra rb) xs
    have k1 := above_iff (y := ra) ht hxs (show firstX ps ≤ a by omega) (show a ≤ lastX ps by omega)
    have k2 := where_iff (lo := ra) (hi := rb) ht hxs (show firstX ps ≤ a by omega) (show a ≤ lastX ps by omega)
    rw [← inB2_iff] at k1 k2
    have P0 : Hid (∀ W, Below w.heap.size w W → Calls Try.prog 65 #[tv (some ⟨b, o, none⟩) n c, .int .i64 z0] W fun e w' => e = .returned (.int .i64 a) ∧ Below W.heap.size W w') := Lib.hid fun W hW =>
      int_to (place_any b o n c ps z0 W hn (Nat.lt_of_lt_of_le hb hW.size) ht (hc.below hW hb)) ha
    have P1 : Hid (∀ W, Below w.heap.size w W → Calls Try.prog 65 #[tv (some ⟨b, o, none⟩) n c, .int .i64 z1] W fun e w' => e = .returned (.int .i64 d1) ∧ Below W.heap.size W w') := Lib.hid fun W hW =>
      int_to (place_any b o n c ps z1 W hn (Nat.lt_of_lt_of_le hb hW.size) ht (hc.below hW hb)) hd1
    have P2 : Hid (∀ W, Below w.heap.size w W → Calls Try.prog 65 #[tv (some ⟨b, o, none⟩) n c, .int .i64 z2] W fun e w' => e = .returned (.int .i64 d2) ∧ Below W.heap.size W w') := Lib.hid fun W hW =>
      int_to (place_any b o n c ps z2 W hn (Nat.lt_of_lt_of_le hb hW.size) ht (hc.below hW hb)) hd2
    have CX : Hid (∀ W, Below w.heap.size w W → Calls Try.prog 67 #[tv (some ⟨b, o, none⟩) n c] W (GivesRow W n (xsOf ps))) := Lib.hid fun W hW =>
      (xs_any b o n c ps W hn hn40 (Nat.lt_of_lt_of_le hb hW.size) (hc.below hW hb)).mono fun e w' h => row_of h (by rw [List.length_map]; exact hn) hn1
    have VL : Hid (∀ W p1 k1 p2 k2, p1 < W.heap.size → p2 < W.heap.size → IntsMem W p1 0 (xsOf ps) → IntsMem W p2 0 ys →
        Calls Try.prog 66 #[.slice (some ⟨p1, 0, none⟩) n k1, .slice (some ⟨p2, 0, none⟩) n k2, .int .i64 a] W fun e w' => ∃ V N D, e = .returned (fv V N D) ∧ Lies (atS ps a).1 (atS ps a).2 V N ∧ Below W.heap.size W w') := Lib.hid fun W p1 k1 p2 k2 g1 g2 m1 m2 =>
      (value_any p1 0 p2 0 n k1 k2 (xsOf ps) ys a W (by rw [List.length_map]; exact hn) (by rw [hcl]; exact hn) hn1 hn40 g1 g2 m1 m2 L2 hiy (by omega) (by omega)
        (fun z hz => by have e := firstX_map ps; rw [List.head?_eq_getElem?, hz] at e; simp at e; omega)
        (fun z hz => by have e := lastX_map ps; rw [List.getLast?_eq_getElem?, List.length_map, ← hn, hz] at e; simp at e; omega)).mono fun e w' h => val_lies ht (by omega) hit h
    have TP : Hid (∀ W, Below w.heap.size w W → Calls Try.prog 35 #[tv (some ⟨b, o, none⟩) n c, .int .i64 a] W fun e w' => e = .returned (.tuple #[rv (atS ps a).1 (atS ps a).2, .int .i64 0]) ∧ Below W.heap.size W w') := Lib.hid fun W hW =>
      rt_to (at_all _ n c ps a W hn hm (hp.below hW)) (by unfold AtS; rw [if_pos q3])
    have OP : Hid (∀ W, Below w.heap.size w W → Calls Try.prog 48 #[tv (some ⟨b, o, none⟩) n c, rv x y] W fun e w' => e = .returned (.tuple #[rv (overGood ps x y).1 (overGood ps x y).2.1, .int .i64 0]) ∧ Below W.heap.size W w') := Lib.hid fun W hW =>
      over_good b o n c ps x y W hn hn1 (Nat.lt_of_lt_of_le hb hW.size) ht hv q1 (hc.below hW hb)
    have KP : Hid (∀ W p2 k2, Below w.heap.size w W → p2 < W.heap.size → IntsMem W p2 0 ys → Calls Try.prog 42 #[tv (some ⟨b, o, none⟩) n c, .slice (some ⟨p2, 0, none⟩) n k2] W fun e w' => e = .returned (.int .i64 0) ∧ Below W.heap.size W w') := Lib.hid fun W p2 k2 hW g m =>
      int_to (checkCurve_any _ _ n n c k2 ps ys W hn (by rw [hcl]; exact hn) hm hm (hp.below hW) (.inr ⟨p2, 0, rfl, g, m⟩)) (curveS_zero ht hit)
    have AP : Hid (∀ W, Below w.heap.size w W → Calls Try.prog 52 #[tv (some ⟨b, o, none⟩) n c, .int .i64 ra] W (GivesRow2 W (runsF (aboveS ra) xs))) := Lib.hid fun W hW =>
      (above_good b o n c ps xs ra W hn hn1 (Nat.lt_of_lt_of_le hb hW.size) ht hxs (hc.below hW hb)).mono fun e w' h => givesRow2_of h
    have WP : Hid (vR ra rb = true → ∀ W, Below w.heap.size w W → Calls Try.prog 50 #[tv (some ⟨b, o, none⟩) n c, rv ra rb] W (GivesRow2 W (runsF (whereS ra rb) xs))) := Lib.hid fun hr W hW =>
      (where_good b o n c ps xs ra rb W hn hn1 (Nat.lt_of_lt_of_le hb hW.size) ht hr hxs (hc.below hW hb)).mono fun e w' h => givesRow2_of h
    have HXY := Lib.hid (And.intro hx hy)
    clear hx hy hn hn' hm hm' hp hq hc h1 h40 hfl i0 i1 i2 pl1 pl2 ha hd1 hd2 q1 q3 hv L1 L2 L3 L4 L5 L6 hcl hit hiy ht hxs hn1
    generalize (atS ps a).1 = a1 at *
    generalize (atS ps a).2 = a2 at *
    generalize (overGood ps x y).1 = o1 at *
    generalize (overGood ps x y).2.1 = o2 at *
    generalize runsF (aboveS ra) xs = RA at *
    generalize runsF (whereS ra rb) xs = RW at *
    have hra : RA.length ≤ 1000000 := by omega
    have hrw : RW.length ≤ 1000000 := by omega
    have HF := Lib.hid (And.intro k1 k2)
    clear k1 k2 u1 u2 hxl
    go_enter Try.func8, Try.ntmps8
    go_wp2_with fail
    obtain ⟨W0, hW⟩ : ∃ W, ((w.alloc (.cells #[.slice (some ⟨b, o, none⟩) n c, .slice A' n' c'] 66)).alloc (.cells #[.int .i64 z0, .int .i64 z1, .int .i64 z2] 67)).alloc (.cells #[.int .i64 ra, .int .i64 rb] 23) = W := ⟨_, rfl⟩
    rw [hW] at HK0 HE0 ⊢
    clear hW
    obtain ⟨G, hG⟩ : ∃ G, w.heap.size = G := ⟨_, rfl⟩
    rw [hG] at HK0 ⊢
    have HG := Lib.hid hG; clear hG
    refine (CV.out W0 HE0.out).mono ?_
    rintro e v1 ⟨rfl, hb1⟩
    have HK1 := Lib.hid (HK0.out.on hb1); have HE1 := Lib.hid (below_then HE0.out hb1)
    clear hb1 HK0 HE0 
    have q0 := (HK1.out _ (.tail _ (.tail _ (.head _)))).cell 0
    have q1 := (HK1.out _ (.tail _ (.tail _ (.head _)))).cell 1
    simp at q0 q1
    go_wp2_with fail
    refine (CC.out v1 HE1.out).mono ?_
    rintro e v2 ⟨g1, kk1, rfl, lg1, m1, hb1⟩
    have HM := Lib.hid (And.intro lg1 m1)
    clear lg1 m1
    have HK2 := Lib.hid (HK1.out.on hb1); have HE2 := Lib.hid (below_then HE1.out hb1)
    clear hb1 HK1 HE1 q0 q1
    have q0 := (HK2.out _ (.tail _ (.tail _ (.head _)))).cell 0
    have q1 := (HK2.out _ (.tail _ (.head _))).cell 0
    simp at q0 q1
    go_wp2_with fail
    refine (P0.out _ HE2.out).mono ?_
    rintro e v3 ⟨rfl, hb1⟩
    have HM2 := Lib.hid (And.intro (Nat.lt_of_lt_of_le HM.out.1 hb1.size) (HM.out.2.below hb1 HM.out.1))
    clear HM
    have HM := HM2
    clear HM2
    have HK3 := Lib.hid (HK2.out.on hb1); have HE3 := Lib.hid (below_then HE2.out hb1)
    clear hb1 HK2 HE2 q0 q1 
    obtain ⟨hx, hy⟩ := HXY.out
    have q0 := (HK3.out _ (.tail _ (.tail _ (.head _)))).cell 0
    have q1 := (HK3.out _ (.tail _ (.head _))).cell 1
    simp at q0 q1
    go_wp2_with fail
    refine (P1.out _ HE3.out).mono ?_
    rintro e v4 ⟨rfl, hb1⟩
    have HM2 := Lib.hid (And.intro (Nat.lt_of_lt_of_le HM.out.1 hb1.size) (HM.out.2.below hb1 HM.out.1))
    clear HM
    have HM := HM2
    clear HM2
    have HK4 := Lib.hid (HK3.out.on hb1); have HE4 := Lib.hid (below_then HE3.out hb1)
    clear hb1 HK3 HE3 q0 q1 
    have q0 := (HK4.out _ (.tail _ (.tail _ (.head _)))).cell 0
    have q1 := (HK4.out _ (.tail _ (.head _))).cell 2
    simp at q0 q1
    go_wp2_with fail
    refine (P2.out _ HE4.out).mono ?_
    rintro e v5 ⟨rfl, hb1⟩
    have HM2 := Lib.hid (And.intro (Nat.lt_of_lt_of_le HM.out.1 hb1.size) (HM.out.2.below hb1 HM.out.1))
    clear HM
    have HM := HM2
    clear HM2
    have HK5 := Lib.hid (HK4.out.on hb1); have HE5 := Lib.hid (below_then HE4.out hb1)
    clear hb1 HK4 HE4 q0 q1 
    have q0 := (HK5.out _ (.tail _ (.tail _ (.head _)))).cell 0
    simp at q0
    go_wp2_with fail
    refine (CX.out _ HE5.out).mono ?_
    rintro e v6 ⟨g2, kk2, rfl, lg2, m2, hb1⟩
    clear hx hy
    have HM2 := Lib.hid (And.intro (Nat.lt_of_lt_of_le HM.out.1 hb1.size) (HM.out.2.below hb1 HM.out.1))
    clear HM
    have HM := HM2
    clear HM2
    have HK6 := Lib.hid (HK5.out.on hb1); have HE6 := Lib.hid (below_then HE5.out hb1)
    clear hb1 HK5 HE5 q0
    go_wp2_with fail
    refine (VL.out _ g2 kk2 g1 kk1 lg2 HM.out.1 m2 HM.out.2).mono ?_
    rintro e v7 ⟨V, N, D, rfl, hlv, hb1⟩
    have HLV := Lib.hid hlv
    clear hlv lg2 m2
    have HM2 := Lib.hid (And.intro (Nat.lt_of_lt_of_le HM.out.1 hb1.size) (HM.out.2.below hb1 HM.out.1))
    clear HM
    have HM := HM2
    clear HM2
    have HK7 := Lib.hid (HK6.out.on hb1); have HE7 := Lib.hid (below_then HE6.out hb1)
    clear hb1 HK6 HE6 
    have hba := below_alloc1 v7 (.cells #[.int .i64 V, .int .i64 N, .int .i64 D] 71)
    have HM2 := Lib.hid (And.intro (Nat.lt_of_lt_of_le HM.out.1 hba.size) (HM.out.2.below hba HM.out.1))
    clear HM
    have HM := HM2
    clear HM2
    clear hba
    have HK8 := Lib.hid (HK7.out.new 71 #[.int .i64 V, .int .i64 N, .int .i64 D]); have HE8 := Lib.hid (below_then HE7.out (below_alloc1 v7 (.cells #[.int .i64 V, .int .i64 N, .int .i64 D] 71)))
    clear HK7 HE7
    have q0 := (HK8.out _ (.tail _ (.tail _ (.tail _ (.head _))))).cell 0
    simp at q0
    go_upto_region 8 with fail
    clear q0
    obtain ⟨B1, hB⟩ : ∃ B, v7.heap.size = B := ⟨_, rfl⟩
    obtain ⟨W1, hW⟩ : ∃ W, v7.alloc (.cells #[.int .i64 V, .int .i64 N, .int .i64 D] 71) = W := ⟨_, rfl⟩
    rw [hW] at HM HK8 HE8 ⊢
    rw [hB] at HK8 ⊢
    clear hW hB
    have q0 := (HK8.out _ (.tail _ (.tail _ (.tail _ (.head _))))).cell 0
    simp at q0
    go_wp2_with fail
    refine (TP.out _ HE8.out).mono ?_
    rintro e v8 ⟨rfl, hb1⟩
    have HM2 := Lib.hid (And.intro (Nat.lt_of_lt_of_le HM.out.1 hb1.size) (HM.out.2.below hb1 HM.out.1))
    clear HM
    have HM := HM2
    clear HM2
    have HK9 := Lib.hid (HK8.out.on hb1); have HE9 := Lib.hid (below_then HE8.out hb1)
    clear hb1 HK8 HE8 q0 
    have hba := below_alloc1 v8 (.cells #[.int .i64 a1, .int .i64 a2] 23)
    have HM2 := Lib.hid (And.intro (Nat.lt_of_lt_of_le HM.out.1 hba.size) (HM.out.2.below hba HM.out.1))
    clear HM
    have HM := HM2
    clear HM2
    clear hba
    have HK10 := Lib.hid (HK9.out.new 23 #[.int .i64 a1, .int .i64 a2]); have HE10 := Lib.hid (below_then HE9.out (below_alloc1 v8 (.cells #[.int .i64 a1, .int .i64 a2] 23)))
    clear HK9 HE9
    have q0 := (HK10.out _ (.tail _ (.tail _ (.tail _ (.tail _ (.head _)))))).cell 0
    simp at q0
    go_upto_region 9 with fail
    clear q0
    obtain ⟨B2, hB⟩ : ∃ B, v8.heap.size = B := ⟨_, rfl⟩
    obtain ⟨W2, hW⟩ : ∃ W, v8.alloc (.cells #[.int .i64 a1, .int .i64 a2] 23) = W := ⟨_, rfl⟩
    rw [hW] at HM HK10 HE10 ⊢
    rw [hB] at HK10 ⊢
    clear hW hB
    have q0 := (HK10.out _ (.tail _ (.tail _ (.tail _ (.tail _ (.head _)))))).cell 0
    simp at q0
    go_wp2_with fail
    refine (OP.out _ HE10.out).mono ?_
    rintro e v9 ⟨rfl, hb1⟩
    have HM2 := Lib.hid (And.intro (Nat.lt_of_lt_of_le HM.out.1 hb1.size) (HM.out.2.below hb1 HM.out.1))
    clear HM
    have HM := HM2
    clear HM2
    have HK11 := Lib.hid (HK10.out.on hb1); have HE11 := Lib.hid (below_then HE10.out hb1)
    clear hb1 HK10 HE10 q0 
    have hba := below_alloc1 v9 (.cells #[.int .i64 o1, .int .i64 o2] 23)
    have HM2 := Lib.hid (And.intro (Nat.lt_of_lt_of_le HM.out.1 hba.size) (HM.out.2.below hba HM.out.1))
    clear HM
    have HM := HM2
    clear HM2
    clear hba
    have HK12 := Lib.hid (HK11.out.new 23 #[.int .i64 o1, .int .i64 o2]); have HE12 := Lib.hid (below_then HE11.out (below_alloc1 v9 (.cells #[.int .i64 o1, .int .i64 o2] 23)))
    clear HK11 HE11
    have q0 := (HK12.out _ (.tail _ (.tail _ (.tail _ (.tail _ (.tail _ (.head _))))))).cell 0
    simp at q0
    go_upto_region 10 with fail
    clear q0
    obtain ⟨B3, hB⟩ : ∃ B, v9.heap.size = B := ⟨_, rfl⟩
    obtain ⟨W3, hW⟩ : ∃ W, v9.alloc (.cells #[.int .i64 o1, .int .i64 o2] 23) = W := ⟨_, rfl⟩
    rw [hW] at HM HK12 HE12 ⊢
    rw [hB] at HK12 ⊢
    clear hW hB
    have q0 := (HK12.out _ (.tail _ (.tail _ (.tail _ (.tail _ (.tail _ (.head _))))))).cell 0
    simp at q0
    go_wp2_with fail
    refine (KP.out _ g1 kk1 HE12.out HM.out.1 HM.out.2).mono ?_
    rintro e v10 ⟨rfl, hb1⟩
    have HM2 := Lib.hid (And.intro (Nat.lt_of_lt_of_le HM.out.1 hb1.size) (HM.out.2.below hb1 HM.out.1))
    clear HM
    have HM := HM2
    clear HM2
    have HK13 := Lib.hid (HK12.out.on hb1); have HE13 := Lib.hid (below_then HE12.out hb1)
    clear hb1 HK12 HE12 q0 
    have LV : Hid (∀ W, Calls Try.prog 68 #[rv a1 a2, fv V N D] W fun e w' => e = .returned (.bool true) ∧ Below W.heap.size W w') := Lib.hid fun W => bool_to (lies_any a1 a2 V N D W) ((liesB_iff _ _ _ _).2 HLV.out)
    have LO : Hid (∀ W, Calls Try.prog 68 #[rv o1 o2, fv V N D] W fun e w' => e = .returned (.bool true) ∧ Below W.heap.size W w') := Lib.hid fun W => bool_to (lies_any o1 o2 V N D W) ((liesB_iff _ _ _ _).2 (HLV.out.wider ov.1 ov.2))
    have q0 := (HK13.out _ (.tail _ (.head _))).cell 0
    have q1 := (HK13.out _ (.tail _ (.head _))).cell 1
    have q2 := (HK13.out _ (.tail _ (.tail _ (.head _)))).cell 0
    have q3 := (HK13.out _ (.tail _ (.tail _ (.head _)))).cell 1
    have q4 := (HK13.out _ (.tail _ (.tail _ (.head _)))).cell 2
    simp at q0 q1 q2 q3 q4
    go_wp2_with fail
    refine (LV.out _).mono ?_
    rintro e v11 ⟨rfl, hb1⟩
    have HM2 := Lib.hid (And.intro (Nat.lt_of_lt_of_le HM.out.1 hb1.size) (HM.out.2.below hb1 HM.out.1))
    clear HM
    have HM := HM2
    clear HM2
    have HK14 := Lib.hid (HK13.out.on hb1); have HE14 := Lib.hid (below_then HE13.out hb1)
    clear hb1 HK13 HE13 q0 q1 q2 q3 q4 
    have q0 := (HK14.out _ (.head _)).cell 0
    have q1 := (HK14.out _ (.head _)).cell 1
    have q2 := (HK14.out _ (.tail _ (.tail _ (.head _)))).cell 0
    have q3 := (HK14.out _ (.tail _ (.tail _ (.head _)))).cell 1
    have q4 := (HK14.out _ (.tail _ (.tail _ (.head _)))).cell 2
    simp at q0 q1 q2 q3 q4
    go_wp2_with fail
    refine (LO.out _).mono ?_
    rintro e v12 ⟨rfl, hb1⟩
    have HM2 := Lib.hid (And.intro (Nat.lt_of_lt_of_le HM.out.1 hb1.size) (HM.out.2.below hb1 HM.out.1))
    clear HM
    have HM := HM2
    clear HM2
    have HK15 := Lib.hid (HK14.out.on hb1); have HE15 := Lib.hid (below_then HE14.out hb1)
    clear hb1 HK14 HE14 q0 q1 q2 q3 q4 
    have q0 := (HK15.out _ (.tail _ (.tail _ (.tail _ (.tail _ (.tail _ (.head _))))))).cell 0
    have q1 := (HK15.out _ (.tail _ (.tail _ (.tail _ (.head _))))).cell 0
    simp at q0 q1
    go_wp2_with fail
    refine (AP.out _ HE15.out).mono ?_
    rintro e v13 ⟨AA, ka, rfl, hpa, hb1⟩
    have HPA := Lib.hid hpa
    clear hpa
    have HM2 := Lib.hid (And.intro (Nat.lt_of_lt_of_le HM.out.1 hb1.size) (HM.out.2.below hb1 HM.out.1))
    clear HM
    have HM := HM2
    clear HM2
    have HK16 := Lib.hid (HK15.out.on hb1); have HE16 := Lib.hid (below_then HE15.out hb1)
    clear hb1 HK15 HE15 q0 q1
    obtain ⟨B1', hB1'⟩ : ∃ t, inB2 RA a = t := ⟨_, rfl⟩
    have IA : Hid (∀ W, RunsP W AA RA → Calls Try.prog 69 #[.slice AA RA.length ka, .int .i64 a] W fun e w' => e = .returned (.bool B1') ∧ Below W.heap.size W w') := Lib.hid fun W h => bool_to (in_any AA RA.length ka RA a W rfl hra h) hB1'
    have n1 : B1' = true → ra ≤ V := fun h => by have := HF.out.1.1 (hB1'.trans h); have := HLV.out.1; omega
    have HN1 := Lib.hid n1
    clear n1 hB1'
    go_wp2_with fail
    refine (IA.out _ HPA.out).mono ?_
    rintro e v14 ⟨rfl, hb1⟩
    have HM2 := Lib.hid (And.intro (Nat.lt_of_lt_of_le HM.out.1 hb1.size) (HM.out.2.below hb1 HM.out.1))
    clear HM
    have HM := HM2
    clear HM2
    have HK17 := Lib.hid (HK16.out.on hb1); have HE17 := Lib.hid (below_then HE16.out hb1)
    clear hb1 HK16 HE16 
    have q0 := (HK17.out _ (.tail _ (.tail _ (.head _)))).cell 0
    have q1 := (HK17.out _ (.tail _ (.tail _ (.tail _ (.head _))))).cell 0
    have q2 := (HK17.out _ (.tail _ (.tail _ (.tail _ (.head _))))).cell 1
    simp at q0 q1 q2
    cases B1' with
    | true =>
      have n2 : ¬ V < ra := by have := HN1.out rfl; omega
      by_cases hr : vR ra rb = true
      · have VR : Hid (∀ W, Calls Try.prog 70 #[rv ra rb] W fun e w' => e = .returned (.bool true) ∧ Below W.heap.size W w') := Lib.hid fun W => rValid_to ra rb true W hr
        have WW := Lib.hid (WP.out hr)
        clear hr WP
        go_wp2_with fail
        refine (VR.out _).mono ?_
        rintro e u1 ⟨rfl, hb1⟩
        have HKa := Lib.hid (HK17.out.on hb1); have HEa := Lib.hid (below_then HE17.out hb1)
        clear hb1 q0 q1 q2
        have q0 := (HKa.out _ (.tail _ (.tail _ (.tail _ (.tail _ (.tail _ (.head _))))))).cell 0
        have q1 := (HKa.out _ (.tail _ (.tail _ (.tail _ (.head _))))).cell 0
        have q2 := (HKa.out _ (.tail _ (.tail _ (.tail _ (.head _))))).cell 1
        simp at q0 q1 q2
        go_wp2_with fail
        refine (WW.out _ HEa.out).mono ?_
        rintro e u2 ⟨AW, kw, rfl, hpw, hb1⟩
        have HKb := Lib.hid (HKa.out.on hb1); have HEb := Lib.hid (below_then HEa.out hb1); have HPW := Lib.hid hpw
        clear hb1 hpw q0 q1 q2
        obtain ⟨B2, hB2⟩ : ∃ t, inB2 RW a = t := ⟨_, rfl⟩
        have IW : Hid (∀ W, RunsP W AW RW → Calls Try.prog 69 #[.slice AW RW.length kw, .int .i64 a] W fun e w' => e = .returned (.bool B2) ∧ Below W.heap.size W w') := Lib.hid fun W h => bool_to (in_any AW RW.length kw RW a W rfl hrw h) hB2
        have n3 : B2 = false → liesB ra rb V N = false := fun h => by
          cases hl : liesB ra rb V N with
          | false => rfl
          | true =>
            exfalso
            have h1 := (liesB_iff _ _ _ _).1 hl
            have h2 := HLV.out
            have h3 : ¬ inB2 RW a = true := by rw [hB2, h]; simp
            apply h3
            refine HF.out.2.2 ?_
            unfold Lies at h1 h2
            omega
        have HN3 := Lib.hid n3
        clear n3 hB2
        go_wp2_with fail
        refine (IW.out _ HPW.out).mono ?_
        rintro e u3 ⟨rfl, hb1⟩
        have HKc := Lib.hid (HKb.out.on hb1); have HEc := Lib.hid (below_then HEb.out hb1)
        clear hb1 HKb HEb
        cases B2 with
        | true =>
          go_wp2_with fail
          refine (sane_any _).mono ?_
          rintro e v ⟨rfl, hbv⟩
          go_wp2
          go_ret
          exact ⟨rfl, below_then HEc.out hbv⟩
        | false =>
          have LR : Hid (∀ W, Calls Try.prog 68 #[rv ra rb, fv V N D] W fun e w' => e = .returned (.bool false) ∧ Below W.heap.size W w') := Lib.hid fun W => bool_to (lies_any ra rb V N D W) (HN3.out rfl)
          have q0 := (HKc.out _ (.tail _ (.tail _ (.tail _ (.head _))))).cell 0
          have q1 := (HKc.out _ (.tail _ (.tail _ (.tail _ (.head _))))).cell 1
          have q2 := (HKc.out _ (.tail _ (.tail _ (.head _)))).cell 0
          have q3 := (HKc.out _ (.tail _ (.tail _ (.head _)))).cell 1
          have q4 := (HKc.out _ (.tail _ (.tail _ (.head _)))).cell 2
          simp at q0 q1 q2 q3 q4
          go_wp2_with fail
          refine (LR.out _).mono ?_
          rintro e u4 ⟨rfl, hb1⟩
          have HEd := Lib.hid (below_then HEc.out hb1)
          clear hb1 q0 q1 q2 q3 q4
          go_wp2_with fail
          refine (sane_any _).mono ?_
          rintro e v ⟨rfl, hbv⟩
          go_wp2
          go_ret
          exact ⟨rfl, below_then HEd.out hbv⟩
      · have hr' : vR ra rb = false := by simpa using hr
        have VR : Hid (∀ W, Calls Try.prog 70 #[rv ra rb] W fun e w' => e = .returned (.bool false) ∧ Below W.heap.size W w') := Lib.hid fun W => rValid_to ra rb false W hr'
        clear hr hr' WP
        go_wp2_with fail
        refine (VR.out _).mono ?_
        rintro e u1 ⟨rfl, hb1⟩
        have HEa := Lib.hid (below_then HE17.out hb1)
        clear hb1 q0 q1 q2
        go_wp2_with fail
        refine (sane_any _).mono ?_
        rintro e v ⟨rfl, hbv⟩
        go_wp2
        go_ret
        exact ⟨rfl, below_then HEa.out hbv⟩
    | false =>
      have n2 : True := trivial
      by_cases hr : vR ra rb = true
      · have VR : Hid (∀ W, Calls Try.prog 70 #[rv ra rb] W fun e w' => e = .returned (.bool true) ∧ Below W.heap.size W w') := Lib.hid fun W => rValid_to ra rb true W hr
        have WW := Lib.hid (WP.out hr)
        clear hr WP
        go_wp2_with fail
        refine (VR.out _).mono ?_
        rintro e u1 ⟨rfl, hb1⟩
        have HKa := Lib.hid (HK17.out.on hb1); have HEa := Lib.hid (below_then HE17.out hb1)
        clear hb1 q0 q1 q2
        have q0 := (HKa.out _ (.tail _ (.tail _ (.tail _ (.tail _ (.tail _ (.head _))))))).cell 0
        have q1 := (HKa.out _ (.tail _ (.tail _ (.tail _ (.head _))))).cell 0
        have q2 := (HKa.out _ (.tail _ (.tail _ (.tail _ (.head _))))).cell 1
        simp at q0 q1 q2
        go_wp2_with fail
        refine (WW.out _ HEa.out).mono ?_
        rintro e u2 ⟨AW, kw, rfl, hpw, hb1⟩
        have HKb := Lib.hid (HKa.out.on hb1); have HEb := Lib.hid (below_then HEa.out hb1); have HPW := Lib.hid hpw
        clear hb1 hpw q0 q1 q2
        obtain ⟨B2, hB2⟩ : ∃ t, inB2 RW a = t := ⟨_, rfl⟩
        have IW : Hid (∀ W, RunsP W AW RW → Calls Try.prog 69 #[.slice AW RW.length kw, .int .i64 a] W fun e w' => e = .returned (.bool B2) ∧ Below W.heap.size W w') := Lib.hid fun W h => bool_to (in_any AW RW.length kw RW a W rfl hrw h) hB2
        have n3 : B2 = false → liesB ra rb V N = false := fun h => by
          cases hl : liesB ra rb V N with
          | false => rfl
          | true =>
            exfalso
            have h1 := (liesB_iff _ _ _ _).1 hl
            have h2 := HLV.out
            have h3 : ¬ inB2 RW a = true := by rw [hB2, h]; simp
            apply h3
            refine HF.out.2.2 ?_
            unfold Lies at h1 h2
            omega
        have HN3 := Lib.hid n3
        clear n3 hB2
        go_wp2_with fail
        refine (IW.out _ HPW.out).mono ?_
        rintro e u3 ⟨rfl, hb1⟩
        have HKc := Lib.hid (HKb.out.on hb1); have HEc := Lib.hid (below_then HEb.out hb1)
        clear hb1 HKb HEb
        cases B2 with
        | true =>
          go_wp2_with fail
          refine (sane_any _).mono ?_
          rintro e v ⟨rfl, hbv⟩
          go_wp2
          go_ret
          exact ⟨rfl, below_then HEc.out hbv⟩
        | false =>
          have LR : Hid (∀ W, Calls Try.prog 68 #[rv ra rb, fv V N D] W fun e w' => e = .returned (.bool false) ∧ Below W.heap.size W w') := Lib.hid fun W => bool_to (lies_any ra rb V N D W) (HN3.out rfl)
          have q0 := (HKc.out _ (.tail _ (.tail _ (.tail _ (.head _))))).cell 0
          have q1 := (HKc.out _ (.tail _ (.tail _ (.tail _ (.head _))))).cell 1
          have q2 := (HKc.out _ (.tail _ (.tail _ (.head _)))).cell 0
          have q3 := (HKc.out _ (.tail _ (.tail _ (.head _)))).cell 1
          have q4 := (HKc.out _ (.tail _ (.tail _ (.head _)))).cell 2
          simp at q0 q1 q2 q3 q4
          go_wp2_with fail
          refine (LR.out _).mono ?_
          rintro e u4 ⟨rfl, hb1⟩
          have HEd := Lib.hid (below_then HEc.out hb1)
          clear hb1 q0 q1 q2 q3 q4
          go_wp2_with fail
          refine (sane_any _).mono ?_
          rintro e v ⟨rfl, hbv⟩
          go_wp2
          go_ret
          exact ⟨rfl, below_then HEd.out hbv⟩
      · have hr' : vR ra rb = false := by simpa using hr
        have VR : Hid (∀ W, Calls Try.prog 70 #[rv ra rb] W fun e w' => e = .returned (.bool false) ∧ Below W.heap.size W w') := Lib.hid fun W => rValid_to ra rb false W hr'
        clear hr hr' WP
        go_wp2_with fail
        refine (VR.out _).mono ?_
        rintro e u1 ⟨rfl, hb1⟩
        have HEa := Lib.hid (below_then HE17.out hb1)
        clear hb1 q0 q1 q2
        go_wp2_with fail
        refine (sane_any _).mono ?_
        rintro e v ⟨rfl, hbv⟩
        go_wp2
        go_ret
        exact ⟨rfl, below_then HEa.out hbv⟩
  · have hf : tabOk ps = false := by simpa using ht
    have CV : Hid (∀ W, Below w.heap.size w W → Calls Try.prog 63 #[tv A n c] W fun e w' => e = .returned (.bool false) ∧ Below W.heap.size W w') := Lib.hid fun W hW => by
      have h := validTable_any _ n c ps W hn hm (hp.below hW)
      rw [hf] at h; exact h
    clear hn hn' hm hm' hp hq ht hf
    go_enter Try.func8, Try.ntmps8
    go_wp2_with fail
    refine (CV.out _ HE0.out).mono ?_
    rintro e v ⟨rfl, hbv⟩
    have HE1 := Lib.hid (below_then HE0.out hbv)
    clear hbv
    go_wp2_with fail
    refine (sane_any _).mono ?_
    rintro e v ⟨rfl, hbv⟩
    go_wp2
    go_ret
    exact ⟨rfl, below_then HE1.out hbv⟩
end

section
open Go.ChangeShapes Go.WideShapes Go.ChangeAt Go.RowKit Go.Joins Go.Deep

theorem Try.cellsCurved : Try.prog.cellsOf 66 = 2 := by kernel_rfl
theorem Try.cellsNums : Try.prog.cellsOf 44 = 1 := by kernel_rfl
theorem Try.cellsThreeInts : Try.prog.cellsOf 67 = 3 := by kernel_rfl
set_option maxRecDepth 100000 in
theorem open_curved {H : Type} {enc : TypeId × Value → H} {W : World} {base : Nat} {v : Value} {d : DataW H} {pl : List MemPlace} (hv : Value.okWide Try.prog W .any base 66 v) (h : DataW.Trod enc Try.prog W 0 (fun _ => true) true 66 v d pl) :
    ∃ (A A' : Option Addr) (n n' c c' : Nat) (ps : List P3) (cs : List Int), v = .agg #[.slice A n c, .slice A' n' c'] ∧ n = ps.length ∧ n' = cs.length ∧ n ≤ maxLen ∧ n' ≤ maxLen ∧ Pts W A ps ∧ (∀ z ∈ cs, I64 z) ∧ IntsP W A' cs := by
  obtain ⟨cs, rfl, hsz⟩ := okWide_struct Try.underlying66 hv
  rw [Try.cellsCurved] at hsz
  obtain ⟨c0, c1, rfl⟩ := array2 hsz
  obtain ⟨fuel, hf⟩ := h
  obtain ⟨y0, y1, k, _, _, h0, h1⟩ := trod_struct2 Try.underlying66 hf
  simp only [Value.cells, Try.cellsTable, Try.cellsNums] at h0 h1
  obtain ⟨x0, k0, _, _, i0⟩ := trod_struct1 Try.underlying43 h0
  simp only [Try.cellsPts] at i0
  obtain ⟨A, n, c, ps, e, g1, g2, g3⟩ := open_pts (v := c0) (by simpa using i0)
  obtain ⟨A', n', c', zs, e', g4, g5, g6, g7⟩ := open_nums (v := c1) (by simpa using h1)
  subst e e'
  exact ⟨A, A', n, n', c, c', ps, zs, rfl, g1, g4, g2, g5, g3, g6, g7⟩
theorem array3 {α : Type} {cs : Array α} (h : cs.size = 3) : ∃ c0 c1 c2, cs = #[c0, c1, c2] := by
  obtain ⟨l⟩ := cs
  match l, h with
  | [c0, c1, c2], _ => exact ⟨c0, c1, c2, rfl⟩
set_option maxRecDepth 100000 in
theorem open_three_ints {H : Type} {enc : TypeId × Value → H} {W : World} {base : Nat} {v : Value} {d : DataW H} {ps : List MemPlace} (hv : Value.okWide Try.prog W .any base 67 v) (h : DataW.Trod enc Try.prog W 0 (fun _ => true) true 67 v d ps) :
    ∃ x0 x1 x2 : Int, v = .agg #[.int .i64 x0, .int .i64 x1, .int .i64 x2] ∧ I64 x0 ∧ I64 x1 ∧ I64 x2 := by
  obtain ⟨cs, rfl, hsz⟩ := okWide_arr Try.underlying67 hv
  rw [Try.cellsThreeInts] at hsz
  obtain ⟨c0, c1, c2, rfl⟩ := array3 hsz
  obtain ⟨fuel, hf⟩ := h
  obtain ⟨xs, m, _, _, _, hl, hi⟩ := DataW.trod_array Try.underlying67 hf
  have one : ∀ (i : Nat) (c : Value), i < 3 → ((#[c0, c1, c2] : Array Value).toList.drop (i * 1)).take 1 = [c] → ∃ n : Int, c = .int .i64 n ∧ I64 n := by
    intro i c hi6 hc
    have h1 := hi i hi6
    simp only [Value.cells, Try.cellsInt] at h1
    rw [hc] at h1
    obtain ⟨y, hy⟩ : ∃ y, xs[i]? = some y := ⟨_, List.getElem?_eq_getElem (by omega)⟩
    rw [hy] at h1
    obtain ⟨n, e, _, hw⟩ := DataW.trod_int Try.underlying3 h1
    simp at e
    exact ⟨n, e, bounds_i64 hw⟩
  obtain ⟨x0, rfl, b0⟩ := one 0 c0 (by omega) rfl
  obtain ⟨x1, rfl, b1⟩ := one 1 c1 (by omega) rfl
  obtain ⟨x2, rfl, b2⟩ := one 2 c2 (by omega) rfl
  exact ⟨x0, x1, x2, rfl, b0, b1, b2⟩
end

section
open Go.ChangeShapes Go.WideShapes Go.ChangeAt Go.RowKit Go.Joins Go.Deep

set_option maxRecDepth 100000 in
theorem open_range {H : Type} {enc : TypeId × Value → H} {W : World} {base : Nat} {v : Value} {d : DataW H} {ps : List MemPlace} (hv : Value.okWide Try.prog W .any base 23 v) (h : DataW.Trod enc Try.prog W 0 (fun _ => true) true 23 v d ps) :
    ∃ a b : Int, v = rv a b ∧ I64 a ∧ I64 b := by
  obtain ⟨cs, rfl, hsz⟩ := okWide_struct Try.underlying23 hv
  rw [Try.cellsRange] at hsz
  obtain ⟨c0, c1, rfl⟩ := array2 hsz
  obtain ⟨fuel, hf⟩ := h
  obtain ⟨y0, y1, k, _, _, h0, h1⟩ := trod_struct2 Try.underlying23 hf
  simp only [Value.cells, Try.cellsInt] at h0 h1
  obtain ⟨n0, e0, _, w0⟩ := DataW.trod_int Try.underlying3 h0
  obtain ⟨n1, e1, _, w1⟩ := DataW.trod_int Try.underlying3 h1
  simp at e0 e1
  subst e0 e1
  exact ⟨n0, n1, rfl, bounds_i64 w0, bounds_i64 w1⟩

set_option maxRecDepth 100000 in
theorem fixCurves_lifted (os : Os) (started : os.Started) (H : Type) (enc : TypeId × Value → H) :
    ReturnsInHanded {} Try.checked os 8 .any (Rows.fixCurvesSpec.pre6 enc Try.prog Try.f8 Rows.fixCurvesRow.domain false) (Rows.fixCurvesSpec.post enc Try.prog Try.f8 false true false false) := by
  refine returnsInHanded_of_change (C := Try.checked) own started (by kernel_rfl) Try.func8
    (ChangeSpec.witness6 (enc := enc) (C := Try.checked) false ⟨#[], #[.agg #[.slice none 0 0, .slice none 0 0], .agg #[.int .i64 0, .int .i64 0, .int .i64 0], .agg #[.int .i64 0, .int .i64 0]], []⟩ 8 (by kernel_rfl) (by kernel_rfl) (by kernel_rfl) (by kernel_rfl)) ?_
  intro W base args ds gs before hval0 hW hcnd _
  have hval : ∀ (j : Nat) t v, Try.f8.params[j]? = some t → args[j]? = some v → Value.okWide Try.prog W .any base t v := hval0
  have hW' := hW
  obtain ⟨p, q, hA0, hV, rfl, hfz, hnd⟩ := hW
  have hA : DataW.TrodAll enc Try.prog W 0 (fun _ => true) true Try.f8.params.toList args.toList ds p := hA0
  rw [Try.params8] at hA hval
  obtain ⟨v0, v1, v2, d0, d1, d2, p0, p1, p2, hargs, rfl, rfl, h0, h1, h2⟩ := trodAll_three hA
  obtain rfl : args = #[v0, v1, v2] := by cases args; simp_all
  obtain ⟨rfl, rfl⟩ := trodVars_none hV
  obtain ⟨A, A', n, n', c, c', ps, cs, rfl, hn, hn', hm, hm', hp, _, hq⟩ := open_curved (hval 0 66 v0 rfl rfl) h0
  obtain ⟨x, y, z, rfl, _, _, _⟩ := open_three_ints (hval 1 67 v1 rfl rfl) h1
  obtain ⟨a, b, rfl, _, _⟩ := open_range (hval 2 23 v2 rfl rfl) h2
  refine (fixCurves_walk A A' n n' c c' ps cs x y z a b W hn hn' hm hm' hp hq).mono fun e W' ⟨he, hb⟩ => ?_
  subst he
  exact ⟨_, rfl, law_post rfl rfl (by intro t ht; rw [Try.params8] at ht
                                      have : t = 66 ∨ t = 67 ∨ t = 23 := by simpa using ht
                                      rcases this with rfl | rfl | rfl <;> exact ⟨by kernel_rfl, of_decide_eq_true (by kernel_rfl)⟩) hW' rfl rfl rfl hb⟩

theorem fixCurves_holds : Rows.FixCurvesSaid :=
  OpenClaim.holds_of_wide 8 Try.f8 rfl rfl rfl rfl rfl rfl rfl ⟨rfl, rfl, rfl, rfl, rfl⟩ rfl rfl rfl rfl rfl (by kernel_rfl) Try.func8 (by kernel_rfl)
    (of_decide_eq_true (by kernel_rfl)) (by unfold Func.isWrapper; rw [if_neg (of_decide_eq_false (by kernel_rfl))]; exact ⟨rfl, rfl⟩)
    (fun os started H enc _ => fixCurves_lifted os started H enc)
end

end Go.Proofs.Ythhcejcpopgkiaa
