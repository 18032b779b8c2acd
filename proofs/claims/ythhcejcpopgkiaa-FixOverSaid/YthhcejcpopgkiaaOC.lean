/- FixOver: whatever table, range and numbers come in, the law returns true and leaves its arguments as they were. No conditions. -/
import Derived.Test.YthhcejcpopgkiaaY0
import Derived.Test.YthhcejcpopgkiaaE4
import Derived.Test.YthhcejcpopgkiaaV1
import Derived.Test.YthhcejcpopgkiaaE5
import Derived.Test.YthhcejcpopgkiaaR3
import Derived.Test.YthhcejcpopgkiaaM1
import Derived.Test.YthhcejcpopgkiaaU0
import Derived.Test.YthhcejcpopgkiaaF3
import Derived.Test.YthhcejcpopgkiaaR2
import Derived.Test.YthhcejcpopgkiaaN2
import Derived.Test.YthhcejcpopgkiaaI1
import Derived.Test.YthhcejcpopgkiaaU1
set_option linter.unusedVariables false
set_option linter.unusedSimpArgs false
set_option linter.constructorNameAsVariable false
namespace Go.Proofs.Ythhcejcpopgkiaa

section
open Go.RowKit

/-- A table at a place of one of its pieces, whichever. -/
theorem piece_start {ps : List P3} (ht : tabOk ps = true) {i j : Nat} {pq r : P3 × P3} (hi : (pcs ps)[i]? = some pq) (hj : (pcs ps)[j]? = some r) (h : j < i) : r.2.1 ≤ pq.1.1 := by
  rcases Nat.lt_or_ge ps.length 2 with c | c
  · exfalso
    have hl := (tabOk_len ht).1
    obtain ⟨p, rfl⟩ : ∃ p, ps = [p] := List.length_eq_one_iff.1 (by omega)
    have := (List.getElem?_eq_some_iff.1 hi).1
    simp [pcs] at this
    omega
  · have h1 := pcs_before c hj
    have h2 := hi
    rw [pcs_two c, List.getElem?_zip_eq_some] at h2
    exact rising_le ht h1 h2.1 (by omega)
theorem piece_mem {ps : List P3} (ht : tabOk ps = true) {i : Nat} {pq : P3 × P3} (hi : (pcs ps)[i]? = some pq) : pq.1 ∈ ps ∧ pq.2 ∈ ps ∧ pq.1.1 ≤ pq.2.1 := by
  rcases Nat.lt_or_ge ps.length 2 with c | c
  · have hl := (tabOk_len ht).1
    obtain ⟨p, rfl⟩ : ∃ p, ps = [p] := List.length_eq_one_iff.1 (by omega)
    have : pq = (p, p) := by
      have := List.mem_of_getElem? hi
      simpa [pcs] using this
    subst this
    exact ⟨by simp, by simp, Int.le_refl _⟩
  · have h2 := hi
    rw [pcs_two c, List.getElem?_zip_eq_some] at h2
    have h1 := pcs_before c hi
    exact ⟨List.mem_of_getElem? h2.1, List.mem_of_getElem? h1, rising_le ht h2.1 h1 (by omega)⟩
theorem pAt_start (p q : P3) : pAt p q p.1 = (p.2.1, p.2.2) := by simp [pAt, riseS]
theorem atS_any {ps : List P3} (ht : tabOk ps = true) {i : Nat} {pq : P3 × P3} {x : Int} (hi : (pcs ps)[i]? = some pq) (h1 : pq.1.1 ≤ x) (h2 : x ≤ pq.2.1) : atS ps x = pAt pq.1 pq.2 x := by
  by_cases he : pq.1.1 = x
  · subst he
    rw [atS_point ht (piece_mem ht hi).1, pAt_start]
  · exact atS_piece hi h2 (fun j hj r hr => by have := piece_start ht hi hr hj; omega)

/-- rise goes one way -/
theorem riseS_up {u v D dy : Int} (h : u ≤ v) (hy : 0 ≤ dy) : riseS u D dy ≤ riseS v D dy :=
  Int.ediv_le_ediv (by omega) (Int.mul_le_mul_of_nonneg_right h hy)
theorem riseS_down {u v D dy : Int} (h : u ≤ v) (hy : dy ≤ 0) : riseS v D dy ≤ riseS u D dy :=
  Int.ediv_le_ediv (by omega) (by
    have := Int.mul_le_mul_of_nonneg_right h (show 0 ≤ -dy by omega)
    rw [Int.mul_neg, Int.mul_neg] at this; omega)
/-- the lines of a piece go one way -/
theorem pAt_low_way (p q : P3) : (∀ x y, x ≤ y → (pAt p q x).1 ≤ (pAt p q y).1) ∨ (∀ x y, x ≤ y → (pAt p q y).1 ≤ (pAt p q x).1) := by
  rcases Int.le_total 0 (q.2.1 - p.2.1) with c | c
  · exact .inl fun x y h => by have := riseS_up (D := q.1 - p.1) (show x - p.1 ≤ y - p.1 by omega) c; simp only [pAt]; omega
  · exact .inr fun x y h => by have := riseS_down (D := q.1 - p.1) (show x - p.1 ≤ y - p.1 by omega) c; simp only [pAt]; omega
theorem pAt_high_way (p q : P3) : (∀ x y, x ≤ y → (pAt p q x).2 ≤ (pAt p q y).2) ∨ (∀ x y, x ≤ y → (pAt p q y).2 ≤ (pAt p q x).2) := by
  rcases Int.le_total 0 (p.2.2 - q.2.2) with c | c
  · exact .inr fun x y h => by have := riseS_up (D := q.1 - p.1) (show x - p.1 ≤ y - p.1 by omega) c; simp only [pAt]; omega
  · exact .inl fun x y h => by have := riseS_down (D := q.1 - p.1) (show x - p.1 ≤ y - p.1 by omega) c; simp only [pAt]; omega

/-- Over has what lies between -/
theorem foldG_le : ∀ (l : List (Int × Int)) (s : Int × Int × Bool), s.2.2 = true → ((l.foldl stepG s).1 ≤ s.1 ∧ s.2.1 ≤ (l.foldl stepG s).2.1) ∧ (∀ r ∈ l, (l.foldl stepG s).1 ≤ r.1 ∧ r.2 ≤ (l.foldl stepG s).2.1)
  | [], s, _ => ⟨⟨Int.le_refl _, Int.le_refl _⟩, fun r h => by simp at h⟩
  | z :: l, s, h => by
    rw [List.foldl_cons]
    have e : stepG s z = (min s.1 z.1, max s.2.1 z.2, true) := by unfold stepG; rw [if_pos h]
    obtain ⟨h1, h2⟩ := foldG_le l (stepG s z) (by rw [e])
    rw [e] at h1 h2 ⊢
    dsimp only at h1
    refine ⟨by omega, fun r hr => ?_⟩
    rcases List.mem_cons.1 hr with rfl | hr
    · omega
    · exact h2 r hr
theorem foldG_has {l : List (Int × Int)} {r : Int × Int} (hr : r ∈ l) : (foldG l).1 ≤ r.1 ∧ r.2 ≤ (foldG l).2.1 := by
  cases l with
  | nil => simp at hr
  | cons z l =>
    unfold foldG
    rw [List.foldl_cons]
    have e : stepG (0, 0, false) z = (z.1, z.2, true) := rfl
    obtain ⟨h1, h2⟩ := foldG_le l (stepG (0, 0, false) z) (by rw [e])
    rw [e] at h1 h2 ⊢
    rcases List.mem_cons.1 hr with rfl | hr
    · exact h1
    · exact h2 r hr
theorem over_corner {ps : List P3} {a b c : Int} (h : c ∈ cornersS ps a b) : (overGood ps a b).1 ≤ (atS ps c).1 ∧ (atS ps c).2 ≤ (overGood ps a b).2.1 :=
  foldG_has (List.mem_map_of_mem h)
theorem corner_mem {ps : List P3} {a b c : Int} (hab : a ≤ b) (h : c = a ∨ c = b ∨ (a ≤ c ∧ c ≤ b ∧ ∃ p ∈ ps, p.1 = c)) : c ∈ cornersS ps a b := by
  unfold cornersS
  rw [List.cons_append, List.mem_cons]
  by_cases h1 : c = a
  · exact .inl h1
  · refine .inr (List.mem_append.2 ?_)
    by_cases h2 : c = b
    · right; rw [if_pos (by omega)]; simp [h2]
    · rcases h with h | h | ⟨h3, h4, p, hp, rfl⟩
      · exact absurd h h1
      · exact absurd h h2
      · left
        exact List.mem_map.2 ⟨p, List.mem_filter.2 ⟨hp, by simp; omega⟩, rfl⟩
theorem over_has {ps : List P3} {a b x : Int} (ht : tabOk ps = true) (h0 : firstX ps ≤ a) (h1 : a ≤ x) (h2 : x ≤ b) (h3 : b ≤ lastX ps) : (overGood ps a b).1 ≤ (atS ps x).1 ∧ (atS ps x).2 ≤ (overGood ps a b).2.1 := by
  obtain ⟨i, pq, hi, b1, b2, _⟩ := piece_at ht (show firstX ps ≤ x by omega) (show x ≤ lastX ps by omega)
  obtain ⟨m1, m2, _⟩ := piece_mem ht hi
  have c1 : max a pq.1.1 ∈ cornersS ps a b := corner_mem (by omega) (by
    rcases Int.le_total pq.1.1 a with c | c
    · left; omega
    · right; right; exact ⟨by omega, by omega, pq.1, m1, by omega⟩)
  have c2 : min b pq.2.1 ∈ cornersS ps a b := corner_mem (by omega) (by
    rcases Int.le_total b pq.2.1 with c | c
    · right; left; omega
    · right; right; exact ⟨by omega, by omega, pq.2, m2, by omega⟩)
  have o1 := over_corner c1
  have o2 := over_corner c2
  rw [atS_any ht hi (by omega) (by omega)] at o1 o2 ⊢
  have k1 : max a pq.1.1 ≤ x := by omega
  have k2 : x ≤ min b pq.2.1 := by omega
  constructor
  · rcases pAt_low_way pq.1 pq.2 with w | w
    · have := w _ _ k1; omega
    · have := w _ _ k2; omega
  · rcases pAt_high_way pq.1 pq.2 with w | w
    · have := w _ _ k2; omega
    · have := w _ _ k1; omega

/-- The binary search finds where a question turns. -/
theorem bs_turn (f : Int → Bool) : ∀ (k : Nat) (i j : Int), i ≤ j → (j - i).toNat ≤ k → (∀ u v, i ≤ u → u ≤ v → v < j → f u = true → f v = true) →
    (i ≤ bs f k i j ∧ bs f k i j ≤ j) ∧ (∀ v, i ≤ v → v < bs f k i j → f v = false) ∧ (∀ v, bs f k i j ≤ v → v < j → f v = true)
  | 0, i, j, h, hk, _ => ⟨by simp [bs]; omega, fun v h1 h2 => by simp [bs] at h2; omega, fun v h1 h2 => by simp [bs] at h1; omega⟩
  | k + 1, i, j, h, hk, hm => by
    rw [bs]
    by_cases hlt : i < j
    · rw [if_pos hlt]
      have m1 : i ≤ (i + j) / 2 := by omega
      have m2 : (i + j) / 2 < j := by omega
      cases hf : f ((i + j) / 2)
      · simp only [Bool.false_eq_true, if_false]
        obtain ⟨⟨r1, r2⟩, r3, r4⟩ := bs_turn f k ((i + j) / 2 + 1) j (by omega) (by omega) (fun u v a b c => hm u v (by omega) b c)
        refine ⟨by omega, fun v h1 h2 => ?_, r4⟩
        rcases Int.lt_or_le ((i + j) / 2) v with c | c
        · exact r3 v (by omega) h2
        · cases hv : f v
          · rfl
          · have := hm v ((i + j) / 2) h1 c m2 hv
            rw [hf] at this; cases this
      · simp only [if_true]
        obtain ⟨⟨r1, r2⟩, r3, r4⟩ := bs_turn f k i ((i + j) / 2) (by omega) (by omega) (fun u v a b c => hm u v a b (by omega))
        refine ⟨by omega, r3, fun v h1 h2 => ?_⟩
        rcases Int.lt_or_le v ((i + j) / 2) with c | c
        · exact r4 v h1 c
        · exact hm ((i + j) / 2) v m1 c h2 hf
    · rw [if_neg hlt]
      exact ⟨by omega, fun v h1 h2 => by omega, fun v h1 h2 => by omega⟩

/-- A question that turns once at most, from a to b. -/
def OneWay (so : Int → Bool) (a b : Int) : Prop := (∀ x y, a ≤ x → x ≤ y → y ≤ b → so x = true → so y = true) ∨ (∀ x y, a ≤ x → x ≤ y → y ≤ b → so y = true → so x = true)
theorem stretch_turn {so : Int → Bool} {a b : Int} (hab : a ≤ b) (h : OneWay so a b) (hne : ¬ so a = so b) : ∃ t, a + bs (fun i => !(so (a + i) == so a)) (b - a).toNat 0 (b - a) = t ∧ a < t ∧ t ≤ b ∧ (∀ x, a ≤ x → x < t → so x = so a) ∧ (∀ x, t ≤ x → x ≤ b → so x = so b) := by
  have hmono : ∀ x y, a ≤ x → x ≤ y → y ≤ b → so x ≠ so a → so y ≠ so a := fun x y h1 h2 h3 hx hy => by
    cases ha : so a with
    | false =>
      rw [ha] at hx hy
      have hx' : so x = true := by cases h : so x <;> simp_all
      rcases h with m | m
      · have := m x y h1 h2 h3 hx'; rw [hy] at this; cases this
      · have := m a x (Int.le_refl _) h1 (by omega) hx'; rw [ha] at this; cases this
    | true =>
      rw [ha] at hx hy
      have hx' : so x = false := by cases h : so x <;> simp_all
      rcases h with m | m
      · have := m a x (Int.le_refl _) h1 (by omega) ha; rw [hx'] at this; cases this
      · have := m x y h1 h2 h3 hy; rw [hx'] at this; cases this
  obtain ⟨⟨r1, r2⟩, r3, r4⟩ := bs_turn (fun i => !(so (a + i) == so a)) (b - a).toNat 0 (b - a) (by omega) (by omega) (fun u v h1 h2 h3 hu => by
    have hu' : so (a + u) ≠ so a := by simpa using hu
    have := hmono (a + u) (a + v) (by omega) (by omega) (by omega) hu'
    simpa using this)
  refine ⟨_, rfl, ?_, by omega, fun x h1 h2 => ?_, fun x h1 h2 => ?_⟩
  · rcases Int.lt_or_le 0 (bs (fun i => !(so (a + i) == so a)) (b - a).toNat 0 (b - a)) with c | c
    · omega
    · exfalso
      have h0 : a < b := by
        rcases Int.lt_or_le a b with d | d
        · exact d
        · have : a = b := by omega
          subst this; exact absurd rfl hne
      have := r4 0 (by omega) (by omega)
      simp at this
  · have := r3 (x - a) (by omega) (by omega)
    rw [show a + (x - a) = x by omega] at this
    simpa using this
  · by_cases e : x = b
    · rw [e]
    · have := r4 (x - a) (by omega) (by omega)
      rw [show a + (x - a) = x by omega] at this
      have h1 : so x ≠ so a := by simpa using this
      cases hx : so x <;> cases hb : so b <;> cases ha : so a <;> simp_all
theorem stretch_iff {so : Int → Bool} {a b : Int} (hab : a ≤ b) (h : OneWay so a b) :
    (∀ x, ((stretchS so a b).1 ≤ x ∧ x ≤ (stretchS so a b).2) ↔ (a ≤ x ∧ x ≤ b ∧ so x = true)) ∧ a ≤ (stretchS so a b).1 ∧ (stretchS so a b).2 ≤ b ∧ ((stretchS so a b).1 ≤ (stretchS so a b).2 ∨ ((stretchS so a b).1 = b + 1 ∧ (stretchS so a b).2 = b)) := by
  unfold stretchS
  by_cases e : so a = so b
  · rw [if_pos e]
    cases ha : so a with
    | true =>
      rw [if_pos rfl]
      dsimp only
      refine ⟨fun x => ⟨fun ⟨h1, h2⟩ => ⟨h1, h2, ?_⟩, fun ⟨h1, h2, _⟩ => ⟨h1, h2⟩⟩, Int.le_refl _, Int.le_refl _, .inl hab⟩
      rcases h with m | m
      · exact m a x (Int.le_refl _) h1 h2 ha
      · exact m x b h1 h2 (Int.le_refl _) (by rw [← e]; exact ha)
    | false =>
      simp only [Bool.false_eq_true, if_false]
      refine ⟨fun x => ⟨fun ⟨h1, h2⟩ => by omega, fun ⟨h1, h2, h3⟩ => ?_⟩, by omega, Int.le_refl _, .inr (by simp)⟩
      exfalso
      rcases h with m | m
      · have := m x b h1 h2 (Int.le_refl _) h3; rw [← e, ha] at this; cases this
      · have := m a x (Int.le_refl _) h1 h2 h3; rw [ha] at this; cases this
  · rw [if_neg e]
    obtain ⟨t, ht, t1, t2, t3, t4⟩ := stretch_turn hab h e
    rw [ht]
    cases ha : so a with
    | true =>
      rw [if_pos rfl]
      dsimp only
      have hb : so b = false := by cases hb : so b <;> simp_all
      refine ⟨fun x => ⟨fun ⟨h1, h2⟩ => ⟨h1, by omega, by rw [t3 x h1 (by omega), ha]⟩, fun ⟨h1, h2, h3⟩ => ⟨h1, ?_⟩⟩, Int.le_refl _, by omega, .inl (by omega)⟩
      rcases Int.lt_or_le x t with c | c
      · omega
      · have := t4 x c h2; rw [h3, hb] at this; cases this
    | false =>
      simp only [Bool.false_eq_true, if_false]
      have hb : so b = true := by cases hb : so b <;> simp_all
      refine ⟨fun x => ⟨fun ⟨h1, h2⟩ => ⟨by omega, h2, by rw [t4 x h1 h2, hb]⟩, fun ⟨h1, h2, h3⟩ => ⟨?_, h2⟩⟩, by omega, Int.le_refl _, .inl (by omega)⟩
      rcases Int.lt_or_le x t with c | c
      · have := t3 x h1 c; rw [h3, ha] at this; cases this
      · exact c

/-- Runs that have a place. -/
def InRuns (L : List (Int × Int)) (x : Int) : Prop := ∃ r ∈ L, r.1 ≤ x ∧ x ≤ r.2
def Full (L : List (Int × Int)) : Prop := ∀ r ∈ L, r.1 ≤ r.2
theorem addRun_has {L : List (Int × Int)} {r : Int × Int} (hL : Full L) (hr : r.1 ≤ r.2) : Full (addRun L r) ∧ ∀ x, InRuns (addRun L r) x ↔ (InRuns L x ∨ (r.1 ≤ x ∧ x ≤ r.2)) := by
  unfold addRun
  cases hz : L.getLast? with
  | none =>
    have : L = [] := List.getLast?_eq_none_iff.1 hz
    subst this
    exact ⟨fun z hz => by simp at hz; subst hz; exact hr, fun x => by simp [InRuns]⟩
  | some z =>
    obtain ⟨init, rfl⟩ : ∃ init, L = init ++ [z] := List.getLast?_eq_some_iff.1 hz
    have hzf := hL z (by simp)
    dsimp only
    by_cases e : r.1 = z.2
    · rw [if_pos e, List.dropLast_concat]
      refine ⟨fun y hy => ?_, fun x => ?_⟩
      · rcases List.mem_append.1 hy with hy | hy
        · exact hL y (List.mem_append.2 (.inl hy))
        · simp at hy; subst hy; dsimp only; omega
      · constructor
        · rintro ⟨y, hy, h1, h2⟩
          rcases List.mem_append.1 hy with hy | hy
          · exact .inl ⟨y, List.mem_append.2 (.inl hy), h1, h2⟩
          · simp at hy; subst hy
            dsimp only at h1 h2
            rcases Int.lt_or_le z.2 x with c | c
            · right; omega
            · left; exact ⟨z, by simp, h1, c⟩
        · rintro (⟨y, hy, h1, h2⟩ | ⟨h1, h2⟩)
          · rcases List.mem_append.1 hy with hy | hy
            · exact ⟨y, List.mem_append.2 (.inl hy), h1, h2⟩
            · simp at hy; subst hy
              exact ⟨(y.1, r.2), by simp, h1, by dsimp only; omega⟩
          · exact ⟨(z.1, r.2), by simp, by dsimp only; omega, h2⟩
    · rw [if_neg e]
      refine ⟨fun y hy => ?_, fun x => ?_⟩
      · rcases List.mem_append.1 hy with hy | hy
        · exact hL y hy
        · simp at hy; subst hy; exact hr
      · constructor
        · rintro ⟨y, hy, h1, h2⟩
          rcases List.mem_append.1 hy with hy | hy
          · exact .inl ⟨y, hy, h1, h2⟩
          · simp at hy; subst hy; exact .inr ⟨h1, h2⟩
        · rintro (⟨y, hy, h1, h2⟩ | ⟨h1, h2⟩)
          · exact ⟨y, List.mem_append.2 (.inl hy), h1, h2⟩
          · exact ⟨r, by simp, h1, h2⟩
theorem runs_fold (f : P3 → P3 → Int × Int) : ∀ (xs : List Pr) (L : List (Int × Int)), Full L → Full (xs.foldl (runStep f) L) ∧ ∀ x, InRuns (xs.foldl (runStep f) L) x ↔ (InRuns L x ∨ ∃ y ∈ xs, (f y.1.1 y.1.2).1 ≤ x ∧ x ≤ (f y.1.1 y.1.2).2)
  | [], L, h => ⟨h, fun x => by simp⟩
  | y :: xs, L, h => by
    rw [List.foldl_cons]
    by_cases c : (f y.1.1 y.1.2).1 ≤ (f y.1.1 y.1.2).2
    · have e : runStep f L y = addRun L (f y.1.1 y.1.2) := by unfold runStep; rw [if_pos c]
      obtain ⟨a1, a2⟩ := addRun_has h c
      obtain ⟨b1, b2⟩ := runs_fold f xs (runStep f L y) (by rw [e]; exact a1)
      refine ⟨b1, fun x => ?_⟩
      rw [b2 x, e, a2 x]
      simp only [List.mem_cons, exists_eq_or_imp]
      exact or_assoc
    · have e : runStep f L y = L := by unfold runStep; rw [if_neg c]
      obtain ⟨b1, b2⟩ := runs_fold f xs (runStep f L y) (by rw [e]; exact h)
      refine ⟨b1, fun x => ?_⟩
      rw [b2 x, e]
      simp only [List.mem_cons, exists_eq_or_imp]
      constructor
      · rintro (h | h)
        · exact .inl h
        · exact .inr (.inr h)
      · rintro (h | ⟨h1, h2⟩ | h)
        · exact .inl h
        · exact absurd (Int.le_trans h1 h2) c
        · exact .inr h
theorem runs_iff (f : P3 → P3 → Int × Int) (xs : List Pr) (x : Int) : InRuns (runsF f xs) x ↔ ∃ y ∈ xs, (f y.1.1 y.1.2).1 ≤ x ∧ x ≤ (f y.1.1 y.1.2).2 := by
  have := (runs_fold f xs [] (fun r h => by simp at h)).2 x
  unfold runsF
  rw [this]
  simp [InRuns]

/-- The runs of a table, by what its pieces' questions tell. -/
theorem table_runs {ps : List P3} {xs : List Pr} {f : P3 → P3 → Int × Int} {Q : Int × Int → Prop} (ht : tabOk ps = true) (hxs : xs.map (·.1) = pcs ps)
    (hf : ∀ p q : P3, p.1 ≤ q.1 → ∀ x, ((f p q).1 ≤ x ∧ x ≤ (f p q).2) ↔ (p.1 ≤ x ∧ x ≤ q.1 ∧ Q (pAt p q x))) {x : Int} (h1 : firstX ps ≤ x) (h2 : x ≤ lastX ps) : InRuns (runsF f xs) x ↔ Q (atS ps x) := by
  rw [runs_iff]
  constructor
  · rintro ⟨y, hy, hx⟩
    have hm : y.1 ∈ pcs ps := by rw [← hxs]; exact List.mem_map_of_mem hy
    obtain ⟨i, hi⟩ := List.mem_iff_getElem?.1 hm
    obtain ⟨a, b, c⟩ := (hf _ _ y.2.2.2 x).1 hx
    rw [atS_any ht hi a b]; exact c
  · intro hq
    obtain ⟨i, pq, hi, b1, b2, _⟩ := piece_at ht h1 h2
    have hm := List.mem_of_getElem? hi
    rw [← hxs] at hm
    obtain ⟨y, hy, rfl⟩ := List.mem_map.1 hm
    refine ⟨y, hy, (hf _ _ y.2.2.2 x).2 ⟨b1, b2, ?_⟩⟩
    rw [← atS_any ht hi b1 b2]; exact hq
theorem lowSo_way (p q : P3) (lo hi a b : Int) : OneWay (lowSo p q lo hi) a b := by
  rcases pAt_low_way p q with w | w
  · exact .inr fun x y _ h _ hy => by simp only [lowSo, decide_eq_true_eq] at hy ⊢; have := w x y h; omega
  · exact .inl fun x y _ h _ hy => by simp only [lowSo, decide_eq_true_eq] at hy ⊢; have := w x y h; omega
theorem highSo_way (p q : P3) (lo hi a b : Int) : OneWay (highSo p q lo hi) a b := by
  rcases pAt_high_way p q with w | w
  · exact .inl fun x y _ h _ hy => by simp only [highSo, decide_eq_true_eq] at hy ⊢; have := w x y h; omega
  · exact .inr fun x y _ h _ hy => by simp only [highSo, decide_eq_true_eq] at hy ⊢; have := w x y h; omega
theorem whereS_iff (lo hi : Int) (p q : P3) (hpq : p.1 ≤ q.1) (x : Int) : ((whereS lo hi p q).1 ≤ x ∧ x ≤ (whereS lo hi p q).2) ↔ (p.1 ≤ x ∧ x ≤ q.1 ∧ ((pAt p q x).1 ≤ hi ∧ lo ≤ (pAt p q x).2)) := by
  have s1 := (stretch_iff hpq (lowSo_way p q lo hi p.1 q.1)).1 x
  have s2 := (stretch_iff hpq (highSo_way p q lo hi p.1 q.1)).1 x
  simp only [whereS]
  have e1 : lowSo p q lo hi x = true ↔ (pAt p q x).1 ≤ hi := by simp [lowSo]
  have e2 : highSo p q lo hi x = true ↔ lo ≤ (pAt p q x).2 := by simp [highSo]
  rw [e1] at s1
  rw [e2] at s2
  constructor
  · intro h
    have a := s1.1 (by omega)
    have b := s2.1 (by omega)
    exact ⟨a.1, a.2.1, a.2.2, b.2.2⟩
  · rintro ⟨h1, h2, h3, h4⟩
    have a := s1.2 ⟨h1, h2, h3⟩
    have b := s2.2 ⟨h1, h2, h4⟩
    omega
theorem aboveSo_way (p q : P3) (y a b : Int) : OneWay (aboveSo p q y) a b := by
  rcases pAt_low_way p q with w | w
  · exact .inl fun x z _ h _ hy => by simp only [aboveSo, decide_eq_true_eq] at hy ⊢; have := w x z h; omega
  · exact .inr fun x z _ h _ hy => by simp only [aboveSo, decide_eq_true_eq] at hy ⊢; have := w x z h; omega
theorem aboveS_iff (y : Int) (p q : P3) (hpq : p.1 ≤ q.1) (x : Int) : ((aboveS y p q).1 ≤ x ∧ x ≤ (aboveS y p q).2) ↔ (p.1 ≤ x ∧ x ≤ q.1 ∧ y ≤ (pAt p q x).1) := by
  have s1 := (stretch_iff hpq (aboveSo_way p q y p.1 q.1)).1 x
  have e1 : aboveSo p q y x = true ↔ y ≤ (pAt p q x).1 := by simp [aboveSo]
  rw [e1] at s1
  exact s1
theorem where_iff {ps : List P3} {xs : List Pr} {lo hi x : Int} (ht : tabOk ps = true) (hxs : xs.map (·.1) = pcs ps) (h1 : firstX ps ≤ x) (h2 : x ≤ lastX ps) : InRuns (runsF (whereS lo hi) xs) x ↔ ((atS ps x).1 ≤ hi ∧ lo ≤ (atS ps x).2) :=
  table_runs (Q := fun r => r.1 ≤ hi ∧ lo ≤ r.2) ht hxs (fun p q hpq x => whereS_iff lo hi p q hpq x) h1 h2
theorem above_iff {ps : List P3} {xs : List Pr} {y x : Int} (ht : tabOk ps = true) (hxs : xs.map (·.1) = pcs ps) (h1 : firstX ps ≤ x) (h2 : x ≤ lastX ps) : InRuns (runsF (aboveS y) xs) x ↔ y ≤ (atS ps x).1 :=
  table_runs (Q := fun r => y ≤ r.1) ht hxs (fun p q hpq x => aboveS_iff y p q hpq x) h1 h2

/-- A value with a fraction lies within a range. -/
def Lies (a b W N : Int) : Prop := a ≤ W ∧ (W < b ∨ (W = b ∧ N = 0))
theorem Lies.wider {a b c d W N : Int} (h : Lies a b W N) (h1 : c ≤ a) (h2 : b ≤ d) : Lies c d W N := by
  unfold Lies at h ⊢; omega
/-- The value of numbers within a table at its points lies within the table's range at the place. -/
theorem value_lies {p q : P3} {y z x : Int} (h1 : p.1 < x) (h2 : x < q.1) (a1 : p.2.1 ≤ y) (a2 : y ≤ p.2.2) (b1 : q.2.1 ≤ z) (b2 : z ≤ q.2.2) :
    Lies (pAt p q x).1 (pAt p q x).2 (y + (z - y) * (x - p.1) / (q.1 - p.1)) ((z - y) * (x - p.1) % (q.1 - p.1)) := by
  have hm : max (q.1 - p.1) 1 = q.1 - p.1 := by omega
  have hD : 1 ≤ q.1 - p.1 := by omega
  rw [pAt_lo, pAt_hi, hm]
  generalize hDD : q.1 - p.1 = D at *
  generalize hu : x - p.1 = u at *
  have u0 : 0 ≤ u := by omega
  have u1 : 0 ≤ D - u := by omega
  have e : y * (D - u) + z * u = (z - y) * u + y * D := by grind
  have n1 : p.2.1 * (D - u) + q.2.1 * u ≤ y * (D - u) + z * u := by
    have := Int.mul_le_mul_of_nonneg_right a1 u1
    have := Int.mul_le_mul_of_nonneg_right b1 u0
    omega
  have n2 : y * (D - u) + z * u ≤ p.2.2 * (D - u) + q.2.2 * u := by
    have := Int.mul_le_mul_of_nonneg_right a2 u1
    have := Int.mul_le_mul_of_nonneg_right b2 u0
    omega
  have hN : -p.2.2 * (D - u) + -q.2.2 * u = -(p.2.2 * (D - u) + q.2.2 * u) := by grind
  rw [hN]
  have h := area_lies hD n1 n2
  have e1 : (y * (D - u) + z * u) / D = y + (z - y) * u / D := by
    rw [e, Int.add_mul_ediv_right _ _ (by omega)]; omega
  have e2 : (y * (D - u) + z * u) % D = (z - y) * u % D := by
    rw [e, Int.add_mul_emod_self_right]
  rw [e1, e2] at h
  have hr := Int.emod_nonneg ((z - y) * u) (show D ≠ 0 by omega)
  unfold Lies
  omega
end

section
open Go.RowKit Go.Shelf

set_option maxRecDepth 100000 in
set_option maxHeartbeats 2000000 in
theorem above_good (b0 o n c : Nat) (ps : List P3) (xs : List Pr) (lv : Int) (w : World) (hn : n = ps.length) (h2 : 1 ≤ n) (hb : b0 < w.heap.size) (ht : tabOk ps = true) (hxs : xs.map (·.1) = pcs ps) (hc : PtsAt w b0 o ps) :
    Calls Try.prog 52 #[tv (some ⟨b0, o, none⟩) n c, .int .i64 lv] w (GivesRunsOk w (runsF (aboveS lv) xs)) := by
  have h40 := (tabOk_len ht).2
  have hml : n ≤ maxLen := by unfold maxLen; omega
  have HN := Lib.hid hn; clear hn
  have HT := Lib.hid ht; clear ht
  have HX := Lib.hid hxs; clear hxs
  have hB0 : Below w.heap.size w ((w.alloc (.cells #[.slice (some ⟨b0, o, none⟩) n c] 43)).alloc (.cells #[.int .i64 lv] 3)) := below_a2 (Below.refl _ _)
  have HC := Lib.hid (hc.below hB0 hb); clear hc
  have hb0 : b0 < ((w.alloc (.cells #[.slice (some ⟨b0, o, none⟩) n c] 43)).alloc (.cells #[.int .i64 lv] 3)).heap.size := by simp; omega
  have bT := (Blk.new w 43 #[.slice (some ⟨b0, o, none⟩) n c]).alloc (.cells #[.int .i64 lv] 3)
  have bR := Blk.new (w.alloc (.cells #[.slice (some ⟨b0, o, none⟩) n c] 43)) 3 #[.int .i64 lv]
  simp only [World.size_alloc] at bR
  have HB := Lib.hid hb0; have HBT := Lib.hid bT; have HBR := Lib.hid bR; have HB0 := Lib.hid hB0
  clear hb0 bT bR hB0
  go_enter Try.func52, Try.ntmps52
  go_wp2_with fail
  refine (checkTable_to _ n c ps _ _ _ HN.out hml (HC.out.pts HB.out) HT.out rfl).mono ?_
  rintro e w1 ⟨rfl, hb1⟩
  have bT1 := HBT.out.below hb1 HBT.out.lt
  have bR1 := HBR.out.below hb1 HBR.out.lt
  have P1 := HC.out.below hb1 HB.out
  have hB1 := below_then HB0.out hb1
  have hz1 : w.heap.size + 1 < w1.heap.size := by have := hb1.size; simp at this; omega
  have t0 := bT1.cell 0
  simp at t0
  have HBT1 := Lib.hid bT1; have HBR1 := Lib.hid bR1; have HP1 := Lib.hid P1; have HB1 := Lib.hid hB1
  clear bT1 bR1 P1 hB1 hb1
  have hza : w.heap.size < w1.heap.size := by omega
  go_wp2_with fail
  refine (collect_above b0 o n c (w.heap.size + 1) ps xs lv w1 HN.out h2 (by omega) HT.out HX.out HP1.out HBR1.out).mono ?_
  rintro e w3 ⟨v, rfl, ho, hb3⟩
  have hB3 := below_then HB1.out hb3
  have HO := Lib.hid ho; have HB3 := Lib.hid hB3
  clear ho hB3 hb3
  go_wp2
  refine bodyPost_ret (v := .tuple #[v, .int .i64 0]) (by simp [results, Try.results52, go_sem]) rfl ⟨v, rfl, HO.out.mono (by omega), HB3.out⟩

/-- A row of runs in memory, or nothing. -/
def RunsP (w : World) (A : Option Addr) (L : List (Int × Int)) : Prop := L = [] ∨ ∃ b o, A = some ⟨b, o, none⟩ ∧ b < w.heap.size ∧ RunsMem w b o L
theorem RunsP.below {w w' : World} {A : Option Addr} {L : List (Int × Int)} (h : RunsP w A L) (hB : Below w.heap.size w w') : RunsP w' A L := by
  rcases h with h | ⟨b, o, h1, h2, h3⟩
  · exact .inl h
  · exact .inr ⟨b, o, h1, Nat.lt_of_lt_of_le h2 hB.size, h3.below hB h2⟩
theorem runCells_at : ∀ (L : List (Int × Int)) (k : Nat) (r : Int × Int), L[k]? = some r → (runCells L)[k * 2]? = some (.int .i64 r.1) ∧ (runCells L)[k * 2 + 1]? = some (.int .i64 r.2)
  | [], k, r, h => by simp at h
  | z :: L, 0, r, h => by simp at h; subst h; simp [runCells]
  | z :: L, k + 1, r, h => by
    have := runCells_at L k r (by simpa using h)
    have e : runCells (z :: L) = [Value.int .i64 z.1, .int .i64 z.2] ++ runCells L := by simp [runCells]
    rw [e, List.getElem?_append_right (by simp; omega), List.getElem?_append_right (by simp; omega)]
    rw [show (k + 1) * 2 - [Value.int .i64 z.1, .int .i64 z.2].length = k * 2 by simp; omega, show (k + 1) * 2 + 1 - [Value.int .i64 z.1, .int .i64 z.2].length = k * 2 + 1 by simp; omega]
    exact this
theorem OwnRuns.runsP {base : Nat} {w : World} {v : Value} {L : List (Int × Int)} (ho : OwnRuns base w v L) : ∃ A c, v = .slice A L.length c ∧ RunsP w A L := by
  have ho' : w.ownsRow base 23 2 v L.length (runCells L) := ho
  rcases Nat.lt_or_ge 0 L.length with hl | hl
  · obtain ⟨g, cap, rfl, _, h2⟩ := ho'.form hl
    refine ⟨_, _, rfl, .inr ⟨g, 0, rfl, h2, fun k p hp => ?_⟩⟩
    have hk := (List.getElem?_eq_some_iff.1 hp).1
    obtain ⟨a, b⟩ := runCells_at L k p hp
    have c0 := (ho'.cellAt (k * 2) (by omega)).trans a
    have c1 := (ho'.cellAt (k * 2 + 1) (by omega)).trans b
    rw [Nat.zero_add]
    exact ⟨c0, c1⟩
  · obtain rfl : L = [] := List.eq_nil_of_length_eq_zero (by omega)
    rcases ho'.2 with ⟨h, _⟩ | ⟨g, cap, _, h, _⟩
    · exact ⟨_, _, h, .inl rfl⟩
    · exact ⟨_, _, h, .inl rfl⟩
/-- Runs are handed back, with no error. -/
def GivesRow2 (w : World) (L : List (Int × Int)) (e : Ending) (w' : World) : Prop := ∃ A c, e = .returned (.tuple #[.slice A L.length c, .int .i64 0]) ∧ RunsP w' A L ∧ Below w.heap.size w w'
theorem givesRow2_of {w w' : World} {L : List (Int × Int)} {e : Ending} (h : GivesRunsOk w L e w') : GivesRow2 w L e w' := by
  obtain ⟨v, rfl, ho, hb⟩ := h
  obtain ⟨A, c, rfl, hp⟩ := ho.runsP
  exact ⟨A, c, rfl, hp, hb⟩

/-- in -/
def inB2 (L : List (Int × Int)) (x : Int) : Bool := L.any fun r => decide (r.1 ≤ x) && decide (x ≤ r.2)
theorem inB2_iff (L : List (Int × Int)) (x : Int) : inB2 L x = true ↔ InRuns L x := by
  simp [inB2, InRuns]
theorem inB2_snoc {L : List (Int × Int)} {x : Int} {k : Nat} {r : Int × Int} (h : L[k]? = some r) : inB2 (L.drop k) x = ((decide (r.1 ≤ x) && decide (x ≤ r.2)) || inB2 (L.drop (k + 1)) x) := by
  obtain ⟨hk, rfl⟩ := List.getElem?_eq_some_iff.1 h
  unfold inB2
  rw [List.drop_eq_getElem_cons hk, List.any_cons]
theorem inB2_end {L : List (Int × Int)} {x : Int} {k : Nat} (h : L.length ≤ k) : inB2 (L.drop k) x = false := by
  rw [List.drop_of_length_le h]; rfl

set_option maxRecDepth 100000 in
set_option maxHeartbeats 2000000 in
theorem in_any (A : Option Addr) (n c : Nat) (L : List (Int × Int)) (x : Int) (w : World) (hn : n = L.length) (hm : n ≤ 1000000) (hp : RunsP w A L) :
    Calls Try.prog 69 #[.slice A n c, .int .i64 x] w fun e w' => e = .returned (.bool (inB2 L x)) ∧ Below w.heap.size w w' := by
  generalize hR : inB2 L x = R
  have HR := Lib.hid (show inB2 (L.drop 0) x = R from hR); clear hR
  have HN := Lib.hid hn; have HP := Lib.hid hp; clear hn hp
  go_enter Try.func69, Try.ntmps69
  go_wp2_with fail
  go_loopw [9] (fun i wr => ∃ k : Nat, k ≤ n ∧ i = .int .i64 k ∧ Hid (inB2 (L.drop k) x = R) ∧ Below w.heap.size w wr) (fun i _ => n - (intOf i).toNat)
  case atStart => exact ⟨0, by omega, rfl, HR, Below.refl _ _⟩
  case round =>
    obtain ⟨k, hk, rfl, HK, hB⟩ := hrel
    by_cases hlt : k < n
    · obtain ⟨⟨a, b⟩, hr⟩ : ∃ p, L[k]? = some p := ⟨_, List.getElem?_eq_getElem (show k < L.length by rw [← HN.out]; exact hlt)⟩
      obtain ⟨b', o', rfl, hb', hmem⟩ : ∃ b o, A = some ⟨b, o, none⟩ ∧ b < w.heap.size ∧ RunsMem w b o L := by
        rcases HP.out with h | h
        · have := HN.out; rw [h] at this; simp at this; omega
        · exact h
      obtain ⟨c0, c1⟩ := hmem k _ hr
      rw [← hB.cell (p := ⟨b', o' + k * 2, none⟩) hb'] at c0
      rw [← hB.cell (p := ⟨b', o' + k * 2 + 1, none⟩) hb'] at c1
      dsimp only at c0 c1
      have HS := Lib.hid (inB2_snoc (x := x) hr)
      have HB := Lib.hid (hB.alloc hB.size (.cells #[.int .i64 a, .int .i64 b] 23))
      clear hr hmem hB
      by_cases h1 : a ≤ x
      · by_cases h2 : x ≤ b
        · have hr : true = R := by rw [← HK.out, HS.out, decide_eq_true h1, decide_eq_true h2]; rfl
          subst hr
          go_wp2
          go_ret
          exact ⟨rfl, HB.out⟩
        · have hr : inB2 (L.drop (k + 1)) x = R := by rw [← HK.out, HS.out, decide_eq_true h1, decide_eq_false h2]; rfl
          have HK2 := Lib.hid hr; clear hr HK HS
          go_wp2
          go_roundw
          case rel => exact ⟨k + 1, by omega, by go_num, HK2, HB.out⟩
          case measure => simp [intOf]; omega
      · have hr : inB2 (L.drop (k + 1)) x = R := by rw [← HK.out, HS.out, decide_eq_false h1]; rfl
        have HK2 := Lib.hid hr; clear hr HK HS
        go_wp2
        go_roundw
        case rel => exact ⟨k + 1, by omega, by go_num, HK2, HB.out⟩
        case measure => simp [intOf]; omega
    · have hr : false = R := by rw [← HK.out, inB2_end (by have := HN.out; omega)]
      subst hr
      clear HK HR
      go_wp2
      go_ret
      exact ⟨rfl, hB⟩

/-- lies -/
def liesB (a b W N : Int) : Bool := decide (a ≤ W) && (decide (W < b) || (decide (W = b) && decide (N = 0)))
theorem liesB_iff (a b W N : Int) : liesB a b W N = true ↔ Lies a b W N := by simp [liesB, Lies]
set_option maxRecDepth 100000 in
set_option maxHeartbeats 2000000 in
theorem lies_any (a b W N D : Int) (w : World) :
    Calls Try.prog 68 #[rv a b, fv W N D] w fun e w' => e = .returned (.bool (liesB a b W N)) ∧ Below w.heap.size w w' := by
  have hE : Below w.heap.size w ((w.alloc (.cells #[.int .i64 a, .int .i64 b] 23)).alloc (.cells #[.int .i64 W, .int .i64 N, .int .i64 D] 71)) := below_a2 (Below.refl _ _)
  have HE := Lib.hid hE; clear hE
  by_cases h1 : a ≤ W
  · by_cases h2 : W < b
    · have hr : liesB a b W N = true := by unfold liesB; rw [decide_eq_true h1, decide_eq_true h2]; rfl
      rw [hr]; clear hr
      go_enter Try.func68, Try.ntmps68
      go_wp2
      go_ret
      exact ⟨rfl, HE.out⟩
    · by_cases h3 : W = b
      · subst h3
        by_cases h4 : N = 0
        · subst h4
          have hr : liesB a W W 0 = true := by unfold liesB; rw [decide_eq_true h1]; simp
          rw [hr]; clear hr
          go_enter Try.func68, Try.ntmps68
          go_wp2
          go_ret
          exact ⟨rfl, HE.out⟩
        · have hr : liesB a W W N = false := by unfold liesB; simp [h4]
          rw [hr]; clear hr
          have hz : (N == 0) = false := beq_eq_false_iff_ne.2 h4
          go_enter Try.func68, Try.ntmps68
          go_wp2
          go_ret
          exact ⟨rfl, HE.out⟩
      · have hr : liesB a b W N = false := by unfold liesB; simp [h3, h2]
        rw [hr]; clear hr
        have hz : (W == b) = false := beq_eq_false_iff_ne.2 h3
        go_enter Try.func68, Try.ntmps68
        go_wp2
        go_ret
        exact ⟨rfl, HE.out⟩
  · have hr : liesB a b W N = false := by unfold liesB; simp [h1]
    rw [hr]; clear hr
    go_enter Try.func68, Try.ntmps68
    go_wp2
    go_ret
    exact ⟨rfl, HE.out⟩
end

section
open Go.RowKit

/-- The specification's way to add a run. -/
def addRunS (l : List (Int × Int)) (r : Int × Int) : List (Int × Int) :=
  match l.getLast? with
  | some z => if r.1 ≤ z.2 + 1 then l.dropLast ++ [(z.1, max z.2 r.2)] else l ++ [r]
  | none => [r]
def stepRunS (f : P3 → P3 → Int × Int) (L : List (Int × Int)) (p q : P3) : List (Int × Int) := if (f p q).1 ≤ (f p q).2 then addRunS L (f p q) else L
/-- The specification's runs, of the first k points. -/
def specPre (f : P3 → P3 → Int × Int) (ps : List P3) : Nat → List (Int × Int)
  | 0 => []
  | k + 1 => match ps[k]? with
    | some p => stepRunS f (specPre f ps k) p (ps[k + 1]?.getD p)
    | none => specPre f ps k
theorem specPre_succ {f : P3 → P3 → Int × Int} {ps : List P3} {k : Nat} {p q : P3} (hp : ps[k]? = some p) (hq : ps[k + 1]?.getD p = q) : specPre f ps (k + 1) = stepRunS f (specPre f ps k) p q := by
  subst hq
  simp [specPre, hp]
/-- Runs in their order. -/
def Apart2 (L : List (Int × Int)) : Prop := L.Pairwise (fun r s => r.2 < s.1)
theorem last_greatest {L : List (Int × Int)} {z : Int × Int} (hF : Full L) (hA : Apart2 L) (hz : L.getLast? = some z) : ∀ r ∈ L, r.2 ≤ z.2 := by
  obtain ⟨init, rfl⟩ : ∃ init, L = init ++ [z] := List.getLast?_eq_some_iff.1 hz
  intro r hr
  rcases List.mem_append.1 hr with hr | hr
  · have := (List.pairwise_append.1 hA).2.2 r hr z (by simp)
    have := hF z (by simp)
    omega
  · simp at hr; subst hr; exact Int.le_refl _
/-- What holds of the runs of some pieces, the last of which ends at X. -/
def RunsInv (Q : Int → Prop) (x0 X : Int) (L : List (Int × Int)) : Prop := Full L ∧ Apart2 L ∧ (∀ z ∈ L, x0 ≤ z.1 ∧ z.2 ≤ X) ∧ ∀ x, InRuns L x ↔ (x0 ≤ x ∧ x ≤ X ∧ Q x)
theorem add_same {L : List (Int × Int)} {r : Int × Int} {X x0 Y : Int} {Q : Int → Prop} (h : RunsInv Q x0 X L) (hr : r.1 ≤ r.2) (h0 : x0 ≤ X) (h1 : X ≤ r.1) (h2 : r.2 ≤ Y) (hq : ∀ x, (r.1 ≤ x ∧ x ≤ r.2) ↔ (X ≤ x ∧ x ≤ Y ∧ Q x)) :
    addRunS L r = addRun L r ∧ RunsInv Q x0 Y (addRun L r) := by
  obtain ⟨hF, hA, hB, hI⟩ := h
  have key : r.1 = X ↔ InRuns L X := by
    rw [hI X]
    constructor
    · intro e
      exact ⟨h0, Int.le_refl _, ((hq X).1 ⟨by omega, by omega⟩).2.2⟩
    · rintro ⟨_, _, q⟩
      have := (hq X).2 ⟨Int.le_refl _, by omega, q⟩
      omega
  obtain ⟨a1, a2⟩ := addRun_has hF hr
  have hmem : ∀ x, InRuns (addRun L r) x ↔ (x0 ≤ x ∧ x ≤ Y ∧ Q x) := fun x => by
    rw [a2 x, hI x, hq x]
    constructor
    · rintro (⟨b1, b2, b3⟩ | ⟨b1, b2, b3⟩)
      · exact ⟨b1, by omega, b3⟩
      · exact ⟨by omega, b2, b3⟩
    · rintro ⟨b1, b2, b3⟩
      rcases Int.lt_or_le X x with c | c
      · exact .inr ⟨by omega, b2, b3⟩
      · exact .inl ⟨b1, c, b3⟩
  cases hz : L.getLast? with
  | none =>
    have : L = [] := List.getLast?_eq_none_iff.1 hz
    subst this
    refine ⟨rfl, a1, ?_, ?_, hmem⟩
    · simp [addRun, Apart2]
    · intro z hz'
      simp [addRun] at hz'
      subst hz'
      omega
  | some z =>
    have hgr := last_greatest hF hA hz
    obtain ⟨init, rfl⟩ : ∃ init, L = init ++ [z] := List.getLast?_eq_some_iff.1 hz
    have hzf := hF z (by simp)
    have hzB := hB z (by simp)
    obtain ⟨q1, q2, q3⟩ := List.pairwise_append.1 hA
    have hin : InRuns (init ++ [z]) X ↔ z.2 = X := by
      constructor
      · rintro ⟨y, hy, b1, b2⟩
        have := hgr y hy
        omega
      · intro e
        exact ⟨z, by simp, by omega, by omega⟩
    rw [hin] at key
    have hsp : addRunS (init ++ [z]) r = addRun (init ++ [z]) r := by
      unfold addRunS addRun
      rw [hz]
      dsimp only
      by_cases e : r.1 = z.2
      · rw [if_pos (by omega), if_pos e, List.dropLast_concat]
        rw [show max z.2 r.2 = r.2 by omega]
      · rw [if_neg (by
          intro c
          by_cases e2 : z.2 = X
          · have := key.2 e2; omega
          · omega), if_neg e]
    refine ⟨hsp, a1, ?_, ?_, hmem⟩
    · unfold addRun
      rw [hz]
      dsimp only
      by_cases e : r.1 = z.2
      · rw [if_pos e, List.dropLast_concat]
        exact List.pairwise_append.2 ⟨q1, by simp, fun a ha b hb => by simp at hb; subst hb; exact q3 a ha z (by simp)⟩
      · rw [if_neg e]
        exact List.pairwise_append.2 ⟨hA, by simp, fun a ha b hb => by
          simp at hb; subst hb
          have := hgr a ha
          omega⟩
    · unfold addRun
      rw [hz]
      dsimp only
      intro y hy
      by_cases e : r.1 = z.2
      · rw [if_pos e, List.dropLast_concat] at hy
        rcases List.mem_append.1 hy with hy | hy
        · have := hB y (List.mem_append.2 (.inl hy)); omega
        · simp at hy; subst hy; dsimp only; omega
      · rw [if_neg e] at hy
        rcases List.mem_append.1 hy with hy | hy
        · have := hB y hy; omega
        · simp at hy; subst hy; omega
theorem step_same {L : List (Int × Int)} {f : P3 → P3 → Int × Int} {p q : P3} {x0 : Int} {Q : Int → Prop} (h : RunsInv Q x0 p.1 L) (h0 : x0 ≤ p.1) (hpq : p.1 ≤ q.1) (hr : (f p q).1 ≤ (f p q).2 → p.1 ≤ (f p q).1 ∧ (f p q).2 ≤ q.1)
    (hq : ∀ x, ((f p q).1 ≤ x ∧ x ≤ (f p q).2) ↔ (p.1 ≤ x ∧ x ≤ q.1 ∧ Q x)) : stepRunS f L p q = (if (f p q).1 ≤ (f p q).2 then addRun L (f p q) else L) ∧ RunsInv Q x0 q.1 (stepRunS f L p q) := by
  unfold stepRunS
  by_cases c : (f p q).1 ≤ (f p q).2
  · rw [if_pos c, if_pos c]
    have := add_same h c h0 (hr c).1 (hr c).2 hq
    exact ⟨this.1, this.1 ▸ this.2⟩
  · rw [if_neg c, if_neg c]
    obtain ⟨hF, hA, hB, hI⟩ := h
    refine ⟨rfl, hF, hA, fun z hz => by have := hB z hz; omega, fun x => ?_⟩
    rw [hI x]
    constructor
    · rintro ⟨b1, b2, b3⟩; exact ⟨b1, by omega, b3⟩
    · rintro ⟨b1, b2, b3⟩
      refine ⟨b1, ?_, b3⟩
      rcases Int.lt_or_le p.1 x with d | d
      · have := (hq x).2 ⟨by omega, b2, b3⟩; omega
      · exact d
theorem step_point {L : List (Int × Int)} {f : P3 → P3 → Int × Int} {p : P3} {x0 : Int} {Q : Int → Prop} (h : RunsInv Q x0 p.1 L) (h0 : x0 ≤ p.1)
    (hq : ∀ x, ((f p p).1 ≤ x ∧ x ≤ (f p p).2) ↔ (p.1 ≤ x ∧ x ≤ p.1 ∧ Q x)) : stepRunS f L p p = L := by
  unfold stepRunS
  by_cases c : (f p p).1 ≤ (f p p).2
  · rw [if_pos c]
    obtain ⟨hF, hA, hB, hI⟩ := h
    have e1 := (hq (f p p).1).1 ⟨Int.le_refl _, c⟩
    have e2 := (hq (f p p).2).1 ⟨c, Int.le_refl _⟩
    have e3 : (f p p).1 = p.1 := by omega
    have e4 : (f p p).2 = p.1 := by omega
    have hin := (hI p.1).2 ⟨h0, Int.le_refl _, by rw [← e3]; exact e1.2.2⟩
    cases hz : L.getLast? with
    | none =>
      have : L = [] := List.getLast?_eq_none_iff.1 hz
      subst this
      obtain ⟨y, hy, _⟩ := hin
      simp at hy
    | some z =>
      have hgr := last_greatest hF hA hz
      obtain ⟨init, rfl⟩ : ∃ init, L = init ++ [z] := List.getLast?_eq_some_iff.1 hz
      obtain ⟨y, hy, b1, b2⟩ := hin
      have := hgr y hy
      have := hB z (by simp)
      unfold addRunS
      rw [hz]
      dsimp only
      rw [if_pos (by omega), List.dropLast_concat, show max z.2 (f p p).2 = z.2 by omega]
  · rw [if_neg c]

theorem runs_same {ps : List P3} {xs : List Pr} {f : P3 → P3 → Int × Int} {Q : Int × Int → Prop} (ht : tabOk ps = true) (hxs : xs.map (·.1) = pcs ps)
    (hf : ∀ p q : P3, p.1 ≤ q.1 → ∀ x, ((f p q).1 ≤ x ∧ x ≤ (f p q).2) ↔ (p.1 ≤ x ∧ x ≤ q.1 ∧ Q (pAt p q x))) : specPre f ps ps.length = runsF f xs := by
  have hl := (tabOk_len ht).1
  have hin : ∀ p q : P3, p.1 ≤ q.1 → (f p q).1 ≤ (f p q).2 → p.1 ≤ (f p q).1 ∧ (f p q).2 ≤ q.1 := fun p q h c =>
    ⟨((hf p q h _).1 ⟨Int.le_refl _, c⟩).1, ((hf p q h _).1 ⟨c, Int.le_refl _⟩).2.1⟩
  rcases Nat.lt_or_ge ps.length 2 with c | c
  · obtain ⟨p, rfl⟩ : ∃ p, ps = [p] := List.length_eq_one_iff.1 (by omega)
    have : ∃ y, xs = [y] ∧ y.1 = (p, p) := by
      match xs, hxs with
      | [y], h => simp [pcs] at h; exact ⟨y, rfl, h⟩
      | [], h => simp [pcs] at h
      | _ :: _ :: _, h => simp [pcs] at h
    obtain ⟨y, rfl, hy⟩ := this
    show specPre f [p] 1 = _
    rw [specPre_succ (k := 0) (p := p) (q := p) rfl rfl]
    simp only [runsF, List.foldl_cons, List.foldl_nil, runStep, hy, stepRunS, specPre]
    rfl
  · obtain ⟨p0, hp0⟩ : ∃ p, ps[0]? = some p := ⟨_, List.getElem?_eq_getElem (by omega)⟩
    have hlen : xs.length = ps.length - 1 := by
      have := congrArg List.length hxs
      rw [List.length_map, pcs_two c, List.length_zip, List.length_tail] at this
      omega
    have main : ∀ (k : Nat) (p : P3), ps[k]? = some p → specPre f ps k = runsF f (xs.take k) ∧ (0 < k → RunsInv (fun x => Q (atS ps x)) p0.1 p.1 (specPre f ps k)) := by
      intro k
      induction k with
      | zero => intro p _; exact ⟨by simp [specPre, runsF], fun h => by omega⟩
      | succ k ih =>
        intro q hq
        have lq := (List.getElem?_eq_some_iff.1 hq).1
        obtain ⟨p, hp⟩ : ∃ p, ps[k]? = some p := ⟨_, List.getElem?_eq_getElem (by omega)⟩
        obtain ⟨ih1, ih2⟩ := ih p hp
        have hpc := pcs_at c hp hq
        have hpq := rising_at ht hp hq (by omega)
        have h0p := rising_le ht hp0 hp (by omega)
        have hQ : ∀ x, ((f p q).1 ≤ x ∧ x ≤ (f p q).2) ↔ (p.1 ≤ x ∧ x ≤ q.1 ∧ Q (atS ps x)) := fun x => by
          rw [hf p q (Int.le_of_lt hpq) x]
          constructor
          · rintro ⟨a, b, d⟩; exact ⟨a, b, by rw [atS_any ht hpc a b]; exact d⟩
          · rintro ⟨a, b, d⟩; exact ⟨a, b, by rw [← atS_any ht hpc a b]; exact d⟩
        obtain ⟨y, hy⟩ : ∃ y, xs[k]? = some y := ⟨_, List.getElem?_eq_getElem (by omega)⟩
        have hyv : y.1 = (p, q) := by
          have : (xs.map (·.1))[k]? = some y.1 := by rw [List.getElem?_map, hy]; rfl
          rw [hxs, hpc] at this
          injection this with this
          exact this.symm
        have htk : xs.take (k + 1) = xs.take k ++ [y] := by
          rw [List.take_add_one, hy]; rfl
        rw [specPre_succ (q := q) hp (by rw [hq]; rfl), htk, runsF_snoc, ← ih1]
        have hrs : runStep f (specPre f ps k) y = (if (f p q).1 ≤ (f p q).2 then addRun (specPre f ps k) (f p q) else specPre f ps k) := by
          unfold runStep; rw [hyv]
        rw [hrs]
        cases k with
        | zero =>
          have e0 : specPre f ps 0 = [] := rfl
          have ep : p = p0 := by rw [hp0] at hp; injection hp with hp; exact hp.symm
          subst ep
          rw [e0]
          unfold stepRunS
          by_cases cc : (f p q).1 ≤ (f p q).2
          · rw [if_pos cc, if_pos cc]
            refine ⟨rfl, fun _ => ⟨?_, ?_, ?_, fun x => ?_⟩⟩
            · intro z hz; simp [addRunS] at hz; subst hz; exact cc
            · simp [addRunS, Apart2]
            · intro z hz; simp [addRunS] at hz; subst hz; exact hin p q (Int.le_of_lt hpq) cc
            · rw [← hQ x]; simp [addRunS, InRuns]
          · rw [if_neg cc, if_neg cc]
            refine ⟨rfl, fun _ => ⟨fun z hz => by simp at hz, by simp [Apart2], fun z hz => by simp at hz, fun x => ?_⟩⟩
            rw [← hQ x]
            simp [InRuns]; omega
        | succ k =>
          obtain ⟨s1, s2⟩ := step_same (ih2 (by omega)) h0p (Int.le_of_lt hpq) (hin p q (Int.le_of_lt hpq)) hQ
          exact ⟨s1, fun _ => s2⟩
    obtain ⟨pl, hpl⟩ : ∃ p, ps[ps.length - 1]? = some p := ⟨_, List.getElem?_eq_getElem (by omega)⟩
    obtain ⟨m1, m2⟩ := main _ pl hpl
    have hsp : specPre f ps ps.length = stepRunS f (specPre f ps (ps.length - 1)) pl pl := by
      have := specPre_succ (f := f) hpl (q := pl) (by rw [List.getElem?_eq_none (by omega)]; rfl)
      rw [show ps.length - 1 + 1 = ps.length by omega] at this
      exact this
    rw [hsp, step_point (m2 (by omega)) (rising_le ht hp0 hpl (by omega)) (fun x => by
      rw [hf pl pl (Int.le_refl _) x]
      constructor
      · rintro ⟨a, b, d⟩
        have : x = pl.1 := by omega
        subst this
        exact ⟨a, b, by rw [atS_point ht (List.mem_of_getElem? hpl)]; rw [pAt_start] at d; exact d⟩
      · rintro ⟨a, b, d⟩
        have : x = pl.1 := by omega
        subst this
        exact ⟨a, b, by rw [atS_point ht (List.mem_of_getElem? hpl)] at d; rw [pAt_start]; exact d⟩), m1]
    rw [List.take_of_length_le (by omega)]
/-- stretch looks at its own places alone -/
theorem bs_congr {f g : Int → Bool} : ∀ (k : Nat) (i j : Int), (∀ x, i ≤ x → x < j → f x = g x) → bs f k i j = bs g k i j
  | 0, _, _, _ => rfl
  | k + 1, i, j, h => by
    rw [bs, bs]
    by_cases c : i < j
    · rw [if_pos c, if_pos c, h ((i + j) / 2) (by omega) (by omega)]
      rw [bs_congr k i ((i + j) / 2) (fun x a b => h x a (by omega)), bs_congr k ((i + j) / 2 + 1) j (fun x a b => h x (by omega) b)]
    · rw [if_neg c, if_neg c]
theorem stretch_congr {so so' : Int → Bool} {a b : Int} (hab : a ≤ b) (h : ∀ x, a ≤ x → x ≤ b → so x = so' x) : stretchS so a b = stretchS so' a b := by
  unfold stretchS
  have e := bs_congr (f := fun i => !(so (a + i) == so a)) (g := fun i => !(so' (a + i) == so' a)) (b - a).toNat 0 (b - a) (fun x h1 h2 => by
    rw [h (a + x) (by omega) (by omega), h a (Int.le_refl _) hab])
  rw [e, h a (Int.le_refl _) hab, h b hab (Int.le_refl _)]
end

section
open Go.RowKit Go.Shelf

/-- the error of a range of places -/
def overE (ps : List P3) (a b : Int) : Int := if tabOk ps = true then (if vR a b = true then placesS ps a b else 10) else 11
def overS (ps : List P3) (a b : Int) : Int × Int × Int := if overE ps a b = 0 then ((overGood ps a b).1, (overGood ps a b).2.1, 0) else (0, 0, overE ps a b)
theorem placesS_cases (ps : List P3) (a b : Int) (ht : tabOk ps = true) : placesS ps a b = 0 ∨ placesS ps a b = 4 := by
  unfold placesS; rw [if_pos ht]; split
  · exact .inl rfl
  · exact .inr rfl

set_option maxRecDepth 100000 in
set_option maxHeartbeats 4000000 in
theorem over_bad (A : Option Addr) (n c : Nat) (ps : List P3) (x y : Int) (w : World) (hn : n = ps.length) (hm : n ≤ maxLen) (hp : Pts w A ps) (h0 : overE ps x y ≠ 0) :
    Calls Try.prog 48 #[tv A n c, rv x y] w fun e w' => e = .returned (.tuple #[rv 0 0, .int .i64 (overE ps x y)]) ∧ Below w.heap.size w w' := by
  have hE : Below w.heap.size w (((w.alloc (.cells #[.slice A n c] 43)).alloc (.cells #[.int .i64 x, .int .i64 y] 23)).alloc (.cells #[.int .i64 0, .int .i64 0] 23)) := below_a3 (Below.refl _ _)
  have hK : Boxes (((w.alloc (.cells #[.slice A n c] 43)).alloc (.cells #[.int .i64 x, .int .i64 y] 23)).alloc (.cells #[.int .i64 0, .int .i64 0] 23)) [(w.heap.size + 1 + 1, 23, #[.int .i64 0, .int .i64 0]), (w.heap.size + 1, 23, #[.int .i64 x, .int .i64 y]), (w.heap.size, 43, #[.slice A n c])] := by
    have h1 : Boxes (w.alloc (.cells #[.slice A n c] 43)) [(w.heap.size, 43, #[.slice A n c])] := fun p hp => by
      have := List.mem_singleton.1 hp; subst this; exact Blk.new w _ _
    have h2 := (h1.new 23 #[.int .i64 x, .int .i64 y]).new 23 #[.int .i64 0, .int .i64 0]
    simp only [World.size_alloc] at h2
    exact h2
  have HP := Lib.hid (hp.below hE); have HE := Lib.hid hE; have HK := Lib.hid hK; have HN := Lib.hid hn
  clear hE hK hp hn
  by_cases ht : tabOk ps = true
  · have CT : Hid (∀ W, Pts W A ps → Calls Try.prog 40 #[tv A n c] W fun e w' => e = .returned (.int .i64 0) ∧ Below W.heap.size W w') := Lib.hid fun W hW => checkTable_to A n c ps true 0 W HN.out hm hW ht rfl
    by_cases hr : vR x y = true
    · have he : overE ps x y = 4 := by
        unfold overE at h0 ⊢
        rw [if_pos ht, if_pos hr] at h0 ⊢
        exact (placesS_cases ps x y ht).resolve_left h0
      have hpl : placesS ps x y = 4 := by unfold overE at he; rw [if_pos ht, if_pos hr] at he; exact he
      rw [he]
      have HPL := Lib.hid hpl; have HR := Lib.hid hr
      clear ht hr h0 he hpl
      go_enter Try.func48, Try.ntmps48
      go_wp2_with fail
      obtain ⟨W0, hW0⟩ : ∃ W0, ((w.alloc (.cells #[.slice A n c] 43)).alloc (.cells #[.int .i64 x, .int .i64 y] 23)).alloc (.cells #[.int .i64 0, .int .i64 0] 23) = W0 := ⟨_, rfl⟩
      rw [hW0] at HE HK HP ⊢
      clear hW0
      refine (CT.out _ HP.out).mono ?_
      rintro e w1 ⟨rfl, hb1⟩
      have HK1 := Lib.hid (HK.out.on hb1); have HE1 := Lib.hid (below_then HE.out hb1); have HP1 := Lib.hid (HP.out.below hb1)
      clear hb1 HK HE HP
      have q0 := (HK1.out _ (.tail _ (.head _))).cell 0
      have q1 := (HK1.out _ (.tail _ (.head _))).cell 1
      simp at q0 q1
      go_wp2_with fail
      refine (checkRange_ok x y _ HR.out).mono ?_
      rintro e w2 ⟨rfl, hb1⟩
      have HK2 := Lib.hid (HK1.out.on hb1); have HE2 := Lib.hid (below_then HE1.out hb1); have HP2 := Lib.hid (HP1.out.below hb1)
      clear hb1 HK1 HE1 HP1 q0 q1
      have q0 := (HK2.out _ (.tail _ (.head _))).cell 0
      have q1 := (HK2.out _ (.tail _ (.head _))).cell 1
      have q2 := (HK2.out _ (.tail _ (.tail _ (.head _)))).cell 0
      simp at q0 q1 q2
      go_wp2_with fail
      refine (checkPlaces_to _ n c ps x y 4 _ HN.out hm HP2.out HPL.out).mono ?_
      rintro e w3 ⟨rfl, hb1⟩
      have hO := (HK2.out.on hb1) _ (.head _)
      have HE3 := Lib.hid (below_then HE2.out hb1)
      have r0 := hO.cell 0
      have r1 := hO.cell 1
      have f0 := hO.frozen 0
      have f1 := hO.frozen 1
      have lT := hO.lt
      simp at r0 r1
      clear hb1 q0 q1 q2 hO
      go_wp2
      refine bodyPost_ret (v := .tuple #[rv 0 0, .int .i64 4]) (by simp [results, Try.results48, go_sem, r0, r1, lT]) rfl ⟨rfl, ?_⟩
      exact (HE3.out.setCell (p := ⟨w.heap.size + 1 + 1, 0, none⟩) (by simp; omega) _).setCell (p := ⟨w.heap.size + 1 + 1, 1, none⟩) (by simp; omega) _
    · have hr' : vR x y = false := by simpa using hr
      have he : overE ps x y = 10 := by unfold overE; rw [if_pos ht, if_neg hr]
      rw [he]
      have HR := Lib.hid hr'
      clear ht hr hr' h0 he
      go_enter Try.func48, Try.ntmps48
      go_wp2_with fail
      obtain ⟨W0, hW0⟩ : ∃ W0, ((w.alloc (.cells #[.slice A n c] 43)).alloc (.cells #[.int .i64 x, .int .i64 y] 23)).alloc (.cells #[.int .i64 0, .int .i64 0] 23) = W0 := ⟨_, rfl⟩
      rw [hW0] at HE HK HP ⊢
      clear hW0
      refine (CT.out _ HP.out).mono ?_
      rintro e w1 ⟨rfl, hb1⟩
      have HK1 := Lib.hid (HK.out.on hb1); have HE1 := Lib.hid (below_then HE.out hb1)
      clear hb1 HK HE HP
      have q0 := (HK1.out _ (.tail _ (.head _))).cell 0
      have q1 := (HK1.out _ (.tail _ (.head _))).cell 1
      simp at q0 q1
      go_wp2_with fail
      refine (checkRange_bad x y _ HR.out).mono ?_
      rintro e w3 ⟨rfl, hb1⟩
      have hO := (HK1.out.on hb1) _ (.head _)
      have HE3 := Lib.hid (below_then HE1.out hb1)
      have r0 := hO.cell 0
      have r1 := hO.cell 1
      have f0 := hO.frozen 0
      have f1 := hO.frozen 1
      have lT := hO.lt
      simp at r0 r1
      clear hb1 q0 q1 hO
      go_wp2
      refine bodyPost_ret (v := .tuple #[rv 0 0, .int .i64 10]) (by simp [results, Try.results48, go_sem, r0, r1, lT]) rfl ⟨rfl, ?_⟩
      exact (HE3.out.setCell (p := ⟨w.heap.size + 1 + 1, 0, none⟩) (by simp; omega) _).setCell (p := ⟨w.heap.size + 1 + 1, 1, none⟩) (by simp; omega) _
  · have ht' : tabOk ps = false := by simpa using ht
    have CT : Hid (∀ W, Pts W A ps → Calls Try.prog 40 #[tv A n c] W fun e w' => e = .returned (.int .i64 11) ∧ Below W.heap.size W w') := Lib.hid fun W hW => checkTable_to A n c ps false 11 W HN.out hm hW ht' rfl
    have he : overE ps x y = 11 := by unfold overE; rw [if_neg ht]
    rw [he]
    clear ht ht' h0 he
    go_enter Try.func48, Try.ntmps48
    go_wp2_with fail
    obtain ⟨W0, hW0⟩ : ∃ W0, ((w.alloc (.cells #[.slice A n c] 43)).alloc (.cells #[.int .i64 x, .int .i64 y] 23)).alloc (.cells #[.int .i64 0, .int .i64 0] 23) = W0 := ⟨_, rfl⟩
    rw [hW0] at HE HK HP ⊢
    clear hW0
    refine (CT.out _ HP.out).mono ?_
    rintro e w3 ⟨rfl, hb1⟩
    have hO := (HK.out.on hb1) _ (.head _)
    have HE3 := Lib.hid (below_then HE.out hb1)
    have r0 := hO.cell 0
    have r1 := hO.cell 1
    have f0 := hO.frozen 0
    have f1 := hO.frozen 1
    have lT := hO.lt
    simp at r0 r1
    clear hb1 hO HK HE HP
    go_wp2
    refine bodyPost_ret (v := .tuple #[rv 0 0, .int .i64 11]) (by simp [results, Try.results48, go_sem, r0, r1, lT]) rfl ⟨rfl, ?_⟩
    exact (HE3.out.setCell (p := ⟨w.heap.size + 1 + 1, 0, none⟩) (by simp; omega) _).setCell (p := ⟨w.heap.size + 1 + 1, 1, none⟩) (by simp; omega) _

theorem over_all (A : Option Addr) (n c : Nat) (ps : List P3) (x y : Int) (w : World) (hn : n = ps.length) (hm : n ≤ maxLen) (hp : Pts w A ps) :
    Calls Try.prog 48 #[tv A n c, rv x y] w fun e w' => e = .returned (rt (overS ps x y)) ∧ Below w.heap.size w w' := by
  by_cases h0 : overE ps x y = 0
  · have ht : tabOk ps = true := by
      cases h : tabOk ps
      · unfold overE at h0; rw [h] at h0; simp at h0
      · rfl
    have hr : vR x y = true := by
      cases h : vR x y
      · unfold overE at h0; rw [if_pos ht, h] at h0; simp at h0
      · rfl
    have hpl : placesS ps x y = 0 := by unfold overE at h0; rw [if_pos ht, if_pos hr] at h0; exact h0
    have h1 := (tabOk_len ht).1
    obtain ⟨b, o, rfl, hb, hc⟩ := hp.block h1
    unfold overS
    rw [if_pos h0]
    exact over_good b o n c ps x y w hn (by omega) hb ht hr hpl hc
  · unfold overS
    rw [if_neg h0]
    exact over_bad A n c ps x y w hn hm hp h0

/-- runs and an error are handed back -/
def RunsE (w : World) (L : List (Int × Int)) (E : Int) (e : Ending) (w' : World) : Prop := ∃ A c, e = .returned (.tuple #[.slice A L.length c, .int .i64 E]) ∧ RunsP w' A L ∧ Below w.heap.size w w'
theorem runsE_of {w w' : World} {L : List (Int × Int)} {e : Ending} (h : GivesRunsOk w L e w') : RunsE w L 0 e w' := givesRow2_of h
theorem runsE_nil {w w' : World} {E : Int} {e : Ending} (h : e = .returned (.tuple #[.slice none 0 0, .int .i64 E]) ∧ Below w.heap.size w w') : RunsE w [] E e w' := ⟨none, 0, h.1, .inl rfl, h.2⟩
/-- the pieces of a table -/
noncomputable def prs (ps : List P3) : List Pr := if h : tabOk ps = true then (rise_list h).choose else []
theorem prs_pcs {ps : List P3} (h : tabOk ps = true) : (prs ps).map (·.1) = pcs ps := by
  unfold prs; rw [dif_pos h]; exact (rise_list h).choose_spec
def whereE (ps : List P3) (a b : Int) : Int := if tabOk ps = true then (if vR a b = true then 0 else 10) else 11
def aboveE (ps : List P3) : Int := if tabOk ps = true then 0 else 11

set_option maxRecDepth 100000 in
set_option maxHeartbeats 2000000 in
theorem where_bad (A : Option Addr) (n c : Nat) (ps : List P3) (x y : Int) (w : World) (hn : n = ps.length) (hm : n ≤ maxLen) (hp : Pts w A ps) (h0 : whereE ps x y ≠ 0) :
    Calls Try.prog 50 #[tv A n c, rv x y] w fun e w' => e = .returned (.tuple #[.slice none 0 0, .int .i64 (whereE ps x y)]) ∧ Below w.heap.size w w' := by
  have hE : Below w.heap.size w ((w.alloc (.cells #[.slice A n c] 43)).alloc (.cells #[.int .i64 x, .int .i64 y] 23)) := below_a2 (Below.refl _ _)
  have hK := (Blk.new (w.alloc (.cells #[.slice A n c] 43)) 23 #[.int .i64 x, .int .i64 y])
  simp only [World.size_alloc] at hK
  have HP := Lib.hid (hp.below hE); have HE := Lib.hid hE; have HK := Lib.hid hK; have HN := Lib.hid hn
  clear hE hK hp hn
  by_cases ht : tabOk ps = true
  · have CT : Hid (∀ W, Pts W A ps → Calls Try.prog 40 #[tv A n c] W fun e w' => e = .returned (.int .i64 0) ∧ Below W.heap.size W w') := Lib.hid fun W hW => checkTable_to A n c ps true 0 W HN.out hm hW ht rfl
    have hr : ¬ vR x y = true := fun hr => h0 (by unfold whereE; rw [if_pos ht, if_pos hr])
    have hr' : vR x y = false := by simpa using hr
    have he : whereE ps x y = 10 := by unfold whereE; rw [if_pos ht, if_neg hr]
    rw [he]
    have HR := Lib.hid hr'
    clear ht hr hr' h0 he
    go_enter Try.func50, Try.ntmps50
    go_wp2_with fail
    obtain ⟨W0, hW0⟩ : ∃ W0, (w.alloc (.cells #[.slice A n c] 43)).alloc (.cells #[.int .i64 x, .int .i64 y] 23) = W0 := ⟨_, rfl⟩
    rw [hW0] at HE HK HP ⊢
    clear hW0
    refine (CT.out _ HP.out).mono ?_
    rintro e w1 ⟨rfl, hb1⟩
    have HK1 := Lib.hid (blkOn HK.out hb1); have HE1 := Lib.hid (below_then HE.out hb1)
    clear hb1 HK HE HP
    have q0 := HK1.out.cell 0
    have q1 := HK1.out.cell 1
    simp at q0 q1
    go_wp2_with fail
    refine (checkRange_bad x y _ HR.out).mono ?_
    rintro e w3 ⟨rfl, hb1⟩
    have HE3 := Lib.hid (below_then HE1.out hb1)
    clear hb1 q0 q1
    go_wp2
    go_ret2
    exact ⟨rfl, HE3.out⟩
  · have ht' : tabOk ps = false := by simpa using ht
    have CT : Hid (∀ W, Pts W A ps → Calls Try.prog 40 #[tv A n c] W fun e w' => e = .returned (.int .i64 11) ∧ Below W.heap.size W w') := Lib.hid fun W hW => checkTable_to A n c ps false 11 W HN.out hm hW ht' rfl
    have he : whereE ps x y = 11 := by unfold whereE; rw [if_neg ht]
    rw [he]
    clear ht ht' h0 he
    go_enter Try.func50, Try.ntmps50
    go_wp2_with fail
    refine (CT.out _ HP.out).mono ?_
    rintro e w3 ⟨rfl, hb1⟩
    have HE3 := Lib.hid (below_then HE.out hb1)
    clear hb1 HK HE HP
    go_wp2
    go_ret2
    exact ⟨rfl, HE3.out⟩
theorem where_all (A : Option Addr) (n c : Nat) (ps : List P3) (x y : Int) (w : World) (hn : n = ps.length) (hm : n ≤ maxLen) (hp : Pts w A ps) :
    Calls Try.prog 50 #[tv A n c, rv x y] w (RunsE w (if whereE ps x y = 0 then runsF (whereS x y) (prs ps) else []) (whereE ps x y)) := by
  by_cases h0 : whereE ps x y = 0
  · have ht : tabOk ps = true := by
      cases h : tabOk ps
      · unfold whereE at h0; rw [h] at h0; simp at h0
      · rfl
    have hr : vR x y = true := by
      cases h : vR x y
      · unfold whereE at h0; rw [if_pos ht, h] at h0; simp at h0
      · rfl
    have h1 := (tabOk_len ht).1
    obtain ⟨b, o, rfl, hb, hc⟩ := hp.block h1
    rw [if_pos h0, h0]
    exact (where_good b o n c ps (prs ps) x y w hn (by omega) hb ht hr (prs_pcs ht) hc).mono fun e w' h => runsE_of h
  · rw [if_neg h0]
    exact (where_bad A n c ps x y w hn hm hp h0).mono fun e w' h => runsE_nil h

set_option maxRecDepth 100000 in
set_option maxHeartbeats 2000000 in
theorem above_bad (A : Option Addr) (n c : Nat) (ps : List P3) (y : Int) (w : World) (hn : n = ps.length) (hm : n ≤ maxLen) (hp : Pts w A ps) (ht' : tabOk ps = false) :
    Calls Try.prog 52 #[tv A n c, .int .i64 y] w fun e w' => e = .returned (.tuple #[.slice none 0 0, .int .i64 11]) ∧ Below w.heap.size w w' := by
  have hE : Below w.heap.size w ((w.alloc (.cells #[.slice A n c] 43)).alloc (.cells #[.int .i64 y] 3)) := below_a2 (Below.refl _ _)
  have HP := Lib.hid (hp.below hE); have HE := Lib.hid hE; have HN := Lib.hid hn
  have CT : Hid (∀ W, Pts W A ps → Calls Try.prog 40 #[tv A n c] W fun e w' => e = .returned (.int .i64 11) ∧ Below W.heap.size W w') := Lib.hid fun W hW => checkTable_to A n c ps false 11 W HN.out hm hW ht' rfl
  clear hE hp hn ht'
  go_enter Try.func52, Try.ntmps52
  go_wp2_with fail
  refine (CT.out _ HP.out).mono ?_
  rintro e w3 ⟨rfl, hb1⟩
  have HE3 := Lib.hid (below_then HE.out hb1)
  clear hb1 HE HP
  go_wp2
  go_ret2
  exact ⟨rfl, HE3.out⟩
theorem above_all (A : Option Addr) (n c : Nat) (ps : List P3) (y : Int) (w : World) (hn : n = ps.length) (hm : n ≤ maxLen) (hp : Pts w A ps) :
    Calls Try.prog 52 #[tv A n c, .int .i64 y] w (RunsE w (if tabOk ps = true then runsF (aboveS y) (prs ps) else []) (aboveE ps)) := by
  by_cases ht : tabOk ps = true
  · have h1 := (tabOk_len ht).1
    obtain ⟨b, o, rfl, hb, hc⟩ := hp.block h1
    unfold aboveE
    rw [if_pos ht, if_pos ht]
    exact (above_good b o n c ps (prs ps) y w hn (by omega) hb ht (prs_pcs ht) hc).mono fun e w' h => runsE_of h
  · unfold aboveE
    rw [if_neg ht, if_neg ht]
    exact (above_bad A n c ps y w hn hm hp (by simpa using ht)).mono fun e w' h => runsE_nil h

/-- Area -/
def areaV (ps : List P3) (a b : Int) : Int × Int × Int := if placesS ps a b = 0 then (areaLo ps a b, areaHi ps a b, 0) else (0, 0, placesS ps a b)
set_option maxRecDepth 100000 in
set_option maxHeartbeats 2000000 in
theorem area_bad (A : Option Addr) (n c : Nat) (ps : List P3) (x y E : Int) (w : World) (hn : n = ps.length) (hm : n ≤ maxLen) (hp : Pts w A ps) (hpl : placesS ps x y = E) (h0 : E ≠ 0) :
    Calls Try.prog 54 #[tv A n c, .int .i64 x, .int .i64 y] w fun e w' => e = .returned (.tuple #[.int .i64 0, .int .i64 0, .int .i64 E]) ∧ Below w.heap.size w w' := by
  have hE : Below w.heap.size w (((w.alloc (.cells #[.slice A n c] 43)).alloc (.cells #[.int .i64 x] 3)).alloc (.cells #[.int .i64 y] 3)) := below_a3 (Below.refl _ _)
  have HP := Lib.hid (hp.below hE); have HE := Lib.hid hE; have HN := Lib.hid hn; have HPL := Lib.hid hpl
  have hz : (E == 0) = false := beq_eq_false_iff_ne.2 h0
  clear hE hp hn hpl
  go_enter Try.func54, Try.ntmps54
  go_wp2_with fail
  refine (checkPlaces_to _ n c ps x y E _ HN.out hm HP.out HPL.out).mono ?_
  rintro e w1 ⟨rfl, hb1⟩
  have HE1 := Lib.hid (below_then HE.out hb1)
  clear hb1 HE HP
  go_wp2
  go_ret3
  exact ⟨rfl, HE1.out⟩
theorem area_all (A : Option Addr) (n c : Nat) (ps : List P3) (x y : Int) (w : World) (hn : n = ps.length) (hm : n ≤ maxLen) (hp : Pts w A ps) :
    Calls Try.prog 54 #[tv A n c, .int .i64 x, .int .i64 y] w fun e w' => e = .returned (.tuple #[.int .i64 (areaV ps x y).1, .int .i64 (areaV ps x y).2.1, .int .i64 (areaV ps x y).2.2]) ∧ Below w.heap.size w w' := by
  by_cases h : placesS ps x y = 0
  · obtain ⟨ht, hxy, hf, hl⟩ := places_ok h
    have h1 := (tabOk_len ht).1
    obtain ⟨b, o, rfl, hb, hc⟩ := hp.block h1
    unfold areaV
    rw [if_pos h]
    exact area_to b o n c ps x y w hn hb h hc
  · unfold areaV
    rw [if_neg h]
    exact area_bad A n c ps x y _ w hn hm hp rfl h
end

section
open Go.RowKit

/-- what a side asks at a place -/
def sideS (ps : List P3) (kind v : Int) (x : Int) : Bool := if kind = 1 then decide ((atS ps x).1 ≤ v) else if kind = 2 then decide (v ≤ (atS ps x).2) else decide (v ≤ (atS ps x).1)

set_option maxRecDepth 100000 in
set_option maxHeartbeats 2000000 in
theorem side_any (b o n c : Nat) (ps : List P3) (x kind v : Int) (w : World) (hn : n = ps.length) (hb : b < w.heap.size) (ht : tabOk ps = true) (h1 : firstX ps ≤ x) (h2 : x ≤ lastX ps) (hc : PtsAt w b o ps) (hk : kind = 1 ∨ kind = 2 ∨ kind = 3) :
    Calls Try.prog 138 #[tv (some ⟨b, o, none⟩) n c, .int .i64 x, .int .i64 kind, .int .i64 v] w fun e w' => e = .returned (.bool (sideS ps kind v x)) ∧ Below w.heap.size w w' := by
  have hE := below_alloc1 w (.cells #[.slice (some ⟨b, o, none⟩) n c] 43)
  obtain ⟨ra, rb, hr⟩ : ∃ ra rb, atS ps x = (ra, rb) := ⟨_, _, rfl⟩
  have HA := Lib.hid (rAt_to b o n c ps x ra rb _ hn (Nat.lt_of_lt_of_le hb hE.size) ht h1 h2 (hc.below hE hb) hr)
  have HE := Lib.hid hE
  have e1 : sideS ps 1 v x = decide (ra ≤ v) := by simp [sideS, hr]
  have e2 : sideS ps 2 v x = decide (v ≤ rb) := by simp [sideS, hr]
  have e3 : sideS ps 3 v x = decide (v ≤ ra) := by simp [sideS, hr]
  rcases hk with rfl | rfl | rfl
  · rw [e1]
    clear e1 e2 e3 hE hr hc hn ht h1 h2 hb
    go_enter Try.func138, Try.ntmps138
    go_wp2_with fail
    refine (HA.out).mono ?_
    rintro e w1 ⟨rfl, hb1⟩
    have HE1 := Lib.hid (below_then (below_then HE.out hb1) (below_alloc1 w1 (.cells #[.int .i64 ra, .int .i64 rb] 23)))
    clear hb1
    go_wp2
    go_ret
    exact ⟨rfl, HE1.out⟩
  · rw [e2]
    clear e1 e2 e3 hE hr hc hn ht h1 h2 hb
    go_enter Try.func138, Try.ntmps138
    go_wp2_with fail
    refine (HA.out).mono ?_
    rintro e w1 ⟨rfl, hb1⟩
    have HE1 := Lib.hid (below_then (below_then HE.out hb1) (below_alloc1 w1 (.cells #[.int .i64 ra, .int .i64 rb] 23)))
    clear hb1
    go_wp2
    go_ret
    exact ⟨rfl, HE1.out⟩
  · rw [e3]
    clear e1 e2 e3 hE hr hc hn ht h1 h2 hb
    go_enter Try.func138, Try.ntmps138
    go_wp2_with fail
    refine (HA.out).mono ?_
    rintro e w1 ⟨rfl, hb1⟩
    have HE1 := Lib.hid (below_then (below_then HE.out hb1) (below_alloc1 w1 (.cells #[.int .i64 ra, .int .i64 rb] 23)))
    clear hb1
    go_wp2
    go_ret
    exact ⟨rfl, HE1.out⟩

/-- what begins tells -/
def beginsS (so : Int → Bool) (a b : Int) : Int × Int × Bool := if (stretchS so a b).1 ≤ (stretchS so a b).2 then ((stretchS so a b).1, (stretchS so a b).2, true) else (0, 0, false)
theorem begins_same {so : Int → Bool} {a b : Int} (hab : a ≤ b) (h : so a = so b) : beginsS so a b = if so a = true then (a, b, true) else (0, 0, false) := by
  unfold beginsS stretchS
  rw [if_pos h]
  by_cases c : so a = true
  · rw [if_pos c, if_pos c, if_pos hab]
  · rw [if_neg c, if_neg c]
    dsimp only
    rw [if_neg (by omega)]
theorem begins_turn {so : Int → Bool} {a b l h : Int} (hab : a ≤ b) (ho : OneWay so a b) (hne : ¬ so a = so b) (h1 : a ≤ l) (h2 : h = l + 1) (h3 : h ≤ b) (hl : so l = so a) (hh : so h = so b) :
    beginsS so a b = if so a = true then (a, l, true) else (h, b, true) := by
  obtain ⟨t, ht, t1, t2, t3, t4⟩ := stretch_turn hab ho hne
  have e1 : l < t := by
    rcases Int.lt_or_le l t with c | c
    · exact c
    · have := t4 l c (by omega); rw [hl] at this; exact absurd this hne
  have e2 : t ≤ h := by
    rcases Int.lt_or_le h t with c | c
    · have := t3 h (by omega) c; rw [hh] at this; exact absurd this.symm hne
    · exact c
  have e3 : t = h := by omega
  subst e3
  unfold beginsS stretchS
  rw [if_neg hne, ht]
  by_cases c : so a = true
  · rw [if_pos c, if_pos c]
    dsimp only
    rw [if_pos (by omega), show t - 1 = l by omega]
  · rw [if_neg c, if_neg c]
    dsimp only
    rw [if_pos (by omega)]
abbrev bt (r : Int × Int × Bool) : Value := .tuple #[.int .i64 r.1, .int .i64 r.2.1, .bool r.2.2]

set_option maxRecDepth 100000 in
set_option maxHeartbeats 4000000 in
theorem begins_any (b o n c : Nat) (ps : List P3) (x y kind v : Int) (w : World) (hn : n = ps.length) (hb : b < w.heap.size) (ht : tabOk ps = true) (h1 : firstX ps ≤ x) (hxy : x ≤ y) (h2 : y ≤ lastX ps) (hc : PtsAt w b o ps) (hk : kind = 1 ∨ kind = 2 ∨ kind = 3)
    (ho : OneWay (sideS ps kind v) x y) :
    Calls Try.prog 130 #[tv (some ⟨b, o, none⟩) n c, .int .i64 x, .int .i64 y, .int .i64 kind, .int .i64 v] w fun e w' => e = .returned (bt (beginsS (sideS ps kind v) x y)) ∧ Below w.heap.size w w' := by
  obtain ⟨pl1, pl2⟩ := places_in ht
  have CS : Hid (∀ W z t, Below w.heap.size w W → firstX ps ≤ z → z ≤ lastX ps → sideS ps kind v z = t → Calls Try.prog 138 #[tv (some ⟨b, o, none⟩) n c, .int .i64 z, .int .i64 kind, .int .i64 v] W fun e w' => e = .returned (.bool t) ∧ Below W.heap.size W w') := Lib.hid fun W z t hW g1 g2 hz =>
    bool_to (side_any b o n c ps z kind v W hn (Nat.lt_of_lt_of_le hb hW.size) ht g1 g2 (hc.below hW hb) hk) hz
  have hE := below_alloc1 w (.cells #[.slice (some ⟨b, o, none⟩) n c] 43)
  have hT := Blk.new w 43 #[.slice (some ⟨b, o, none⟩) n c]
  have HE := Lib.hid hE; have HT := Lib.hid hT
  generalize sideS ps kind v = so at *
  obtain ⟨s0, hs0⟩ : ∃ t, so x = t := ⟨_, rfl⟩
  obtain ⟨s1, hs1⟩ : ∃ t, so y = t := ⟨_, rfl⟩
  have b1 : 0 ≤ x := by omega
  have b2 : y ≤ 1000000 := by omega
  have HS := Lib.hid (And.intro hs0 hs1); have HO := Lib.hid ho; have HX := Lib.hid (And.intro h1 h2)
  clear hE hT hn ht hc hk ho pl1 pl2 hs0 hs1 h1 h2
  go_enter Try.func130, Try.ntmps130
  go_wp2_with fail
  obtain ⟨W0, hW0⟩ : ∃ W0, w.alloc (.cells #[.slice (some ⟨b, o, none⟩) n c] 43) = W0 := ⟨_, rfl⟩
  rw [hW0] at HE HT ⊢
  clear hW0
  refine (CS.out W0 x s0 HE.out HX.out.1 (by have := HX.out.2; omega) HS.out.1).mono ?_
  rintro e w1 ⟨rfl, hb1⟩
  have HE1 := Lib.hid (below_then HE.out hb1); have HT1 := Lib.hid (blkOn HT.out hb1)
  clear hb1 HE HT
  have q0 := HT1.out.cell 0
  simp at q0
  go_wp2_with fail
  refine (CS.out w1 y s1 HE1.out (by have := HX.out.1; omega) HX.out.2 HS.out.2).mono ?_
  rintro e w2 ⟨rfl, hb1⟩
  have HE2 := Lib.hid (below_then HE1.out hb1); have HT2 := Lib.hid (blkOn HT1.out hb1)
  clear hb1 HE1 HT1 q0
  by_cases he : s0 = s1
  · subst he
    have hr := begins_same hxy (HS.out.1.trans HS.out.2.symm)
    rw [HS.out.1] at hr
    cases s0
    · have HR := Lib.hid hr
      clear hr
      go_wp2
      go_ret3
      exact ⟨by rw [HR.out]; rfl, HE2.out⟩
    · have HR := Lib.hid hr
      clear hr
      go_wp2
      go_ret3
      exact ⟨by rw [HR.out]; rfl, HE2.out⟩
  · have hlt : x < y := by
      rcases Int.lt_or_le x y with d | d
      · exact d
      · exfalso
        have : x = y := by omega
        subst this
        exact he (HS.out.1.symm.trans HS.out.2)
    have HNE := Lib.hid (show ¬ so x = so y by rw [HS.out.1, HS.out.2]; exact he)
    cases s0 <;> cases s1
    · exact absurd rfl he
    · clear he
      go_wp2_with fail
      go_loopw [15, 16] (fun vl vh wr => ∃ l h : Int, x ≤ l ∧ l < h ∧ h ≤ y ∧ vl = .int .i64 l ∧ vh = .int .i64 h ∧ Hid (so l = false ∧ so h = true) ∧ Below w2.heap.size w2 wr) (fun vl vh _ => (intOf vh - intOf vl).toNat)
      case atStart => exact ⟨x, y, Int.le_refl _, hlt, Int.le_refl _, rfl, rfl, HS, Below.refl _ _⟩
      case round =>
        obtain ⟨l, h, g1, g2, g3, rfl, rfl, HL, hB⟩ := hrel
        by_cases hd : 1 < h - l
        · obtain ⟨m, hm⟩ : ∃ m, l + (h - l) / 2 = m := ⟨_, rfl⟩
          have m1 : l < m := by omega
          have m2 : m < h := by omega
          have hB2 := below_then HE2.out hB
          have q0 := (blkOn HT2.out hB).cell 0
          simp at q0
          have HM := Lib.hid hm
          have HB := Lib.hid hB; have HB2 := Lib.hid hB2
          clear hB hB2
          cases hs : so m
          · have HSM := Lib.hid hs
            clear hs
            go_wp2_with fail
            refine (CS.out _ m false HB2.out (by have := HX.out.1; omega) (by have := HX.out.2; omega) HSM.out).mono ?_
            rintro e w3 ⟨rfl, hb1⟩
            have HB3 := Lib.hid (below_then HB.out hb1)
            clear hb1 q0
            go_wp2
            go_roundw
            case rel => exact ⟨m, h, by omega, m2, g3, rfl, rfl, Lib.hid ⟨HSM.out, HL.out.2⟩, HB3.out⟩
            case measure => simp [intOf]; omega
          · have HSM := Lib.hid hs
            clear hs
            go_wp2_with fail
            refine (CS.out _ m true HB2.out (by have := HX.out.1; omega) (by have := HX.out.2; omega) HSM.out).mono ?_
            rintro e w3 ⟨rfl, hb1⟩
            have HB3 := Lib.hid (below_then HB.out hb1)
            clear hb1 q0
            go_wp2
            go_roundw
            case rel => exact ⟨l, m, g1, m1, by omega, rfl, rfl, Lib.hid ⟨HL.out.1, HSM.out⟩, HB3.out⟩
            case measure => simp [intOf]; omega
        · have hr := begins_turn hxy HO.out HNE.out g1 (show h = l + 1 by omega) g3 (HL.out.1.trans HS.out.1.symm) (HL.out.2.trans HS.out.2.symm)
          rw [HS.out.1] at hr
          have HR := Lib.hid hr
          have HB := Lib.hid (below_then HE2.out hB)
          clear hr hB
          go_wp2
          go_ret3
          exact ⟨by rw [HR.out]; rfl, HB.out⟩
    · clear he
      go_wp2_with fail
      go_loopw [15, 16] (fun vl vh wr => ∃ l h : Int, x ≤ l ∧ l < h ∧ h ≤ y ∧ vl = .int .i64 l ∧ vh = .int .i64 h ∧ Hid (so l = true ∧ so h = false) ∧ Below w2.heap.size w2 wr) (fun vl vh _ => (intOf vh - intOf vl).toNat)
      case atStart => exact ⟨x, y, Int.le_refl _, hlt, Int.le_refl _, rfl, rfl, HS, Below.refl _ _⟩
      case round =>
        obtain ⟨l, h, g1, g2, g3, rfl, rfl, HL, hB⟩ := hrel
        by_cases hd : 1 < h - l
        · obtain ⟨m, hm⟩ : ∃ m, l + (h - l) / 2 = m := ⟨_, rfl⟩
          have m1 : l < m := by omega
          have m2 : m < h := by omega
          have hB2 := below_then HE2.out hB
          have q0 := (blkOn HT2.out hB).cell 0
          simp at q0
          have HM := Lib.hid hm
          have HB := Lib.hid hB; have HB2 := Lib.hid hB2
          clear hB hB2
          cases hs : so m
          · have HSM := Lib.hid hs
            clear hs
            go_wp2_with fail
            refine (CS.out _ m false HB2.out (by have := HX.out.1; omega) (by have := HX.out.2; omega) HSM.out).mono ?_
            rintro e w3 ⟨rfl, hb1⟩
            have HB3 := Lib.hid (below_then HB.out hb1)
            clear hb1 q0
            go_wp2
            go_roundw
            case rel => exact ⟨l, m, g1, m1, by omega, rfl, rfl, Lib.hid ⟨HL.out.1, HSM.out⟩, HB3.out⟩
            case measure => simp [intOf]; omega
          · have HSM := Lib.hid hs
            clear hs
            go_wp2_with fail
            refine (CS.out _ m true HB2.out (by have := HX.out.1; omega) (by have := HX.out.2; omega) HSM.out).mono ?_
            rintro e w3 ⟨rfl, hb1⟩
            have HB3 := Lib.hid (below_then HB.out hb1)
            clear hb1 q0
            go_wp2
            go_roundw
            case rel => exact ⟨m, h, by omega, m2, g3, rfl, rfl, Lib.hid ⟨HSM.out, HL.out.2⟩, HB3.out⟩
            case measure => simp [intOf]; omega
        · have hr := begins_turn hxy HO.out HNE.out g1 (show h = l + 1 by omega) g3 (HL.out.1.trans HS.out.1.symm) (HL.out.2.trans HS.out.2.symm)
          rw [HS.out.1] at hr
          have HR := Lib.hid hr
          have HB := Lib.hid (below_then HE2.out hB)
          clear hr hB
          go_wp2
          go_ret3
          exact ⟨by rw [HR.out]; rfl, HB.out⟩
    · exact absurd rfl he
end

section
open Go.RowKit
attribute [local go_sem ↓] run_minI run_maxI

/-- A row of runs is handed back, what lies below base left as it was. -/
def AddsR (base : Nat) (w : World) (L : List (Int × Int)) (e : Ending) (w' : World) : Prop := ∃ v, e = .returned v ∧ OwnRuns base w' v L ∧ Below base w w' ∧ w.heap.size ≤ w'.heap.size
theorem OwnRuns.slice {base : Nat} {X : World} {v : Value} {L : List (Int × Int)} (ho : OwnRuns base X v L) : ∃ p c, v = .slice p L.length c := by
  obtain ⟨A, c, h, _⟩ := ho.runsP
  exact ⟨A, c, h⟩

set_option maxRecDepth 100000 in
set_option maxHeartbeats 2000000 in
theorem radd_push (base : Nat) (A : Option Addr) (c : Nat) (L : List (Int × Int)) (a b : Int) (w : World) (ho : OwnRuns base w (.slice A L.length c) L) (hbase : base ≤ w.heap.size) (hm : L.length ≤ 1000)
    (hq : L.length = 0 ∨ ∃ g2 z, 0 < L.length ∧ A = some ⟨g2, 0, none⟩ ∧ g2 < w.heap.size ∧ w.cell? ⟨g2, (L.length - 1) * 2 + 1, none⟩ = some (.int .i64 z) ∧ ¬ a ≤ z + 1 ∧ 0 ≤ z ∧ z ≤ 1000000) :
    Calls Try.prog 131 #[.slice A L.length c, rv a b] w (AddsR base w (L ++ [(a, b)])) := by
  obtain ⟨i0, hi, hz0, hz1, hz2⟩ := info_parts Try.infoR
  have HOW : Hid (∀ k, ((((w.alloc (.cells #[.int .i64 a, .int .i64 b] 23)).drewN k).alloc (.cells #[.int .i64 a, .int .i64 b] 23)).ownsRow base 23 2 (.slice A L.length c) L.length (runCells L))) := Lib.hid fun k =>
    World.ownsRow.alloc (ownsRow_drewN (World.ownsRow.alloc (show w.ownsRow base 23 2 (.slice A L.length c) L.length (runCells L) from ho) (.cells #[.int .i64 a, .int .i64 b] 23)) k) (.cells #[.int .i64 a, .int .i64 b] 23)
  have hcell : ∀ k (j : Nat) (u : Value), [Value.int .i64 a, .int .i64 b][j]? = some u → (((w.alloc (.cells #[.int .i64 a, .int .i64 b] 23)).drewN k).alloc (.cells #[.int .i64 a, .int .i64 b] 23)).cell? ((⟨w.heap.size + 1, 0, none⟩ : Addr).add j) = some u := fun k => by
    have h1 := heap_alloc_new ((w.alloc (.cells #[.int .i64 a, .int .i64 b] 23)).drewN k) (.cells #[.int .i64 a, .int .i64 b] 23)
    have h2 : ((w.alloc (.cells #[.int .i64 a, .int .i64 b] 23)).drewN k).heap.size = w.heap.size + 1 := by show (w.alloc _).heap.size = _; simp
    rw [h2] at h1
    exact World.news_of_block (cs := #[.int .i64 a, .int .i64 b]) (t := 23) (fr := (0, 0)) h1
  have HCE := Lib.hid hcell; clear hcell
  have HB : Hid (∀ k, Below base w (((w.alloc (.cells #[.int .i64 a, .int .i64 b] 23)).drewN k).alloc (.cells #[.int .i64 a, .int .i64 b] 23))) := Lib.hid fun k =>
    ((below_drewM ((Below.refl base w).alloc hbase (.cells #[.int .i64 a, .int .i64 b] 23)) k).alloc (by show base ≤ (w.alloc _).heap.size; simp; omega) (.cells #[.int .i64 a, .int .i64 b] 23))
  have HROW : Hid (∀ i, Value.ownBlock (.slice A L.length c) = some i → base ≤ i) := Lib.hid fun i e => (World.ownsRow.lt (show World.ownsRow w base 23 2 (.slice A L.length c) _ _ from ho) i e).1
  have hsnoc := runCells_snoc L (a, b)
  have hlen : (L ++ [(a, b)]).length = L.length + 1 := by simp
  have HSN := Lib.hid (And.intro hsnoc hlen)
  clear hsnoc hlen ho
  rcases hq with h0 | ⟨g2, z, hl, rfl, hg2, hz, hlt, z0, z1⟩
  · obtain ⟨n, hn⟩ : ∃ n, L.length = n := ⟨_, rfl⟩
    rw [hn] at h0 HOW HROW HSN ⊢
    subst h0
    have HN := Lib.hid hn
    clear hn
    go_enter Try.func131, Try.ntmps131
    go_wp2_with fail
    go_quiet (fail)
    go_wp2_with (at_builtin; refine wpList_append_lies _ rfl (.tmp 38) (.tmp 40) 55 rfl base 23 i0 _ 2 16 Try.underlying55 hi hz0 hz1 hz2 rfl (by omega) (.slice A 0 c) 0 (runCells L) rfl (HOW.out _) ⟨w.heap.size + 1, 0, none⟩ 1 1 [.int .i64 a, .int .i64 b] rfl rfl (HCE.out _) ?c1 (by omega) ?c2 ?c3 ?c4 (w.heap.size + 1 + 1) ?c5 ?_)
    case c1 => simp [Value.oneCell']
    case c2 => simp [maxLen]
    case c3 => omega
    case c4 => simp; omega
    case c5 => simp
    intro gg cap w5 hown1 hgrow hat hlt5
    have hB5 := (HB.out _).grown hgrow (by simp; omega) (fun i e => by have := HROW.out i e; omega)
    have hs5 : w.heap.size ≤ w5.heap.size := by have := hgrow.size; simp at this; omega
    have HO5 : Hid (OwnRuns base w5 (.slice (some ⟨gg, 0, none⟩) (0 + 1) cap) (L ++ [(a, b)])) := Lib.hid (by unfold OwnRuns; rw [HSN.out.1, HSN.out.2]; exact hown1)
    have HB5 := Lib.hid hB5
    clear hown1 hgrow hat hB5
    go_wp2
    go_ret
    exact ⟨_, rfl, HO5.out, HB5.out, hs5⟩
  · obtain ⟨m, hn⟩ : ∃ n, L.length = n + 1 := ⟨L.length - 1, by omega⟩
    rw [hn, Nat.add_sub_cancel] at hz
    rw [hn] at hm HOW HROW HSN ⊢
    have k1 : (0 : Int) ≤ (m : Int) := by omega
    have k2 : (m : Int) < (m : Int) + 1 := by omega
    have k3 : IntKind.i64.wrap ((m : Int) + 1 - 1) = (m : Int) := by rw [IntWalk.i64_in _ ⟨by omega, by omega⟩]; omega
    have k4 : IntKind.i64.wrap (z + 1) = z + 1 := IntWalk.i64_in _ ⟨by omega, by omega⟩
    have k5 : decide (a ≤ z + 1) = false := decide_eq_false hlt
    have HN := Lib.hid hn
    clear hn hl
    go_enter Try.func131, Try.ntmps131
    go_wp2_with fail
    go_quiet (fail)
    go_wp2_with (at_builtin; refine wpList_append_lies _ rfl (.tmp 38) (.tmp 40) 55 rfl base 23 i0 _ 2 16 Try.underlying55 hi hz0 hz1 hz2 rfl (by omega) (.slice (some ⟨g2, 0, none⟩) (m + 1) c) (m + 1) (runCells L) rfl (HOW.out _) ⟨w.heap.size + 1, 0, none⟩ 1 1 [.int .i64 a, .int .i64 b] rfl rfl (HCE.out _) ?c1 (by omega) ?c2 ?c3 ?c4 (w.heap.size + 1 + 1) ?c5 ?_)
    case c1 => simp [Value.oneCell']
    case c2 => simp [maxLen]; omega
    case c3 => omega
    case c4 => simp; omega
    case c5 => simp
    intro gg cap w5 hown1 hgrow hat hlt5
    have hB5 := (HB.out _).grown hgrow (by simp; omega) (fun i e => by have := HROW.out i e; omega)
    have hs5 : w.heap.size ≤ w5.heap.size := by have := hgrow.size; simp at this; omega
    have HO5 : Hid (OwnRuns base w5 (.slice (some ⟨gg, 0, none⟩) (m + 1 + 1) cap) (L ++ [(a, b)])) := Lib.hid (by unfold OwnRuns; rw [HSN.out.1, HSN.out.2]; exact hown1)
    have HB5 := Lib.hid hB5
    clear hown1 hgrow hat hB5
    go_wp2
    go_ret
    exact ⟨_, rfl, HO5.out, HB5.out, hs5⟩

set_option maxRecDepth 100000 in
set_option maxHeartbeats 2000000 in
theorem radd_merge (base : Nat) (v : Value) (init : List (Int × Int)) (z : Int × Int) (a b : Int) (w : World) (ho : OwnRuns base w v (init ++ [z])) (hbase : base ≤ w.heap.size) (hm : init.length ≤ 1000) (h1 : a ≤ z.2 + 1) (z0 : 0 ≤ z.2) (z1 : z.2 ≤ 1000000) :
    Calls Try.prog 131 #[v, rv a b] w (AddsR base w (init ++ [(z.1, max z.2 b)])) := by
  have ho' : w.ownsRow base 23 2 v (init.length + 1) (runCells (init ++ [z])) := by unfold OwnRuns at ho; rwa [List.length_append] at ho
  obtain ⟨g2, cap, rfl, hbg, hgl2⟩ := ho'.form (by omega)
  have hz := (ho'.cellAt (init.length * 2 + 1) (by omega)).trans (runCells_last init z)
  have hfz := ho'.frozenAt (init.length * 2 + 1)
  obtain ⟨M, hM⟩ : ∃ M, max z.2 b = M := ⟨_, rfl⟩
  rw [hM]
  have HO := Lib.hid ho'; clear ho ho'
  generalize hml : init.length = m at *
  have k1 : (0 : Int) ≤ (m : Int) := by omega
  have k2 : (m : Int) < (m : Int) + 1 := by omega
  have k3 : IntKind.i64.wrap ((m : Int) + 1 - 1) = (m : Int) := by rw [IntWalk.i64_in _ ⟨by omega, by omega⟩]; omega
  have k4 : IntKind.i64.wrap (z.2 + 1) = z.2 + 1 := IntWalk.i64_in _ ⟨by omega, by omega⟩
  have k5 : decide (a ≤ z.2 + 1) = true := decide_eq_true h1
  have HML := Lib.hid hml; clear hml
  go_enter Try.func131, Try.ntmps131
  go_wp2_with fail
  go_quiet (fail)
  go_wp2_with fail
  go_region
  all_goals
    have hX : ∀ k, (((w.alloc (.cells #[.int .i64 a, .int .i64 b] 23)).drewN k).setCell ⟨g2, m * 2 + 1, none⟩ (.int .i64 M)).ownsRow base 23 2 (.slice (some ⟨g2, 0, none⟩) (m + 1) cap) (m + 1) (runCells (init ++ [(z.1, M)])) := fun k => by
      have h2 := (ownsRow_drewN (HO.out.alloc (.cells #[.int .i64 a, .int .i64 b] 23)) k)
      have hst := (h2.stored (m * 2 + 1) (.int .i64 M)).1
      rw [← HML.out, runCells_set] at hst
      rw [← HML.out]
      exact hst
    have hB : ∀ k, Below base w (((w.alloc (.cells #[.int .i64 a, .int .i64 b] 23)).drewN k).setCell ⟨g2, m * 2 + 1, none⟩ (.int .i64 M)) := fun k =>
      (below_drewM ((Below.refl base w).alloc hbase (.cells #[.int .i64 a, .int .i64 b] 23)) k).setCell (p := ⟨g2, m * 2 + 1, none⟩) hbg _
    have HX := Lib.hid hX; have HB := Lib.hid hB
    clear hX hB
    go_wp2
    go_ret
    refine ⟨_, rfl, ?_, HB.out _, by simp [World.setCell]⟩
    unfold OwnRuns
    rw [List.length_append, HML.out]
    exact HX.out _

theorem radd_any (base : Nat) (v : Value) (L : List (Int × Int)) (a b : Int) (w : World) (ho : OwnRuns base w v L) (hbase : base ≤ w.heap.size) (hm : L.length ≤ 1000) (hz : ∀ z ∈ L, 0 ≤ z.2 ∧ z.2 ≤ 1000000) :
    Calls Try.prog 131 #[v, rv a b] w (AddsR base w (addRunS L (a, b))) := by
  cases hl : L.getLast? with
  | none =>
    have h0 : L = [] := List.getLast?_eq_none_iff.1 hl
    obtain ⟨p, c, rfl⟩ := ho.slice
    have e : addRunS L (a, b) = L ++ [(a, b)] := by rw [h0]; rfl
    rw [e]
    exact radd_push base p c L a b w ho hbase hm (.inl (by rw [h0]; rfl))
  | some z =>
    obtain ⟨init, rfl⟩ : ∃ init, L = init ++ [z] := List.getLast?_eq_some_iff.1 hl
    have bz := hz z (by simp)
    by_cases h1 : a ≤ z.2 + 1
    · have e : addRunS (init ++ [z]) (a, b) = init ++ [(z.1, max z.2 b)] := by unfold addRunS; rw [hl]; dsimp only; rw [if_pos h1, List.dropLast_concat]
      rw [e]
      exact radd_merge base v init z a b w ho hbase (by simp at hm; omega) h1 bz.1 bz.2
    · have e : addRunS (init ++ [z]) (a, b) = init ++ [z] ++ [(a, b)] := by unfold addRunS; rw [hl]; dsimp only; rw [if_neg h1]
      rw [e]
      have ho' : w.ownsRow base 23 2 v (init.length + 1) (runCells (init ++ [z])) := by have := ho; unfold OwnRuns at this; rwa [List.length_append] at this
      obtain ⟨g2, cap, rfl, hbg, hgl2⟩ := ho'.form (by omega)
      have hcz := (ho'.cellAt (init.length * 2 + 1) (by omega)).trans (runCells_last init z)
      have ho2 : OwnRuns base w (.slice (some ⟨g2, 0, none⟩) (init ++ [z]).length cap) (init ++ [z]) := by rw [List.length_append]; exact ho
      have := radd_push base (some ⟨g2, 0, none⟩) cap (init ++ [z]) a b w ho2 hbase hm (.inr ⟨g2, z.2, by simp, rfl, hgl2, by rw [List.length_append, List.length_singleton, Nat.add_sub_cancel]; exact hcz, h1, bz.1, bz.2⟩)
      rw [List.length_append] at this
      exact this
end

section
open Go.RowKit
attribute [local go_sem ↓] run_minI run_maxI

/-- the places of a piece at which two sides are so -/
def pairS (ps : List P3) (k1 v1 k2 v2 : Int) (p q : P3) : Int × Int :=
  (max (stretchS (sideS ps k1 v1) p.1 q.1).1 (stretchS (sideS ps k2 v2) p.1 q.1).1, min (stretchS (sideS ps k1 v1) p.1 q.1).2 (stretchS (sideS ps k2 v2) p.1 q.1).2)
/-- the point behind a point, or itself -/
theorem seg_at {ps : List P3} (ht : tabOk ps = true) {k : Nat} {p q : P3} (hp : ps[k]? = some p) (hq : ps[k + 1]?.getD p = q) : p.1 ≤ q.1 ∧ q ∈ ps ∧ ∀ x, p.1 ≤ x → x ≤ q.1 → atS ps x = pAt p q x := by
  cases h : ps[k + 1]? with
  | none =>
    rw [h] at hq
    simp at hq
    subst hq
    refine ⟨Int.le_refl _, List.mem_of_getElem? hp, fun x h1 h2 => ?_⟩
    have : x = p.1 := by omega
    subst this
    rw [atS_point ht (List.mem_of_getElem? hp), pAt_start]
  | some z =>
    rw [h] at hq
    simp at hq
    subst hq
    have h2 : 2 ≤ ps.length := by have := (List.getElem?_eq_some_iff.1 h).1; omega
    exact ⟨Int.le_of_lt (rising_at ht hp h (by omega)), List.mem_of_getElem? h, fun x g1 g2 => atS_any ht (pcs_at h2 hp h) g1 g2⟩
theorem side_way {ps : List P3} {p q : P3} (hs : ∀ x, p.1 ≤ x → x ≤ q.1 → atS ps x = pAt p q x) (kind v : Int) : OneWay (sideS ps kind v) p.1 q.1 := by
  have e : ∀ x, p.1 ≤ x → x ≤ q.1 → sideS ps kind v x = (if kind = 1 then lowSo p q 0 v x else if kind = 2 then highSo p q v 0 x else aboveSo p q v x) := fun x h1 h2 => by
    unfold sideS; rw [hs x h1 h2]; rfl
  have ow : OneWay (fun x => if kind = 1 then lowSo p q 0 v x else if kind = 2 then highSo p q v 0 x else aboveSo p q v x) p.1 q.1 := by
    by_cases k1 : kind = 1
    · simp only [k1, if_true]; exact lowSo_way p q 0 v _ _
    · by_cases k2 : kind = 2
      · simp only [k2, if_true]; exact highSo_way p q v 0 _ _
      · simp only [k1, k2, if_false]; exact aboveSo_way p q v _ _
  rcases ow with m | m
  · exact .inl fun x y a b c h => by rw [e y (by omega) c]; rw [e x a (by omega)] at h; exact m x y a b c h
  · exact .inr fun x y a b c h => by rw [e x a (by omega)]; rw [e y (by omega) c] at h; exact m x y a b c h
theorem pair_in {ps : List P3} {p q : P3} (hpq : p.1 ≤ q.1) (hs : ∀ x, p.1 ≤ x → x ≤ q.1 → atS ps x = pAt p q x) (k1 v1 k2 v2 : Int) :
    p.1 ≤ (pairS ps k1 v1 k2 v2 p q).1 ∧ (pairS ps k1 v1 k2 v2 p q).2 ≤ q.1 := by
  have s1 := (stretch_iff hpq (side_way hs k1 v1)).2
  have s2 := (stretch_iff hpq (side_way hs k2 v2)).2
  unfold pairS
  dsimp only
  omega
theorem addRunS_mem {L : List (Int × Int)} {r z : Int × Int} {B : Int} (hL : ∀ y ∈ L, 0 ≤ y.2 ∧ y.2 ≤ B) (hr : 0 ≤ r.2 ∧ r.2 ≤ B) (hz : z ∈ addRunS L r) : 0 ≤ z.2 ∧ z.2 ≤ B := by
  unfold addRunS at hz
  cases hl : L.getLast? with
  | none => rw [hl] at hz; simp at hz; subst hz; exact hr
  | some y =>
    obtain ⟨init, rfl⟩ : ∃ init, L = init ++ [y] := List.getLast?_eq_some_iff.1 hl
    rw [hl] at hz
    dsimp only at hz
    have hy := hL y (by simp)
    split at hz
    · rw [List.dropLast_concat] at hz
      rcases List.mem_append.1 hz with h | h
      · exact hL z (List.mem_append.2 (.inl h))
      · simp at h; subst h; dsimp only; omega
    · rcases List.mem_append.1 hz with h | h
      · exact hL z h
      · simp at h; subst h; exact hr
theorem addRunS_len (L : List (Int × Int)) (r : Int × Int) : (addRunS L r).length ≤ L.length + 1 := by
  unfold addRunS
  cases hl : L.getLast? with
  | none => simp
  | some y =>
    obtain ⟨init, rfl⟩ : ∃ init, L = init ++ [y] := List.getLast?_eq_some_iff.1 hl
    dsimp only
    split
    · rw [List.dropLast_concat]; simp
    · simp
theorem specPre_in {ps : List P3} (ht : tabOk ps = true) (k1 v1 k2 v2 : Int) : ∀ k, (specPre (pairS ps k1 v1 k2 v2) ps k).length ≤ k ∧ ∀ z ∈ specPre (pairS ps k1 v1 k2 v2) ps k, 0 ≤ z.2 ∧ z.2 ≤ 1000000
  | 0 => ⟨by simp [specPre], fun z hz => by simp [specPre] at hz⟩
  | k + 1 => by
    obtain ⟨ih1, ih2⟩ := specPre_in ht k1 v1 k2 v2 k
    cases hp : ps[k]? with
    | none =>
      have e : specPre (pairS ps k1 v1 k2 v2) ps (k + 1) = specPre (pairS ps k1 v1 k2 v2) ps k := by rw [specPre, hp]
      rw [e]
      exact ⟨by omega, ih2⟩
    | some p =>
      rw [specPre_succ hp rfl]
      obtain ⟨g1, g2, g3⟩ := seg_at ht hp rfl
      have hin := pair_in g1 g3 k1 v1 k2 v2
      have o1 := (okp_of ps (-1) (tabOk_pts ht) (by omega) p (List.mem_of_getElem? hp)).1
      have o2 := (okp_of ps (-1) (tabOk_pts ht) (by omega) _ g2).1
      obtain ⟨a1, _⟩ := o1
      obtain ⟨_, a2, _⟩ := o2
      unfold stepRunS
      split
      · exact ⟨by have := addRunS_len (specPre (pairS ps k1 v1 k2 v2) ps k) (pairS ps k1 v1 k2 v2 p (ps[k + 1]?.getD p)); omega, fun z hz => addRunS_mem ih2 (by omega) hz⟩
      · exact ⟨by omega, ih2⟩
/-- what two answers of begins make -/
theorem pair_of {so1 so2 : Int → Bool} {a b : Int} (hab : a ≤ b) (o1 : OneWay so1 a b) (o2 : OneWay so2 a b) :
    ((beginsS so1 a b).2.2 = true ∧ (beginsS so2 a b).2.2 = true ∧ max (beginsS so1 a b).1 (beginsS so2 a b).1 = max (stretchS so1 a b).1 (stretchS so2 a b).1 ∧ min (beginsS so1 a b).2.1 (beginsS so2 a b).2.1 = min (stretchS so1 a b).2 (stretchS so2 a b).2) ∨
    (((beginsS so1 a b).2.2 = false ∨ (beginsS so2 a b).2.2 = false) ∧ ¬ max (stretchS so1 a b).1 (stretchS so2 a b).1 ≤ min (stretchS so1 a b).2 (stretchS so2 a b).2) := by
  have s1 := (stretch_iff hab o1).2
  have s2 := (stretch_iff hab o2).2
  unfold beginsS
  by_cases c1 : (stretchS so1 a b).1 ≤ (stretchS so1 a b).2
  · by_cases c2 : (stretchS so2 a b).1 ≤ (stretchS so2 a b).2
    · left
      rw [if_pos c1, if_pos c2]
      exact ⟨rfl, rfl, rfl, rfl⟩
    · right
      rw [if_neg c2]
      exact ⟨.inr rfl, by omega⟩
  · right
    rw [if_neg c1]
    exact ⟨.inl rfl, by omega⟩

set_option maxRecDepth 100000 in
set_option maxHeartbeats 8000000 in
theorem rruns_any (b o n c : Nat) (ps : List P3) (k1 v1 k2 v2 : Int) (w : World) (hn : n = ps.length) (hb : b < w.heap.size) (ht : tabOk ps = true) (hc : PtsAt w b o ps) (hk1 : k1 = 1 ∨ k1 = 2 ∨ k1 = 3) (hk2 : k2 = 1 ∨ k2 = 2 ∨ k2 = 3) :
    Calls Try.prog 108 #[tv (some ⟨b, o, none⟩) n c, .int .i64 k1, .int .i64 v1, .int .i64 k2, .int .i64 v2] w (GivesRuns w (specPre (pairS ps k1 v1 k2 v2) ps n)) := by
  have h40 := (tabOk_len ht).2
  have hl1 := (tabOk_len ht).1
  have hn40 : n ≤ 40 := by omega
  have hE := below_alloc1 w (.cells #[.slice (some ⟨b, o, none⟩) n c] 43)
  have hT := Blk.new w 43 #[.slice (some ⟨b, o, none⟩) n c]
  have CB : Hid (∀ W k p q kind v, Below w.heap.size w W → ps[k]? = some p → ps[k + 1]?.getD p = q → (kind = 1 ∨ kind = 2 ∨ kind = 3) → Calls Try.prog 130 #[tv (some ⟨b, o, none⟩) n c, .int .i64 p.1, .int .i64 q.1, .int .i64 kind, .int .i64 v] W fun e w' => e = .returned (bt (beginsS (sideS ps kind v) p.1 q.1)) ∧ Below W.heap.size W w') := Lib.hid fun W k p q kind v hW hp hq hk => by
    obtain ⟨g1, g2, g3⟩ := seg_at ht hp hq
    have e0 : ps[0]? = some (ps[0]'(by omega)) := List.getElem?_eq_getElem (by omega)
    have f0 : firstX ps = (ps[0]'(by omega)).1 := by unfold firstX; rw [List.head?_eq_getElem?, e0]; rfl
    exact begins_any b o n c ps p.1 q.1 kind v W hn (Nat.lt_of_lt_of_le hb hW.size) ht (by rw [f0]; exact rising_le ht e0 hp (by omega)) g1 (rising_last ht g2) (hc.below hW hb) hk (side_way g3 kind v)
  have HE := Lib.hid hE; have HT := Lib.hid hT; have HC := Lib.hid hc; have HN := Lib.hid hn
  have HK := Lib.hid (And.intro hk1 hk2)
  have HS : Hid (∀ k p q, ps[k]? = some p → ps[k + 1]?.getD p = q → p.1 ≤ q.1 ∧ q ∈ ps ∧ ∀ x, p.1 ≤ x → x ≤ q.1 → atS ps x = pAt p q x) := Lib.hid fun k p q hp hq => seg_at ht hp hq
  have HI := Lib.hid (specPre_in ht k1 v1 k2 v2)
  have HF : Hid (∀ (k : Nat) (p : P3), ps[k]? = some p → specPre (pairS ps k1 v1 k2 v2) ps (k + 1) = stepRunS (pairS ps k1 v1 k2 v2) (specPre (pairS ps k1 v1 k2 v2) ps k) p (ps[k + 1]?.getD p)) := Lib.hid fun k p hp => specPre_succ hp rfl
  clear hE hT hc hn hk1 hk2 ht h40 hl1
  go_enter Try.func108, Try.ntmps108
  go_wp2_with fail
  go_loopw [11, 24] (fun v i wr => ∃ k : Nat, k ≤ n ∧ i = .int .i64 k ∧ OwnRuns (w.heap.size + 1) wr v (specPre (pairS ps k1 v1 k2 v2) ps k) ∧ Blk wr w.heap.size 43 #[.slice (some ⟨b, o, none⟩) n c] ∧ Below w.heap.size w wr) (fun _ i _ => n - (intOf i).toNat)
  case atStart => exact ⟨0, by omega, rfl, World.ownsRow_nil _ _ _ _, HT.out, HE.out⟩
  case round =>
    obtain ⟨k, hk, rfl, hown, hT, hB⟩ := hrel
    by_cases hlt : k < n
    · obtain ⟨p, hp⟩ : ∃ p, ps[k]? = some p := ⟨_, List.getElem?_eq_getElem (show k < ps.length by rw [← HN.out]; exact hlt)⟩
      obtain ⟨q, hq⟩ : ∃ q, ps[k + 1]?.getD p = q := ⟨_, rfl⟩
      obtain ⟨c0, c1, c2⟩ := HC.out k p hp
      rw [← hB.cell (p := ⟨b, o + k * 3, none⟩) hb] at c0
      rw [← hB.cell (p := ⟨b, o + k * 3 + 1, none⟩) hb] at c1
      rw [← hB.cell (p := ⟨b, o + k * 3 + 2, none⟩) hb] at c2
      have hstep := HF.out k p hp
      rw [hq] at hstep
      obtain ⟨g1, g2, g3⟩ := HS.out k p q hp hq
      have hpr := pair_of g1 (side_way g3 k1 v1) (side_way g3 k2 v2)
      have B1 : Hid (∀ W, Below w.heap.size w W → Calls Try.prog 130 #[tv (some ⟨b, o, none⟩) n c, .int .i64 p.1, .int .i64 q.1, .int .i64 k1, .int .i64 v1] W fun e w' => e = .returned (bt (beginsS (sideS ps k1 v1) p.1 q.1)) ∧ Below W.heap.size W w') := Lib.hid fun W hW => CB.out W k p q k1 v1 hW hp hq HK.out.1
      have B2 : Hid (∀ W, Below w.heap.size w W → Calls Try.prog 130 #[tv (some ⟨b, o, none⟩) n c, .int .i64 p.1, .int .i64 q.1, .int .i64 k2, .int .i64 v2] W fun e w' => e = .returned (bt (beginsS (sideS ps k2 v2) p.1 q.1)) ∧ Below W.heap.size W w') := Lib.hid fun W hW => CB.out W k p q k2 v2 hW hp hq HK.out.2
      have hst : stepRunS (pairS ps k1 v1 k2 v2) (specPre (pairS ps k1 v1 k2 v2) ps k) p q = if max (stretchS (sideS ps k1 v1) p.1 q.1).1 (stretchS (sideS ps k2 v2) p.1 q.1).1 ≤ min (stretchS (sideS ps k1 v1) p.1 q.1).2 (stretchS (sideS ps k2 v2) p.1 q.1).2 then addRunS (specPre (pairS ps k1 v1 k2 v2) ps k) (max (stretchS (sideS ps k1 v1) p.1 q.1).1 (stretchS (sideS ps k2 v2) p.1 q.1).1, min (stretchS (sideS ps k1 v1) p.1 q.1).2 (stretchS (sideS ps k2 v2) p.1 q.1).2) else specPre (pairS ps k1 v1 k2 v2) ps k := rfl
      rw [hst] at hstep
      obtain ⟨⟨x1, y1, t1⟩, hx1⟩ : ∃ r, beginsS (sideS ps k1 v1) p.1 q.1 = r := ⟨_, rfl⟩
      obtain ⟨⟨x2, y2, t2⟩, hx2⟩ : ∃ r, beginsS (sideS ps k2 v2) p.1 q.1 = r := ⟨_, rfl⟩
      rw [hx1, hx2] at hpr
      rw [hx1] at B1
      rw [hx2] at B2
      dsimp only at hpr
      generalize max (stretchS (sideS ps k1 v1) p.1 q.1).1 (stretchS (sideS ps k2 v2) p.1 q.1).1 = M at *
      generalize min (stretchS (sideS ps k1 v1) p.1 q.1).2 (stretchS (sideS ps k2 v2) p.1 q.1).2 = N at *
      have hI := HI.out k
      have hqx : k + 1 < n → ps[k + 1]? = some q := fun h => by
        have e : ps[k + 1]? = some (ps[k + 1]'(by rw [← HN.out]; exact h)) := List.getElem?_eq_getElem _
        rw [e] at hq ⊢
        simp at hq
        rw [hq]
      have hqe : ¬ k + 1 < n → q.1 = p.1 := fun h => by
        rw [List.getElem?_eq_none (by rw [← HN.out]; omega)] at hq
        simp at hq
        rw [hq]
      have HP := Lib.hid (And.intro hpr (And.intro hstep (And.intro hI (And.intro hqx hqe))))
      obtain ⟨L, hL⟩ : ∃ L, specPre (pairS ps k1 v1 k2 v2) ps k = L := ⟨_, rfl⟩
      obtain ⟨L', hL'⟩ : ∃ L, specPre (pairS ps k1 v1 k2 v2) ps (k + 1) = L := ⟨_, rfl⟩
      rw [hL] at HP hown
      rw [hL'] at HP
      have HL := Lib.hid hL'
      clear hst hpr hstep hI hx1 hx2 g1 g2 g3 hp hL hL' hqx hqe
      obtain ⟨px, plo, phi⟩ := p
      dsimp only at c0 c1 c2 B1 B2 HP
      have HOW := Lib.hid (hown.grown (World.grownBy_alloc wr (.cells #[.int .i64 px, .int .i64 plo, .int .i64 phi] 87) none) (fun _ e => by cases e))
      have hT2 := hT.alloc (.cells #[.int .i64 px, .int .i64 plo, .int .i64 phi] 87)
      have hPb := Blk.new wr 87 #[.int .i64 px, .int .i64 plo, .int .i64 phi]
      have hB2 := hB.alloc hB.size (.cells #[.int .i64 px, .int .i64 plo, .int .i64 phi] 87)
      have HT2 := Lib.hid hT2; have HPB := Lib.hid hPb; have HB2 := Lib.hid hB2; have HBW := Lib.hid hB
      have t0 := hT.cell 0
      have lT := hT.lt
      have lb : b < wr.heap.size := Nat.lt_of_lt_of_le hb hB.size
      simp at t0
      have w1 : IntKind.i64.wrap ((k : Int) + 1) = (k : Int) + 1 := IntWalk.i64_in _ ⟨by omega, by omega⟩
      clear hT hT2 hPb hB hB2 hown
      have d0 : k + 1 < n → wr.cell? ⟨b, o + (k + 1) * 3, none⟩ = some (.int .i64 q.1) := fun h => by
        have := (HC.out (k + 1) q (HP.out.2.2.2.1 h)).1
        rw [← HBW.out.cell (p := ⟨b, o + (k + 1) * 3, none⟩) hb] at this
        exact this
      have s4 : (0 : Int) ≤ (k : Int) + 1 := by omega
      have s5 : ((k : Int) + 1).toNat = k + 1 := by omega
      obtain ⟨qx, hqx⟩ : ∃ z, q.1 = z := ⟨_, rfl⟩
      rw [hqx] at B1 B2 d0
      have hne : ¬ k + 1 < n → qx = px := fun h => hqx.symm.trans (HP.out.2.2.2.2 h)
      have HX : Hid (((t1 = true ∧ t2 = true ∧ max x1 x2 = M ∧ min y1 y2 = N) ∨ ((t1 = false ∨ t2 = false) ∧ ¬ M ≤ N)) ∧ (L' = if M ≤ N then addRunS L (M, N) else L) ∧ L.length ≤ k ∧ (∀ z ∈ L, 0 ≤ z.2 ∧ z.2 ≤ 1000000)) := Lib.hid ⟨HP.out.1, HP.out.2.1, HP.out.2.2.1.1, HP.out.2.2.1.2⟩
      clear hqx HP hq
      by_cases hlast : k + 1 < n
      · have r1 : ((k : Int) + 1) < (n : Int) := by omega
        have r2 : decide (((k : Int) + 1) < (n : Int)) = true := decide_eq_true r1
        have d1 := d0 hlast
        clear d0 hne
        go_wp2_with fail
        refine (B1.out _ HB2.out).mono ?_
        rintro e u1 ⟨rfl, hb1⟩
        have HB3 := Lib.hid (below_then HB2.out hb1); have HT3 := Lib.hid (blkOn HT2.out hb1); have HP3 := Lib.hid (blkOn HPB.out hb1); have HO3 := Lib.hid (HOW.out.grown (below_grownNone hb1) (fun _ e => by cases e))
        clear hb1 HB2 HT2 HPB HOW d1 t0
        have t0 := HT3.out.cell 0
        have p0 := HP3.out.cell 0
        simp at t0 p0
        go_wp2_with fail
        refine (B2.out _ HB3.out).mono ?_
        rintro e u2 ⟨rfl, hb1⟩
        have HB4 := Lib.hid (below_then HB3.out hb1); have HT4 := Lib.hid (blkOn HT3.out hb1); have HO4 := Lib.hid (HO3.out.grown (below_grownNone hb1) (fun _ e => by cases e))
        clear hb1 HB3 HT3 HP3 HO3 t0 p0 c0 c1 c2 lT lb r1 r2 w1 s4 s5
        cases t1 with
        | false =>
          have HLL : Hid (L' = L) := Lib.hid (by
            rcases HX.out.1 with ⟨h, _⟩ | ⟨_, h⟩
            · cases h
            · rw [HX.out.2.1, if_neg (by omega)])
          have HO5 : Hid (OwnRuns (w.heap.size + 1) u2 u11 (specPre (pairS ps k1 v1 k2 v2) ps (k + 1))) := Lib.hid (by rw [HL.out, HLL.out]; exact HO4.out)
          go_wp2
          go_roundw
          case rel => exact ⟨k + 1, by omega, by go_num, HO5.out, HT4.out, HB4.out⟩
          case measure => simp [intOf]; omega
        | true =>
          cases t2 with
          | false =>
            have HLL : Hid (L' = L) := Lib.hid (by
              rcases HX.out.1 with ⟨_, h, _⟩ | ⟨_, h⟩
              · cases h
              · rw [HX.out.2.1, if_neg (by omega)])
            have HO5 : Hid (OwnRuns (w.heap.size + 1) u2 u11 (specPre (pairS ps k1 v1 k2 v2) ps (k + 1))) := Lib.hid (by rw [HL.out, HLL.out]; exact HO4.out)
            go_wp2
            go_roundw
            case rel => exact ⟨k + 1, by omega, by go_num, HO5.out, HT4.out, HB4.out⟩
            case measure => simp [intOf]; omega
          | true =>
            obtain ⟨hm1, hm2⟩ : max x1 x2 = M ∧ min y1 y2 = N := by
              rcases HX.out.1 with ⟨_, _, a, b⟩ | ⟨h, _⟩
              · exact ⟨a, b⟩
              · rcases h with h | h <;> cases h
            by_cases hMN : M ≤ N
            · have HLL : Hid (L' = addRunS L (M, N)) := Lib.hid (by rw [HX.out.2.1, if_pos hMN])
              have CA := Lib.hid (radd_any (w.heap.size + 1) u11 L M N u2 HO4.out (by have := HT4.out.lt; omega) (by have := HX.out.2.2.1; omega) HX.out.2.2.2)
              go_wp2_with fail
              refine (CA.out).mono ?_
              rintro e u3 ⟨v', rfl, ho, hb, hs⟩
              have HT5 := Lib.hid (HT4.out.below hb (by omega)); have HB5 := Lib.hid (HB4.out.trans (hb.mono (by omega)))
              have HO5 : Hid (OwnRuns (w.heap.size + 1) u3 v' (specPre (pairS ps k1 v1 k2 v2) ps (k + 1))) := Lib.hid (by rw [HL.out, HLL.out]; exact ho)
              clear ho hb hs hm1 hm2
              go_wp2
              go_roundw
              case rel => exact ⟨k + 1, by omega, by go_num, HO5.out, HT5.out, HB5.out⟩
              case measure => simp [intOf]; omega
            · have HLL : Hid (L' = L) := Lib.hid (by rw [HX.out.2.1, if_neg hMN])
              have HO5 : Hid (OwnRuns (w.heap.size + 1) u2 u11 (specPre (pairS ps k1 v1 k2 v2) ps (k + 1))) := Lib.hid (by rw [HL.out, HLL.out]; exact HO4.out)
              go_wp2
              go_roundw
              case rel => exact ⟨k + 1, by omega, by go_num, HO5.out, HT4.out, HB4.out⟩
              case measure => simp [intOf]; omega
      · have r1 : ¬ ((k : Int) + 1) < (n : Int) := by omega
        have r2 : decide (((k : Int) + 1) < (n : Int)) = false := decide_eq_false r1
        obtain rfl := hne hlast
        clear d0 hne
        go_wp2_with fail
        refine (B1.out _ HB2.out).mono ?_
        rintro e u1 ⟨rfl, hb1⟩
        have HB3 := Lib.hid (below_then HB2.out hb1); have HT3 := Lib.hid (blkOn HT2.out hb1); have HP3 := Lib.hid (blkOn HPB.out hb1); have HO3 := Lib.hid (HOW.out.grown (below_grownNone hb1) (fun _ e => by cases e))
        clear hb1 HB2 HT2 HPB HOW t0
        have t0 := HT3.out.cell 0
        have p0 := HP3.out.cell 0
        simp at t0 p0
        go_wp2_with fail
        refine (B2.out _ HB3.out).mono ?_
        rintro e u2 ⟨rfl, hb1⟩
        have HB4 := Lib.hid (below_then HB3.out hb1); have HT4 := Lib.hid (blkOn HT3.out hb1); have HO4 := Lib.hid (HO3.out.grown (below_grownNone hb1) (fun _ e => by cases e))
        clear hb1 HB3 HT3 HP3 HO3 t0 p0 c0 c1 c2 lT lb r1 r2 w1 s4 s5
        cases t1 with
        | false =>
          have HLL : Hid (L' = L) := Lib.hid (by
            rcases HX.out.1 with ⟨h, _⟩ | ⟨_, h⟩
            · cases h
            · rw [HX.out.2.1, if_neg (by omega)])
          have HO5 : Hid (OwnRuns (w.heap.size + 1) u2 u11 (specPre (pairS ps k1 v1 k2 v2) ps (k + 1))) := Lib.hid (by rw [HL.out, HLL.out]; exact HO4.out)
          go_wp2
          go_roundw
          case rel => exact ⟨k + 1, by omega, by go_num, HO5.out, HT4.out, HB4.out⟩
          case measure => simp [intOf]; omega
        | true =>
          cases t2 with
          | false =>
            have HLL : Hid (L' = L) := Lib.hid (by
              rcases HX.out.1 with ⟨_, h, _⟩ | ⟨_, h⟩
              · cases h
              · rw [HX.out.2.1, if_neg (by omega)])
            have HO5 : Hid (OwnRuns (w.heap.size + 1) u2 u11 (specPre (pairS ps k1 v1 k2 v2) ps (k + 1))) := Lib.hid (by rw [HL.out, HLL.out]; exact HO4.out)
            go_wp2
            go_roundw
            case rel => exact ⟨k + 1, by omega, by go_num, HO5.out, HT4.out, HB4.out⟩
            case measure => simp [intOf]; omega
          | true =>
            obtain ⟨hm1, hm2⟩ : max x1 x2 = M ∧ min y1 y2 = N := by
              rcases HX.out.1 with ⟨_, _, a, b⟩ | ⟨h, _⟩
              · exact ⟨a, b⟩
              · rcases h with h | h <;> cases h
            by_cases hMN : M ≤ N
            · have HLL : Hid (L' = addRunS L (M, N)) := Lib.hid (by rw [HX.out.2.1, if_pos hMN])
              have CA := Lib.hid (radd_any (w.heap.size + 1) u11 L M N u2 HO4.out (by have := HT4.out.lt; omega) (by have := HX.out.2.2.1; omega) HX.out.2.2.2)
              go_wp2_with fail
              refine (CA.out).mono ?_
              rintro e u3 ⟨v', rfl, ho, hb, hs⟩
              have HT5 := Lib.hid (HT4.out.below hb (by omega)); have HB5 := Lib.hid (HB4.out.trans (hb.mono (by omega)))
              have HO5 : Hid (OwnRuns (w.heap.size + 1) u3 v' (specPre (pairS ps k1 v1 k2 v2) ps (k + 1))) := Lib.hid (by rw [HL.out, HLL.out]; exact ho)
              clear ho hb hs hm1 hm2
              go_wp2
              go_roundw
              case rel => exact ⟨k + 1, by omega, by go_num, HO5.out, HT5.out, HB5.out⟩
              case measure => simp [intOf]; omega
            · have HLL : Hid (L' = L) := Lib.hid (by rw [HX.out.2.1, if_neg hMN])
              have HO5 : Hid (OwnRuns (w.heap.size + 1) u2 u11 (specPre (pairS ps k1 v1 k2 v2) ps (k + 1))) := Lib.hid (by rw [HL.out, HLL.out]; exact HO4.out)
              go_wp2
              go_roundw
              case rel => exact ⟨k + 1, by omega, by go_num, HO5.out, HT4.out, HB4.out⟩
              case measure => simp [intOf]; omega
    · have hkn : k = n := by omega
      rw [hkn] at hown
      have HO := Lib.hid (hown.mono (Nat.le_succ _)); have HB := Lib.hid hB
      clear hown hT hB
      go_wp2
      go_ret
      exact ⟨_, rfl, HO.out, HB.out⟩
end

section
open Go.RowKit

theorem specPre_congr {f g : P3 → P3 → Int × Int} {ps : List P3} : ∀ k, (∀ j p q, ps[j]? = some p → ps[j + 1]?.getD p = q → f p q = g p q) → specPre f ps k = specPre g ps k
  | 0, _ => rfl
  | k + 1, h => by
    cases hp : ps[k]? with
    | none => rw [specPre, specPre, hp]; exact specPre_congr k h
    | some p =>
      rw [specPre_succ hp rfl, specPre_succ hp rfl, specPre_congr k h]
      unfold stepRunS
      rw [h k p _ hp rfl]
theorem pre_where {ps : List P3} (ht : tabOk ps = true) (lo hi : Int) : specPre (pairS ps 1 hi 2 lo) ps ps.length = runsF (whereS lo hi) (prs ps) := by
  rw [specPre_congr (g := whereS lo hi) _ (fun j p q hp hq => by
    obtain ⟨g1, _, g3⟩ := seg_at ht hp hq
    unfold pairS whereS
    have e1 : stretchS (sideS ps 1 hi) p.1 q.1 = stretchS (lowSo p q lo hi) p.1 q.1 := stretch_congr g1 fun x a b => by unfold sideS; rw [g3 x a b]; rfl
    have e2 : stretchS (sideS ps 2 lo) p.1 q.1 = stretchS (highSo p q lo hi) p.1 q.1 := stretch_congr g1 fun x a b => by unfold sideS; rw [g3 x a b]; rfl
    rw [e1, e2])]
  exact runs_same (Q := fun r => r.1 ≤ hi ∧ lo ≤ r.2) ht (prs_pcs ht) (fun p q hpq x => whereS_iff lo hi p q hpq x)
theorem pre_above {ps : List P3} (ht : tabOk ps = true) (y : Int) : specPre (pairS ps 3 y 3 y) ps ps.length = runsF (aboveS y) (prs ps) := by
  rw [specPre_congr (g := aboveS y) _ (fun j p q hp hq => by
    obtain ⟨g1, _, g3⟩ := seg_at ht hp hq
    unfold pairS aboveS
    have e1 : stretchS (sideS ps 3 y) p.1 q.1 = stretchS (aboveSo p q y) p.1 q.1 := stretch_congr g1 fun x a b => by unfold sideS; rw [g3 x a b]; rfl
    rw [e1, Int.max_self, Int.min_self])]
  exact runs_same (Q := fun r => y ≤ r.1) ht (prs_pcs ht) (fun p q hpq x => aboveS_iff y p q hpq x)
theorem runsE_of0 {w w' : World} {L : List (Int × Int)} {v : Value} (ho : OwnRuns w.heap.size w' v L) (hb : Below w.heap.size w w') : RunsE w L 0 (.returned (.tuple #[v, .int .i64 0])) w' := by
  obtain ⟨A, c, rfl, hp⟩ := ho.runsP
  exact ⟨A, c, rfl, hp, hb⟩

set_option maxRecDepth 100000 in
set_option maxHeartbeats 2000000 in
theorem rwhere_all (A : Option Addr) (n c : Nat) (ps : List P3) (x y : Int) (w : World) (hn : n = ps.length) (hm : n ≤ maxLen) (hp : Pts w A ps) :
    Calls Try.prog 51 #[tv A n c, rv x y] w (RunsE w (if whereE ps x y = 0 then runsF (whereS x y) (prs ps) else []) (whereE ps x y)) := by
  have hE : Below w.heap.size w ((w.alloc (.cells #[.slice A n c] 43)).alloc (.cells #[.int .i64 x, .int .i64 y] 23)) := below_a2 (Below.refl _ _)
  have hT := (Blk.new w 43 #[.slice A n c]).alloc (.cells #[.int .i64 x, .int .i64 y] 23)
  have hK := (Blk.new (w.alloc (.cells #[.slice A n c] 43)) 23 #[.int .i64 x, .int .i64 y])
  simp only [World.size_alloc] at hK
  have HP := Lib.hid (hp.below hE); have HE := Lib.hid hE; have HK := Lib.hid hK; have HT := Lib.hid hT
  have CV : Hid (∀ W t, Pts W A ps → tabOk ps = t → Calls Try.prog 63 #[tv A n c] W fun e w' => e = .returned (.bool t) ∧ Below W.heap.size W w') := Lib.hid fun W t hW h => by
    have := validTable_any A n c ps W hn hm hW
    rw [h] at this; exact this
  clear hE hK hT
  by_cases ht : tabOk ps = true
  · obtain ⟨b, o, rfl, hb, hc⟩ := hp.block (tabOk_len ht).1
    by_cases hr : vR x y = true
    · have he : whereE ps x y = 0 := by unfold whereE; rw [if_pos ht, if_pos hr]
      rw [he, if_pos rfl, ← pre_where ht, ← hn]
      have CR : Hid (∀ W, Below w.heap.size w W → Calls Try.prog 108 #[tv (some ⟨b, o, none⟩) n c, .int .i64 1, .int .i64 y, .int .i64 2, .int .i64 x] W (GivesRuns W (specPre (pairS ps 1 y 2 x) ps n))) := Lib.hid fun W hW => rruns_any b o n c ps 1 y 2 x W hn (Nat.lt_of_lt_of_le hb hW.size) ht (hc.below hW hb) (.inl rfl) (.inr (.inl rfl))
      have HR := Lib.hid hr; have HTT := Lib.hid ht
      clear hn hp hc ht hr he
      generalize specPre (pairS ps 1 y 2 x) ps n = L at *
      go_enter Try.func51, Try.ntmps51
      go_wp2_with fail
      obtain ⟨W0, hW0⟩ : ∃ W0, (w.alloc (.cells #[.slice (some ⟨b, o, none⟩) n c] 43)).alloc (.cells #[.int .i64 x, .int .i64 y] 23) = W0 := ⟨_, rfl⟩
      rw [hW0] at HE HK HP HT ⊢
      clear hW0
      refine (CV.out _ true HP.out HTT.out).mono ?_
      rintro e w1 ⟨rfl, hb1⟩
      have HK1 := Lib.hid (blkOn HK.out hb1); have HT1 := Lib.hid (blkOn HT.out hb1); have HE1 := Lib.hid (below_then HE.out hb1)
      clear hb1 HK HE HP HT
      have q0 := HK1.out.cell 0
      have q1 := HK1.out.cell 1
      simp at q0 q1
      go_wp2_with fail
      refine (rValid_to x y true _ HR.out).mono ?_
      rintro e w2 ⟨rfl, hb1⟩
      have HK2 := Lib.hid (blkOn HK1.out hb1); have HT2 := Lib.hid (blkOn HT1.out hb1); have HE2 := Lib.hid (below_then HE1.out hb1)
      clear hb1 HK1 HE1 HT1 q0 q1
      have q0 := HK2.out.cell 0
      have q1 := HK2.out.cell 1
      have t0 := HT2.out.cell 0
      simp at q0 q1 t0
      go_wp2_with fail
      refine (CR.out _ HE2.out).mono ?_
      rintro e w3 ⟨v, rfl, ho, hb1⟩
      have HO := Lib.hid (ho.mono HE2.out.size); have HE3 := Lib.hid (below_then HE2.out hb1)
      clear ho hb1 q0 q1 t0
      go_wp2
      go_ret2
      exact runsE_of0 HO.out HE3.out
    · have hr' : vR x y = false := by simpa using hr
      have he : whereE ps x y = 10 := by unfold whereE; rw [if_pos ht, if_neg hr]
      rw [he, if_neg (by omega)]
      have HR := Lib.hid hr'; have HTT := Lib.hid ht
      clear hn hp hc ht hr hr' he
      go_enter Try.func51, Try.ntmps51
      go_wp2_with fail
      obtain ⟨W0, hW0⟩ : ∃ W0, (w.alloc (.cells #[.slice (some ⟨b, o, none⟩) n c] 43)).alloc (.cells #[.int .i64 x, .int .i64 y] 23) = W0 := ⟨_, rfl⟩
      rw [hW0] at HE HK HP HT ⊢
      clear hW0
      refine (CV.out _ true HP.out HTT.out).mono ?_
      rintro e w1 ⟨rfl, hb1⟩
      have HK1 := Lib.hid (blkOn HK.out hb1); have HE1 := Lib.hid (below_then HE.out hb1)
      clear hb1 HK HE HP HT
      have q0 := HK1.out.cell 0
      have q1 := HK1.out.cell 1
      simp at q0 q1
      go_wp2_with fail
      refine (rValid_to x y false _ HR.out).mono ?_
      rintro e w2 ⟨rfl, hb1⟩
      have HE2 := Lib.hid (below_then HE1.out hb1)
      clear hb1 q0 q1
      go_wp2
      go_ret2
      exact runsE_nil ⟨rfl, HE2.out⟩
  · have ht' : tabOk ps = false := by simpa using ht
    have he : whereE ps x y = 11 := by unfold whereE; rw [if_neg ht]
    rw [he, if_neg (by omega)]
    have HTT := Lib.hid ht'
    clear hn hp ht ht' he
    go_enter Try.func51, Try.ntmps51
    go_wp2_with fail
    refine (CV.out _ false HP.out HTT.out).mono ?_
    rintro e w1 ⟨rfl, hb1⟩
    have HE1 := Lib.hid (below_then HE.out hb1)
    clear hb1 HK HE HP HT
    go_wp2
    go_ret2
    exact runsE_nil ⟨rfl, HE1.out⟩

set_option maxRecDepth 100000 in
set_option maxHeartbeats 2000000 in
theorem rabove_all (A : Option Addr) (n c : Nat) (ps : List P3) (y : Int) (w : World) (hn : n = ps.length) (hm : n ≤ maxLen) (hp : Pts w A ps) :
    Calls Try.prog 53 #[tv A n c, .int .i64 y] w (RunsE w (if tabOk ps = true then runsF (aboveS y) (prs ps) else []) (aboveE ps)) := by
  have hE := below_alloc1 w (.cells #[.slice A n c] 43)
  have hT := Blk.new w 43 #[.slice A n c]
  have HP := Lib.hid (hp.below hE); have HE := Lib.hid hE; have HT := Lib.hid hT
  have CV : Hid (∀ W t, Pts W A ps → tabOk ps = t → Calls Try.prog 63 #[tv A n c] W fun e w' => e = .returned (.bool t) ∧ Below W.heap.size W w') := Lib.hid fun W t hW h => by
    have := validTable_any A n c ps W hn hm hW
    rw [h] at this; exact this
  clear hE hT
  by_cases ht : tabOk ps = true
  · obtain ⟨b, o, rfl, hb, hc⟩ := hp.block (tabOk_len ht).1
    unfold aboveE
    rw [if_pos ht, if_pos ht, ← pre_above ht, ← hn]
    have CR : Hid (∀ W, Below w.heap.size w W → Calls Try.prog 108 #[tv (some ⟨b, o, none⟩) n c, .int .i64 3, .int .i64 y, .int .i64 3, .int .i64 y] W (GivesRuns W (specPre (pairS ps 3 y 3 y) ps n))) := Lib.hid fun W hW => rruns_any b o n c ps 3 y 3 y W hn (Nat.lt_of_lt_of_le hb hW.size) ht (hc.below hW hb) (.inr (.inr rfl)) (.inr (.inr rfl))
    have HTT := Lib.hid ht
    clear hn hp hc ht
    generalize specPre (pairS ps 3 y 3 y) ps n = L at *
    go_enter Try.func53, Try.ntmps53
    go_wp2_with fail
    refine (CV.out _ true HP.out HTT.out).mono ?_
    rintro e w1 ⟨rfl, hb1⟩
    have HT1 := Lib.hid (blkOn HT.out hb1); have HE1 := Lib.hid (below_then HE.out hb1)
    clear hb1 HE HP HT
    have t0 := HT1.out.cell 0
    simp at t0
    go_wp2_with fail
    refine (CR.out _ HE1.out).mono ?_
    rintro e w3 ⟨v, rfl, ho, hb1⟩
    have HO := Lib.hid (ho.mono HE1.out.size); have HE3 := Lib.hid (below_then HE1.out hb1)
    clear ho hb1 t0
    go_wp2
    go_ret2
    exact runsE_of0 HO.out HE3.out
  · have ht' : tabOk ps = false := by simpa using ht
    unfold aboveE
    rw [if_neg ht, if_neg ht]
    have HTT := Lib.hid ht'
    clear hn hp ht ht'
    go_enter Try.func53, Try.ntmps53
    go_wp2_with fail
    refine (CV.out _ false HP.out HTT.out).mono ?_
    rintro e w1 ⟨rfl, hb1⟩
    have HE1 := Lib.hid (below_then HE.out hb1)
    clear hb1 HE HP HT
    go_wp2
    go_ret2
    exact runsE_nil ⟨rfl, HE1.out⟩

theorem own_form {base : Nat} {w : World} {v : Value} {l : List Int} (ho : OwnInts base w v l) (hl : l ≠ []) : ∃ pg cap, v = .slice (some ⟨pg, 0, none⟩) l.length cap ∧ pg < w.heap.size ∧ IntsMem w pg 0 l := by
  rcases ho.2 with ⟨_, h0⟩ | ⟨g, cap, cur, rfl, hbg, hg, hle, hm, hs, ht⟩
  · exfalso; apply hl; simpa using h0
  · refine ⟨g, cap, by simp, (Array.getElem?_eq_some_iff.1 hg).1, fun j x hx => ?_⟩
    rw [Nat.zero_add]
    have h1 : w.cell? ⟨g, j, none⟩ = cur[j]? := cell_of_row w g j cur _ (0, 0) hg
    rw [h1]
    have hj : j < l.length := (List.getElem?_eq_some_iff.1 hx).1
    have h2 : (ints l)[j]? = some (.int .i64 x) := by rw [List.getElem?_map, hx]; rfl
    rw [← ht, List.getElem?_take_of_lt (by simp; omega)] at h2
    simpa using h2
/-- Area -/
theorem areaHi_more (ps : List P3) (a b : Int) : areaHi ps a b = exN a b (xsOf ps) (ps.map (·.2.2)) / exD a b (xsOf ps) (ps.map (·.2.2)) + (if 0 < exN a b (xsOf ps) (ps.map (·.2.2)) % exD a b (xsOf ps) (ps.map (·.2.2)) then 1 else 0) := by
  have m3 := exXY_neg a b (xsOf ps) (ps.map (·.2.2)) (0, 1) (0, 1) rfl rfl
  rw [List.map_map] at m3
  have hd := exXY_pos a b (xsOf ps) (ps.map (·.2.2)) (0, 1) (Int.le_refl _)
  unfold areaHi exN exD
  rw [show ps.map (fun p => -p.2.2) = ps.map ((- ·) ∘ (·.2.2)) from rfl, m3.1, m3.2]
  exact ceil_eq _ _ (by omega)
set_option maxRecDepth 100000 in
set_option maxHeartbeats 2000000 in
theorem rarea_all (A : Option Addr) (n c : Nat) (ps : List P3) (x y : Int) (w : World) (hn : n = ps.length) (hm : n ≤ maxLen) (hp : Pts w A ps) :
    Calls Try.prog 55 #[tv A n c, .int .i64 x, .int .i64 y] w fun e w' => e = .returned (.tuple #[.int .i64 (areaV ps x y).1, .int .i64 (areaV ps x y).2.1, .int .i64 (areaV ps x y).2.2]) ∧ Below w.heap.size w w' := by
  have hE := below_alloc1 w (.cells #[.slice A n c] 43)
  have hT := Blk.new w 43 #[.slice A n c]
  have HP := Lib.hid (hp.below hE); have HE := Lib.hid hE; have HT := Lib.hid hT
  have CV : Hid (∀ W t, Pts W A ps → tabOk ps = t → Calls Try.prog 63 #[tv A n c] W fun e w' => e = .returned (.bool t) ∧ Below W.heap.size W w') := Lib.hid fun W t hW h => by
    have := validTable_any A n c ps W hn hm hW
    rw [h] at this; exact this
  clear hE hT
  by_cases ht : tabOk ps = true
  · have h1 := (tabOk_len ht).1
    have h40 := (tabOk_len ht).2
    obtain ⟨b, o, rfl, hb, hc⟩ := hp.block h1
    have CI : Hid (∀ W z t, Below w.heap.size w W → insideS ps z = t → Calls Try.prog 92 #[tv (some ⟨b, o, none⟩) n c, .int .i64 z] W fun e w' => e = .returned (.bool t) ∧ Below W.heap.size W w') := Lib.hid fun W z t hW h =>
      bool_to (inside_any b o n c ps z W hn (by omega) (by omega) (Nat.lt_of_lt_of_le hb hW.size) (hc.below hW hb)) h
    by_cases hpl : placesS ps x y = 0
    · obtain ⟨_, hxy, hf, hl⟩ := places_ok hpl
      obtain ⟨L1, L2, L3, L4, L5, L6⟩ := tab_lines ht
      obtain ⟨pl1, pl2⟩ := places_in ht
      have b1 := areaLo_in hpl
      have b2 := areaHi_in hpl
      have hmore := areaHi_more ps x y
      have ix := Lib.hid (show insideS ps x = true by simp [insideS]; omega)
      have iy := Lib.hid (show insideS ps y = true by simp [insideS]; omega)
      have CL := Lib.hid fun W (hW : Below w.heap.size w W) => lines_any b o n c ps W hn (by omega) (Nat.lt_of_lt_of_le hb hW.size) (hc.below hW hb)
      have CT : Hid (∀ W p1 k1 p2 k2 ys, p1 < W.heap.size → p2 < W.heap.size → IntsMem W p1 0 (xsOf ps) → IntsMem W p2 0 ys → ys.length = n → InY ys →
          Calls Try.prog 75 #[.slice (some ⟨p1, 0, none⟩) n k1, .slice (some ⟨p2, 0, none⟩) n k2, .int .i64 x, .int .i64 y] W fun e w' =>
            e = .returned (.tuple #[.int .i64 (exN x y (xsOf ps) ys / exD x y (xsOf ps) ys), .bool (decide (0 < exN x y (xsOf ps) ys % exD x y (xsOf ps) ys))]) ∧ Below W.heap.size W w') := Lib.hid fun W p1 k1 p2 k2 ys g1 g2 m1 m2 hl hY =>
        twice_any p1 0 p2 0 n k1 k2 (xsOf ps) ys x y (firstX ps) W (by rw [List.length_map]; exact hn) hl.symm (by omega) (by omega) g1 g2 m1 m2 L1 L2 hY L6 (by omega) (by omega) (by omega)
      have hv : areaV ps x y = (areaLo ps x y, areaHi ps x y, 0) := by unfold areaV; rw [if_pos hpl]
      rw [hv, hmore]
      have hlo : areaLo ps x y = exN x y (xsOf ps) (ps.map (·.2.1)) / exD x y (xsOf ps) (ps.map (·.2.1)) := rfl
      rw [hlo]
      rw [hlo] at b1
      rw [hmore] at b2
      have T1 : Hid (∀ W p1 k1 p2 k2, p1 < W.heap.size → p2 < W.heap.size → IntsMem W p1 0 (xsOf ps) → IntsMem W p2 0 (ps.map (·.2.1)) → Calls Try.prog 75 #[.slice (some ⟨p1, 0, none⟩) n k1, .slice (some ⟨p2, 0, none⟩) n k2, .int .i64 x, .int .i64 y] W fun e w' =>
            e = .returned (.tuple #[.int .i64 (exN x y (xsOf ps) (ps.map (·.2.1)) / exD x y (xsOf ps) (ps.map (·.2.1))), .bool (decide (0 < exN x y (xsOf ps) (ps.map (·.2.1)) % exD x y (xsOf ps) (ps.map (·.2.1))))]) ∧ Below W.heap.size W w') := Lib.hid fun W p1 k1 p2 k2 g1 g2 m1 m2 => CT.out W p1 k1 p2 k2 _ g1 g2 m1 m2 (by rw [List.length_map]; exact hn.symm) L3
      have T2 : Hid (∀ W p1 k1 p2 k2, p1 < W.heap.size → p2 < W.heap.size → IntsMem W p1 0 (xsOf ps) → IntsMem W p2 0 (ps.map (·.2.2)) → Calls Try.prog 75 #[.slice (some ⟨p1, 0, none⟩) n k1, .slice (some ⟨p2, 0, none⟩) n k2, .int .i64 x, .int .i64 y] W fun e w' =>
            e = .returned (.tuple #[.int .i64 (exN x y (xsOf ps) (ps.map (·.2.2)) / exD x y (xsOf ps) (ps.map (·.2.2))), .bool (decide (0 < exN x y (xsOf ps) (ps.map (·.2.2)) % exD x y (xsOf ps) (ps.map (·.2.2))))]) ∧ Below W.heap.size W w') := Lib.hid fun W p1 k1 p2 k2 g1 g2 m1 m2 => CT.out W p1 k1 p2 k2 _ g1 g2 m1 m2 (by rw [List.length_map]; exact hn.symm) L4
      have HTT := Lib.hid ht; have HN := Lib.hid hn
      have hn1 : 1 ≤ n := by omega
      clear CT hmore hv hlo L1 L2 L3 L4 L5 L6 hf hl pl1 pl2 hn hp hc ht hpl h1 h40
      generalize exN x y (xsOf ps) (ps.map (·.2.1)) / exD x y (xsOf ps) (ps.map (·.2.1)) = V1 at *
      generalize decide (0 < exN x y (xsOf ps) (ps.map (·.2.1)) % exD x y (xsOf ps) (ps.map (·.2.1))) = D1 at *
      have hif : (if 0 < exN x y (xsOf ps) (ps.map (·.2.2)) % exD x y (xsOf ps) (ps.map (·.2.2)) then (1 : Int) else 0) = if decide (0 < exN x y (xsOf ps) (ps.map (·.2.2)) % exD x y (xsOf ps) (ps.map (·.2.2))) = true then 1 else 0 := by simp
      rw [hif] at b2 ⊢
      clear hif
      generalize decide (0 < exN x y (xsOf ps) (ps.map (·.2.2)) % exD x y (xsOf ps) (ps.map (·.2.2))) = D2 at *
      generalize exN x y (xsOf ps) (ps.map (·.2.2)) / exD x y (xsOf ps) (ps.map (·.2.2)) = V2 at *
      have k1 : decide (y < x) = false := decide_eq_false (by omega)
      have k2 : ¬ y < x := by omega
      go_enter Try.func55, Try.ntmps55
      go_wp2_with fail
      refine (CV.out _ true HP.out HTT.out).mono ?_
      rintro e w1 ⟨rfl, hb1⟩
      have HT1 := Lib.hid (blkOn HT.out hb1); have HE1 := Lib.hid (below_then HE.out hb1)
      clear hb1 HE HP HT
      have t0 := HT1.out.cell 0
      simp at t0
      go_wp2_with fail
      refine (CI.out _ x true HE1.out ix.out).mono ?_
      rintro e w2 ⟨rfl, hb1⟩
      have HT2 := Lib.hid (blkOn HT1.out hb1); have HE2 := Lib.hid (below_then HE1.out hb1)
      clear hb1 HE1 HT1 t0
      have t0 := HT2.out.cell 0
      simp at t0
      go_wp2_with fail
      refine (CI.out _ y true HE2.out iy.out).mono ?_
      rintro e w3 ⟨rfl, hb1⟩
      have HT3 := Lib.hid (blkOn HT2.out hb1); have HE3 := Lib.hid (below_then HE2.out hb1)
      clear hb1 HE2 HT2 t0
      have t0 := HT3.out.cell 0
      simp at t0
      go_wp2_with fail
      refine (CL.out _ HE3.out).mono ?_
      rintro e w4 ⟨v1, v2, v3, rfl, hL, hb1⟩
      have hpne : ps ≠ [] := fun c => by have := HN.out; rw [c] at this; simp at this; omega
      have hne1 : ps.map (·.1) ≠ [] := fun c => hpne (List.map_eq_nil_iff.1 c)
      have hne2 : ps.map (·.2.1) ≠ [] := fun c => hpne (List.map_eq_nil_iff.1 c)
      have hne3 : ps.map (·.2.2) ≠ [] := fun c => hpne (List.map_eq_nil_iff.1 c)
      obtain ⟨p1, c1, e1, l1, m1⟩ := own_form hL.1 hne1
      obtain ⟨p2, c2, e2, l2, m2⟩ := own_form hL.2.1 hne2
      obtain ⟨p3, c3, e3, l3, m3⟩ := own_form hL.2.2.1 hne3
      rw [List.length_map, ← HN.out] at e1 e2 e3
      subst e1 e2 e3
      have HE4 := Lib.hid (below_then HE3.out hb1); have HM := Lib.hid (And.intro m1 (And.intro m2 m3))
      clear hL hb1 m1 m2 m3 hne1 hne2 hne3 hpne HE3 HT3 t0
      go_wp2_with fail
      refine (T1.out _ p1 c1 p2 c2 l1 l2 HM.out.1 HM.out.2.1).mono ?_
      rintro e w5 ⟨rfl, hb1⟩
      have HE5 := Lib.hid (below_then HE4.out hb1); have HM5 := Lib.hid (And.intro (HM.out.1.below hb1 l1) (HM.out.2.2.below hb1 l3))
      have l1' := Nat.lt_of_lt_of_le l1 hb1.size
      have l3' := Nat.lt_of_lt_of_le l3 hb1.size
      clear hb1 HE4 HM
      go_wp2_with fail
      refine (T2.out _ p1 c1 p3 c3 l1' l3' HM5.out.1 HM5.out.2).mono ?_
      rintro e w6 ⟨rfl, hb1⟩
      have HE6 := Lib.hid (below_then HE5.out hb1)
      clear hb1 HE5 HM5
      cases D2 with
      | true =>
        simp only [if_true] at b2 ⊢
        go_wp2
        go_ret3
        exact ⟨rfl, HE6.out⟩
      | false =>
        go_wp2
        go_ret3
        exact ⟨by simp, HE6.out⟩
    · have hE4 : placesS ps x y = 4 := (placesS_cases ps x y ht).resolve_left hpl
      have hv : areaV ps x y = (0, 0, 4) := by unfold areaV; rw [if_neg hpl, hE4]
      rw [hv]
      have HTT := Lib.hid ht
      have hbad : y < x ∨ (x ≤ y ∧ insideS ps x = false) ∨ (x ≤ y ∧ insideS ps x = true ∧ insideS ps y = false) := by
        by_cases c1 : x ≤ y
        · cases c2 : insideS ps x
          · exact .inr (.inl ⟨c1, rfl⟩)
          · cases c3 : insideS ps y
            · exact .inr (.inr ⟨c1, rfl, rfl⟩)
            · exfalso
              apply hpl
              simp only [insideS, Bool.and_eq_true, decide_eq_true_eq] at c2 c3
              unfold placesS
              rw [if_pos ht, if_pos (inB_yes c1 c2.1 c3.2)]
        · exact .inl (by omega)
      clear hv hE4 hpl hn hp hc ht h1 h40
      rcases hbad with hbad | ⟨hxy, hbad⟩ | ⟨hxy, hbad0, hbad⟩
      · go_enter Try.func55, Try.ntmps55
        go_wp2_with fail
        refine (CV.out _ true HP.out HTT.out).mono ?_
        rintro e w1 ⟨rfl, hb1⟩
        have HE1 := Lib.hid (below_then HE.out hb1)
        clear hb1 HE HP HT
        go_wp2
        go_ret3
        exact ⟨rfl, HE1.out⟩
      · have HBD := Lib.hid hbad
        have k1 : decide (y < x) = false := decide_eq_false (by omega)
        clear hbad
        go_enter Try.func55, Try.ntmps55
        go_wp2_with fail
        refine (CV.out _ true HP.out HTT.out).mono ?_
        rintro e w1 ⟨rfl, hb1⟩
        have HT1 := Lib.hid (blkOn HT.out hb1); have HE1 := Lib.hid (below_then HE.out hb1)
        clear hb1 HE HP HT
        have t0 := HT1.out.cell 0
        simp at t0
        go_wp2_with fail
        refine (CI.out _ x false HE1.out HBD.out).mono ?_
        rintro e w2 ⟨rfl, hb1⟩
        have HE2 := Lib.hid (below_then HE1.out hb1)
        clear hb1 HE1 HT1 t0
        go_wp2
        go_ret3
        exact ⟨rfl, HE2.out⟩
      · have HBD := Lib.hid (And.intro hbad0 hbad)
        have k1 : decide (y < x) = false := decide_eq_false (by omega)
        clear hbad hbad0
        go_enter Try.func55, Try.ntmps55
        go_wp2_with fail
        refine (CV.out _ true HP.out HTT.out).mono ?_
        rintro e w1 ⟨rfl, hb1⟩
        have HT1 := Lib.hid (blkOn HT.out hb1); have HE1 := Lib.hid (below_then HE.out hb1)
        clear hb1 HE HP HT
        have t0 := HT1.out.cell 0
        simp at t0
        go_wp2_with fail
        refine (CI.out _ x true HE1.out HBD.out.1).mono ?_
        rintro e w2 ⟨rfl, hb1⟩
        have HT2 := Lib.hid (blkOn HT1.out hb1); have HE2 := Lib.hid (below_then HE1.out hb1)
        clear hb1 HE1 HT1 t0
        have t0 := HT2.out.cell 0
        simp at t0
        go_wp2_with fail
        refine (CI.out _ y false HE2.out HBD.out.2).mono ?_
        rintro e w3 ⟨rfl, hb1⟩
        have HE3 := Lib.hid (below_then HE2.out hb1)
        clear hb1 HE2 HT2 t0
        go_wp2
        go_ret3
        exact ⟨rfl, HE3.out⟩
  · have ht' : tabOk ps = false := by simpa using ht
    have hv : areaV ps x y = (0, 0, 11) := by
      have : placesS ps x y = 11 := by unfold placesS; rw [if_neg ht]
      unfold areaV; rw [this]; rfl
    rw [hv]
    have HTT := Lib.hid ht'
    clear hn hp ht ht' hv
    go_enter Try.func55, Try.ntmps55
    go_wp2_with fail
    refine (CV.out _ false HP.out HTT.out).mono ?_
    rintro e w1 ⟨rfl, hb1⟩
    have HE1 := Lib.hid (below_then HE.out hb1)
    clear hb1 HE HP HT
    go_wp2
    go_ret3
    exact ⟨rfl, HE1.out⟩
end

section
open Go.RowKit
attribute [local go_sem ↓] run_minI run_maxI

/-- the least and the greatest of two ranges -/
def mm (s r : Int × Int) : Int × Int := (min s.1 r.1, max s.2 r.2)
theorem mm_comm (s t r : Int × Int) : mm (mm s t) r = mm (mm s r) t := by unfold mm; ext <;> dsimp only <;> omega
theorem fold_mm : ∀ (l : List (Int × Int)) (s t : Int × Int), l.foldl mm (mm s t) = mm (l.foldl mm s) t
  | [], s, t => rfl
  | r :: l, s, t => by rw [List.foldl_cons, List.foldl_cons, mm_comm, fold_mm l]
theorem foldG_mm : ∀ (l : List (Int × Int)) (s : Int × Int), l.foldl stepG (s.1, s.2, true) = ((l.foldl mm s).1, (l.foldl mm s).2, true)
  | [], s => rfl
  | r :: l, s => by
    rw [List.foldl_cons, List.foldl_cons]
    have e : stepG (s.1, s.2, true) r = ((mm s r).1, (mm s r).2, true) := rfl
    rw [e, foldG_mm l]
/-- what the specification has behind its first k points -/
def preR (ps : List P3) (x y : Int) (k : Nat) : Int × Int := (((ps.take k).filter fun p => decide (x < p.1) && decide (p.1 < y)).map (·.2)).foldl mm (mm (atS ps x) (atS ps y))
theorem preR_succ {ps : List P3} {x y : Int} {k : Nat} {p : P3} (h : ps[k]? = some p) : preR ps x y (k + 1) = if x < p.1 ∧ p.1 < y then mm (preR ps x y k) p.2 else preR ps x y k := by
  unfold preR
  rw [take_snocP' h, List.filter_append]
  by_cases c : x < p.1 ∧ p.1 < y
  · rw [if_pos c]
    have : (decide (x < p.1) && decide (p.1 < y)) = true := by rw [decide_eq_true c.1, decide_eq_true c.2]; rfl
    simp [List.filter_cons, this]
  · rw [if_neg c]
    have : (decide (x < p.1) && decide (p.1 < y)) = false := by
      cases h1 : decide (x < p.1) <;> cases h2 : decide (p.1 < y) <;> first | rfl | exact absurd ⟨of_decide_eq_true h1, of_decide_eq_true h2⟩ c
    simp [List.filter_cons, this]
theorem preR_all {ps : List P3} {x y : Int} (ht : tabOk ps = true) (hxy : x ≤ y) : preR ps x y ps.length = ((overGood ps x y).1, (overGood ps x y).2.1) := by
  unfold preR overGood foldG cornersS
  rw [List.take_length, List.cons_append, List.map_cons, List.foldl_cons]
  have e : stepG (0, 0, false) (atS ps x) = ((atS ps x).1, (atS ps x).2, true) := rfl
  rw [e, foldG_mm, List.map_append, List.foldl_append]
  have hm : (List.map (atS ps) (List.map (·.1) (ps.filter fun p => decide (x < p.1) && decide (p.1 < y)))) = (ps.filter fun p => decide (x < p.1) && decide (p.1 < y)).map (·.2) := by
    rw [List.map_map]
    refine List.map_congr_left fun p hp => ?_
    exact atS_point ht (List.mem_filter.1 hp).1
  rw [hm]
  by_cases c : x < y
  · rw [if_pos c]
    simp only [List.map_cons, List.map_nil, List.foldl_cons, List.foldl_nil]
    rw [fold_mm]
  · rw [if_neg c]
    have hx : x = y := by omega
    subst hx
    have h0 : (ps.filter fun p => decide (x < p.1) && decide (p.1 < x)) = [] := by
      rw [List.filter_eq_nil_iff]
      intro p _
      simp; omega
    rw [h0]
    simp [mm]

set_option maxRecDepth 100000 in
set_option maxHeartbeats 8000000 in
theorem rover_good (b o n c : Nat) (ps : List P3) (x y : Int) (w : World) (hn : n = ps.length) (hb : b < w.heap.size) (ht : tabOk ps = true) (hr : vR x y = true) (hpl : placesS ps x y = 0) (hc : PtsAt w b o ps) :
    Calls Try.prog 49 #[tv (some ⟨b, o, none⟩) n c, rv x y] w fun e w' => e = .returned (.tuple #[rv (overGood ps x y).1 (overGood ps x y).2.1, .int .i64 0]) ∧ Below w.heap.size w w' := by
  have h1 := (tabOk_len ht).1
  have h40 := (tabOk_len ht).2
  obtain ⟨_, hxy, hf, hl⟩ := places_ok hpl
  have hall := preR_all (x := x) (y := y) ht hxy
  rw [← hn] at hall
  have e1 := congrArg Prod.fst hall
  have e2 := congrArg Prod.snd hall
  dsimp only at e1 e2
  rw [← e1, ← e2]
  clear hall e1 e2
  have hE : Below w.heap.size w (((w.alloc (.cells #[.slice (some ⟨b, o, none⟩) n c] 43)).alloc (.cells #[.int .i64 x, .int .i64 y] 23)).alloc (.cells #[.int .i64 0, .int .i64 0] 23)) := below_a3 (Below.refl _ _)
  have hK : Boxes (((w.alloc (.cells #[.slice (some ⟨b, o, none⟩) n c] 43)).alloc (.cells #[.int .i64 x, .int .i64 y] 23)).alloc (.cells #[.int .i64 0, .int .i64 0] 23)) [(w.heap.size + 1 + 1, 23, #[.int .i64 0, .int .i64 0]), (w.heap.size + 1, 23, #[.int .i64 x, .int .i64 y]), (w.heap.size, 43, #[.slice (some ⟨b, o, none⟩) n c])] := by
    have h1 : Boxes (w.alloc (.cells #[.slice (some ⟨b, o, none⟩) n c] 43)) [(w.heap.size, 43, #[.slice (some ⟨b, o, none⟩) n c])] := fun p hp => by
      have := List.mem_singleton.1 hp; subst this; exact Blk.new w _ _
    have h2 := (h1.new 23 #[.int .i64 x, .int .i64 y]).new 23 #[.int .i64 0, .int .i64 0]
    simp only [World.size_alloc] at h2
    exact h2
  have CV : Hid (∀ W, Below w.heap.size w W → Calls Try.prog 63 #[tv (some ⟨b, o, none⟩) n c] W fun e w' => e = .returned (.bool true) ∧ Below W.heap.size W w') := Lib.hid fun W hW => by
    have h := validTable_any _ n c ps W hn (by unfold maxLen; omega) ((hc.below hW hb).pts (Nat.lt_of_lt_of_le hb hW.size))
    rw [ht] at h; exact h
  have VR : Hid (∀ W, Calls Try.prog 70 #[rv x y] W fun e w' => e = .returned (.bool true) ∧ Below W.heap.size W w') := Lib.hid fun W => rValid_to x y true W hr
  have CI : Hid (∀ W z, Below w.heap.size w W → firstX ps ≤ z → z ≤ lastX ps → Calls Try.prog 92 #[tv (some ⟨b, o, none⟩) n c, .int .i64 z] W fun e w' => e = .returned (.bool true) ∧ Below W.heap.size W w') := Lib.hid fun W z hW g1 g2 =>
    bool_to (inside_any b o n c ps z W hn (by omega) (by omega) (Nat.lt_of_lt_of_le hb hW.size) (hc.below hW hb)) (by simp [insideS]; omega)
  obtain ⟨ra, rb, hra⟩ : ∃ ra rb, atS ps x = (ra, rb) := ⟨_, _, rfl⟩
  obtain ⟨rc, rd, hrc⟩ : ∃ ra rb, atS ps y = (ra, rb) := ⟨_, _, rfl⟩
  have CA : Hid (∀ W, Below w.heap.size w W → Calls Try.prog 93 #[tv (some ⟨b, o, none⟩) n c, .int .i64 x] W fun e w' => e = .returned (rv ra rb) ∧ Below W.heap.size W w') := Lib.hid fun W hW =>
    rAt_to b o n c ps x ra rb W hn (Nat.lt_of_lt_of_le hb hW.size) ht hf (by omega) (hc.below hW hb) hra
  have CB : Hid (∀ W, Below w.heap.size w W → Calls Try.prog 93 #[tv (some ⟨b, o, none⟩) n c, .int .i64 y] W fun e w' => e = .returned (rv rc rd) ∧ Below W.heap.size W w') := Lib.hid fun W hW =>
    rAt_to b o n c ps y rc rd W hn (Nat.lt_of_lt_of_le hb hW.size) ht (by omega) hl (hc.below hW hb) hrc
  have h0 : preR ps x y 0 = (min ra rc, max rb rd) := by unfold preR; rw [hra, hrc]; rfl
  have hn40 : n ≤ 40 := by omega
  have HE := Lib.hid hE; have HK := Lib.hid hK; have HC := Lib.hid hc; have HN := Lib.hid hn; have H0 := Lib.hid h0; have HF := Lib.hid (And.intro hf hl)
  clear hE hK hc hn h0 hra hrc hf hl ht hr hpl h1 h40
  go_enter Try.func49, Try.ntmps49
  go_wp2_with fail
  obtain ⟨W0, hW0⟩ : ∃ W0, ((w.alloc (.cells #[.slice (some ⟨b, o, none⟩) n c] 43)).alloc (.cells #[.int .i64 x, .int .i64 y] 23)).alloc (.cells #[.int .i64 0, .int .i64 0] 23) = W0 := ⟨_, rfl⟩
  rw [hW0] at HE HK ⊢
  clear hW0
  obtain ⟨G, hG⟩ : ∃ G, w.heap.size = G := ⟨_, rfl⟩
  rw [hG] at HK ⊢
  have HG := Lib.hid hG; clear hG
  refine (CV.out _ HE.out).mono ?_
  rintro e w1 ⟨rfl, hb1⟩
  have HK1 := Lib.hid (HK.out.on hb1); have HE1 := Lib.hid (below_then HE.out hb1)
  clear hb1 HK HE
  have q0 := (HK1.out _ (.tail _ (.head _))).cell 0
  have q1 := (HK1.out _ (.tail _ (.head _))).cell 1
  simp at q0 q1
  go_wp2_with fail
  refine (VR.out _).mono ?_
  rintro e w2 ⟨rfl, hb1⟩
  have HK2 := Lib.hid (HK1.out.on hb1); have HE2 := Lib.hid (below_then HE1.out hb1)
  clear hb1 HK1 HE1 q0 q1
  have q0 := (HK2.out _ (.tail _ (.head _))).cell 0
  have q2 := (HK2.out _ (.tail _ (.tail _ (.head _)))).cell 0
  simp at q0 q2
  go_wp2_with fail
  refine (CI.out _ x HE2.out HF.out.1 (by have := HF.out.2; omega)).mono ?_
  rintro e w3 ⟨rfl, hb1⟩
  have HK3 := Lib.hid (HK2.out.on hb1); have HE3 := Lib.hid (below_then HE2.out hb1)
  clear hb1 HK2 HE2 q0 q2
  have q0 := (HK3.out _ (.tail _ (.head _))).cell 1
  have q2 := (HK3.out _ (.tail _ (.tail _ (.head _)))).cell 0
  simp at q0 q2
  go_wp2_with fail
  refine (CI.out _ y HE3.out (by have := HF.out.1; omega) HF.out.2).mono ?_
  rintro e w4 ⟨rfl, hb1⟩
  have HK4 := Lib.hid (HK3.out.on hb1); have HE4 := Lib.hid (below_then HE3.out hb1)
  clear hb1 HK3 HE3 q0 q2
  have q0 := (HK4.out _ (.tail _ (.head _))).cell 0
  have q2 := (HK4.out _ (.tail _ (.tail _ (.head _)))).cell 0
  simp at q0 q2
  go_wp2_with fail
  refine (CA.out _ HE4.out).mono ?_
  rintro e w5 ⟨rfl, hb1⟩
  have HK5 := Lib.hid ((HK4.out.on hb1).new 23 #[.int .i64 ra, .int .i64 rb]); have HE5 := Lib.hid (below_then (below_then HE4.out hb1) (below_alloc1 w5 (.cells #[.int .i64 ra, .int .i64 rb] 23)))
  clear hb1 HK4 HE4 q0 q2
  have q0 := (HK5.out _ (.tail _ (.tail _ (.head _)))).cell 1
  have q2 := (HK5.out _ (.tail _ (.tail _ (.tail _ (.head _))))).cell 0
  simp at q0 q2
  go_upto_region 8 with fail
  clear q0 q2
  obtain ⟨B5, hB⟩ : ∃ B, w5.heap.size = B := ⟨_, rfl⟩
  obtain ⟨W5, hW⟩ : ∃ W, w5.alloc (.cells #[.int .i64 ra, .int .i64 rb] 23) = W := ⟨_, rfl⟩
  rw [hW] at HK5 HE5 ⊢
  rw [hB] at HK5 ⊢
  clear hW hB
  have q0 := (HK5.out _ (.tail _ (.tail _ (.head _)))).cell 1
  have q2 := (HK5.out _ (.tail _ (.tail _ (.tail _ (.head _))))).cell 0
  simp at q0 q2
  go_wp2_with fail
  refine (CB.out _ HE5.out).mono ?_
  rintro e w6 ⟨rfl, hb1⟩
  have HK6 := Lib.hid ((HK5.out.on hb1).new 23 #[.int .i64 rc, .int .i64 rd]); have HE6 := Lib.hid (below_then (below_then HE5.out hb1) (below_alloc1 w6 (.cells #[.int .i64 rc, .int .i64 rd] 23)))
  clear hb1 HK5 HE5 q0 q2
  go_upto_region 9 with fail
  obtain ⟨B6, hB⟩ : ∃ B, w6.heap.size = B := ⟨_, rfl⟩
  obtain ⟨W6, hW⟩ : ∃ W, w6.alloc (.cells #[.int .i64 rc, .int .i64 rd] 23) = W := ⟨_, rfl⟩
  rw [hW] at HK6 HE6 ⊢
  rw [hB] at HK6 ⊢
  clear hW hB
  obtain ⟨M0, hM0⟩ : ∃ M, min ra rc = M := ⟨_, rfl⟩
  obtain ⟨N0, hN0⟩ : ∃ M, max rb rd = M := ⟨_, rfl⟩
  have H1 := Lib.hid (show preR ps x y 0 = (M0, N0) by rw [H0.out, hM0, hN0])
  have a0 := (HK6.out _ (.tail _ (.head _))).cell 0
  have a1 := (HK6.out _ (.tail _ (.head _))).cell 1
  have b0 := (HK6.out _ (.head _)).cell 0
  have b1 := (HK6.out _ (.head _)).cell 1
  simp at a0 a1 b0 b1
  have l2 := (HK6.out _ (.tail _ (.tail _ (.head _)))).lt
  have l3 := (HK6.out _ (.tail _ (.tail _ (.tail _ (.head _))))).lt
  have l4 := (HK6.out _ (.tail _ (.tail _ (.tail _ (.tail _ (.head _)))))).lt
  simp at l2 l3 l4
  have HK7 := Lib.hid (HK6.out.new 23 #[.int .i64 M0, .int .i64 N0]); have HE7 := Lib.hid (below_then HE6.out (below_alloc1 W6 (.cells #[.int .i64 M0, .int .i64 N0] 23)))
  clear HK6 HE6
  go_upto_region 10 with fail
  clear a0 a1 b0 b1 hM0 hN0
  obtain ⟨B7, hB⟩ : ∃ B, W6.heap.size = B := ⟨_, rfl⟩
  obtain ⟨W7, hW⟩ : ∃ W, W6.alloc (.cells #[.int .i64 M0, .int .i64 N0] 23) = W := ⟨_, rfl⟩
  have hsz : W7.heap.size = B7 + 1 := by rw [← hW, ← hB]; simp
  rw [hW] at HK7 HE7 ⊢
  rw [hB] at HK7 l2 l3 l4 ⊢
  clear hW hB
  have q2 := (HK7.out _ (.tail _ (.tail _ (.tail _ (.tail _ (.tail _ (.head _))))))).cell 0
  simp at q2
  go_wp2_with fail
  clear q2
  go_loopw [54] (fun i wr => ∃ k : Nat, k ≤ n ∧ i = .int .i64 k ∧ Blk wr B7 23 #[.int .i64 (preR ps x y k).1, .int .i64 (preR ps x y k).2] ∧ Only B7 W7 wr) (fun i _ => n - (intOf i).toNat)
  case atStart => exact ⟨0, by omega, rfl, by rw [H1.out]; exact HK7.out _ (.head _), Only.refl _ _⟩
  case round =>
    obtain ⟨k, hk, rfl, hB, hO⟩ := hrel
    have hGw := HG.out
    have hBw : Below w.heap.size w wr := hO.below HE7.out (by rw [hGw]; omega)
    have hOs := hO.size
    have r0 := (hO.cells.1 (G + 1) 0 (by omega) (by omega)).trans ((HK7.out _ (.tail _ (.tail _ (.tail _ (.tail _ (.head _)))))).cell 0)
    have r1 := (hO.cells.1 (G + 1) 1 (by omega) (by omega)).trans ((HK7.out _ (.tail _ (.tail _ (.tail _ (.tail _ (.head _)))))).cell 1)
    simp at r0 r1
    by_cases hlt : k < n
    · obtain ⟨p, hp⟩ : ∃ p, ps[k]? = some p := ⟨_, List.getElem?_eq_getElem (show k < ps.length by rw [← HN.out]; exact hlt)⟩
      obtain ⟨c0, c1, c2⟩ := HC.out k p hp
      rw [← hBw.cell (p := ⟨b, o + k * 3, none⟩) hb] at c0
      rw [← hBw.cell (p := ⟨b, o + k * 3 + 1, none⟩) hb] at c1
      rw [← hBw.cell (p := ⟨b, o + k * 3 + 2, none⟩) hb] at c2
      have hsu := preR_succ (x := x) (y := y) hp
      obtain ⟨px, plo, phi⟩ := p
      dsimp only at c0 c1 c2 hsu
      have m0 := hB.cell 0
      have m1 := hB.cell 1
      have f0 := hB.frozen 0
      have f1 := hB.frozen 1
      have lB := hB.lt
      have lG : G + 1 < wr.heap.size := by omega
      have lb : b < wr.heap.size := Nat.lt_of_lt_of_le hb hBw.size
      simp at m0 m1
      have HBA := Lib.hid (hB.alloc (.cells #[.int .i64 px, .int .i64 plo, .int .i64 phi] 87))
      have HOA := Lib.hid (hO.alloc (.cells #[.int .i64 px, .int .i64 plo, .int .i64 phi] 87))
      have HSU := Lib.hid hsu; have HB0 := Lib.hid hB; have HO0 := Lib.hid hO
      clear hsu hB hO hBw hp
      by_cases hc : x < px ∧ px < y
      · obtain ⟨h1, h2⟩ := hc
        obtain ⟨u, hu⟩ : ∃ u, (preR ps x y k).1 = u := ⟨_, rfl⟩
        obtain ⟨v, hv⟩ : ∃ u, (preR ps x y k).2 = u := ⟨_, rfl⟩
        obtain ⟨mn, hmn⟩ : ∃ r, min u plo = r := ⟨_, rfl⟩
        obtain ⟨mx, hmx⟩ : ∃ r, max v phi = r := ⟨_, rfl⟩
        have HS2 := Lib.hid (show preR ps x y (k + 1) = (mn, mx) by rw [HSU.out, if_pos ⟨h1, h2⟩]; unfold mm; dsimp only; rw [hu, hv, hmn, hmx])
        rw [hu] at m0
        rw [hv] at m1
        have HBB : Hid (Blk (((wr.setCell ⟨B7, 0, none⟩ (.int .i64 mn)).setCell ⟨B7, 1, none⟩ (.int .i64 mx)).alloc (.cells #[.int .i64 px, .int .i64 plo, .int .i64 phi] 87)) B7 23 #[.int .i64 mn, .int .i64 mx]) := Lib.hid ((blk2 HB0.out mn mx).alloc _)
        have HOO : Hid (Only B7 W7 (((wr.setCell ⟨B7, 0, none⟩ (.int .i64 mn)).setCell ⟨B7, 1, none⟩ (.int .i64 mx)).alloc (.cells #[.int .i64 px, .int .i64 plo, .int .i64 phi] 87))) := Lib.hid (((HO0.out.setCell (p := ⟨B7, 0, none⟩) (.inl rfl) _).setCell (p := ⟨B7, 1, none⟩) (.inl rfl) _).alloc _)
        clear hu hv HSU HBA HOA
        go_wp2
        go_roundw
        case rel => exact ⟨k + 1, by omega, by go_num, by rw [HS2.out]; exact HBB.out, HOO.out⟩
        case measure => simp [intOf]; omega
      · have HS2 := Lib.hid (show preR ps x y (k + 1) = preR ps x y k by rw [HSU.out, if_neg hc])
        have hx' : ¬ x < px ∨ (x < px ∧ ¬ px < y) := by omega
        clear HSU hc m0 m1
        rcases hx' with h1 | ⟨h1, h2⟩
        all_goals
          go_wp2
          go_roundw
          case rel => exact ⟨k + 1, by omega, by go_num, by rw [HS2.out]; exact HBA.out, HOA.out⟩
          case measure => simp [intOf]; omega
    · have hkn : k = n := by omega
      subst hkn
      obtain ⟨u, hu⟩ : ∃ u, (preR ps x y k).1 = u := ⟨_, rfl⟩
      obtain ⟨v, hv⟩ : ∃ u, (preR ps x y k).2 = u := ⟨_, rfl⟩
      rw [hu, hv] at hB
      have HUV := Lib.hid (And.intro hu hv)
      have m0 := hB.cell 0
      have m1 := hB.cell 1
      have q := HK7.out _ (.tail _ (.tail _ (.tail _ (.head _))))
      have s0 := (hO.cells.1 (G + 1 + 1) 0 (by omega) (by omega)).trans (q.cell 0)
      have s1 := (hO.cells.1 (G + 1 + 1) 1 (by omega) (by omega)).trans (q.cell 1)
      have f0 := (hO.cells.2 (G + 1 + 1) 0 (by omega) (by omega)).trans (q.frozen 0)
      have f1 := (hO.cells.2 (G + 1 + 1) 1 (by omega) (by omega)).trans (q.frozen 1)
      have lB : G + 1 + 1 < wr.heap.size := by omega
      simp at m0 m1 s0 s1
      have HBW := Lib.hid hBw
      clear hB hO hBw q hu hv
      go_wp2
      refine bodyPost_ret (v := .tuple #[rv u v, .int .i64 0]) (by simp [results, Try.results49, go_sem, s0, s1, lB]) rfl ⟨by rw [HUV.out.1, HUV.out.2], ?_⟩
      exact (HBW.out.setCell (p := ⟨G + 1 + 1, 0, none⟩) (by rw [hGw]; show G ≤ G + 1 + 1; omega) _).setCell (p := ⟨G + 1 + 1, 1, none⟩) (by rw [hGw]; show G ≤ G + 1 + 1; omega) _
end

section
open Go.RowKit

set_option maxRecDepth 100000 in
set_option maxHeartbeats 4000000 in
theorem rover_bad (A : Option Addr) (n c : Nat) (ps : List P3) (x y : Int) (w : World) (hn : n = ps.length) (hm : n ≤ maxLen) (hp : Pts w A ps) (h0 : overE ps x y ≠ 0) :
    Calls Try.prog 49 #[tv A n c, rv x y] w fun e w' => e = .returned (.tuple #[rv 0 0, .int .i64 (overE ps x y)]) ∧ Below w.heap.size w w' := by
  have hE : Below w.heap.size w (((w.alloc (.cells #[.slice A n c] 43)).alloc (.cells #[.int .i64 x, .int .i64 y] 23)).alloc (.cells #[.int .i64 0, .int .i64 0] 23)) := below_a3 (Below.refl _ _)
  have hK : Boxes (((w.alloc (.cells #[.slice A n c] 43)).alloc (.cells #[.int .i64 x, .int .i64 y] 23)).alloc (.cells #[.int .i64 0, .int .i64 0] 23)) [(w.heap.size + 1 + 1, 23, #[.int .i64 0, .int .i64 0]), (w.heap.size + 1, 23, #[.int .i64 x, .int .i64 y]), (w.heap.size, 43, #[.slice A n c])] := by
    have h1 : Boxes (w.alloc (.cells #[.slice A n c] 43)) [(w.heap.size, 43, #[.slice A n c])] := fun p hp => by
      have := List.mem_singleton.1 hp; subst this; exact Blk.new w _ _
    have h2 := (h1.new 23 #[.int .i64 x, .int .i64 y]).new 23 #[.int .i64 0, .int .i64 0]
    simp only [World.size_alloc] at h2
    exact h2
  have CV : Hid (∀ W t, Below w.heap.size w W → tabOk ps = t → Calls Try.prog 63 #[tv A n c] W fun e w' => e = .returned (.bool t) ∧ Below W.heap.size W w') := Lib.hid fun W t hW h => by
    have := validTable_any A n c ps W hn hm (hp.below hW)
    rw [h] at this; exact this
  have CI : Hid (∀ W z t, Below w.heap.size w W → tabOk ps = true → insideS ps z = t → Calls Try.prog 92 #[tv A n c, .int .i64 z] W fun e w' => e = .returned (.bool t) ∧ Below W.heap.size W w') := Lib.hid fun W z t hW ht h => by
    obtain ⟨b, o, rfl, hb, hc⟩ := hp.block (tabOk_len ht).1
    exact bool_to (inside_any b o n c ps z W hn (by rw [hn]; exact (tabOk_len ht).1) (by rw [hn]; exact (tabOk_len ht).2) (Nat.lt_of_lt_of_le hb hW.size) (hc.below hW hb)) h
  have HE := Lib.hid hE; have HK := Lib.hid hK
  clear hE hK hp hn
  by_cases ht : tabOk ps = true
  · by_cases hr : vR x y = true
    · have he : overE ps x y = 4 := by
        unfold overE at h0 ⊢
        rw [if_pos ht, if_pos hr] at h0 ⊢
        exact (placesS_cases ps x y ht).resolve_left h0
      have hpl : placesS ps x y = 4 := by unfold overE at he; rw [if_pos ht, if_pos hr] at he; exact he
      have hxy := ((vR_iff x y).1 hr).1
      rw [he]
      have hbad : insideS ps x = false ∨ (insideS ps x = true ∧ insideS ps y = false) := by
        cases c2 : insideS ps x
        · exact .inl rfl
        · cases c3 : insideS ps y
          · exact .inr ⟨rfl, rfl⟩
          · exfalso
            simp only [insideS, Bool.and_eq_true, decide_eq_true_eq] at c2 c3
            unfold placesS at hpl
            rw [if_pos ht, if_pos (inB_yes hxy c2.1 c3.2)] at hpl
            cases hpl
      have HTT := Lib.hid ht; have HR := Lib.hid hr
      clear ht hr h0 he hpl hxy
      rcases hbad with hbad | ⟨hbad0, hbad⟩
      · have HBD := Lib.hid hbad
        clear hbad
        go_enter Try.func49, Try.ntmps49
        go_wp2_with fail
        obtain ⟨W0, hW0⟩ : ∃ W0, ((w.alloc (.cells #[.slice A n c] 43)).alloc (.cells #[.int .i64 x, .int .i64 y] 23)).alloc (.cells #[.int .i64 0, .int .i64 0] 23) = W0 := ⟨_, rfl⟩
        rw [hW0] at HE HK ⊢
        clear hW0
        refine (CV.out _ true HE.out HTT.out).mono ?_
        rintro e w1 ⟨rfl, hb1⟩
        have HK1 := Lib.hid (HK.out.on hb1); have HE1 := Lib.hid (below_then HE.out hb1)
        clear hb1 HK HE
        have HK := HK1; have HE := HE1
        have q0 := (HK1.out _ (.tail _ (.head _))).cell 0
        have q1 := (HK1.out _ (.tail _ (.head _))).cell 1
        simp at q0 q1
        go_wp2_with fail
        refine (rValid_to x y true _ HR.out).mono ?_
        rintro e w2 ⟨rfl, hb1⟩
        have HK2 := Lib.hid (HK1.out.on hb1); have HE2 := Lib.hid (below_then HE1.out hb1)
        clear hb1 HK1 HE1 q0 q1 HK HE
        have HK := HK2; have HE := HE2
        have q0 := (HK2.out _ (.tail _ (.head _))).cell 0
        have q1 := (HK2.out _ (.tail _ (.tail _ (.head _)))).cell 0
        simp at q0 q1
        go_wp2_with fail
        refine (CI.out _ x false HE2.out HTT.out HBD.out).mono ?_
        rintro e w9 ⟨rfl, hb1⟩
        have hO := (HK.out.on hb1) _ (.head _)
        have HE9 := Lib.hid (below_then HE.out hb1)
        have r0 := hO.cell 0
        have r1 := hO.cell 1
        have f0 := hO.frozen 0
        have f1 := hO.frozen 1
        have lT := hO.lt
        simp at r0 r1
        clear hb1 hO
        go_wp2
        refine bodyPost_ret (v := .tuple #[rv 0 0, .int .i64 4]) (by simp [results, Try.results49, go_sem, r0, r1, lT]) rfl ⟨rfl, ?_⟩
        exact (HE9.out.setCell (p := ⟨w.heap.size + 1 + 1, 0, none⟩) (by simp; omega) _).setCell (p := ⟨w.heap.size + 1 + 1, 1, none⟩) (by simp; omega) _
      · have HBD := Lib.hid (And.intro hbad0 hbad)
        clear hbad hbad0
        go_enter Try.func49, Try.ntmps49
        go_wp2_with fail
        obtain ⟨W0, hW0⟩ : ∃ W0, ((w.alloc (.cells #[.slice A n c] 43)).alloc (.cells #[.int .i64 x, .int .i64 y] 23)).alloc (.cells #[.int .i64 0, .int .i64 0] 23) = W0 := ⟨_, rfl⟩
        rw [hW0] at HE HK ⊢
        clear hW0
        refine (CV.out _ true HE.out HTT.out).mono ?_
        rintro e w1 ⟨rfl, hb1⟩
        have HK1 := Lib.hid (HK.out.on hb1); have HE1 := Lib.hid (below_then HE.out hb1)
        clear hb1 HK HE
        have HK := HK1; have HE := HE1
        have q0 := (HK1.out _ (.tail _ (.head _))).cell 0
        have q1 := (HK1.out _ (.tail _ (.head _))).cell 1
        simp at q0 q1
        go_wp2_with fail
        refine (rValid_to x y true _ HR.out).mono ?_
        rintro e w2 ⟨rfl, hb1⟩
        have HK2 := Lib.hid (HK1.out.on hb1); have HE2 := Lib.hid (below_then HE1.out hb1)
        clear hb1 HK1 HE1 q0 q1 HK HE
        have HK := HK2; have HE := HE2
        have q0 := (HK2.out _ (.tail _ (.head _))).cell 0
        have q1 := (HK2.out _ (.tail _ (.tail _ (.head _)))).cell 0
        simp at q0 q1
        go_wp2_with fail
        refine (CI.out _ x true HE2.out HTT.out HBD.out.1).mono ?_
        rintro e w3 ⟨rfl, hb1⟩
        have HK3 := Lib.hid (HK2.out.on hb1); have HE3 := Lib.hid (below_then HE2.out hb1)
        clear hb1 HK2 HE2 q0 q1 HK HE
        have HK := HK3; have HE := HE3
        have HE2 := HE3
        have q0 := (HK3.out _ (.tail _ (.head _))).cell 1
        have q1 := (HK3.out _ (.tail _ (.tail _ (.head _)))).cell 0
        simp at q0 q1
        go_wp2_with fail
        refine (CI.out _ y false HE2.out HTT.out HBD.out.2).mono ?_
        rintro e w9 ⟨rfl, hb1⟩
        have hO := (HK.out.on hb1) _ (.head _)
        have HE9 := Lib.hid (below_then HE.out hb1)
        have r0 := hO.cell 0
        have r1 := hO.cell 1
        have f0 := hO.frozen 0
        have f1 := hO.frozen 1
        have lT := hO.lt
        simp at r0 r1
        clear hb1 hO
        go_wp2
        refine bodyPost_ret (v := .tuple #[rv 0 0, .int .i64 4]) (by simp [results, Try.results49, go_sem, r0, r1, lT]) rfl ⟨rfl, ?_⟩
        exact (HE9.out.setCell (p := ⟨w.heap.size + 1 + 1, 0, none⟩) (by simp; omega) _).setCell (p := ⟨w.heap.size + 1 + 1, 1, none⟩) (by simp; omega) _
    · have hr' : vR x y = false := by simpa using hr
      have he : overE ps x y = 10 := by unfold overE; rw [if_pos ht, if_neg hr]
      rw [he]
      have HTT := Lib.hid ht; have HR := Lib.hid hr'
      clear ht hr hr' h0 he
      · skip
        go_enter Try.func49, Try.ntmps49
        go_wp2_with fail
        obtain ⟨W0, hW0⟩ : ∃ W0, ((w.alloc (.cells #[.slice A n c] 43)).alloc (.cells #[.int .i64 x, .int .i64 y] 23)).alloc (.cells #[.int .i64 0, .int .i64 0] 23) = W0 := ⟨_, rfl⟩
        rw [hW0] at HE HK ⊢
        clear hW0
        refine (CV.out _ true HE.out HTT.out).mono ?_
        rintro e w1 ⟨rfl, hb1⟩
        have HK1 := Lib.hid (HK.out.on hb1); have HE1 := Lib.hid (below_then HE.out hb1)
        clear hb1 HK HE
        have HK := HK1; have HE := HE1
        have q0 := (HK1.out _ (.tail _ (.head _))).cell 0
        have q1 := (HK1.out _ (.tail _ (.head _))).cell 1
        simp at q0 q1
        go_wp2_with fail
        refine (rValid_to x y false _ HR.out).mono ?_
        rintro e w9 ⟨rfl, hb1⟩
        have hO := (HK.out.on hb1) _ (.head _)
        have HE9 := Lib.hid (below_then HE.out hb1)
        have r0 := hO.cell 0
        have r1 := hO.cell 1
        have f0 := hO.frozen 0
        have f1 := hO.frozen 1
        have lT := hO.lt
        simp at r0 r1
        clear hb1 hO
        go_wp2
        refine bodyPost_ret (v := .tuple #[rv 0 0, .int .i64 10]) (by simp [results, Try.results49, go_sem, r0, r1, lT]) rfl ⟨rfl, ?_⟩
        exact (HE9.out.setCell (p := ⟨w.heap.size + 1 + 1, 0, none⟩) (by simp; omega) _).setCell (p := ⟨w.heap.size + 1 + 1, 1, none⟩) (by simp; omega) _
  · have ht' : tabOk ps = false := by simpa using ht
    have he : overE ps x y = 11 := by unfold overE; rw [if_neg ht]
    rw [he]
    have HTT := Lib.hid ht'
    clear ht ht' h0 he
    · skip
      · skip
        go_enter Try.func49, Try.ntmps49
        go_wp2_with fail
        obtain ⟨W0, hW0⟩ : ∃ W0, ((w.alloc (.cells #[.slice A n c] 43)).alloc (.cells #[.int .i64 x, .int .i64 y] 23)).alloc (.cells #[.int .i64 0, .int .i64 0] 23) = W0 := ⟨_, rfl⟩
        rw [hW0] at HE HK ⊢
        clear hW0
        refine (CV.out _ false HE.out HTT.out).mono ?_
        rintro e w9 ⟨rfl, hb1⟩
        have hO := (HK.out.on hb1) _ (.head _)
        have HE9 := Lib.hid (below_then HE.out hb1)
        have r0 := hO.cell 0
        have r1 := hO.cell 1
        have f0 := hO.frozen 0
        have f1 := hO.frozen 1
        have lT := hO.lt
        simp at r0 r1
        clear hb1 hO
        go_wp2
        refine bodyPost_ret (v := .tuple #[rv 0 0, .int .i64 11]) (by simp [results, Try.results49, go_sem, r0, r1, lT]) rfl ⟨rfl, ?_⟩
        exact (HE9.out.setCell (p := ⟨w.heap.size + 1 + 1, 0, none⟩) (by simp; omega) _).setCell (p := ⟨w.heap.size + 1 + 1, 1, none⟩) (by simp; omega) _
theorem rover_all (A : Option Addr) (n c : Nat) (ps : List P3) (x y : Int) (w : World) (hn : n = ps.length) (hm : n ≤ maxLen) (hp : Pts w A ps) :
    Calls Try.prog 49 #[tv A n c, rv x y] w fun e w' => e = .returned (rt (overS ps x y)) ∧ Below w.heap.size w w' := by
  by_cases h0 : overE ps x y = 0
  · have ht : tabOk ps = true := by
      cases h : tabOk ps
      · unfold overE at h0; rw [h] at h0; simp at h0
      · rfl
    have hr : vR x y = true := by
      cases h : vR x y
      · unfold overE at h0; rw [if_pos ht, h] at h0; simp at h0
      · rfl
    have hpl : placesS ps x y = 0 := by unfold overE at h0; rw [if_pos ht, if_pos hr] at h0; exact h0
    obtain ⟨b, o, rfl, hb, hc⟩ := hp.block (tabOk_len ht).1
    unfold overS
    rw [if_pos h0]
    exact rover_good b o n c ps x y w hn hb ht hr hpl hc
  · unfold overS
    rw [if_neg h0]
    exact rover_bad A n c ps x y w hn hm hp h0

set_option maxRecDepth 100000 in
set_option maxHeartbeats 2000000 in
theorem sameRanges_nil (A B : Option Addr) (c c' : Nat) (w : World) :
    Calls Try.prog 56 #[.slice A 0 c, .slice B 0 c'] w fun e w' => e = .returned (.bool true) ∧ Below w.heap.size w w' := by
  go_enter Try.func56, Try.ntmps56
  go_wp2_with fail
  go_loopw [13] (fun i wr => i = .int .i64 0 ∧ Below w.heap.size w wr) (fun i _ => 0)
  case atStart => exact ⟨rfl, Below.refl _ _⟩
  case round =>
    obtain ⟨rfl, hB⟩ := hrel
    go_wp2
    go_ret
    exact ⟨rfl, hB⟩
theorem sameRanges_all (A B : Option Addr) (c c' : Nat) (L : List (Int × Int)) (w : World) (hm : L.length ≤ 1000000) (h : RunsP w A L) (h' : RunsP w B L) :
    Calls Try.prog 56 #[.slice A L.length c, .slice B L.length c'] w fun e w' => e = .returned (.bool true) ∧ Below w.heap.size w w' := by
  rcases h with rfl | ⟨b, o, rfl, h1, h2⟩
  · exact sameRanges_nil A B c c' w
  · rcases h' with rfl | ⟨b', o', rfl, h3, h4⟩
    · exact sameRanges_nil _ B c c' w
    · exact sameRanges_yes b o b' o' L.length c c' L w rfl (by unfold maxLen; omega) h1 h3 h2 h4

set_option maxRecDepth 100000 in
set_option maxHeartbeats 16000000 in
theorem fixOver_walk (A : Option Addr) (n c : Nat) (ps : List P3) (ra rb x y : Int) (w : World) (hn : n = ps.length) (hm : n ≤ maxLen) (hp : Pts w A ps) :
    Calls Try.prog 6 #[tv A n c, rv ra rb, .agg #[.int .i64 x, .int .i64 y]] w fun e w' => e = .returned (.bool true) ∧ Below w.heap.size w w' := by
  obtain ⟨⟨xa, ya, za⟩, hr1⟩ : ∃ r, overS ps ra rb = r := ⟨_, rfl⟩
  obtain ⟨L1, hL1⟩ : ∃ r, (if whereE ps ra rb = 0 then runsF (whereS ra rb) (prs ps) else []) = r := ⟨_, rfl⟩
  obtain ⟨E1, hE1⟩ : ∃ r, whereE ps ra rb = r := ⟨_, rfl⟩
  obtain ⟨L2, hL2⟩ : ∃ r, (if tabOk ps = true then runsF (aboveS x) (prs ps) else []) = r := ⟨_, rfl⟩
  obtain ⟨E2, hE2⟩ : ∃ r, aboveE ps = r := ⟨_, rfl⟩
  obtain ⟨⟨ka, kb, kc⟩, hr2⟩ : ∃ r, areaV ps x y = r := ⟨_, rfl⟩
  have hpl : (prs ps).length ≤ 1000000 := by
    by_cases ht : tabOk ps = true
    · have h1 := congrArg List.length (prs_pcs ht); have h2 := pcs_len ps; have h3 := (tabOk_len ht).2; simp at h1; omega
    · have : prs ps = [] := by unfold prs; rw [dif_neg ht]
      rw [this]; simp
  have l1 : L1.length ≤ 1000000 := by
    rw [← hL1]; split
    · exact Nat.le_trans (runsF_len _ _) hpl
    · simp
  have l2 : L2.length ≤ 1000000 := by
    rw [← hL2]; split
    · exact Nat.le_trans (runsF_len _ _) hpl
    · simp
  have C1 : Hid (∀ W, Below w.heap.size w W → Calls Try.prog 48 #[tv A n c, rv ra rb] W fun e w' => e = .returned (.tuple #[rv xa ya, .int .i64 za]) ∧ Below W.heap.size W w') := Lib.hid fun W hW => rt_to (over_all A n c ps ra rb W hn hm (hp.below hW)) hr1
  have C2 : Hid (∀ W, Below w.heap.size w W → Calls Try.prog 49 #[tv A n c, rv ra rb] W fun e w' => e = .returned (.tuple #[rv xa ya, .int .i64 za]) ∧ Below W.heap.size W w') := Lib.hid fun W hW => rt_to (rover_all A n c ps ra rb W hn hm (hp.below hW)) hr1
  have C3 : Hid (∀ W, Below w.heap.size w W → Calls Try.prog 50 #[tv A n c, rv ra rb] W (RunsE W L1 E1)) := Lib.hid fun W hW => by
    have h := where_all A n c ps ra rb W hn hm (hp.below hW)
    rw [hL1, hE1] at h; exact h
  have C4 : Hid (∀ W, Below w.heap.size w W → Calls Try.prog 51 #[tv A n c, rv ra rb] W (RunsE W L1 E1)) := Lib.hid fun W hW => by
    have h := rwhere_all A n c ps ra rb W hn hm (hp.below hW)
    rw [hL1, hE1] at h; exact h
  have C5 : Hid (∀ W, Below w.heap.size w W → Calls Try.prog 52 #[tv A n c, .int .i64 x] W (RunsE W L2 E2)) := Lib.hid fun W hW => by
    have h := above_all A n c ps x W hn hm (hp.below hW)
    rw [hL2, hE2] at h; exact h
  have C6 : Hid (∀ W, Below w.heap.size w W → Calls Try.prog 53 #[tv A n c, .int .i64 x] W (RunsE W L2 E2)) := Lib.hid fun W hW => by
    have h := rabove_all A n c ps x W hn hm (hp.below hW)
    rw [hL2, hE2] at h; exact h
  have C7 : Hid (∀ W, Below w.heap.size w W → Calls Try.prog 54 #[tv A n c, .int .i64 x, .int .i64 y] W fun e w' => e = .returned (.tuple #[.int .i64 ka, .int .i64 kb, .int .i64 kc]) ∧ Below W.heap.size W w') := Lib.hid fun W hW => by
    have h := area_all A n c ps x y W hn hm (hp.below hW)
    rw [hr2] at h; exact h
  have C8 : Hid (∀ W, Below w.heap.size w W → Calls Try.prog 55 #[tv A n c, .int .i64 x, .int .i64 y] W fun e w' => e = .returned (.tuple #[.int .i64 ka, .int .i64 kb, .int .i64 kc]) ∧ Below W.heap.size W w') := Lib.hid fun W hW => by
    have h := rarea_all A n c ps x y W hn hm (hp.below hW)
    rw [hr2] at h; exact h
  clear hr1 hr2 hL1 hL2 hE1 hE2 hn hm hp hpl
  have hK : Boxes (((w.alloc (.cells #[.slice A n c] 43)).alloc (.cells #[.int .i64 ra, .int .i64 rb] 23)).alloc (.cells #[.int .i64 x, .int .i64 y] 45)) [(w.heap.size + 1 + 1, 45, #[.int .i64 x, .int .i64 y]), (w.heap.size + 1, 23, #[.int .i64 ra, .int .i64 rb]), (w.heap.size, 43, #[.slice A n c])] := by
    have h1 : Boxes (w.alloc (.cells #[.slice A n c] 43)) [(w.heap.size, 43, #[.slice A n c])] := fun p hp => by
      have := List.mem_singleton.1 hp; subst this; exact Blk.new w _ _
    have h2 := (h1.new 23 #[.int .i64 ra, .int .i64 rb]).new 45 #[.int .i64 x, .int .i64 y]
    simp only [World.size_alloc] at h2
    exact h2
  have HK0 := Lib.hid hK; clear hK
  have HE0 := Lib.hid (show Below w.heap.size w (((w.alloc (.cells #[.slice A n c] 43)).alloc (.cells #[.int .i64 ra, .int .i64 rb] 23)).alloc (.cells #[.int .i64 x, .int .i64 y] 45)) from below_a3 (Below.refl _ _))
  go_enter Try.func6, Try.ntmps6
  go_wp2_with fail
  obtain ⟨W0, hW⟩ : ∃ W, ((w.alloc (.cells #[.slice A n c] 43)).alloc (.cells #[.int .i64 ra, .int .i64 rb] 23)).alloc (.cells #[.int .i64 x, .int .i64 y] 45) = W := ⟨_, rfl⟩
  rw [hW] at HK0 HE0 ⊢
  clear hW
  obtain ⟨G, hG⟩ : ∃ G, w.heap.size = G := ⟨_, rfl⟩
  rw [hG] at HK0 ⊢
  have HG := Lib.hid hG; clear hG
  -- C1
  refine (C1.out _ HE0.out).mono ?_
  rintro e v1 ⟨rfl, hb1⟩
  have HK1 := Lib.hid ((HK0.out.on hb1).new 23 #[.int .i64 xa, .int .i64 ya]); have HE1 := Lib.hid (below_then (below_then HE0.out hb1) (below_alloc1 v1 (.cells #[.int .i64 xa, .int .i64 ya] 23)))
  clear hb1 HK0 HE0 
  have q0 := (HK1.out _ (.tail _ (.tail _ (.tail _ (.head _))))).cell 0
  have q1 := (HK1.out _ (.tail _ (.tail _ (.head _)))).cell 0
  have q2 := (HK1.out _ (.tail _ (.tail _ (.head _)))).cell 1
  simp at q0 q1 q2
  go_upto_region 2 with fail
  clear q0 q1 q2
  obtain ⟨B1, hB⟩ : ∃ B, v1.heap.size = B := ⟨_, rfl⟩
  obtain ⟨W1, hW⟩ : ∃ W, v1.alloc (.cells #[.int .i64 xa, .int .i64 ya] 23) = W := ⟨_, rfl⟩
  rw [hW] at HK1 HE1 ⊢
  rw [hB] at HK1 ⊢
  clear hW hB
  -- C2
  have q0 := (HK1.out _ (.tail _ (.tail _ (.tail _ (.head _))))).cell 0
  have q1 := (HK1.out _ (.tail _ (.tail _ (.head _)))).cell 0
  have q2 := (HK1.out _ (.tail _ (.tail _ (.head _)))).cell 1
  simp at q0 q1 q2
  go_wp2_with fail
  refine (C2.out _ HE1.out).mono ?_
  rintro e v2 ⟨rfl, hb1⟩
  have HK2 := Lib.hid ((HK1.out.on hb1).new 23 #[.int .i64 xa, .int .i64 ya]); have HE2 := Lib.hid (below_then (below_then HE1.out hb1) (below_alloc1 v2 (.cells #[.int .i64 xa, .int .i64 ya] 23)))
  clear hb1 HK1 HE1 q0 q1 q2
  have q0 := (HK2.out _ (.tail _ (.tail _ (.tail _ (.tail _ (.head _)))))).cell 0
  have q1 := (HK2.out _ (.tail _ (.tail _ (.tail _ (.head _))))).cell 0
  have q2 := (HK2.out _ (.tail _ (.tail _ (.tail _ (.head _))))).cell 1
  simp at q0 q1 q2
  go_upto_region 3 with fail
  clear q0 q1 q2
  obtain ⟨B2, hB⟩ : ∃ B, v2.heap.size = B := ⟨_, rfl⟩
  obtain ⟨W2, hW⟩ : ∃ W, v2.alloc (.cells #[.int .i64 xa, .int .i64 ya] 23) = W := ⟨_, rfl⟩
  rw [hW] at HK2 HE2 ⊢
  rw [hB] at HK2 ⊢
  clear hW hB
  -- C3
  have q0 := (HK2.out _ (.tail _ (.tail _ (.tail _ (.tail _ (.head _)))))).cell 0
  have q1 := (HK2.out _ (.tail _ (.tail _ (.tail _ (.head _))))).cell 0
  have q2 := (HK2.out _ (.tail _ (.tail _ (.tail _ (.head _))))).cell 1
  simp at q0 q1 q2
  go_wp2_with fail
  refine (C3.out _ HE2.out).mono ?_
  rintro e v3 ⟨A3, c3, rfl, hp3, hb1⟩
  have HQ3_3 := Lib.hid hp3
  clear hp3
  have HK3 := Lib.hid (HK2.out.on hb1); have HE3 := Lib.hid (below_then HE2.out hb1)
  clear hb1 HK2 HE2 q0 q1 q2
  -- C4
  have q0 := (HK3.out _ (.tail _ (.tail _ (.tail _ (.tail _ (.head _)))))).cell 0
  have q1 := (HK3.out _ (.tail _ (.tail _ (.tail _ (.head _))))).cell 0
  have q2 := (HK3.out _ (.tail _ (.tail _ (.tail _ (.head _))))).cell 1
  simp at q0 q1 q2
  go_wp2_with fail
  refine (C4.out _ HE3.out).mono ?_
  rintro e v4 ⟨A4, c4, rfl, hp4, hb1⟩
  have HQ3_4 := Lib.hid (HQ3_3.out.below hb1)
  clear HQ3_3
  have HQ4_4 := Lib.hid hp4
  clear hp4
  have HK4 := Lib.hid (HK3.out.on hb1); have HE4 := Lib.hid (below_then HE3.out hb1)
  clear hb1 HK3 HE3 q0 q1 q2
  -- C5
  have q0 := (HK4.out _ (.tail _ (.tail _ (.tail _ (.tail _ (.head _)))))).cell 0
  have q1 := (HK4.out _ (.tail _ (.tail _ (.head _)))).cell 0
  simp at q0 q1
  go_wp2_with fail
  refine (C5.out _ HE4.out).mono ?_
  rintro e v5 ⟨A5, c5, rfl, hp5, hb1⟩
  have HQ3_5 := Lib.hid (HQ3_4.out.below hb1)
  have HQ4_5 := Lib.hid (HQ4_4.out.below hb1)
  clear HQ3_4 HQ4_4
  have HQ5_5 := Lib.hid hp5
  clear hp5
  have HK5 := Lib.hid (HK4.out.on hb1); have HE5 := Lib.hid (below_then HE4.out hb1)
  clear hb1 HK4 HE4 q0 q1
  -- C6
  have q0 := (HK5.out _ (.tail _ (.tail _ (.tail _ (.tail _ (.head _)))))).cell 0
  have q1 := (HK5.out _ (.tail _ (.tail _ (.head _)))).cell 0
  simp at q0 q1
  go_wp2_with fail
  refine (C6.out _ HE5.out).mono ?_
  rintro e v6 ⟨A6, c6, rfl, hp6, hb1⟩
  have HQ3_6 := Lib.hid (HQ3_5.out.below hb1)
  have HQ4_6 := Lib.hid (HQ4_5.out.below hb1)
  have HQ5_6 := Lib.hid (HQ5_5.out.below hb1)
  clear HQ3_5 HQ4_5 HQ5_5
  have HQ6_6 := Lib.hid hp6
  clear hp6
  have HK6 := Lib.hid (HK5.out.on hb1); have HE6 := Lib.hid (below_then HE5.out hb1)
  clear hb1 HK5 HE5 q0 q1
  -- C7
  have q0 := (HK6.out _ (.tail _ (.tail _ (.tail _ (.tail _ (.head _)))))).cell 0
  have q1 := (HK6.out _ (.tail _ (.tail _ (.head _)))).cell 0
  have q2 := (HK6.out _ (.tail _ (.tail _ (.head _)))).cell 1
  simp at q0 q1 q2
  go_wp2_with fail
  refine (C7.out _ HE6.out).mono ?_
  rintro e v7 ⟨rfl, hb1⟩
  have HQ3_7 := Lib.hid (HQ3_6.out.below hb1)
  have HQ4_7 := Lib.hid (HQ4_6.out.below hb1)
  have HQ5_7 := Lib.hid (HQ5_6.out.below hb1)
  have HQ6_7 := Lib.hid (HQ6_6.out.below hb1)
  clear HQ3_6 HQ4_6 HQ5_6 HQ6_6
  have HK7 := Lib.hid (HK6.out.on hb1); have HE7 := Lib.hid (below_then HE6.out hb1)
  clear hb1 HK6 HE6 q0 q1 q2
  -- C8
  have q0 := (HK7.out _ (.tail _ (.tail _ (.tail _ (.tail _ (.head _)))))).cell 0
  have q1 := (HK7.out _ (.tail _ (.tail _ (.head _)))).cell 0
  have q2 := (HK7.out _ (.tail _ (.tail _ (.head _)))).cell 1
  simp at q0 q1 q2
  go_wp2_with fail
  refine (C8.out _ HE7.out).mono ?_
  rintro e v8 ⟨rfl, hb1⟩
  have HQ3_8 := Lib.hid (HQ3_7.out.below hb1)
  have HQ4_8 := Lib.hid (HQ4_7.out.below hb1)
  have HQ5_8 := Lib.hid (HQ5_7.out.below hb1)
  have HQ6_8 := Lib.hid (HQ6_7.out.below hb1)
  clear HQ3_7 HQ4_7 HQ5_7 HQ6_7
  have HK8 := Lib.hid (HK7.out.on hb1); have HE8 := Lib.hid (below_then HE7.out hb1)
  clear hb1 HK7 HE7 q0 q1 q2
  have q0 := (HK8.out _ (.tail _ (.head _))).cell 0
  have q1 := (HK8.out _ (.tail _ (.head _))).cell 1
  have q2 := (HK8.out _ (.head _)).cell 0
  have q3 := (HK8.out _ (.head _)).cell 1
  simp at q0 q1 q2 q3
  go_wp2_with fail
  refine (sameRanges_all A3 A4 c3 c4 L1 _ l1 HQ3_8.out HQ4_8.out).mono ?_
  rintro e v9 ⟨rfl, hb1⟩
  have HQ5_9 := Lib.hid (HQ5_8.out.below hb1); have HQ6_9 := Lib.hid (HQ6_8.out.below hb1); have HE9 := Lib.hid (below_then HE8.out hb1)
  clear hb1 HK8 HE8 q0 q1 q2 q3 HQ5_8 HQ6_8 HQ3_8 HQ4_8
  go_wp2_with fail
  refine (sameRanges_all A5 A6 c5 c6 L2 _ l2 HQ5_9.out HQ6_9.out).mono ?_
  rintro e v10 ⟨rfl, hb1⟩
  have HE10 := Lib.hid (below_then HE9.out hb1)
  clear hb1 HE9
  go_wp2_with fail
  refine (sane_any _).mono ?_
  rintro e v11 ⟨rfl, hb1⟩
  go_wp2
  go_ret
  exact ⟨rfl, below_then HE10.out hb1⟩
end

section
open Go.ChangeShapes Go.WideShapes Go.ChangeAt Go.RowKit Go.Joins Go.Deep

set_option maxRecDepth 100000 in
theorem open_range {H : Type} {enc : TypeId × Value → H} {W : World} {base : Nat} {v : Value} {d : DataW H} {ps : List MemPlace} (hv : Value.okWide Try.prog W .any base 23 v) (h : DataW.Trod enc Try.prog W 0 (fun _ => true) true 23 v d ps) :
    ∃ a b : Int, v = rv a b ∧ I64 a ∧ I64 b := by
  obtain ⟨cs, rfl, hsz⟩ := okWide_struct Try.underlying23 hv
  rw [Try.cellsRange] at hsz
  obtain ⟨c0, c1, rfl⟩ := array2 hsz
  obtain ⟨fuel, hf⟩ := h
  obtain ⟨y0, y1, k, _, _, h0, h1⟩ := trod_struct2 Try.underlying23 hf
  simp only [Value.cells, Try.cellsInt] at h0 h1
  obtain ⟨n0, e0, _, w0⟩ := DataW.trod_int Try.underlying3 h0
  obtain ⟨n1, e1, _, w1⟩ := DataW.trod_int Try.underlying3 h1
  simp at e0 e1
  subst e0 e1
  exact ⟨n0, n1, rfl, bounds_i64 w0, bounds_i64 w1⟩

set_option maxRecDepth 100000 in
theorem fixOver_lifted (os : Os) (started : os.Started) (H : Type) (enc : TypeId × Value → H) :
    ReturnsInHanded {} Try.checked os 6 .any (Rows.fixOverSpec.pre6 enc Try.prog Try.f6 Rows.fixOverRow.domain false) (Rows.fixOverSpec.post enc Try.prog Try.f6 false true false false) := by
  refine returnsInHanded_of_change (C := Try.checked) own started (by kernel_rfl) Try.func6
    (ChangeSpec.witness6 (enc := enc) (C := Try.checked) false ⟨#[], #[.agg #[.slice none 0 0], .agg #[.int .i64 0, .int .i64 0], .agg #[.int .i64 0, .int .i64 0]], []⟩ 8 (by kernel_rfl) (by kernel_rfl) (by kernel_rfl) (by kernel_rfl)) ?_
  intro W base args ds gs before hval0 hW hcnd _
  have hval : ∀ (j : Nat) t v, Try.f6.params[j]? = some t → args[j]? = some v → Value.okWide Try.prog W .any base t v := hval0
  have hW' := hW
  obtain ⟨p, q, hA0, hV, rfl, hfz, hnd⟩ := hW
  have hA : DataW.TrodAll enc Try.prog W 0 (fun _ => true) true Try.f6.params.toList args.toList ds p := hA0
  rw [Try.params6] at hA hval
  obtain ⟨v0, v1, v2, d0, d1, d2, p0, p1, p2, hargs, rfl, rfl, h0, h1, h2⟩ := trodAll_three hA
  obtain rfl : args = #[v0, v1, v2] := by cases args; simp_all
  obtain ⟨rfl, rfl⟩ := trodVars_none hV
  obtain ⟨A, n, c, ps, rfl, hn, hm, hp⟩ := open_table (hval 0 43 v0 rfl rfl) h0
  obtain ⟨a, b, rfl, _, _⟩ := open_range (hval 1 23 v1 rfl rfl) h1
  obtain ⟨x, y, rfl, _, _⟩ := open_two_ints (hval 2 45 v2 rfl rfl) h2
  refine (fixOver_walk A n c ps a b x y W hn hm hp).mono fun e W' ⟨he, hb⟩ => ?_
  subst he
  exact ⟨_, rfl, law_post rfl rfl (by intro t ht; rw [Try.params6] at ht
                                      have : t = 43 ∨ t = 23 ∨ t = 45 := by simpa using ht
                                      rcases this with rfl | rfl | rfl <;> exact ⟨by kernel_rfl, of_decide_eq_true (by kernel_rfl)⟩) hW' rfl rfl rfl hb⟩

theorem fixOver_holds : Rows.FixOverSaid :=
  OpenClaim.holds_of_wide 6 Try.f6 rfl rfl rfl rfl rfl rfl rfl ⟨rfl, rfl, rfl, rfl, rfl⟩ rfl rfl rfl rfl rfl (by kernel_rfl) Try.func6 (by kernel_rfl)
    (of_decide_eq_true (by kernel_rfl)) (by unfold Func.isWrapper; rw [if_neg (of_decide_eq_false (by kernel_rfl))]; exact ⟨rfl, rfl⟩)
    (fun os started H enc _ => fixOver_lifted os started H enc)
end

end Go.Proofs.Ythhcejcpopgkiaa
