/- Falling and rising tables (plain); the closures of inverse for a tank. -/
import Derived.Test.YtmdilbmgopggaaaGreatQ26
import Derived.Test.YtmdilbmgopggaaaGreatQ25
import Derived.Test.YtmdilbmgopggaaaGreatQ16
import Derived.Test.YtmdilbmgopggaaaGreatQ40
import Derived.Test.YtmdilbmgopggaaaGreatQ39
import Derived.Test.YtmdilbmgopggaaaGreatQ27
import Derived.Test.YtmdilbmgopggaaaGreatQ10
import Derived.Test.YtmdilbmgopggaaaGreatQA
set_option linter.unusedVariables false
set_option linter.unusedSimpArgs false
set_option linter.constructorNameAsVariable false
namespace Go.Proofs.YtmdilbmgopggaaaGreat

section
open Go.RowKit

/-- The binary search finds where a question turns. -/
theorem bs_turn (f : Int → Bool) : ∀ (k : Nat) (i j : Int), i ≤ j → (j - i).toNat ≤ k → (∀ u v, i ≤ u → u ≤ v → v < j → f u = true → f v = true) →
    (i ≤ bs f k i j ∧ bs f k i j ≤ j) ∧ (∀ v, i ≤ v → v < bs f k i j → f v = false) ∧ (∀ v, bs f k i j ≤ v → v < j → f v = true)
  | 0, i, j, h, hk, _ => ⟨by simp [bs]; omega, fun v h1 h2 => by simp [bs] at h2; omega, fun v h1 h2 => by simp [bs] at h1; omega⟩
  | k + 1, i, j, h, hk, hm => by
    rw [bs]
    by_cases hlt : i < j
    · rw [if_pos hlt]
      have m1 : i ≤ (i + j) / 2 := by omega
      have m2 : (i + j) / 2 < j := by omega
      cases hf : f ((i + j) / 2)
      · simp only [Bool.false_eq_true, if_false]
        obtain ⟨⟨r1, r2⟩, r3, r4⟩ := bs_turn f k ((i + j) / 2 + 1) j (by omega) (by omega) (fun u v a b c => hm u v (by omega) b c)
        refine ⟨by omega, fun v h1 h2 => ?_, r4⟩
        rcases Int.lt_or_le ((i + j) / 2) v with c | c
        · exact r3 v (by omega) h2
        · cases hv : f v
          · rfl
          · have := hm v ((i + j) / 2) h1 c m2 hv
            rw [hf] at this; cases this
      · simp only [if_true]
        obtain ⟨⟨r1, r2⟩, r3, r4⟩ := bs_turn f k i ((i + j) / 2) (by omega) (by omega) (fun u v a b c => hm u v a b (by omega))
        refine ⟨by omega, r3, fun v h1 h2 => ?_⟩
        rcases Int.lt_or_le v ((i + j) / 2) with c | c
        · exact r4 v h1 c
        · exact hm ((i + j) / 2) v m1 c h2 hf
    · rw [if_neg hlt]
      exact ⟨by omega, fun v h1 h2 => by omega, fun v h1 h2 => by omega⟩
end

section
open Go.RowKit

theorem pAt_low_down {p q : P3} (h : q.2.1 ≤ p.2.1) : ∀ x y, x ≤ y → (pAt p q y).1 ≤ (pAt p q x).1 :=
  fun x y k => by have := riseS_down (D := q.1 - p.1) (show x - p.1 ≤ y - p.1 by omega) (show q.2.1 - p.2.1 ≤ 0 by omega); simp only [pAt]; omega
theorem pAt_low_up {p q : P3} (h : p.2.1 ≤ q.2.1) : ∀ x y, x ≤ y → (pAt p q x).1 ≤ (pAt p q y).1 :=
  fun x y k => by have := riseS_up (D := q.1 - p.1) (show x - p.1 ≤ y - p.1 by omega) (show 0 ≤ q.2.1 - p.2.1 by omega); simp only [pAt]; omega
theorem pAt_high_down {p q : P3} (h : q.2.2 ≤ p.2.2) : ∀ x y, x ≤ y → (pAt p q y).2 ≤ (pAt p q x).2 :=
  fun x y k => by have := riseS_up (D := q.1 - p.1) (show x - p.1 ≤ y - p.1 by omega) (show 0 ≤ p.2.2 - q.2.2 by omega); simp only [pAt]; omega
theorem pAt_high_up {p q : P3} (h : p.2.2 ≤ q.2.2) : ∀ x y, x ≤ y → (pAt p q x).2 ≤ (pAt p q y).2 :=
  fun x y k => by have := riseS_down (D := q.1 - p.1) (show x - p.1 ≤ y - p.1 by omega) (show p.2.2 - q.2.2 ≤ 0 by omega); simp only [pAt]; omega

theorem falls_next {ps : List P3} (h : fallsS ps = true) : ∀ (i : Nat) (p q : P3), ps[i]? = some p → ps[i + 1]? = some q → q.2.1 ≤ p.2.1 ∧ q.2.2 ≤ p.2.2 := by
  induction ps with
  | nil => intro i p q hp; simp at hp
  | cons a r ih =>
    cases r with
    | nil => intro i p q hp hq; simp at hq
    | cons b r =>
      simp only [fallsS, Bool.and_eq_true, decide_eq_true_eq] at h
      intro i p q hp hq
      cases i with
      | zero => simp at hp hq; subst hp; subst hq; exact h.1
      | succ i => exact ih h.2 i p q (by simpa using hp) (by simpa using hq)
theorem falls_le {ps : List P3} (h : fallsS ps = true) : ∀ (k i : Nat) (p q : P3), ps[i]? = some p → ps[i + k]? = some q → q.2.1 ≤ p.2.1 ∧ q.2.2 ≤ p.2.2
  | 0, i, p, q, hp, hq => by rw [Nat.add_zero, hp] at hq; injection hq with hq; subst hq; exact ⟨Int.le_refl _, Int.le_refl _⟩
  | k + 1, i, p, q, hp, hq => by
    have hl : i + k < ps.length := by have := (List.getElem?_eq_some_iff.1 hq).1; omega
    have h1 := falls_le h k i p _ hp (List.getElem?_eq_getElem hl)
    have h2 := falls_next h (i + k) _ q (List.getElem?_eq_getElem hl) hq
    omega
theorem at_falls {ps : List P3} (ht : tabOk ps = true) (h2 : 2 ≤ ps.length) (hf : fallsS ps = true) {x y : Int} (h0 : firstX ps ≤ x) (h : x ≤ y) (h1 : y ≤ lastX ps) : (atS ps y).1 ≤ (atS ps x).1 ∧ (atS ps y).2 ≤ (atS ps x).2 := by
  by_cases hxy : x = y
  · subst hxy; exact ⟨Int.le_refl _, Int.le_refl _⟩
  obtain ⟨i, pq, hi, b1, b2, _⟩ := piece_at ht h0 (show x ≤ lastX ps by omega)
  obtain ⟨j, rs, hj, c1, c2, _⟩ := piece_at ht (show firstX ps ≤ y by omega) h1
  have i1 : ps[i]? = some pq.1 := by have h3 := hi; rw [pcs_two h2, List.getElem?_zip_eq_some] at h3; exact h3.1
  have i2 := pcs_before h2 hi
  have j1 : ps[j]? = some rs.1 := by have h3 := hj; rw [pcs_two h2, List.getElem?_zip_eq_some] at h3; exact h3.1
  have j2 := pcs_before h2 hj
  have s1 := falls_next hf i _ _ i1 i2
  have s2 := falls_next hf j _ _ j1 j2
  rcases Nat.lt_trichotomy i j with c | c | c
  · obtain ⟨k, rfl⟩ : ∃ k, j = i + 1 + k := ⟨j - (i + 1), by omega⟩
    have s3 := falls_le hf k (i + 1) _ _ i2 j1
    have e1 := atS_any ht hi b1 b2
    have e2 := atS_any ht hj c1 c2
    have m1 := piece_mem ht hi
    have m2 := piece_mem ht hj
    have e3 := atS_any ht hi m1.2.2 (Int.le_refl _)
    rw [atS_point ht m1.2.1] at e3
    have e4 := pAt_start rs.1 rs.2
    have w1 := pAt_low_down s1.1 _ _ b2
    have w2 := pAt_high_down s1.2 _ _ b2
    have w3 := pAt_low_down s2.1 _ _ c1
    have w4 := pAt_high_down s2.2 _ _ c1
    rw [← e3] at w1 w2
    rw [e4] at w3 w4
    rw [e1, e2]
    dsimp only at w1 w2 w3 w4
    omega
  · subst c
    rw [hi] at hj; injection hj with hj; subst hj
    rw [atS_any ht hi b1 b2, atS_any ht hi c1 c2]
    exact ⟨pAt_low_down s1.1 _ _ h, pAt_high_down s1.2 _ _ h⟩
  · have := piece_start ht hi hj c
    omega

theorem rises_next {ps : List P3} (h : risesS ps = true) : ∀ (i : Nat) (p q : P3), ps[i]? = some p → ps[i + 1]? = some q → p.2.1 ≤ q.2.1 ∧ p.2.2 ≤ q.2.2 := by
  induction ps with
  | nil => intro i p q hp; simp at hp
  | cons a r ih =>
    cases r with
    | nil => intro i p q hp hq; simp at hq
    | cons b r =>
      simp only [risesS, Bool.and_eq_true, decide_eq_true_eq] at h
      intro i p q hp hq
      cases i with
      | zero => simp at hp hq; subst hp; subst hq; exact h.1
      | succ i => exact ih h.2 i p q (by simpa using hp) (by simpa using hq)
theorem rises_le {ps : List P3} (h : risesS ps = true) : ∀ (k i : Nat) (p q : P3), ps[i]? = some p → ps[i + k]? = some q → p.2.1 ≤ q.2.1 ∧ p.2.2 ≤ q.2.2
  | 0, i, p, q, hp, hq => by rw [Nat.add_zero, hp] at hq; injection hq with hq; subst hq; exact ⟨Int.le_refl _, Int.le_refl _⟩
  | k + 1, i, p, q, hp, hq => by
    have hl : i + k < ps.length := by have := (List.getElem?_eq_some_iff.1 hq).1; omega
    have h1 := rises_le h k i p _ hp (List.getElem?_eq_getElem hl)
    have h2 := rises_next h (i + k) _ q (List.getElem?_eq_getElem hl) hq
    omega
theorem at_rises {ps : List P3} (ht : tabOk ps = true) (h2 : 2 ≤ ps.length) (hf : risesS ps = true) {x y : Int} (h0 : firstX ps ≤ x) (h : x ≤ y) (h1 : y ≤ lastX ps) : (atS ps x).1 ≤ (atS ps y).1 ∧ (atS ps x).2 ≤ (atS ps y).2 := by
  by_cases hxy : x = y
  · subst hxy; exact ⟨Int.le_refl _, Int.le_refl _⟩
  obtain ⟨i, pq, hi, b1, b2, _⟩ := piece_at ht h0 (show x ≤ lastX ps by omega)
  obtain ⟨j, rs, hj, c1, c2, _⟩ := piece_at ht (show firstX ps ≤ y by omega) h1
  have i1 : ps[i]? = some pq.1 := by have h3 := hi; rw [pcs_two h2, List.getElem?_zip_eq_some] at h3; exact h3.1
  have i2 := pcs_before h2 hi
  have j1 : ps[j]? = some rs.1 := by have h3 := hj; rw [pcs_two h2, List.getElem?_zip_eq_some] at h3; exact h3.1
  have j2 := pcs_before h2 hj
  have s1 := rises_next hf i _ _ i1 i2
  have s2 := rises_next hf j _ _ j1 j2
  rcases Nat.lt_trichotomy i j with c | c | c
  · obtain ⟨k, rfl⟩ : ∃ k, j = i + 1 + k := ⟨j - (i + 1), by omega⟩
    have s3 := rises_le hf k (i + 1) _ _ i2 j1
    have e1 := atS_any ht hi b1 b2
    have e2 := atS_any ht hj c1 c2
    have m1 := piece_mem ht hi
    have m2 := piece_mem ht hj
    have e3 := atS_any ht hi m1.2.2 (Int.le_refl _)
    rw [atS_point ht m1.2.1] at e3
    have e4 := pAt_start rs.1 rs.2
    have w1 := pAt_low_up s1.1 _ _ b2
    have w2 := pAt_high_up s1.2 _ _ b2
    have w3 := pAt_low_up s2.1 _ _ c1
    have w4 := pAt_high_up s2.2 _ _ c1
    rw [← e3] at w1 w2
    rw [e4] at w3 w4
    rw [e1, e2]
    dsimp only at w1 w2 w3 w4
    omega
  · subst c
    rw [hi] at hj; injection hj with hj; subst hj
    rw [atS_any ht hi b1 b2, atS_any ht hi c1 c2]
    exact ⟨pAt_low_up s1.1 _ _ h, pAt_high_up s1.2 _ _ h⟩
  · have := piece_start ht hi hj c
    omega
end

section
open Go.RowKit
attribute [local go_sem ↓] run_minI run_maxI
set_option maxRecDepth 100000 in
set_option maxHeartbeats 2000000 in
theorem inv1_less (A : Option Addr) (n c : Nat) (ps : List P3) (v0 v1 x : Int) (t : Bool) (Bt Ba Bv : Nat) (w : World) (h : InvIn w Bt Ba Bv A n c 161 v0 v1 ps) (ht : tabOk ps = true) (h1 : firstX ps ≤ x) (h2 : x ≤ lastX ps) (hf : (!lessF ps v0 x) = t) :
    Calls Tryz.prog 210 #[.int .i64 x, .pointer (some ⟨Bt, 0, none⟩), .pointer (some ⟨Ba, 0, none⟩), .pointer (some ⟨Bv, 0, none⟩)] w fun e w' => e = .returned (.bool t) ∧ Below w.heap.size w w' := by
  have C1 : Hid (∀ W, Below w.heap.size w W → Calls Tryz.prog 178 #[tv A n c, .int .i64 x] W fun e w' => e = .returned (.tuple #[rv (atS ps x).1 (atS ps x).2, .int .i64 0]) ∧ Below W.heap.size W w') := Lib.hid fun W hW => at_in A n c ps x W (h.2.2.2.below hW) ht h1 h2
  obtain ⟨u, hu⟩ : ∃ u, decide ((atS ps x).2 < v0) = u := ⟨_, rfl⟩
  have C2 : Hid (∀ W, Calls Tryz.prog 161 #[rv (atS ps x).1 (atS ps x).2, rv v0 v1] W fun e w' => e = .returned (.bool u) ∧ Below W.heap.size W w') := Lib.hid fun W => less_to _ _ v0 v1 u W hu
  have hut : (!u) = t := by rw [← hf, ← hu]; rfl
  clear hf hu ht h1 h2
  generalize (atS ps x).1 = p at *
  generalize (atS ps x).2 = q at *
  have q1 := h.1.cell 0
  have l1 := h.1.lt
  simp at q1
  have HI := Lib.hid h
  clear h
  go_enter Tryz.func210, Tryz.ntmps210
  go_wp2_with fail
  refine (C1.out _ (Below.refl _ _)).mono ?_
  rintro e w1 ⟨rfl, hb⟩
  have HE := Lib.hid (below_then hb (below_alloc1 w1 (.cells #[.int .i64 p, .int .i64 q] 23)))
  have HI1 := Lib.hid (HI.out.below HE.out)
  have a0 := HI1.out.2.1.cell 0
  have b0 := HI1.out.2.2.1.cell 0
  have b1 := HI1.out.2.2.1.cell 1
  simp at a0 b0 b1
  have la := (HI.out.below hb).2.1.lt
  have lb := (HI.out.below hb).2.2.1.lt
  have a0' := (HI.out.below hb).2.1.cell 0
  have b0' := (HI.out.below hb).2.2.1.cell 0
  have b1' := (HI.out.below hb).2.2.1.cell 1
  simp at a0' b0' b1'
  clear hb HI C1 q1 l1
  go_wp2_with fail
  refine (C2.out _).mono ?_
  rintro e w2 ⟨rfl, hb⟩
  have HE2 := Lib.hid (below_then HE.out hb)
  clear hb HE HI1 a0 b0 b1 la lb a0' b0' b1' C2
  cases u
  all_goals
    simp only [Bool.not_false, Bool.not_true] at hut
    subst hut
    go_wp2
    go_ret
    exact ⟨rfl, HE2.out⟩

set_option maxRecDepth 100000 in
set_option maxHeartbeats 2000000 in
theorem inv2_more (A : Option Addr) (n c : Nat) (ps : List P3) (v0 v1 x : Int) (t : Bool) (Bt Ba Bv : Nat) (w : World) (h : InvIn w Bt Ba Bv A n c 162 v0 v1 ps) (ht : tabOk ps = true) (h1 : firstX ps ≤ x) (h2 : x ≤ lastX ps) (hf : moreF ps v1 x = t) :
    Calls Tryz.prog 211 #[.int .i64 x, .pointer (some ⟨Bt, 0, none⟩), .pointer (some ⟨Ba, 0, none⟩), .pointer (some ⟨Bv, 0, none⟩)] w fun e w' => e = .returned (.bool t) ∧ Below w.heap.size w w' := by
  have C1 : Hid (∀ W, Below w.heap.size w W → Calls Tryz.prog 178 #[tv A n c, .int .i64 x] W fun e w' => e = .returned (.tuple #[rv (atS ps x).1 (atS ps x).2, .int .i64 0]) ∧ Below W.heap.size W w') := Lib.hid fun W hW => at_in A n c ps x W (h.2.2.2.below hW) ht h1 h2
  obtain ⟨u, hu⟩ : ∃ u, decide (v1 < (atS ps x).1) = u := ⟨_, rfl⟩
  have C2 : Hid (∀ W, Calls Tryz.prog 162 #[rv (atS ps x).1 (atS ps x).2, rv v0 v1] W fun e w' => e = .returned (.bool u) ∧ Below W.heap.size W w') := Lib.hid fun W => more_to _ _ v0 v1 u W hu
  have hut : u = t := by rw [← hf, ← hu]; rfl
  clear hf hu ht h1 h2
  generalize (atS ps x).1 = p at *
  generalize (atS ps x).2 = q at *
  have q1 := h.1.cell 0
  have l1 := h.1.lt
  simp at q1
  have HI := Lib.hid h
  clear h
  go_enter Tryz.func211, Tryz.ntmps211
  go_wp2_with fail
  refine (C1.out _ (Below.refl _ _)).mono ?_
  rintro e w1 ⟨rfl, hb⟩
  have HE := Lib.hid (below_then hb (below_alloc1 w1 (.cells #[.int .i64 p, .int .i64 q] 23)))
  have HI1 := Lib.hid (HI.out.below HE.out)
  have a0 := HI1.out.2.1.cell 0
  have b0 := HI1.out.2.2.1.cell 0
  have b1 := HI1.out.2.2.1.cell 1
  simp at a0 b0 b1
  have la := (HI.out.below hb).2.1.lt
  have lb := (HI.out.below hb).2.2.1.lt
  have a0' := (HI.out.below hb).2.1.cell 0
  have b0' := (HI.out.below hb).2.2.1.cell 0
  have b1' := (HI.out.below hb).2.2.1.cell 1
  simp at a0' b0' b1'
  clear hb HI C1 q1 l1
  go_wp2_with fail
  refine (C2.out _).mono ?_
  rintro e w2 ⟨rfl, hb⟩
  have HE2 := Lib.hid (below_then HE.out hb)
  clear hb HE HI1 a0 b0 b1 la lb a0' b0' b1' C2
  cases u
  all_goals
    subst hut
    go_wp2
    go_ret
    exact ⟨rfl, HE2.out⟩
end

end Go.Proofs.YtmdilbmgopggaaaGreat
