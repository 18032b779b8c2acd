/- Plain: the search of the specification's Worst ends at the first place of the greatest value. No conditions. -/
import Derived.Test.YtbcefdaflnlhoaaGreatQ50
import Derived.Test.YtbcefdaflnlhoaaGreatQ30
import Derived.Test.YtbcefdaflnlhoaaGreatQ25
set_option linter.unusedVariables false
set_option linter.unusedSimpArgs false
set_option linter.constructorNameAsVariable false
namespace Go.Proofs.YtbcefdaflnlhoaaGreat

section
open Go.RowKit

theorem addRun_starts (L : List (Int × Int)) (r : Int × Int) : (addRun L r).map (·.1) = L.map (·.1) ∨ (addRun L r).map (·.1) = L.map (·.1) ++ [r.1] := by
  unfold addRun
  cases hz : L.getLast? with
  | none =>
    have : L = [] := List.getLast?_eq_none_iff.1 hz
    subst this
    exact .inr rfl
  | some z =>
    obtain ⟨init, rfl⟩ : ∃ init, L = init ++ [z] := List.getLast?_eq_some_iff.1 hz
    dsimp only
    by_cases e : r.1 = z.2
    · rw [if_pos e, List.dropLast_concat]; left; simp
    · rw [if_neg e]; right; simp
theorem starts_up {f : P3 → P3 → Int × Int} (hin : ∀ p q : P3, p.1 ≤ q.1 → (f p q).1 ≤ (f p q).2 → p.1 ≤ (f p q).1 ∧ (f p q).2 ≤ q.1) :
    ∀ (xs : List Pr) (L : List (Int × Int)) (B : Int), xs.Pairwise (fun y z => y.1.2.1 ≤ z.1.1.1) → (∀ y ∈ xs, B ≤ y.1.1.1) → (∀ s ∈ L.map (·.1), s ≤ B) → (L.map (·.1)).Pairwise (· ≤ ·) → ((xs.foldl (runStep f) L).map (·.1)).Pairwise (· ≤ ·)
  | [], L, B, _, _, _, h => h
  | y :: xs, L, B, hx, hB, hL, h => by
    rw [List.foldl_cons]
    have hx1 := List.pairwise_cons.1 hx
    have hy := hB y (by simp)
    have hpq := y.2.2.2
    by_cases c : (f y.1.1 y.1.2).1 ≤ (f y.1.1 y.1.2).2
    · have e : runStep f L y = addRun L (f y.1.1 y.1.2) := by unfold runStep; rw [if_pos c]
      have hr := hin _ _ hpq c
      refine starts_up hin xs (runStep f L y) y.1.2.1 hx1.2 (fun z hz => hx1.1 z hz) ?_ ?_
      · rw [e]
        intro s hs
        rcases addRun_starts L (f y.1.1 y.1.2) with q | q
        · rw [q] at hs; have := hL s hs; omega
        · rw [q] at hs
          rcases List.mem_append.1 hs with hs | hs
          · have := hL s hs; omega
          · rw [List.mem_singleton.1 hs]; omega
      · rw [e]
        rcases addRun_starts L (f y.1.1 y.1.2) with q | q
        · rw [q]; exact h
        · rw [q]
          refine List.pairwise_append.2 ⟨h, List.pairwise_singleton _ _, fun s hs t ht => ?_⟩
          rw [List.mem_singleton.1 ht]
          have := hL s hs
          omega
    · have e : runStep f L y = L := by unfold runStep; rw [if_neg c]
      rw [e]
      exact starts_up hin xs L y.1.2.1 hx1.2 (fun z hz => hx1.1 z hz) (fun s hs => by have := hL s hs; omega) h
theorem pcs_up {ps : List P3} (ht : tabOk ps = true) {xs : List Pr} (hxs : xs.map (·.1) = pcs ps) : xs.Pairwise (fun y z => y.1.2.1 ≤ z.1.1.1) := by
  rw [List.pairwise_iff_getElem]
  intro i j hi hj hij
  have e : ∀ k (hk : k < xs.length), (pcs ps)[k]? = some (xs[k]).1 := fun k hk => by
    rw [← hxs, List.getElem?_map, List.getElem?_eq_getElem hk]; rfl
  have e1 := e i hi
  have e2 := e j hj
  rcases Nat.lt_or_ge ps.length 2 with c | c
  · have hl := pcs_len ps
    have : xs.length = (pcs ps).length := by rw [← hxs, List.length_map]
    omega
  · rw [pcs_two c, List.getElem?_zip_eq_some, List.getElem?_tail] at e1 e2
    exact rising_le ht e1.2 e2.1 (by omega)
theorem whereS_in (lo hi : Int) (p q : P3) (hpq : p.1 ≤ q.1) (h : (whereS lo hi p q).1 ≤ (whereS lo hi p q).2) : p.1 ≤ (whereS lo hi p q).1 ∧ (whereS lo hi p q).2 ≤ q.1 :=
  ⟨((whereS_iff lo hi p q hpq _).1 ⟨Int.le_refl _, h⟩).1, ((whereS_iff lo hi p q hpq _).1 ⟨h, Int.le_refl _⟩).2.1⟩
theorem foldG_top : ∀ (l : List (Int × Int)) (s : Int × Int × Bool), s.2.2 = true → (l.foldl stepG s).2.1 = s.2.1 ∨ ∃ r ∈ l, r.2 = (l.foldl stepG s).2.1
  | [], s, _ => .inl rfl
  | z :: l, s, h => by
    rw [List.foldl_cons]
    have e : stepG s z = (min s.1 z.1, max s.2.1 z.2, true) := by unfold stepG; rw [if_pos h]
    rw [e]
    rcases foldG_top l (min s.1 z.1, max s.2.1 z.2, true) rfl with q | ⟨r, hr, q⟩
    · rw [q]
      dsimp only
      rcases Int.le_total s.2.1 z.2 with c | c
      · right; exact ⟨z, by simp, by omega⟩
      · left; omega
    · right; exact ⟨r, by simp [hr], q⟩
theorem over_top (ps : List P3) (a b : Int) : ∃ c ∈ cornersS ps a b, (atS ps c).2 = (overGood ps a b).2.1 := by
  unfold overGood foldG
  have hne := corners_ne ps a b
  cases hc : cornersS ps a b with
  | nil => exact absurd hc hne
  | cons c cs =>
    rw [List.map_cons, List.foldl_cons]
    have e : stepG (0, 0, false) (atS ps c) = ((atS ps c).1, (atS ps c).2, true) := rfl
    rw [e]
    rcases foldG_top (cs.map (atS ps)) ((atS ps c).1, (atS ps c).2, true) rfl with q | ⟨r, hr, q⟩
    · exact ⟨c, by simp, q.symm⟩
    · obtain ⟨c', hc', rfl⟩ := List.mem_map.1 hr
      exact ⟨c', by simp [hc'], q⟩
theorem least_of (Q : Int → Prop) [DecidablePred Q] (a : Int) : ∀ n : Nat, Q (a + n) → ∃ x, a ≤ x ∧ x ≤ a + n ∧ Q x ∧ ∀ y, a ≤ y → y < x → ¬ Q y := by
  intro n
  induction n using Nat.strongRecOn with
  | _ n ih =>
    intro h
    by_cases g : ∃ m : Nat, m < n ∧ Q (a + m)
    · obtain ⟨m, hm, hq⟩ := g
      obtain ⟨x, x1, x2, x3, x4⟩ := ih m hm hq
      exact ⟨x, x1, by omega, x3, x4⟩
    · refine ⟨a + n, by omega, Int.le_refl _, h, fun y h1 h2 hq => g ⟨(y - a).toNat, by omega, ?_⟩⟩
      rw [show a + ((y - a).toNat : Int) = y by omega]; exact hq
/-- the first place at which a table may have its greatest value over some places -/
theorem first_top {ps : List P3} {a b : Int} (ht : tabOk ps = true) (h0 : firstX ps ≤ a) (h1 : a ≤ b) (h2 : b ≤ lastX ps) :
    ∃ x, a ≤ x ∧ x ≤ b ∧ (atS ps x).2 = (overGood ps a b).2.1 ∧ ∀ y, a ≤ y → y < x → (atS ps y).2 < (overGood ps a b).2.1 := by
  obtain ⟨c, hc, hq⟩ := over_top ps a b
  have hcb : a ≤ c ∧ c ≤ b := by rcases corners_mem hc with q | q <;> omega
  obtain ⟨x, x1, x2, x3, x4⟩ := least_of (fun x => (atS ps x).2 = (overGood ps a b).2.1) a (c - a).toNat (by rw [show a + ((c - a).toNat : Int) = c by omega]; exact hq)
  refine ⟨x, x1, by omega, x3, fun y y1 y2 => ?_⟩
  have := (over_has (x := y) ht h0 y1 (show y ≤ b by omega) h2).2
  have := x4 y y1 y2
  omega
/-- the first run that reaches the places begins at the first place of the greatest value, or ahead of the places -/
theorem worst_runs {ps : List P3} {a b x : Int} (ht : tabOk ps = true) (h0 : firstX ps ≤ a) (h1 : a ≤ b) (h2 : b ≤ lastX ps)
    (x1 : a ≤ x) (x2 : x ≤ b) (x3 : (atS ps x).2 = (overGood ps a b).2.1) (x4 : ∀ y, a ≤ y → y < x → (atS ps y).2 < (overGood ps a b).2.1) :
    ∃ (k : Nat) (r : Int × Int), (runsF (whereS (overGood ps a b).2.1 1000000000) (prs ps))[k]? = some r ∧ a ≤ r.2 ∧ (∀ (j : Nat) (z : Int × Int), j < k → (runsF (whereS (overGood ps a b).2.1 1000000000) (prs ps))[j]? = some z → z.2 < a) ∧ max r.1 a = x := by
  have hxs := prs_pcs ht
  obtain ⟨T, hT⟩ : ∃ T, (overGood ps a b).2.1 = T := ⟨_, rfl⟩
  have hin := fun y (q1 : a ≤ y) (q2 : y ≤ b) => (over_has (x := y) ht h0 q1 q2 h2).2
  rw [hT] at x3 x4 hin ⊢
  obtain ⟨L, hL⟩ : ∃ L, runsF (whereS T 1000000000) (prs ps) = L := ⟨_, rfl⟩
  have hiff := fun y (q1 : firstX ps ≤ y) (q2 : y ≤ lastX ps) => where_iff (lo := T) (hi := 1000000000) ht hxs q1 q2
  rw [hL] at hiff ⊢
  have hfull : Full L := by rw [← hL]; exact (runs_fold _ (prs ps) [] (fun r h => by simp at h)).1
  have hup : (L.map (·.1)).Pairwise (· ≤ ·) := by
    rw [← hL]
    unfold runsF
    exact starts_up (whereS_in T 1000000000) (prs ps) [] (-1000000000000) (pcs_up ht hxs) (fun y _ => by have := y.2.1.1; omega) (by simp) (by simp)
  have hlo : ∀ y, firstX ps ≤ y → y ≤ lastX ps → (atS ps y).1 ≤ 1000000000 := fun y q1 q2 => by
    have := atS_in ht q1 q2
    simp only [inB, decide_eq_true_eq] at this
    omega
  obtain ⟨z, hz, z1, z2⟩ := (hiff x (by omega) (by omega)).2 ⟨hlo x (by omega) (by omega), by omega⟩
  obtain ⟨jz, hjz⟩ := List.mem_iff_getElem?.1 hz
  -- the first run that reaches a
  obtain ⟨k, r, hk, hr, hmin, hkj⟩ : ∃ (k : Nat) (r : Int × Int), L[k]? = some r ∧ a ≤ r.2 ∧ (∀ (j : Nat) (z : Int × Int), j < k → L[j]? = some z → z.2 < a) ∧ k ≤ jz := by
    have key : ∀ n : Nat, ∀ z : Int × Int, L[n]? = some z → a ≤ z.2 → ∃ (k : Nat) (r : Int × Int), L[k]? = some r ∧ a ≤ r.2 ∧ (∀ (j : Nat) (z : Int × Int), j < k → L[j]? = some z → z.2 < a) ∧ k ≤ n := by
      intro n
      induction n using Nat.strongRecOn with
      | _ n ih =>
        intro z hz ha
        by_cases g : ∃ m : Nat, m < n ∧ ∃ z : Int × Int, L[m]? = some z ∧ a ≤ z.2
        · obtain ⟨m, hm, z', hz', ha'⟩ := g
          obtain ⟨k, r, q1, q2, q3, q4⟩ := ih m hm z' hz' ha'
          exact ⟨k, r, q1, q2, q3, by omega⟩
        · exact ⟨n, z, hz, ha, fun j z' hj hz' => by
            by_cases c : a ≤ z'.2
            · exact absurd ⟨j, hj, z', hz', c⟩ g
            · omega, Nat.le_refl _⟩
    exact key jz z hjz (by omega)
  refine ⟨k, r, hk, hr, hmin, ?_⟩
  have hrm := List.mem_of_getElem? hk
  have hrf := hfull r hrm
  have hrz : r.1 ≤ z.1 := by
    rcases Nat.lt_or_ge k jz with c | c
    · obtain ⟨lk, ek⟩ := List.getElem?_eq_some_iff.1 hk
      obtain ⟨lz, ez⟩ := List.getElem?_eq_some_iff.1 hjz
      have := List.pairwise_iff_getElem.1 hup k jz (by simpa using lk) (by simpa using lz) c
      simpa [ek, ez] using this
    · have : k = jz := by omega
      subst this
      rw [hk] at hjz; injection hjz with hjz; subst hjz; exact Int.le_refl _
  have hyx : max r.1 a ≤ x := by omega
  have hy := (hiff (max r.1 a) (by omega) (by omega)).1 ⟨r, hrm, by omega, by omega⟩
  have hyT := hin (max r.1 a) (by omega) (by omega)
  rcases Int.lt_or_le (max r.1 a) x with c | c
  · have := x4 (max r.1 a) (by omega) c
    omega
  · omega
theorem prs_len {ps : List P3} (ht : tabOk ps = true) : (prs ps).length ≤ 40 := by
  have h1 : (prs ps).length = (pcs ps).length := by rw [← prs_pcs ht, List.length_map]
  have h2 := pcs_len ps
  have h3 := (tabOk_len ht).2
  omega
end

section
open Go.RowKit

/-- the better one of a place and a point's -/
def stepW (ps : List P3) (a b best : Int) (p : P3) : Int := if a < p.1 ∧ p.1 ≤ b ∧ (atS ps best).2 < (atS ps p.1).2 then p.1 else best
/-- the best place of the first k points -/
def bestK (ps : List P3) (a b : Int) (k : Nat) : Int := (ps.take k).foldl (stepW ps a b) a
theorem bestK_succ {ps : List P3} {k : Nat} {p : P3} (h : ps[k]? = some p) (a b : Int) : bestK ps a b (k + 1) = stepW ps a b (bestK ps a b k) p := by
  unfold bestK
  rw [List.take_add_one, h]
  simp
def bestW (ps : List P3) (a b : Int) : Int := if (atS ps (bestK ps a b ps.length)).2 < (atS ps b).2 then b else bestK ps a b ps.length
theorem bestK_inv {ps : List P3} {a b : Int} (ht : tabOk ps = true) (hab : a ≤ b) : ∀ k, k ≤ ps.length →
    (a ≤ bestK ps a b k ∧ bestK ps a b k ≤ b) ∧ (bestK ps a b k = a ∨ ∃ (j : Nat) (p : P3), j < k ∧ ps[j]? = some p ∧ p.1 = bestK ps a b k) ∧
    ((atS ps a).2 ≤ (atS ps (bestK ps a b k)).2 ∧ (a < bestK ps a b k → (atS ps a).2 < (atS ps (bestK ps a b k)).2)) ∧
    (∀ (j : Nat) (p : P3), j < k → ps[j]? = some p → a < p.1 → p.1 ≤ b → (atS ps p.1).2 ≤ (atS ps (bestK ps a b k)).2 ∧ (p.1 < bestK ps a b k → (atS ps p.1).2 < (atS ps (bestK ps a b k)).2)) := by
  intro k
  induction k with
  | zero =>
    intro _
    have e : bestK ps a b 0 = a := by simp [bestK]
    rw [e]
    exact ⟨⟨Int.le_refl _, hab⟩, .inl rfl, ⟨Int.le_refl _, fun h => absurd h (Int.lt_irrefl _)⟩, fun j p hj => absurd hj (by omega)⟩
  | succ k ih =>
    intro hk
    obtain ⟨⟨i1, i2⟩, i3, ⟨i4, i5⟩, i6⟩ := ih (by clear ih; omega)
    clear ih
    obtain ⟨p, hp⟩ : ∃ p, ps[k]? = some p := ⟨_, List.getElem?_eq_getElem (show k < ps.length by omega)⟩
    rw [bestK_succ hp]
    obtain ⟨B, hB⟩ : ∃ B, bestK ps a b k = B := ⟨_, rfl⟩
    rw [hB] at i1 i2 i3 i4 i5 i6 ⊢
    unfold stepW
    by_cases c : a < p.1 ∧ p.1 ≤ b ∧ (atS ps B).2 < (atS ps p.1).2
    · rw [if_pos c]
      clear i3
      refine ⟨⟨by omega, c.2.1⟩, .inr ⟨k, p, by omega, hp, rfl⟩, ⟨by omega, fun _ => by omega⟩, fun j q hj hq q1 q2 => ?_⟩
      rcases Nat.lt_or_ge j k with d | d
      · have := (i6 j q d hq q1 q2).1
        exact ⟨by omega, fun _ => by omega⟩
      · have : j = k := by omega
        subst this
        rw [hp] at hq; injection hq with hq; subst hq
        exact ⟨Int.le_refl _, fun h => absurd h (Int.lt_irrefl _)⟩
    · rw [if_neg c]
      refine ⟨⟨i1, i2⟩, ?_, ⟨i4, i5⟩, fun j q hj hq q1 q2 => ?_⟩
      · rcases i3 with i3 | ⟨j, q, q1, q2, q3⟩
        · exact .inl i3
        · exact .inr ⟨j, q, by omega, q2, q3⟩
      · rcases Nat.lt_or_ge j k with d | d
        · exact i6 j q d hq q1 q2
        · have : j = k := by omega
          subst this
          rw [hp] at hq; injection hq with hq; subst hq
          refine ⟨by clear i3; omega, fun h => ?_⟩
          rcases i3 with i3 | ⟨j', q', r1, r2, r3⟩
          · omega
          · have := rising_at ht r2 hp r1
            omega
theorem bestW_inv {ps : List P3} {a b : Int} (ht : tabOk ps = true) (hab : a ≤ b) :
    (a ≤ bestW ps a b ∧ bestW ps a b ≤ b) ∧ ((atS ps a).2 ≤ (atS ps (bestW ps a b)).2 ∧ (a < bestW ps a b → (atS ps a).2 < (atS ps (bestW ps a b)).2)) ∧
    ((atS ps b).2 ≤ (atS ps (bestW ps a b)).2) ∧
    (∀ p ∈ ps, a < p.1 → p.1 ≤ b → (atS ps p.1).2 ≤ (atS ps (bestW ps a b)).2 ∧ (p.1 < bestW ps a b → (atS ps p.1).2 < (atS ps (bestW ps a b)).2)) := by
  obtain ⟨⟨i1, i2⟩, i3, ⟨i4, i5⟩, i6⟩ := bestK_inv (a := a) (b := b) ht hab ps.length (Nat.le_refl _)
  have i7 : ∀ p ∈ ps, a < p.1 → p.1 ≤ b → (atS ps p.1).2 ≤ (atS ps (bestK ps a b ps.length)).2 ∧ (p.1 < bestK ps a b ps.length → (atS ps p.1).2 < (atS ps (bestK ps a b ps.length)).2) := fun p hp q1 q2 => by
    obtain ⟨j, hj⟩ := List.mem_iff_getElem?.1 hp
    exact i6 j p (List.getElem?_eq_some_iff.1 hj).1 hj q1 q2
  obtain ⟨B, hB⟩ : ∃ B, bestK ps a b ps.length = B := ⟨_, rfl⟩
  unfold bestW
  rw [hB] at i1 i2 i4 i5 i7 ⊢
  by_cases c : (atS ps B).2 < (atS ps b).2
  · rw [if_pos c]
    exact ⟨⟨hab, Int.le_refl _⟩, ⟨by omega, fun _ => by omega⟩, Int.le_refl _, fun p hp q1 q2 => by have := (i7 p hp q1 q2).1; exact ⟨by omega, fun _ => by omega⟩⟩
  · rw [if_neg c]
    exact ⟨⟨i1, i2⟩, ⟨i4, i5⟩, by omega, i7⟩
theorem bestW_top {ps : List P3} {a b : Int} (ht : tabOk ps = true) (h0 : firstX ps ≤ a) (hab : a ≤ b) (h2 : b ≤ lastX ps) : (atS ps (bestW ps a b)).2 = (overGood ps a b).2.1 := by
  obtain ⟨⟨i1, i2⟩, ⟨i4, _⟩, i5, i6⟩ := bestW_inv (a := a) (b := b) ht hab
  have h1 := (over_has (x := bestW ps a b) ht h0 i1 i2 h2).2
  obtain ⟨c, hc, hq⟩ := over_top ps a b
  have : (atS ps c).2 ≤ (atS ps (bestW ps a b)).2 := by
    unfold cornersS at hc
    rcases List.mem_append.1 hc with hc | hc
    · rcases List.mem_cons.1 hc with rfl | hc
      · exact i4
      · obtain ⟨p, hp, rfl⟩ := List.mem_map.1 hc
        rw [List.mem_filter] at hp
        simp only [Bool.and_eq_true, decide_eq_true_eq] at hp
        exact (i6 p hp.1 hp.2.1 (by omega)).1
    · split at hc
      · rw [List.mem_singleton.1 hc]; exact i5
      · simp at hc
  omega
/-- from the first place of the greatest value to the best place all places have it -/
theorem down_top {ps : List P3} {a b x : Int} (ht : tabOk ps = true) (h0 : firstX ps ≤ a) (hab : a ≤ b) (h2 : b ≤ lastX ps)
    (x1 : a ≤ x) (x2 : x ≤ b) (x3 : (atS ps x).2 = (overGood ps a b).2.1) (x4 : ∀ y, a ≤ y → y < x → (atS ps y).2 < (overGood ps a b).2.1) :
    x ≤ bestW ps a b ∧ ∀ y, x ≤ y → y ≤ bestW ps a b → (atS ps y).2 = (overGood ps a b).2.1 := by
  obtain ⟨⟨i1, i2⟩, ⟨_, i4⟩, i5, i6⟩ := bestW_inv (a := a) (b := b) ht hab
  have hT := bestW_top ht h0 hab h2
  have hin := fun y (q1 : a ≤ y) (q2 : y ≤ b) => (over_has (x := y) ht h0 q1 q2 h2).2
  obtain ⟨T, hTT⟩ : ∃ T, (overGood ps a b).2.1 = T := ⟨_, rfl⟩
  rw [hTT] at hT x3 x4 hin ⊢
  obtain ⟨B, hB⟩ : ∃ B, bestW ps a b = B := ⟨_, rfl⟩
  rw [hB] at i1 i2 i4 i5 i6 hT ⊢
  rw [hT] at i4 i5 i6
  have hxB : x ≤ B := by
    rcases Int.lt_or_le B x with c | c
    · have := x4 B i1 c; omega
    · exact c
  refine ⟨hxB, fun y y1 y2 => ?_⟩
  rcases Int.lt_or_le x y with cy | cy
  rotate_left
  · have : y = x := by omega
    rw [this]; exact x3
  -- x lies within a piece, at none of its ends
  obtain ⟨i, pq, hi, b1, b2, _⟩ := piece_at ht (show firstX ps ≤ x by omega) (show x ≤ lastX ps by omega)
  obtain ⟨m1, m2, m3⟩ := piece_mem ht hi
  have xa : a < x := by
    rcases Int.lt_or_le a x with c | c
    · exact c
    · have e : x = a := by omega
      have := i4 (by omega)
      rw [e] at x3
      omega
  have xp : ∀ p ∈ ps, p.1 ≠ x := fun p hp e => by
    have := (i6 p hp (by omega) (by omega)).2 (by omega)
    rw [e] at this
    omega
  have n1 := xp _ m1
  have n2 := xp _ m2
  have eAt := fun z (q1 : pq.1.1 ≤ z) (q2 : z ≤ pq.2.1) => atS_any ht hi q1 q2
  -- the corner ahead of x has less
  have hl : ∃ l, pq.1.1 ≤ l ∧ l < x ∧ a ≤ l ∧ (atS ps l).2 < T := by
    rcases Int.lt_or_le a pq.1.1 with c | c
    · exact ⟨pq.1.1, Int.le_refl _, by omega, by omega, (i6 _ m1 c (by omega)).2 (by omega)⟩
    · exact ⟨a, c, xa, Int.le_refl _, i4 (by omega)⟩
  obtain ⟨l, l1, l2, l3, l4⟩ := hl
  have way : ∀ u v, u ≤ v → (pAt pq.1 pq.2 u).2 ≤ (pAt pq.1 pq.2 v).2 := by
    rcases pAt_high_way pq.1 pq.2 with w | w
    · first
        | exact w
        | (exfalso
           have := w l x (by omega)
           rw [eAt l l1 (by omega)] at l4
           rw [eAt x b1 b2] at x3
           omega)
    · first
        | exact w
        | (exfalso
           have := w l x (by omega)
           rw [eAt l l1 (by omega)] at l4
           rw [eAt x b1 b2] at x3
           omega)
  -- the corner behind x has as much
  have hup : ∀ z, x ≤ z → z ≤ pq.2.1 → z ≤ b → (atS ps z).2 = T := fun z z1 z2 z3 => by
    have := way x z z1
    rw [eAt x b1 b2] at x3
    have h := hin z (by omega) z3
    rw [eAt z (by omega) z2] at h ⊢
    omega
  have hBe : B ≤ pq.2.1 := by
    rcases Int.lt_or_le pq.2.1 B with c | c
    · have q := (i6 _ m2 (by omega) (by omega)).2 c
      have := hup pq.2.1 (by omega) (Int.le_refl _) (by omega)
      omega
    · exact c
  exact hup y (by omega) (by omega) (by omega)
end

end Go.Proofs.YtbcefdaflnlhoaaGreat
