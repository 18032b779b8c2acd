/- Within of the specification where it is so; plain: what a fill in part of a valid hold tells has whatever is so. -/
import Derived.Test.YtekkiedlajhaiaaGreatR33
import Derived.Test.YtekkiedlajhaiaaGreatR32
import Derived.Test.YtekkiedlajhaiaaGreatR25
import Derived.Test.YtekkiedlajhaiaaGreatR30
set_option linter.unusedVariables false
set_option linter.unusedSimpArgs false
set_option linter.constructorNameAsVariable false
namespace Go.Proofs.YtekkiedlajhaiaaGreat

section
open Go.RowKit

theorem xsTo_get (fi : Int) (st : List Int) : ∀ k : Nat, k ≤ st.length → ∀ j, j ≤ k → (xsTo fi st k).1[j]? = some (xsTo fi st j).2
  | 0, _, j, hj => by
    obtain rfl : j = 0 := by omega
    rfl
  | k + 1, hk, j, hj => by
    have hl := xsTo_len fi st k (by omega)
    obtain ⟨s, hs⟩ : ∃ s, st[k]? = some s := ⟨_, List.getElem?_eq_getElem (show k < st.length by omega)⟩
    rw [xsTo_succ hs]
    rcases Nat.lt_or_ge j (k + 1) with c | c
    · rw [List.getElem?_append_left (by omega)]
      exact xsTo_get fi st k (by omega) j (by omega)
    · obtain rfl : j = k + 1 := by omega
      rw [List.getElem?_append_right (by omega), hl]
      rw [xsTo_succ hs]
      simp
def xAt (fi : Int) (st : List Int) (j : Nat) : Int := if st.length = 0 then fi % 50 + 10 * j else (xsTo fi st j).2
theorem xsS_n (fi : Int) (st : List Int) : (xsS fi st).length = if st.length = 0 then 2 else min st.length 7 + 1 := by
  unfold xsS
  split
  · rfl
  · rw [xsTo_len fi st _ (by omega)]
theorem xsS_get (fi : Int) (st : List Int) {j : Nat} (hj : j < (xsS fi st).length) : (xsS fi st)[j]? = some (xAt fi st j) := by
  have hn := xsS_n fi st
  unfold xAt
  by_cases h : st.length = 0
  · rw [if_pos h] at hn ⊢
    unfold xsS
    rw [if_pos h]
    rcases (show j = 0 ∨ j = 1 by omega) with rfl | rfl
    · simp [xsTo]
    · simp [xsTo]
  · rw [if_neg h] at hn ⊢
    unfold xsS
    rw [if_neg h]
    exact xsTo_get fi st _ (by omega) j (by omega)
theorem xAt_in (fi : Int) (st : List Int) {j : Nat} (hj : j < (xsS fi st).length) : 0 ≤ xAt fi st j ∧ xAt fi st j ≤ 1000 := by
  have hn := xsS_n fi st
  have h8 := xsS_len fi st
  unfold xAt
  split
  · obtain ⟨h1, h2⟩ := emod_in fi (show (0 : Int) < 50 by omega)
    omega
  · have := xsTo_in fi st j
    omega
theorem xAt_up (fi : Int) (st : List Int) {j : Nat} (hj : j + 1 < (xsS fi st).length) : xAt fi st j < xAt fi st (j + 1) := by
  have hn := xsS_n fi st
  unfold xAt
  by_cases h : st.length = 0
  · rw [if_pos h, if_pos h]; push_cast; omega
  · rw [if_neg h, if_neg h]
    rw [if_neg h] at hn
    obtain ⟨s, hs⟩ : ∃ s, st[j]? = some s := ⟨_, List.getElem?_eq_getElem (show j < st.length by omega)⟩
    rw [xsTo_succ hs]
    obtain ⟨h1, h2⟩ := emod_in s (show (0 : Int) < 40 by omega)
    dsimp only
    omega
theorem ptsOk_snoc : ∀ (ps : List P3) (last : Int) (p : P3), ptsOk last (ps ++ [p]) = (ptsOk last ps && ptOk ((ps.getLast?.map (·.1)).getD last) p)
  | [], last, p => by simp [ptsOk]
  | [a], last, p => by simp [ptsOk]
  | a :: b :: r, last, p => by
    have h := ptsOk_snoc (b :: r) a.1 p
    have e : ((a :: b :: r).getLast?.map (·.1)).getD last = ((b :: r).getLast?.map (·.1)).getD a.1 := by
      rw [List.getLast?_cons_cons]
      obtain ⟨z, hz⟩ : ∃ z, (b :: r).getLast? = some z := ⟨_, List.getLast?_eq_some_getLast (by simp)⟩
      rw [hz]; rfl
    show (ptOk last a && ptsOk a.1 ((b :: r) ++ [p])) = ((ptOk last a && ptsOk a.1 (b :: r)) && _)
    rw [h, e, Bool.and_assoc]
theorem rows_ok {xs : List Int} {f : Nat → Int × Int} {X : Nat → Int} {n : Nat} (hn : n = xs.length) (hx : ∀ j, j < n → xs[j]? = some (X j)) (h0 : ∀ j, j < n → 0 ≤ X j ∧ X j ≤ 1000) (hup : ∀ j, j + 1 < n → X j < X (j + 1))
    (hf : ∀ j, j < n → (f j).1 ≤ (f j).2 ∧ -1000000000 ≤ (f j).1 ∧ (f j).2 ≤ 1000000000) : ∀ k, k ≤ n → ptsOk (-1) (rowsTo xs f k) = true ∧ (∀ j, k = j + 1 → ((rowsTo xs f k).getLast?.map (·.1)) = some (X j))
  | 0, _ => ⟨rfl, fun j h => by omega⟩
  | k + 1, hk => by
    obtain ⟨h1, h2⟩ := rows_ok hn hx h0 hup hf k (by omega)
    have hs := rowsTo_succ (f := f) (hx k (by omega))
    rw [hs]
    refine ⟨?_, fun j hj => by
      have : j = k := by omega
      subst this
      rw [List.getLast?_append]; simp⟩
    rw [ptsOk_snoc, h1, Bool.true_and]
    obtain ⟨g1, g2⟩ := h0 k (by omega)
    obtain ⟨g3, g4, g5⟩ := hf k (by omega)
    have hlast : ((rowsTo xs f k).getLast?.map (·.1)).getD (-1) < X k := by
      cases k with
      | zero => simp [rowsTo]; omega
      | succ j =>
        rw [h2 j rfl]
        have := hup j (by omega)
        simpa using this
    unfold ptOk inB
    simp only [Bool.and_eq_true, decide_eq_true_eq]
    exact ⟨hlast, by omega, by omega⟩
structure Rows3 (xs : List Int) (f : Nat → Int × Int) (n : Nat) : Prop where
  ok : tabOk (rowsTo xs f n) = true
  len : (rowsTo xs f n).length = n
  mem : ∀ p ∈ rowsTo xs f n, ∃ k x, k < n ∧ p = (x, f k)
  at_ : ∀ k p, (rowsTo xs f n)[k]? = some p → k < n ∧ p.2 = f k
theorem rows3 {fi : Int} {st : List Int} {f : Nat → Int × Int} {n : Nat} (hn : n = (xsS fi st).length) (hf : ∀ j, j < n → (f j).1 ≤ (f j).2 ∧ -1000000000 ≤ (f j).1 ∧ (f j).2 ≤ 1000000000) : Rows3 (xsS fi st) f n := by
  have h8 := xsS_len fi st
  have hl := rowsTo_len (xsS fi st) f n (by omega)
  have hat : ∀ k p, (rowsTo (xsS fi st) f n)[k]? = some p → k < n ∧ p.2 = f k := fun k p hp => by
    have hk : k < n := by have := (List.getElem?_eq_some_iff.1 hp).1; omega
    have q := rowsTo_get (f := f) n k _ (by omega) hk (xsS_get fi st (by omega))
    rw [q] at hp
    injection hp with hp
    subst hp
    exact ⟨hk, rfl⟩
  refine ⟨?_, hl, fun p hp => ?_, hat⟩
  · have h := (rows_ok (f := f) hn (X := xAt fi st) (fun j hj => xsS_get fi st (by omega)) (fun j hj => xAt_in fi st (by omega)) (fun j hj => xAt_up fi st (by omega)) hf n (Nat.le_refl _)).1
    unfold tabOk
    rw [h, hl]
    simp
    omega
  · obtain ⟨k, hk⟩ := List.getElem?_of_mem hp
    obtain ⟨h1, h2⟩ := hat k p hk
    exact ⟨k, p.1, h1, by rw [← h2]⟩
theorem rows_first {fi : Int} {st : List Int} {f : Nat → Int × Int} {n : Nat} (hn : n = (xsS fi st).length) : firstX (rowsTo (xsS fi st) f n) = xAt fi st 0 ∧ lastX (rowsTo (xsS fi st) f n) = xAt fi st (n - 1) := by
  have h8 := xsS_len fi st
  have hl := rowsTo_len (xsS fi st) f n (by omega)
  have g : ∀ j, j < n → (rowsTo (xsS fi st) f n)[j]? = some (xAt fi st j, f j) := fun j hj => rowsTo_get n j _ (by omega) hj (xsS_get fi st (by omega))
  constructor
  · unfold firstX; rw [List.head?_eq_getElem?, g 0 (by omega)]; rfl
  · unfold lastX; rw [List.getLast?_eq_getElem?, hl, g (n - 1) (by omega)]; rfl
theorem slope_up (vs : List Int) (fr : Int) {mo : Int} (g0 : 0 < mo) : ∀ (i k : Nat), (slopeF vs fr mo k).1 ≤ (slopeF vs fr mo (k + i)).1 ∧ (slopeF vs fr mo k).2 ≤ (slopeF vs fr mo (k + i)).2
  | 0, k => ⟨Int.le_refl _, Int.le_refl _⟩
  | i + 1, k => by
    obtain ⟨h1, h2⟩ := slope_up vs fr g0 i k
    obtain ⟨h5, h6⟩ := emod_in (pickS vs (fr + 2 + 2 * (k + i : Nat))) g0
    obtain ⟨h7, h8⟩ := emod_in (pickS vs (fr + 3 + 2 * (k + i : Nat))) g0
    rw [show k + (i + 1) = (k + i) + 1 by omega, slopeF]
    dsimp only
    constructor
    · omega
    · omega
theorem measures_rows {fi : Int} {st : List Int} {f : Nat → Int × Int} {n : Nat} (hn : n = (xsS fi st).length) (hf : ∀ j, j < n → 0 ≤ (f j).1 ∧ (f j).1 ≤ (f j).2 ∧ (f j).2 ≤ 1000000000) : measuresS (rowsTo (xsS fi st) f n) = true := by
  have h8 := xsS_len fi st
  have r := rows3 (f := f) hn (fun j hj => by have := hf j hj; omega)
  unfold measuresS
  rw [r.ok, r.len]
  simp only [Bool.true_and, Bool.and_eq_true, decide_eq_true_eq, List.all_eq_true]
  refine ⟨by omega, fun p hp => ?_⟩
  obtain ⟨k, x, hk, rfl⟩ := r.mem p hp
  exact (hf k hk).1
theorem free_in (vs : List Int) (fr : Int) {mo : Int} (g0 : 0 < mo) (g1 : mo ≤ 1000000) (k : Nat) : 0 ≤ (freeF vs fr mo k).1 ∧ (freeF vs fr mo k).1 ≤ (freeF vs fr mo k).2 ∧ (freeF vs fr mo k).2 ≤ 1000000000 := by
  obtain ⟨h1, h2⟩ := emod_in (pickS vs (fr + 2 * k)) g0
  obtain ⟨h3, h4⟩ := emod_in (pickS vs (fr + 2 * k + 1)) (show (0 : Int) < mo / 4 + 1 by omega)
  unfold freeF
  dsimp only
  omega
theorem val_over {ps : List P3} {cs : List Int} {a x b num den : Int} (ht : tabOk ps = true) (hi : InTab ps cs) (h : ValOf ps cs x num den) (h0 : firstX ps ≤ a) (h1 : a ≤ x) (h2 : x ≤ b) (h3 : b ≤ lastX ps) :
    0 < den ∧ (overGood ps a b).1 * den ≤ num ∧ num ≤ (overGood ps a b).2.1 * den := by
  obtain ⟨i, p, q, y, z, hp, hq, g1, g2, hy, hz, rfl, rfl⟩ := h
  obtain ⟨hpq, okp, okq⟩ := pts_rise ht hp hq
  have h2l : 2 ≤ ps.length := by have := (List.getElem?_eq_some_iff.1 hq).1; omega
  have hpc := pcs_at h2l hp hq
  obtain ⟨y1, y2⟩ := hi.2 i p y hp hy
  obtain ⟨z1, z2⟩ := hi.2 (i + 1) q z hq hz
  have hat := atS_any ht hpc g1 g2
  have hov := over_has ht h0 h1 h2 h3
  rw [hat, pAt_lo, pAt_hi] at hov
  dsimp only at hov
  rw [show max (q.1 - p.1) 1 = q.1 - p.1 by omega] at hov
  obtain ⟨D, hD⟩ : ∃ D, q.1 - p.1 = D := ⟨_, rfl⟩
  obtain ⟨u, hu⟩ : ∃ u, x - p.1 = u := ⟨_, rfl⟩
  have hv : q.1 - x = D - u := by omega
  rw [hD, hu] at hov
  rw [hD, hu, hv]
  have hD0 : 0 < D := by omega
  have hu0 : 0 ≤ u := by omega
  have hu1 : 0 ≤ D - u := by omega
  have m1 := Int.mul_le_mul_of_nonneg_right y1 hu1
  have m2 := Int.mul_le_mul_of_nonneg_right y2 hu1
  have m3 := Int.mul_le_mul_of_nonneg_right z1 hu0
  have m4 := Int.mul_le_mul_of_nonneg_right z2 hu0
  have lo := Int.ediv_mul_le (p.2.1 * (D - u) + q.2.1 * u) (show D ≠ 0 by omega)
  have hi' := Int.ediv_mul_le (-p.2.2 * (D - u) + -q.2.2 * u) (show D ≠ 0 by omega)
  have o1 := Int.mul_le_mul_of_nonneg_right hov.1 (Int.le_of_lt hD0)
  have o2 := Int.mul_le_mul_of_nonneg_right hov.2 (Int.le_of_lt hD0)
  simp only [Int.neg_mul] at o2 hi'
  exact ⟨hD0, by omega, by omega⟩
end

section
open Go.RowKit

set_option maxRecDepth 100000 in
set_option maxHeartbeats 1000000 in
theorem swithin_yes (lo hi n d : Int) (w : World) (h1 : lo * d ≤ n) (h2 : n ≤ hi * d) (b1 : -9000000000000000000 ≤ lo * d) (b2 : hi * d ≤ 9000000000000000000) (hb : -9000000000000000000 ≤ n ∧ n ≤ 9000000000000000000) :
  Calls Tryz.prog 24 #[rv lo hi, .int .i64 n, .int .i64 d] w fun e w' => e = .returned (.bool true) ∧ Below w.heap.size w w' := by
 obtain ⟨p, hp⟩ : ∃ p, lo * d = p := ⟨_, rfl⟩
 obtain ⟨q, hq⟩ : ∃ q, hi * d = q := ⟨_, rfl⟩
 rw [hp] at h1 b1
 rw [hq] at h2 b2
 have w1 : IntKind.i64.wrap (lo * d) = p := by rw [hp]; exact IntWalk.i64_in _ ⟨by omega, by omega⟩
 have w2 : IntKind.i64.wrap (hi * d) = q := by rw [hq]; exact IntWalk.i64_in _ ⟨by omega, by omega⟩
 clear hp hq b1 b2 hb
 go_enter Tryz.func24, Tryz.ntmps24
 go_wp2
 go_ret
 exact ⟨by first | rfl | simp [h1, h2], below_alloc1 _ _⟩
theorem curveTo_in {ps : List P3} {pk : List Int} (h : ∀ p ∈ ps, p.2.1 ≤ p.2.2) : ∀ k : Nat, k ≤ ps.length → ∀ j p y, j < k → ps[j]? = some p → (curveTo ps pk k)[j]? = some y → p.2.1 ≤ y ∧ y ≤ p.2.2
  | 0, _, j, _, _, hj, _, _ => by omega
  | k + 1, hk, j, p, y, hj, hp, hy => by
    have hl := curveTo_len ps pk k (by omega)
    obtain ⟨r, hr⟩ : ∃ r, ps[k]? = some r := ⟨_, List.getElem?_eq_getElem (show k < ps.length by omega)⟩
    rw [curveTo_succ hr] at hy
    rcases Nat.lt_or_ge j k with c | c
    · rw [List.getElem?_append_left (by omega)] at hy
      exact curveTo_in h k (by omega) j p y c hp hy
    · obtain rfl : j = k := by omega
      rw [List.getElem?_append_right (by omega), hl] at hy
      simp at hy
      rw [hr] at hp
      injection hp with hp
      subst hp
      have h1 := h r (List.mem_of_getElem? hr)
      obtain ⟨h2, h3⟩ := emod_in (pickS pk j) (show (0 : Int) < r.2.2 - r.2.1 + 1 by omega)
      omega
theorem tab_wide {ps : List P3} (ht : tabOk ps = true) : ∀ p ∈ ps, NotWide p := by
  have hm : ∀ (ps : List P3) (last : Int), ptsOk last ps = true → ∀ p ∈ ps, p.2.1 ≤ p.2.2 ∧ -1000000000 ≤ p.2.1 ∧ p.2.2 ≤ 1000000000 := by
    intro ps
    induction ps with
    | nil => intro _ _ p hp; cases hp
    | cons a r ih =>
      intro last h p hp
      rw [ptsOk, Bool.and_eq_true] at h
      rcases List.mem_cons.1 hp with rfl | hp
      · have q := h.1
        unfold ptOk inB at q
        simp only [Bool.and_eq_true, decide_eq_true_eq] at q
        omega
      · exact ih _ h.2 p hp
  intro p hp
  have := hm ps (-1) (tabOk_pts ht) p hp
  unfold NotWide
  omega
theorem curve_inTabS {ps : List P3} (pk : List Int) (ht : tabOk ps = true) {n : Nat} (hn : n = ps.length) : InTab ps (curveTo ps pk n) := by
  subst hn
  have hl := curveTo_len ps pk ps.length (Nat.le_refl _)
  refine ⟨hl, fun k p y hp hy => curveTo_in (fun p hp => (tab_wide ht p hp).1) ps.length (Nat.le_refl _) k p y ?_ hp hy⟩
  have := (List.getElem?_eq_some_iff.1 hp).1
  omega
theorem tab_places {ps : List P3} (ht : tabOk ps = true) : 0 ≤ firstX ps ∧ lastX ps ≤ 1000000 := by
  have hm := okp_of ps (-1) (tabOk_pts ht) (by omega)
  have hl := tabOk_len ht
  constructor
  · unfold firstX
    rw [List.head?_eq_getElem?, List.getElem?_eq_getElem (show 0 < ps.length by omega)]
    have := (hm _ (List.getElem_mem (show 0 < ps.length by omega))).1
    unfold Okp at this
    simpa using this.1
  · unfold lastX
    rw [List.getLast?_eq_getElem?, List.getElem?_eq_getElem (show ps.length - 1 < ps.length by omega)]
    have := (hm _ (List.getElem_mem (show ps.length - 1 < ps.length by omega))).1
    unfold Okp at this
    simpa using this.2.1
theorem overS_good {ps : List P3} {a b : Int} (ht : tabOk ps = true) (hab : inB a b (firstX ps) (lastX ps) = true) : overS ps a b = ((overGood ps a b).1, (overGood ps a b).2.1, 0) := by
  have hp := tab_places ht
  have q := hab
  simp only [inB, decide_eq_true_eq] at q
  have hv : vR a b = true := (vR_iff a b).2 (by omega)
  unfold overS
  rw [if_pos]
  unfold overE placesS
  rw [if_pos ht, if_pos hv, if_pos ht, if_pos hab]
theorem overS_has {ps : List P3} {cs : List Int} {a x b num den : Int} (ht : tabOk ps = true) (hi : InTab ps cs) (h : ValOf ps cs x num den) (hab : inB a b (firstX ps) (lastX ps) = true) (h1 : a ≤ x) (h2 : x ≤ b) :
    0 < den ∧ den ≤ 1000000 ∧ (overS ps a b).1 * den ≤ num ∧ num ≤ (overS ps a b).2.1 * den := by
  have q := hab
  simp only [inB, decide_eq_true_eq] at q
  obtain ⟨g1, g2, g3⟩ := val_over ht hi h (show firstX ps ≤ a by omega) h1 h2 (show b ≤ lastX ps by omega)
  have hden : den ≤ 1000000 := by
    obtain ⟨i, p, q, y, z, hp, hq, _, _, _, _, _, rfl⟩ := h
    obtain ⟨_, o1, o2⟩ := pts_rise ht hp hq
    unfold Okp at o1 o2
    omega
  refine ⟨g1, hden, ?_⟩
  rw [overS_good ht hab]
  exact ⟨g2, g3⟩
theorem heavy_has {v : Int × Int} {d0 d1 d num den : Int} (hv : Amt v) (hd : 0 < den) (h1 : v.1 * den ≤ num) (h2 : num ≤ v.2 * den) (c0 : 0 ≤ d0) (c1 : d0 ≤ d) (c2 : d ≤ d1) (c3 : d1 ≤ 2000) :
    (heavyS v.1 v.2 d0 d1).1 * (1000 * den) ≤ num * d ∧ num * d ≤ (heavyS v.1 v.2 d0 d1).2 * (1000 * den) := by
  obtain ⟨a1, a2, a3⟩ := hv
  have hn : 0 ≤ num := Int.le_trans (Int.mul_nonneg a1 (Int.le_of_lt hd)) h1
  unfold heavyS
  dsimp only
  obtain ⟨F, hF⟩ : ∃ F, v.1 * d0 / 1000 = F := ⟨_, rfl⟩
  obtain ⟨C, hC⟩ : ∃ C, (v.2 * d1 + 999) / 1000 = C := ⟨_, rfl⟩
  rw [hF, hC]
  have f1 : F * 1000 ≤ v.1 * d0 := by omega
  have f2 : v.2 * d1 ≤ C * 1000 := by omega
  have e1 : F * (1000 * den) = F * 1000 * den := by rw [Int.mul_assoc]
  have e2 : C * (1000 * den) = C * 1000 * den := by rw [Int.mul_assoc]
  rw [e1, e2]
  constructor
  · have s1 := Int.mul_le_mul_of_nonneg_right f1 (Int.le_of_lt hd)
    have s2 : v.1 * d0 * den = v.1 * den * d0 := by rw [Int.mul_assoc, Int.mul_comm d0 den, ← Int.mul_assoc]
    have s3 := Int.mul_le_mul_of_nonneg_right h1 c0
    have s4 := Int.mul_le_mul_of_nonneg_left c1 hn
    omega
  · have s1 := Int.mul_le_mul_of_nonneg_right f2 (Int.le_of_lt hd)
    have s2 : v.2 * d1 * den = v.2 * den * d1 := by rw [Int.mul_assoc, Int.mul_comm d1 den, ← Int.mul_assoc]
    have s3 := Int.mul_le_mul_of_nonneg_right h2 (show 0 ≤ d1 by omega)
    have s4 := Int.mul_le_mul_of_nonneg_left c2 hn
    omega
end

end Go.Proofs.YtekkiedlajhaiaaGreat
