/- A table narrowed by two curves within it: valid, with the same places, and narrower at each place, over each range and in its areas. Plain numbers. -/
import Derived.Test.YthhcejcpopgkiaaX0
import Derived.Test.YthhcejcpopgkiaaN2
import Derived.Test.YthhcejcpopgkiaaM2
set_option linter.unusedVariables false
set_option linter.unusedSimpArgs false
set_option linter.constructorNameAsVariable false
namespace Go.Proofs.Ythhcejcpopgkiaa
open Go.RowKit

/-- the table between two curves -/
def narrowS : List P3 → List Int → List Int → List P3
  | p :: ps, y :: ys, z :: zs => (p.1, min y z, max y z) :: narrowS ps ys zs
  | _, _, _ => []
/-- numbers at the points that lie within the table -/
def InTab (ps : List P3) (ys : List Int) : Prop := ys.length = ps.length ∧ ∀ (k : Nat) (p : P3) (y : Int), ps[k]? = some p → ys[k]? = some y → p.2.1 ≤ y ∧ y ≤ p.2.2
theorem InTab.tail {p : P3} {ps : List P3} {y : Int} {ys : List Int} (h : InTab (p :: ps) (y :: ys)) : (p.2.1 ≤ y ∧ y ≤ p.2.2) ∧ InTab ps ys :=
  ⟨h.2 0 p y rfl rfl, by have := h.1; simpa using this, fun k q z hq hz => h.2 (k + 1) q z (by simpa using hq) (by simpa using hz)⟩
theorem curve_inTab {ps : List P3} (cs : List Int) (ht : tabOk ps = true) : InTab ps (curveFrom cs 0 ps) := ⟨curveFrom_len cs 0 ps, fun k p y => curve_within ht k p y⟩
/-- a table that lies within another one, with the same places -/
def Within3 (qs ps : List P3) : Prop := qs.length = ps.length ∧ ∀ (k : Nat) (q p : P3), qs[k]? = some q → ps[k]? = some p → q.1 = p.1 ∧ p.2.1 ≤ q.2.1 ∧ q.2.1 ≤ q.2.2 ∧ q.2.2 ≤ p.2.2
theorem narrow_within : ∀ (ps : List P3) (ys zs : List Int), InTab ps ys → InTab ps zs → Within3 (narrowS ps ys zs) ps
  | [], ys, zs, _, _ => ⟨by simp [narrowS], fun k q p h => by simp [narrowS] at h⟩
  | p :: ps, [], _, h, _ => by have := h.1; simp at this
  | p :: ps, _ :: _, [], _, h => by have := h.1; simp at this
  | p :: ps, y :: ys, z :: zs, h1, h2 => by
    obtain ⟨b1, t1⟩ := h1.tail
    obtain ⟨b2, t2⟩ := h2.tail
    obtain ⟨l, ih⟩ := narrow_within ps ys zs t1 t2
    refine ⟨by simp [narrowS, l], fun k q r hq hr => ?_⟩
    cases k with
    | zero =>
      simp [narrowS] at hq hr
      subst hq hr
      dsimp only
      omega
    | succ k => exact ih k q r (by simpa [narrowS] using hq) (by simpa using hr)
theorem narrow_snoc : ∀ (ps : List P3) (ys zs : List Int) (k : Nat) (p : P3) (y z : Int), ps[k]? = some p → ys[k]? = some y → zs[k]? = some z → ys.length = ps.length → zs.length = ps.length →
    narrowS (ps.take (k + 1)) (ys.take (k + 1)) (zs.take (k + 1)) = narrowS (ps.take k) (ys.take k) (zs.take k) ++ [(p.1, min y z, max y z)]
  | [], _, _, _, _, _, _, h, _, _, _, _ => by simp at h
  | p :: ps, [], _, _, _, _, _, _, h, _, _, _ => by simp at h
  | p :: ps, _ :: _, [], _, _, _, _, _, _, h, _, _ => by simp at h
  | p :: ps, y :: ys, z :: zs, 0, q, u, v, h1, h2, h3, _, _ => by
    simp at h1 h2 h3
    subst h1 h2 h3
    simp [narrowS]
  | p :: ps, y :: ys, z :: zs, k + 1, q, u, v, h1, h2, h3, l1, l2 => by
    have := narrow_snoc ps ys zs k q u v (by simpa using h1) (by simpa using h2) (by simpa using h3) (by simpa using l1) (by simpa using l2)
    simp only [List.take_succ_cons, narrowS, List.cons_append] at this ⊢
    rw [this]

theorem Within3.map_fst {qs ps : List P3} (h : Within3 qs ps) : xsOf qs = xsOf ps := by
  apply List.ext_getElem?
  intro k
  rw [List.getElem?_map, List.getElem?_map]
  rcases Nat.lt_or_ge k qs.length with c | c
  · have e1 : qs[k]? = some (qs[k]'c) := List.getElem?_eq_getElem c
    have e2 : ps[k]? = some (ps[k]'(by have := h.1; omega)) := List.getElem?_eq_getElem _
    rw [e1, e2]
    simp only [Option.map_some]
    rw [(h.2 k _ _ e1 e2).1]
  · rw [List.getElem?_eq_none c, List.getElem?_eq_none (by have := h.1; omega)]
theorem ptsOk_within : ∀ (qs ps : List P3) (last : Int), Within3 qs ps → ptsOk last ps = true → ptsOk last qs = true
  | [], _, _, _, _ => rfl
  | q :: qs, [], _, h, _ => by have := h.1; simp at this
  | q :: qs, p :: ps, last, h, hp => by
    simp only [ptsOk, Bool.and_eq_true] at hp ⊢
    obtain ⟨e, b1, b2, b3⟩ := h.2 0 q p rfl rfl
    refine ⟨?_, ?_⟩
    · have h1 := hp.1
      simp only [ptOk, inB, Bool.and_eq_true, decide_eq_true_eq] at h1 ⊢
      omega
    · rw [e]
      exact ptsOk_within qs ps p.1 ⟨by have := h.1; simpa using this, fun k a b ha hb => h.2 (k + 1) a b (by simpa using ha) (by simpa using hb)⟩ hp.2
theorem tabOk_within {qs ps : List P3} (h : Within3 qs ps) (ht : tabOk ps = true) : tabOk qs = true := by
  unfold tabOk at ht ⊢
  rw [Bool.and_eq_true] at ht ⊢
  rw [h.1]
  exact ⟨ht.1, ptsOk_within qs ps _ h ht.2⟩
theorem firstX_map (ps : List P3) : firstX ps = ((xsOf ps).head?).getD 0 := by
  unfold firstX; rw [List.head?_map]
theorem lastX_map (ps : List P3) : lastX ps = ((xsOf ps).getLast?).getD 0 := by
  unfold lastX; rw [List.getLast?_map]
theorem Within3.first {qs ps : List P3} (h : Within3 qs ps) : firstX qs = firstX ps := by rw [firstX_map, firstX_map, h.map_fst]
theorem Within3.last {qs ps : List P3} (h : Within3 qs ps) : lastX qs = lastX ps := by rw [lastX_map, lastX_map, h.map_fst]
theorem Within3.place {qs ps : List P3} (h : Within3 qs ps) (z : Int) : placeS qs z = placeS ps z := by unfold placeS; rw [h.first, h.last]
theorem cornersS_map (ps : List P3) (a b : Int) : cornersS ps a b = a :: ((xsOf ps).filter fun x => decide (a < x) && decide (x < b)) ++ (if a < b then [b] else []) := by
  unfold cornersS
  rw [List.filter_map]; rfl
theorem Within3.corners {qs ps : List P3} (h : Within3 qs ps) (a b : Int) : cornersS qs a b = cornersS ps a b := by rw [cornersS_map, cornersS_map, h.map_fst]

/-- a piece's value, as one quotient -/
theorem pAt_lo (p q : P3) (x : Int) : (pAt p q x).1 = (p.2.1 * (max (q.1 - p.1) 1 - (x - p.1)) + q.2.1 * (x - p.1)) / max (q.1 - p.1) 1 := by
  simp only [pAt, riseS]
  have e : p.2.1 * (max (q.1 - p.1) 1 - (x - p.1)) + q.2.1 * (x - p.1) = (x - p.1) * (q.2.1 - p.2.1) + p.2.1 * max (q.1 - p.1) 1 := by grind
  rw [e, Int.add_mul_ediv_right _ _ (by omega)]
  omega
theorem pAt_hi (p q : P3) (x : Int) : (pAt p q x).2 = -(((-p.2.2) * (max (q.1 - p.1) 1 - (x - p.1)) + (-q.2.2) * (x - p.1)) / max (q.1 - p.1) 1) := by
  simp only [pAt, riseS]
  have e : (-p.2.2) * (max (q.1 - p.1) 1 - (x - p.1)) + (-q.2.2) * (x - p.1) = (x - p.1) * (p.2.2 - q.2.2) + (-p.2.2) * max (q.1 - p.1) 1 := by grind
  rw [e, Int.add_mul_ediv_right _ _ (by omega)]
  omega
theorem quot_mono {D u a b c d : Int} (hD : 0 < D) (h0 : 0 ≤ u) (h1 : u ≤ D) (hac : a ≤ c) (hbd : b ≤ d) : (a * (D - u) + b * u) / D ≤ (c * (D - u) + d * u) / D := by
  refine Int.ediv_le_ediv hD ?_
  have := Int.mul_le_mul_of_nonneg_right hac (show 0 ≤ D - u by omega)
  have := Int.mul_le_mul_of_nonneg_right hbd h0
  omega
theorem pAt_mono {p q p' q' : P3} {x : Int} (hp : p'.1 = p.1 ∧ p.2.1 ≤ p'.2.1 ∧ p'.2.2 ≤ p.2.2) (hq : q'.1 = q.1 ∧ q.2.1 ≤ q'.2.1 ∧ q'.2.2 ≤ q.2.2) (h1 : p.1 ≤ x) (h2 : x ≤ q.1) :
    (pAt p q x).1 ≤ (pAt p' q' x).1 ∧ (pAt p' q' x).2 ≤ (pAt p q x).2 := by
  rw [pAt_lo, pAt_lo, pAt_hi, pAt_hi, hp.1, hq.1]
  have hD : 0 < max (q.1 - p.1) 1 := by omega
  have hu : x - p.1 ≤ max (q.1 - p.1) 1 := by omega
  have m1 := quot_mono hD (show 0 ≤ x - p.1 by omega) hu hp.2.1 hq.2.1
  have m2 := quot_mono hD (show 0 ≤ x - p.1 by omega) hu (show -p.2.2 ≤ -p'.2.2 by omega) (show -q.2.2 ≤ -q'.2.2 by omega)
  omega

/-- the piece that has a place -/
theorem piece_at {ps : List P3} {x : Int} (ht : tabOk ps = true) (h1 : firstX ps ≤ x) (h2 : x ≤ lastX ps) : ∃ (i : Nat) (pq : P3 × P3), (pcs ps)[i]? = some pq ∧ pq.1.1 ≤ x ∧ x ≤ pq.2.1 ∧ (∀ j, j < i → ∀ r, (pcs ps)[j]? = some r → r.2.1 < x) := by
  have hl := (tabOk_len ht).1
  rcases Nat.lt_or_ge ps.length 2 with hc | hc
  · obtain ⟨p, rfl⟩ : ∃ p, ps = [p] := List.length_eq_one_iff.1 (by omega)
    exact ⟨0, (p, p), rfl, h1, h2, fun j hj => by omega⟩
  · cases hf : (pcs ps).find? (fun pq => decide (x ≤ pq.2.1)) with
    | none =>
      exfalso
      rw [List.find?_eq_none] at hf
      have e1 : ps[ps.length - 2]? = some ps[ps.length - 2] := List.getElem?_eq_getElem (by omega)
      have e2 : ps[ps.length - 2 + 1]? = some ps[ps.length - 2 + 1] := List.getElem?_eq_getElem (by omega)
      have hm := hf _ (List.mem_of_getElem? (pcs_at hc e1 e2))
      simp only [decide_eq_true_eq] at hm
      have : lastX ps = (ps[ps.length - 2 + 1]'(by omega)).1 := by
        unfold lastX
        rw [List.getLast?_eq_getElem?, show ps.length - 1 = ps.length - 2 + 1 by omega, e2]; rfl
      omega
    | some pq =>
      obtain ⟨hx, i, li, hi, hb⟩ := List.find?_eq_some_iff_getElem.1 hf
      have hx' : x ≤ pq.2.1 := by simpa using hx
      have hi' : (pcs ps)[i]? = some pq := by rw [List.getElem?_eq_getElem li, hi]
      refine ⟨i, pq, hi', ?_, hx', fun j hj r hr => ?_⟩
      · cases i with
        | zero =>
          have hz := hi'
          rw [pcs_two hc, List.getElem?_zip_eq_some] at hz
          have hz0 := hz.1
          have : firstX ps = pq.1.1 := by unfold firstX; rw [List.head?_eq_getElem?, hz0]; rfl
          omega
        | succ k =>
          have lk : k < (pcs ps).length := by omega
          have h0 := hb k (by omega)
          have hr := pcs_before hc (List.getElem?_eq_getElem lk)
          have hz := hi'
          rw [pcs_two hc, List.getElem?_zip_eq_some] at hz
          rw [hz.1] at hr
          injection hr with hr
          simp only [Bool.not_eq_true', decide_eq_false_iff_not] at h0
          rw [hr]; omega
      · have lj := (List.getElem?_eq_some_iff.1 hr).1
        have h0 := hb j hj
        have e := List.getElem?_eq_getElem lj
        rw [hr] at e
        injection e with e
        simp only [Bool.not_eq_true', decide_eq_false_iff_not] at h0
        rw [e]; omega
theorem pcs_within {qs ps : List P3} (h : Within3 qs ps) {i : Nat} {r : P3 × P3} (hr : (pcs qs)[i]? = some r) : ∃ pq, (pcs ps)[i]? = some pq ∧
    (r.1.1 = pq.1.1 ∧ pq.1.2.1 ≤ r.1.2.1 ∧ r.1.2.2 ≤ pq.1.2.2) ∧ (r.2.1 = pq.2.1 ∧ pq.2.2.1 ≤ r.2.2.1 ∧ r.2.2.2 ≤ pq.2.2.2) := by
  rcases Nat.lt_or_ge qs.length 2 with hc | hc
  · match qs, ps, h.1 with
    | [], [], _ => simp [pcs] at hr
    | [q], [p], _ =>
      have e := h.2 0 q p rfl rfl
      cases i with
      | zero =>
        simp [pcs] at hr
        subst hr
        exact ⟨(p, p), rfl, ⟨e.1, e.2.1, e.2.2.2⟩, ⟨e.1, e.2.1, e.2.2.2⟩⟩
      | succ k => simp [pcs] at hr
    | _ :: _ :: _, _, _ => exfalso; simp at hc; omega
  · have hc' : 2 ≤ ps.length := by have := h.1; omega
    rw [pcs_two hc, List.getElem?_zip_eq_some, List.getElem?_tail] at hr
    have l2 := (List.getElem?_eq_some_iff.1 hr.2).1
    obtain ⟨p, hp⟩ : ∃ p, ps[i]? = some p := ⟨_, List.getElem?_eq_getElem (by have := h.1; omega)⟩
    obtain ⟨p2, hp2⟩ : ∃ p, ps[i + 1]? = some p := ⟨_, List.getElem?_eq_getElem (by have := h.1; omega)⟩
    have e1 := h.2 i _ _ hr.1 hp
    have e2 := h.2 (i + 1) _ _ hr.2 hp2
    exact ⟨(p, p2), pcs_at hc' hp hp2, ⟨e1.1, e1.2.1, e1.2.2.2⟩, ⟨e2.1, e2.2.1, e2.2.2.2⟩⟩
theorem atS_mono {qs ps : List P3} {x : Int} (h : Within3 qs ps) (ht : tabOk ps = true) (h1 : firstX ps ≤ x) (h2 : x ≤ lastX ps) : (atS ps x).1 ≤ (atS qs x).1 ∧ (atS qs x).2 ≤ (atS ps x).2 := by
  obtain ⟨i, r, hi, b1, b2, bef⟩ := piece_at (tabOk_within h ht) (by rw [h.first]; exact h1) (by rw [h.last]; exact h2)
  obtain ⟨pq, hpq, e1, e2⟩ := pcs_within h hi
  rw [atS_piece hi b2 bef]
  rw [atS_piece hpq (by omega) (fun j hj s hs => by
    obtain ⟨r', hr'⟩ : ∃ r', (pcs qs)[j]? = some r' := ⟨_, List.getElem?_eq_getElem (by have := (List.getElem?_eq_some_iff.1 hi).1; omega)⟩
    obtain ⟨s', hs', _, e⟩ := pcs_within h hr'
    rw [hs] at hs'; injection hs' with hs'; subst hs'
    have := bef j hj r' hr'
    omega)]
  exact pAt_mono e1 e2 (by omega) (by omega)

/-- Over -/
theorem foldG_true : ∀ (l : List (Int × Int)) (s : Int × Int × Bool), s.2.2 = true → (l.foldl stepG s).2.2 = true
  | [], s, h => h
  | r :: l, s, h => by
    rw [List.foldl_cons]
    refine foldG_true l _ ?_
    unfold stepG; rw [if_pos h]
theorem foldG_mono : ∀ (l : List Int) (f g : Int → Int × Int) (s t : Int × Int × Bool), (∀ x ∈ l, (g x).1 ≤ (f x).1 ∧ (f x).2 ≤ (g x).2) → s.2.2 = true → t.2.2 = true → t.1 ≤ s.1 → s.2.1 ≤ t.2.1 →
    ((l.map g).foldl stepG t).1 ≤ ((l.map f).foldl stepG s).1 ∧ ((l.map f).foldl stepG s).2.1 ≤ ((l.map g).foldl stepG t).2.1
  | [], _, _, s, t, _, _, _, h3, h4 => ⟨h3, h4⟩
  | x :: l, f, g, s, t, h, h1, h2, h3, h4 => by
    have hx := h x (by simp)
    rw [List.map_cons, List.map_cons, List.foldl_cons, List.foldl_cons]
    have e1 : stepG s (f x) = (min s.1 (f x).1, max s.2.1 (f x).2, true) := by unfold stepG; rw [if_pos h1]
    have e2 : stepG t (g x) = (min t.1 (g x).1, max t.2.1 (g x).2, true) := by unfold stepG; rw [if_pos h2]
    rw [e1, e2]
    refine foldG_mono l f g _ _ (fun y hy => h y (List.mem_cons_of_mem _ hy)) rfl rfl ?_ ?_ <;> dsimp only <;> omega
theorem over_mono {qs ps : List P3} {a b : Int} (h : Within3 qs ps) (ht : tabOk ps = true) (hab : a ≤ b) (h1 : firstX ps ≤ a) (h2 : b ≤ lastX ps) : (overGood ps a b).1 ≤ (overGood qs a b).1 ∧ (overGood qs a b).2.1 ≤ (overGood ps a b).2.1 := by
  unfold overGood foldG
  rw [h.corners]
  have hm : ∀ x ∈ cornersS ps a b, (atS ps x).1 ≤ (atS qs x).1 ∧ (atS qs x).2 ≤ (atS ps x).2 := fun x hx => by
    rcases corners_mem hx with c | c <;> exact atS_mono h ht (by omega) (by omega)
  cases hc : cornersS ps a b with
  | nil => exact absurd hc (corners_ne ps a b)
  | cons x l =>
    rw [hc] at hm
    have hx := hm x (by simp)
    rw [List.map_cons, List.map_cons, List.foldl_cons, List.foldl_cons]
    have e1 : stepG (0, 0, false) (atS qs x) = ((atS qs x).1, (atS qs x).2, true) := rfl
    have e2 : stepG (0, 0, false) (atS ps x) = ((atS ps x).1, (atS ps x).2, true) := rfl
    rw [e1, e2]
    exact foldG_mono l (atS qs) (atS ps) _ _ (fun y hy => hm y (List.mem_cons_of_mem _ hy)) rfl rfl hx.1 hx.2
/-- Area -/
theorem area_mono {qs ps : List P3} {a b : Int} (h : Within3 qs ps) : areaLo ps a b ≤ areaLo qs a b ∧ areaHi qs a b ≤ areaHi ps a b := by
  have hl := h.1
  have m1 := exXY_mono a b (xsOf ps) (ps.map (·.2.1)) (qs.map (·.2.1)) (0, 1) (0, 1) (by simp [hl]) (fun k y z h1 h2 => by
    rw [List.getElem?_map, Option.map_eq_some_iff] at h1 h2
    obtain ⟨p, hp, rfl⟩ := h1
    obtain ⟨q, hq, rfl⟩ := h2
    exact (h.2 k q p hq hp).2.1) (Int.le_refl _) rfl (Int.le_refl _)
  have m2 := exXY_mono a b (xsOf ps) (ps.map fun p => -p.2.2) (qs.map fun p => -p.2.2) (0, 1) (0, 1) (by simp [hl]) (fun k y z h1 h2 => by
    rw [List.getElem?_map, Option.map_eq_some_iff] at h1 h2
    obtain ⟨p, hp, rfl⟩ := h1
    obtain ⟨q, hq, rfl⟩ := h2
    have := (h.2 k q p hq hp).2.2.2
    omega) (Int.le_refl _) rfl (Int.le_refl _)
  have d1 := exD_pos a b (xsOf ps) (ps.map (·.2.1))
  have d2 := exD_pos a b (xsOf ps) (ps.map fun p => -p.2.2)
  unfold areaLo areaHi exN exD
  unfold exD at d1 d2
  rw [h.map_fst, ← m1.2, ← m2.2]
  have f1 := Int.ediv_le_ediv (show 0 < (exXY a b (0, 1) (xsOf ps) (ps.map (·.2.1))).2 by omega) m1.1
  have f2 := Int.ediv_le_ediv (show 0 < (exXY a b (0, 1) (xsOf ps) (ps.map fun p => -p.2.2)).2 by omega) m2.1
  omega
/-- curves of a table that does not fall, or does not rise -/
theorem pairs_of {so : P3 → P3 → Bool} : ∀ (ps : List P3), pairsOk so ps = true → ∀ (k : Nat) (p q : P3), ps[k]? = some p → ps[k + 1]? = some q → so p q = true
  | [], _, k, p, q, h, _ => by simp at h
  | [_], _, k, p, q, _, h => by simp at h
  | a :: b :: r, h, 0, p, q, h1, h2 => by
    simp only [pairsOk, Bool.and_eq_true] at h
    simp at h1 h2
    subst h1 h2
    exact h.1
  | a :: b :: r, h, k + 1, p, q, h1, h2 => by
    simp only [pairsOk, Bool.and_eq_true] at h
    exact pairs_of (b :: r) h.2 k p q (by simpa using h1) (by simpa using h2)
theorem rising_curves {ps : List P3} {ys zs : List Int} {k : Nat} {y z : Int} (hr : risingS ps = true) (h1 : InTab ps ys) (h2 : InTab ps zs) (hy : ys[k + 1]? = some y) (hz : zs[k]? = some z) : z ≤ y := by
  unfold risingS at hr
  rw [Bool.and_eq_true] at hr
  have l := (List.getElem?_eq_some_iff.1 hy).1
  obtain ⟨p, hp⟩ : ∃ p, ps[k]? = some p := ⟨_, List.getElem?_eq_getElem (by have := h1.1; omega)⟩
  obtain ⟨q, hq⟩ : ∃ q, ps[k + 1]? = some q := ⟨_, List.getElem?_eq_getElem (by have := h1.1; omega)⟩
  have := pairs_of ps hr.2 k p q hp hq
  simp only [risingSo, decide_eq_true_eq] at this
  have b1 := h1.2 _ _ _ hq hy
  have b2 := h2.2 _ _ _ hp hz
  omega
theorem falling_curves {ps : List P3} {ys zs : List Int} {k : Nat} {y z : Int} (hr : fallingS ps = true) (h1 : InTab ps ys) (h2 : InTab ps zs) (hy : ys[k + 1]? = some y) (hz : zs[k]? = some z) : y ≤ z := by
  unfold fallingS at hr
  rw [Bool.and_eq_true] at hr
  have l := (List.getElem?_eq_some_iff.1 hy).1
  obtain ⟨p, hp⟩ : ∃ p, ps[k]? = some p := ⟨_, List.getElem?_eq_getElem (by have := h1.1; omega)⟩
  obtain ⟨q, hq⟩ : ∃ q, ps[k + 1]? = some q := ⟨_, List.getElem?_eq_getElem (by have := h1.1; omega)⟩
  have := pairs_of ps hr.2 k p q hp hq
  simp only [fallingSo, decide_eq_true_eq] at this
  have b1 := h1.2 _ _ _ hq hy
  have b2 := h2.2 _ _ _ hp hz
  omega
end Go.Proofs.Ythhcejcpopgkiaa
