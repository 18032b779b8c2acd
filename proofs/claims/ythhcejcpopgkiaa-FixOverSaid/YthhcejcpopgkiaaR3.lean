/- The contract of Area (fix) on all places of a valid table's domain: twice the area, as the exact one's floors. Its condition: the table's points lie in memory. -/
import Derived.Test.YthhcejcpopgkiaaC3
import Derived.Test.YthhcejcpopgkiaaN1
import Derived.Test.YthhcejcpopgkiaaM1
import Derived.Test.YthhcejcpopgkiaaQ1
set_option linter.unusedVariables false
set_option linter.unusedSimpArgs false
set_option linter.constructorNameAsVariable false
namespace Go.Proofs.Ythhcejcpopgkiaa
open Go.RowKit

theorem w64_id {x : Int} (h : -9223372036854775808 ≤ x ∧ x ≤ 9223372036854775807) : wrap64 x = x := IntWalk.wrap64_in x h

theorem areaStep_ar {a b N D : Int} {s : Int × Int × Int} {p q : P3} {l0 l1 : Int} (h : Under a b p.1 s N D) (hab : a ≤ b) (h0 : 0 ≤ p.1) (h1 : p.1 < q.1) (h2 : q.1 ≤ 1000000) (a1 : -1000000000 ≤ l0) (a2 : l0 ≤ 1000000000) (b1 : -1000000000 ≤ l1) (b2 : l1 ≤ 1000000000) :
    areaStep s p q l0 l1 a b = arStep a b s p.1 q.1 l0 l1 := by
  have hU := under_step h hab h0 h1 h2 a1 a2 b1 b2
  unfold areaStep arStep
  unfold arStep at hU
  by_cases hc : min b q.1 ≤ max a p.1
  · rw [if_pos hc, if_pos hc]
  · rw [if_neg hc] at hU
    rw [if_neg hc, if_neg hc]
    unfold areaIn
    obtain ⟨W, n, d⟩ := s
    obtain ⟨_, hd, _, hn, hnk, _, _, hdm, w1, w2⟩ := h
    dsimp only at *
    have hE : arE p.1 q.1 l0 l1 (max a p.1) (min b q.1) = (q.1 - p.1) * (2 * l0 * (min b q.1 - max a p.1) + mS p.1 (max a p.1) (min b q.1) / (q.1 - p.1) * (l1 - l0)) + mS p.1 (max a p.1) (min b q.1) % (q.1 - p.1) * (l1 - l0) := by
      have := Int.mul_ediv_add_emod (mS p.1 (max a p.1) (min b q.1)) (q.1 - p.1)
      generalize mS p.1 (max a p.1) (min b q.1) / (q.1 - p.1) = x at *
      generalize mS p.1 (max a p.1) (min b q.1) % (q.1 - p.1) = y at *
      unfold arE
      unfold mS at this
      grind
    have hq : arE p.1 q.1 l0 l1 (max a p.1) (min b q.1) / (q.1 - p.1) = 2 * l0 * (min b q.1 - max a p.1) + mS p.1 (max a p.1) (min b q.1) / (q.1 - p.1) * (l1 - l0) + mS p.1 (max a p.1) (min b q.1) % (q.1 - p.1) * (l1 - l0) / (q.1 - p.1) := by
      rw [hE, Int.mul_add_ediv_left _ _ (by omega)]
    have hr : arE p.1 q.1 l0 l1 (max a p.1) (min b q.1) % (q.1 - p.1) = mS p.1 (max a p.1) (min b q.1) % (q.1 - p.1) * (l1 - l0) - mS p.1 (max a p.1) (min b q.1) % (q.1 - p.1) * (l1 - l0) / (q.1 - p.1) * (q.1 - p.1) := by
      rw [hE, Int.mul_add_emod_self_left]
      have := Int.mul_ediv_add_emod (mS p.1 (max a p.1) (min b q.1) % (q.1 - p.1) * (l1 - l0)) (q.1 - p.1)
      rw [Int.mul_comm (q.1 - p.1)] at this
      omega
    rw [← hq, ← hr]
    have hr0 := Int.emod_nonneg (arE p.1 q.1 l0 l1 (max a p.1) (min b q.1)) (show q.1 - p.1 ≠ 0 by omega)
    generalize arE p.1 q.1 l0 l1 (max a p.1) (min b q.1) / (q.1 - p.1) = Q at *
    generalize arE p.1 q.1 l0 l1 (max a p.1) (min b q.1) % (q.1 - p.1) = R at *
    clear hE hq hr
    unfold addS3
    by_cases hz : R = 0
    · rw [if_pos hz] at hU
      rw [if_pos hz, if_pos hz]
      obtain ⟨_, _, _, _, _, _, _, _, u1, u2⟩ := hU
      dsimp only at u1 u2 ⊢
      rw [w64_id ⟨by omega, by omega⟩]
    · rw [if_neg hz] at hU
      rw [if_neg hz, if_neg hz]
      have hk := (arK_in a b q.1).2
      obtain ⟨_, v1, _, _, v2, _, _, v3, u1, u2⟩ := hU
      dsimp only at u1 u2 v1 v2 v3 ⊢
      have m1 : 0 ≤ n * (q.1 - p.1) := Int.mul_nonneg hn (by omega)
      have m2 : 0 ≤ R * d := Int.mul_nonneg hr0 (by omega)
      have m3 := Int.mul_le_mul_of_nonneg_right hk (show 0 ≤ d * (q.1 - p.1) by omega)
      rw [w64_id (x := W + Q) ⟨by omega, by omega⟩, w64_id (x := n * (q.1 - p.1)) ⟨by omega, by omega⟩, w64_id (x := R * d) ⟨by omega, by omega⟩, w64_id (x := n * (q.1 - p.1) + R * d) ⟨by omega, by omega⟩, w64_id (x := d * (q.1 - p.1)) ⟨by omega, by omega⟩]

/-- Points whose places rise, with the numbers of a line. -/
def LineOk (l : P3 → Int) (ps : List P3) : Prop := ps.Pairwise (fun p q => p.1 < q.1) ∧ ∀ p ∈ ps, 0 ≤ p.1 ∧ p.1 ≤ 1000000 ∧ -1000000000 ≤ l p ∧ l p ≤ 1000000000
theorem fold_area {a b : Int} (hab : a ≤ b) (l : P3 → Int) : ∀ (ps : List P3) (x0 : Int) (s : Int × Int × Int) (N D : Int), (ps.map (·.1)).head? = some x0 → Under a b x0 s N D → LineOk l ps →
    (ps.zip ps.tail).foldl (fun s y => areaStep s y.1 y.2 (l y.1) (l y.2) a b) s = arXY a b s (ps.map (·.1)) (ps.map l)
  | [], _, _, _, _, hh, _, _ => by simp at hh
  | [p], _, _, _, _, _, _, _ => by simp [arXY]
  | p :: q :: r, x0, s, N, D, hh, h, ⟨h1, h2⟩ => by
    simp at hh; subst hh
    obtain ⟨g1, g2⟩ := List.pairwise_cons.1 h1
    have hp := h2 p (by simp)
    have hq := h2 q (by simp)
    have hlt := g1 q (by simp)
    have ea := areaStep_ar h hab hp.1 hlt hq.2.1 hp.2.2.1 hp.2.2.2 hq.2.2.1 hq.2.2.2
    have hu := under_step h hab hp.1 hlt hq.2.1 hp.2.2.1 hp.2.2.2 hq.2.2.1 hq.2.2.2
    have e1 : arXY a b s ((p :: q :: r).map (·.1)) ((p :: q :: r).map l) = arXY a b (arStep a b s p.1 q.1 (l p) (l q)) ((q :: r).map (·.1)) ((q :: r).map l) := by
      simp only [List.map_cons]; rw [arXY]
    rw [e1, ← ea]
    rw [← ea] at hu
    exact fold_area hab l (q :: r) q.1 (areaStep s p q (l p) (l q) a b) _ _ rfl hu ⟨g2, fun z hz => h2 z (List.mem_cons_of_mem _ hz)⟩
theorem areaStep_self (s : Int × Int × Int) (p : P3) (l0 l1 a b : Int) : areaStep s p p l0 l1 a b = s := by
  unfold areaStep; rw [if_pos (by omega)]
theorem fold_pcs {a b : Int} (hab : a ≤ b) (l : P3 → Int) {ps : List P3} {x0 : Int} (hh : (ps.map (·.1)).head? = some x0) (h1 : x0 ≤ a) (hl : LineOk l ps) :
    (pcs ps).foldl (fun s y => areaStep s y.1 y.2 (l y.1) (l y.2) a b) (0, 0, 1) = arXY a b (0, 0, 1) (ps.map (·.1)) (ps.map l) := by
  rcases pcs_cases ps with ⟨p, rfl⟩ | e
  · simp [pcs, arXY, areaStep_self]
  · rw [e]
    refine fold_area hab l ps x0 _ 0 1 hh (under_start h1 hab ?_) hl
    cases ps with
    | nil => simp at hh
    | cons p t => simp at hh; subst hh; exact (hl.2 p (by simp)).1

abbrev xsOf (ps : List P3) : List Int := ps.map (·.1)
theorem tab_lines {ps : List P3} (ht : tabOk ps = true) : (xsOf ps).Pairwise (· < ·) ∧ (∀ x ∈ xsOf ps, 0 ≤ x ∧ x ≤ 1000000) ∧ InY (ps.map (·.2.1)) ∧ InY (ps.map (·.2.2)) ∧ InY (ps.map fun p => -p.2.2) ∧ (xsOf ps).head? = some (firstX ps) := by
  have hok := okp_of ps (-1) (tabOk_pts ht) (by omega)
  have hr := rising_pts ps (-1) (tabOk_pts ht) (by omega)
  have hl := (tabOk_len ht).1
  refine ⟨List.pairwise_map.2 hr, fun x hx => ?_, fun x hx => ?_, fun x hx => ?_, fun x hx => ?_, ?_⟩
  · obtain ⟨p, hp, rfl⟩ := List.mem_map.1 hx; exact ⟨(hok p hp).1.1, (hok p hp).1.2.1⟩
  · obtain ⟨p, hp, rfl⟩ := List.mem_map.1 hx; exact ⟨(hok p hp).1.2.2.1, (hok p hp).1.2.2.2.1⟩
  · obtain ⟨p, hp, rfl⟩ := List.mem_map.1 hx; exact ⟨(hok p hp).1.2.2.2.2.1, (hok p hp).1.2.2.2.2.2⟩
  · obtain ⟨p, hp, rfl⟩ := List.mem_map.1 hx
    have := (hok p hp).1.2.2.2.2
    show -1000000000 ≤ -p.2.2 ∧ -p.2.2 ≤ 1000000000
    omega
  · cases ps with
    | nil => simp at hl
    | cons p t => rfl
theorem tab_lineOk {ps : List P3} (ht : tabOk ps = true) (l : P3 → Int) (hy : InY (ps.map l)) : LineOk l ps := by
  obtain ⟨h1, h2, _⟩ := tab_lines ht
  refine ⟨List.pairwise_map.1 h1, fun p hp => ?_⟩
  have a := h2 p.1 (List.mem_map.2 ⟨p, hp, rfl⟩)
  have b := hy (l p) (List.mem_map.2 ⟨p, hp, rfl⟩)
  exact ⟨a.1, a.2, b.1, b.2⟩

/-- the exact area below a line: its numerator and denominator -/
def exN (a b : Int) (xs ys : List Int) : Int := (exXY a b (0, 1) xs ys).1
def exD (a b : Int) (xs ys : List Int) : Int := (exXY a b (0, 1) xs ys).2
/-- Area -/
def areaLo (ps : List P3) (a b : Int) : Int := exN a b (xsOf ps) (ps.map (·.2.1)) / exD a b (xsOf ps) (ps.map (·.2.1))
def areaHi (ps : List P3) (a b : Int) : Int := -(exN a b (xsOf ps) (ps.map fun p => -p.2.2) / exD a b (xsOf ps) (ps.map fun p => -p.2.2))

theorem area_to (b0 o n c : Nat) (ps : List P3) (a b : Int) (w : World) (hn : n = ps.length) (hb : b0 < w.heap.size) (hpl : placesS ps a b = 0) (hc : PtsAt w b0 o ps) :
    Calls Try.prog 54 #[tv (some ⟨b0, o, none⟩) n c, .int .i64 a, .int .i64 b] w fun e w' => e = .returned (.tuple #[.int .i64 (areaLo ps a b), .int .i64 (areaHi ps a b), .int .i64 0]) ∧ Below w.heap.size w w' := by
  obtain ⟨ht, hab, hf, hl⟩ := places_ok hpl
  have h1 := (tabOk_len ht).1
  obtain ⟨L1, L2, L3, L4, L5, L6⟩ := tab_lines ht
  obtain ⟨xs, hxs⟩ := pieces_list ht
  have e1 : lowF a b xs = arXY a b (0, 0, 1) (xsOf ps) (ps.map (·.2.1)) := by
    rw [← fold_pcs hab (fun p => p.2.1) L6 hf (tab_lineOk ht _ L3), ← hxs, List.foldl_map]; rfl
  have e2 : highF a b xs = arXY a b (0, 0, 1) (xsOf ps) (ps.map fun p => -p.2.2) := by
    rw [← fold_pcs hab (fun p => -p.2.2) L6 hf (tab_lineOk ht _ L5), ← hxs, List.foldl_map]; rfl
  have s1 := arXY_summed L6 hf hab L1 L2 L3
  have s2 := arXY_summed L6 hf hab L1 L2 L5
  rw [← e1] at s1
  rw [← e2] at s2
  have f1 := s1.floor
  have f2 := s2.floor
  obtain ⟨_, a1, _, a2, a3, a4, a5, _⟩ := s1
  obtain ⟨_, b1, _, b2, b3, b4, b5, _⟩ := s2
  have d1 : downS (lowF a b xs) = areaLo ps a b := by
    unfold downS; rw [f1.1, w64_id ⟨by omega, by omega⟩]; rfl
  have d2 : wrap64 (-(downS (highF a b xs))) = areaHi ps a b := by
    unfold downS; rw [f2.1, w64_id (x := _ / _) ⟨by omega, by omega⟩, w64_id ⟨by omega, by omega⟩]; rfl
  have h := area_good b0 o n c ps xs a b w hn (by omega) hb ht hxs hpl hc a1 (by omega) (by omega) b1 (by omega) (by omega)
  rw [d1, d2] at h
  exact h
end Go.Proofs.Ythhcejcpopgkiaa
