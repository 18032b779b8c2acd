/- The contract of the closure that Cut hands to build (fix). Its conditions: the table lies in memory and is valid; the place is one of a table. A piece of a valid table, at a place within it, gives a range whose numbers are a table's. A valid table at a place of its domain gives a range whose numbers are a table's. -/
import Derived.Test.YtmenlaefekkahaaG1
import Derived.Test.YtmenlaefekkahaaB5
import Derived.Test.YtmenlaefekkahaaN1
set_option linter.unusedVariables false
set_option linter.unusedSimpArgs false
set_option linter.constructorNameAsVariable false
namespace Go.Proofs.Ytmenlaefekkahaa
open Go.RowKit

def cutAt (ps : List P3) (x : Int) : Int × Int × Int := ((atS ps x).1, (atS ps x).2, 0)

set_option maxRecDepth 100000 in
set_option maxHeartbeats 2000000 in
theorem cutAsk (Bt b o n c : Nat) (ps : List P3) (x : Int) (w : World) (h : Blk w Bt 43 #[.slice (some ⟨b, o, none⟩) n c] ∧ PtsAt w b o ps ∧ b < w.heap.size)
    (hn : n = ps.length) (h2 : 1 ≤ n) (ht : tabOk ps = true) (hx : 0 ≤ x) (hx' : x ≤ 1000000) :
    Calls Try.prog 96 #[.int .i64 x, .pointer (some ⟨Bt, 0, none⟩)] w fun e w' => e = .returned (rt (cutAt ps x)) ∧ Below w.heap.size w w' := by
  obtain ⟨⟨ra, rb⟩, hr⟩ : ∃ r, atS ps x = r := ⟨_, rfl⟩
  have hv : cutAt ps x = (ra, rb, 0) := by unfold cutAt; rw [hr]
  have z1 := h.1.cell 0
  simp at z1
  have l1 := h.1.lt
  have HV := Lib.hid hv
  have HC : Hid (∀ W, Below w.heap.size w W → Calls Try.prog 91 #[tv (some ⟨b, o, none⟩) n c, .int .i64 x] W fun e w' => e = .returned (rv ra rb) ∧ Below W.heap.size W w') :=
    Lib.hid fun W hW => at_to b o n c ps x ra rb W hn h2 (Nat.lt_of_lt_of_le h.2.2 hW.size) ht hx hx' (h.2.1.below hW h.2.2) hr
  clear hv h hn ht hr
  go_enter Try.func96, Try.ntmps96
  go_wp2_with fail
  have hE : Below w.heap.size w (w.alloc (.cells #[.int .i64 0, .int .i64 0] 23)) := (Below.refl _ _).alloc (Nat.le_refl _) _
  have bR := Blk.new w 23 #[.int .i64 0, .int .i64 0]
  refine (HC.out _ hE).mono ?_
  rintro e w1 ⟨rfl, hb⟩
  have bR1 := bR.below hb bR.lt
  have D0 : w1.cell? ⟨w.heap.size, 0, none⟩ = some (.int .i64 0) := bR1.cell 0
  have D1 : w1.cell? ⟨w.heap.size, 1, none⟩ = some (.int .i64 0) := bR1.cell 1
  have F0 := bR1.frozen 0
  have F1 := bR1.frozen 1
  have hB := below_then hE hb
  have HB := Lib.hid hB
  clear hE bR bR1 hb hB
  go_wp2
  refine bodyPost_ret (v := rt (ra, rb, 0)) (by simp [results, Try.results96, go_sem, D0, D1]) rfl ⟨by rw [HV.out], ?_⟩
  exact ((HB.out.setCell (p := ⟨w.heap.size, 0, none⟩) (by simp) _).setCell (p := ⟨w.heap.size, 1, none⟩) (by simp) _)
end Go.Proofs.Ytmenlaefekkahaa
namespace Go.Proofs.Ytmenlaefekkahaa
open Go.RowKit

theorem floor_ge (u D d : Int) (h0 : 0 ≤ u) (h1 : u ≤ D) (hD : 0 < D) : min d 0 ≤ u * d / D := by
  rw [Int.le_ediv_iff_mul_le hD]
  by_cases hd : 0 ≤ d
  · rw [Int.min_eq_right hd, Int.zero_mul]; exact Int.mul_nonneg h0 hd
  · rw [Int.min_eq_left (by omega)]
    have := Int.mul_le_mul_of_nonneg_left h1 (show 0 ≤ -d by omega)
    have e1 : -d * u = -(u * d) := by rw [Int.neg_mul, Int.mul_comm]
    have e2 : -d * D = -(d * D) := by rw [Int.neg_mul]
    omega
theorem floors_le (u D a b e : Int) (h0 : 0 ≤ u) (h1 : u ≤ D) (hD : 0 < D) (he : 0 ≤ e) (hab : a + b ≤ e) : u * a / D + u * b / D ≤ e := by
  have ha := Int.ediv_mul_le (u * a) (show D ≠ 0 by omega)
  have hb := Int.ediv_mul_le (u * b) (show D ≠ 0 by omega)
  have h2 := Int.mul_le_mul_of_nonneg_left hab h0
  have h3 := Int.mul_le_mul_of_nonneg_right h1 he
  rw [Int.mul_add] at h2
  refine Int.le_of_mul_le_mul_right (a := D) ?_ hD
  rw [Int.add_mul, Int.mul_comm e D]
  omega
theorem piece_in (p q : P3) (x : Int) (hp : Okp p) (hq : Okp q) (hpr : p.2.1 ≤ p.2.2) (hqr : q.2.1 ≤ q.2.2) (h1 : p.1 ≤ x) (h2 : x ≤ q.1) :
    inB (pAt p q x).1 (pAt p q x).2 (-1000000000) 1000000000 = true := by
  obtain ⟨_, _, p1, p2, p3, p4⟩ := hp
  obtain ⟨_, _, q1, q2, q3, q4⟩ := hq
  have hD : 0 < max (q.1 - p.1) 1 := by omega
  have hu : x - p.1 ≤ max (q.1 - p.1) 1 := by omega
  have A := floor_ge (x - p.1) _ (q.2.1 - p.2.1) (by omega) hu hD
  have B := floor_ge (x - p.1) _ (p.2.2 - q.2.2) (by omega) hu hD
  have C := floors_le (x - p.1) _ (q.2.1 - p.2.1) (p.2.2 - q.2.2) (p.2.2 - p.2.1) (by omega) hu hD (by omega) (by omega)
  have m1 : -1000000000 ≤ p.2.1 + min (q.2.1 - p.2.1) 0 := by omega
  have m2 : p.2.2 - min (p.2.2 - q.2.2) 0 ≤ 1000000000 := by omega
  refine inB_yes ?_ ?_ ?_ <;> simp only [pAt, riseS] <;> omega
end Go.Proofs.Ytmenlaefekkahaa
namespace Go.Proofs.Ytmenlaefekkahaa
open Go.RowKit

theorem pts_ordered : ∀ (ps : List P3) (last : Int), ptsOk last ps = true → ∀ p ∈ ps, p.2.1 ≤ p.2.2
  | [], _, _, _, h => by cases h
  | q :: ps, last, h, p, hp => by
    simp only [ptsOk, Bool.and_eq_true, ptOk, inB, decide_eq_true_eq] at h
    rcases List.mem_cons.1 hp with rfl | hp
    · omega
    · exact pts_ordered ps _ h.2 p hp
theorem atS_in {ps : List P3} {x : Int} (ht : tabOk ps = true) (h1 : firstX ps ≤ x) (h2 : x ≤ lastX ps) : inB (atS ps x).1 (atS ps x).2 (-1000000000) 1000000000 = true := by
  have hl := (tabOk_len ht).1
  have hok := okp_of ps (-1) (tabOk_pts ht) (by omega)
  have hor := pts_ordered ps (-1) (tabOk_pts ht)
  rcases Nat.lt_or_ge ps.length 2 with hc | hc
  · obtain ⟨p, rfl⟩ : ∃ p, ps = [p] := List.length_eq_one_iff.1 (by omega)
    have f1 : p.1 ≤ x := h1
    have f2 : x ≤ p.1 := h2
    have e : atS [p] x = pAt p p x := atS_piece (i := 0) (pq := (p, p)) rfl f2 (fun j hj => by omega)
    rw [e]
    exact piece_in p p x (hok p (by simp)).1 (hok p (by simp)).1 (hor p (by simp)) (hor p (by simp)) f1 f2
  · cases hf : (pcs ps).find? (fun pq => decide (x ≤ pq.2.1)) with
    | none =>
      exfalso
      rw [List.find?_eq_none] at hf
      have e1 : ps[ps.length - 2]? = some ps[ps.length - 2] := List.getElem?_eq_getElem (by omega)
      have e2 : ps[ps.length - 2 + 1]? = some ps[ps.length - 2 + 1] := List.getElem?_eq_getElem (by omega)
      have hm := hf _ (List.mem_of_getElem? (pcs_at hc e1 e2))
      simp only [decide_eq_true_eq] at hm
      have : lastX ps = (ps[ps.length - 2 + 1]'(by omega)).1 := by
        unfold lastX
        rw [List.getLast?_eq_getElem?, show ps.length - 1 = ps.length - 2 + 1 by omega, e2]; rfl
      omega
    | some pq =>
      have e : atS ps x = pAt pq.1 pq.2 x := by unfold atS; rw [hf]
      obtain ⟨hx, i, li, hi, hb⟩ := List.find?_eq_some_iff_getElem.1 hf
      have hx' : x ≤ pq.2.1 := by simpa using hx
      have hi' : (pcs ps)[i]? = some pq := by rw [List.getElem?_eq_getElem li, hi]
      have hz := hi'
      rw [pcs_two hc, List.getElem?_zip_eq_some] at hz
      have m1 := List.mem_of_getElem? hz.1
      have m2 := List.mem_of_getElem? (pcs_before hc hi')
      have hp1 : pq.1.1 ≤ x := by
        cases i with
        | zero =>
          have hz0 := hz.1
          have : firstX ps = pq.1.1 := by unfold firstX; rw [List.head?_eq_getElem?, hz0]; rfl
          omega
        | succ k =>
          have lk : k < (pcs ps).length := by omega
          have h0 := hb k (by omega)
          have hr := pcs_before hc (List.getElem?_eq_getElem lk)
          rw [hz.1] at hr
          injection hr with hr
          simp only [Bool.not_eq_true', decide_eq_false_iff_not] at h0
          rw [hr]; omega
      rw [e]
      exact piece_in pq.1 pq.2 x (hok _ m1).1 (hok _ m2).1 (hor _ m1) (hor _ m2) hp1 hx'
end Go.Proofs.Ytmenlaefekkahaa
