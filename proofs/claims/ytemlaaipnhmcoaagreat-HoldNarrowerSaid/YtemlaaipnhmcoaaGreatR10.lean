/- The contracts of within, isDensity, places, inPlaces (hold). Their conditions: the table is valid and lies in memory. -/
import Derived.Test.YtemlaaipnhmcoaaGreatR04
import Derived.Test.YtemlaaipnhmcoaaGreatR09
import Derived.Deep.AppendLies
import Derived.Test.YtemlaaipnhmcoaaGreatR08
set_option linter.unusedVariables false
set_option linter.unusedSimpArgs false
set_option linter.constructorNameAsVariable false
namespace Go.Proofs.YtemlaaipnhmcoaaGreat

section
theorem rising_pts : ∀ (ps : List P3) (last : Int), ptsOk last ps = true → -1 ≤ last → ps.Pairwise (fun p q => p.1 < q.1)
  | [], _, _, _ => .nil
  | p :: ps, last, h, hl => by
    have h1 := (okp_of (p :: ps) last h hl p (by simp))
    simp only [ptsOk, Bool.and_eq_true] at h
    refine .cons (fun q hq => ?_) (rising_pts ps p.1 h.2 (by have := h1.2; omega))
    exact (okp_of ps p.1 h.2 (by have := h1.2; omega) q hq).2
theorem rising_at {ps : List P3} (ht : tabOk ps = true) {i j : Nat} {p q : P3} (hi : ps[i]? = some p) (hj : ps[j]? = some q) (h : i < j) : p.1 < q.1 := by
  obtain ⟨li, rfl⟩ := List.getElem?_eq_some_iff.1 hi
  obtain ⟨lj, rfl⟩ := List.getElem?_eq_some_iff.1 hj
  exact List.pairwise_iff_getElem.1 (rising_pts ps (-1) (tabOk_pts ht) (by omega)) i j li lj h
theorem rising_le {ps : List P3} (ht : tabOk ps = true) {i j : Nat} {p q : P3} (hi : ps[i]? = some p) (hj : ps[j]? = some q) (h : i ≤ j) : p.1 ≤ q.1 := by
  rcases Nat.lt_or_ge i j with c | c
  · exact Int.le_of_lt (rising_at ht hi hj c)
  · have : i = j := by omega
    subst this
    rw [hi] at hj; injection hj with hj; subst hj; exact Int.le_refl _

theorem ceil_eq (m d : Int) (hd : 0 < d) : -(-m / d) = m / d + (if 0 < m % d then 1 else 0) := by
  have h1 := Int.mul_ediv_add_emod m d
  have h2 := Int.emod_nonneg m (show d ≠ 0 by omega)
  have h3 := Int.emod_lt_of_pos m hd
  by_cases hz : 0 < m % d
  · rw [if_pos hz]
    have : -m / d = -(m / d) - 1 := by
      refine ((Int.ediv_emod_unique (r := d - m % d) hd).2 ⟨?_, by omega, by omega⟩).1
      rw [Int.mul_sub, Int.mul_neg]; omega
    omega
  · rw [if_neg hz]
    have : -m / d = -(m / d) := by
      refine ((Int.ediv_emod_unique (r := 0) hd).2 ⟨?_, by omega, by omega⟩).1
      rw [Int.mul_neg]; omega
    omega

theorem atS_piece {ps : List P3} {i : Nat} {pq : P3 × P3} {x : Int} (hi : (pcs ps)[i]? = some pq) (hx : x ≤ pq.2.1) (hb : ∀ j, j < i → ∀ r, (pcs ps)[j]? = some r → r.2.1 < x) : atS ps x = pAt pq.1 pq.2 x := by
  obtain ⟨li, hi'⟩ := List.getElem?_eq_some_iff.1 hi
  have hf : (pcs ps).find? (fun r => decide (x ≤ r.2.1)) = some pq := by
    rw [List.find?_eq_some_iff_getElem]
    refine ⟨by simpa using hx, i, li, hi', fun j hj => ?_⟩
    have := hb j hj _ (List.getElem?_eq_getElem (by omega))
    simp; omega
  unfold atS
  rw [hf]
theorem pcs_at {ps : List P3} {i : Nat} {p q : P3} (h2 : 2 ≤ ps.length) (hp : ps[i]? = some p) (hq : ps[i + 1]? = some q) : (pcs ps)[i]? = some (p, q) := by
  rw [pcs_two h2, List.getElem?_zip_eq_some]
  exact ⟨hp, by rw [List.getElem?_tail]; exact hq⟩
theorem pcs_before {ps : List P3} {j : Nat} {r : P3 × P3} (h2 : 2 ≤ ps.length) (h : (pcs ps)[j]? = some r) : ps[j + 1]? = some r.2 := by
  rw [pcs_two h2, List.getElem?_zip_eq_some, List.getElem?_tail] at h
  exact h.2

theorem ref_at {ps : List P3} (ht : tabOk ps = true) {k : Nat} {p : P3} {x : Int} (hp : ps[k]? = some p) (h1 : p.1 ≤ x) (hl : x ≤ lastX ps) (hn : ∀ q, ps[k + 1]? = some q → x < q.1) :
    (p.1 = x → atS ps x = (p.2.1, p.2.2)) ∧
    (p.1 ≠ x → ∃ q, ps[k + 1]? = some q ∧ p.1 < x ∧ x < q.1 ∧ atS ps x = (p.2.1 + (q.2.1 - p.2.1) * (x - p.1) / (q.1 - p.1), upS (p.2.2 + (q.2.2 - p.2.2) * (x - p.1) / (q.1 - p.1)) ((q.2.2 - p.2.2) * (x - p.1) % (q.1 - p.1)))) := by
  have hk : k < ps.length := (List.getElem?_eq_some_iff.1 hp).1
  constructor
  · rintro rfl
    by_cases h2 : 2 ≤ ps.length
    · cases k with
      | zero =>
        obtain ⟨q, hq⟩ : ∃ q, ps[1]? = some q := ⟨_, List.getElem?_eq_getElem (by omega)⟩
        rw [atS_piece (pcs_at h2 hp hq) (Int.le_of_lt (rising_at ht hp hq (by omega))) (fun j hj => by omega)]
        simp [pAt, riseS]
      | succ k =>
        obtain ⟨q, hq⟩ : ∃ q, ps[k]? = some q := ⟨_, List.getElem?_eq_getElem (by omega)⟩
        have hlt := rising_at ht hq hp (by omega)
        rw [atS_piece (pcs_at h2 hq hp) (Int.le_refl _) (fun j hj r hr => rising_at ht (pcs_before h2 hr) hp (by omega))]
        have hm : max (p.1 - q.1) 1 = p.1 - q.1 := by omega
        simp only [pAt, riseS, hm]
        rw [Int.mul_ediv_cancel_left _ (by omega), Int.mul_ediv_cancel_left _ (by omega)]
        ext <;> dsimp only <;> omega
    · have h1 : ps.length = 1 := by omega
      obtain ⟨p', rfl⟩ := List.length_eq_one_iff.1 h1
      have : k = 0 := by simp at hk; exact hk
      subst this
      simp at hp; subst hp
      simp [atS, pcs, pAt, riseS]
  · intro hne
    have hlt : p.1 < x := by omega
    have hk1 : k + 1 < ps.length := by
      rcases Nat.lt_or_ge (k + 1) ps.length with c | c
      · exact c
      · have e : ps[ps.length - 1]? = some p := by rw [show ps.length - 1 = k by omega]; exact hp
        have : lastX ps = p.1 := by unfold lastX; rw [List.getLast?_eq_getElem?, e]; rfl
        omega
    obtain ⟨q, hq⟩ : ∃ q, ps[k + 1]? = some q := ⟨_, List.getElem?_eq_getElem hk1⟩
    have hxq := hn q hq
    refine ⟨q, hq, hlt, hxq, ?_⟩
    have h2 : 2 ≤ ps.length := by omega
    rw [atS_piece (pcs_at h2 hp hq) (Int.le_of_lt hxq) (fun j hj r hr => by have := rising_le ht (pcs_before h2 hr) hp (by omega); omega)]
    have hm : max (q.1 - p.1) 1 = q.1 - p.1 := by omega
    have hc := ceil_eq ((q.2.2 - p.2.2) * (x - p.1)) (q.1 - p.1) (by omega)
    have e1 : (x - p.1) * (q.2.1 - p.2.1) = (q.2.1 - p.2.1) * (x - p.1) := Int.mul_comm _ _
    have e2 : (x - p.1) * (p.2.2 - q.2.2) = -((q.2.2 - p.2.2) * (x - p.1)) := by rw [Int.mul_comm, ← Int.neg_mul]; congr 1; omega
    simp only [pAt, riseS, hm, e1, e2]
    ext
    · rfl
    · dsimp only
      unfold upS
      split at hc <;> rename_i hz
      · rw [if_pos hz]; omega
      · rw [if_neg hz]; omega
end

section
open Go.RowKit

def Apart (v v' : Value) : Prop := ∀ g, v.ownBlock = some g → v'.ownBlock = some g → False
theorem Apart.symm {v v' : Value} (h : Apart v v') : Apart v' v := fun g a b => h g b a
def LinesAt (base : Nat) (W : World) (v1 v2 v3 : Value) (L : List P3) : Prop :=
  OwnInts base W v1 (L.map (·.1)) ∧ OwnInts base W v2 (L.map (·.2.1)) ∧ OwnInts base W v3 (L.map (·.2.2)) ∧ Apart v1 v2 ∧ Apart v1 v3 ∧ Apart v2 v3
theorem LinesAt.alloc {base : Nat} {W : World} {v1 v2 v3 : Value} {L : List P3} (h : LinesAt base W v1 v2 v3 L) (o : Obj) : LinesAt base (W.alloc o) v1 v2 v3 L :=
  ⟨h.1.alloc o, h.2.1.alloc o, h.2.2.1.alloc o, h.2.2.2⟩
end

section
open Go.RowKit

theorem places_ok {ps : List P3} {a b : Int} (h : placesS ps a b = 0) : tabOk ps = true ∧ a ≤ b ∧ firstX ps ≤ a ∧ b ≤ lastX ps := by
  unfold placesS at h
  by_cases ht : tabOk ps = true
  · rw [if_pos ht] at h
    by_cases hi : inB a b (firstX ps) (lastX ps) = true
    · simp only [inB, decide_eq_true_eq] at hi
      exact ⟨ht, hi.1, hi.2.1, hi.2.2⟩
    · rw [if_neg hi] at h; omega
  · rw [if_neg ht] at h; omega
def AtS (ps : List P3) (x : Int) : Int × Int × Int := if placesS ps x x = 0 then ((atS ps x).1, (atS ps x).2, 0) else (0, 0, placesS ps x x)
theorem Pts.block {w : World} {A : Option Addr} {ps : List P3} (h : Pts w A ps) (hl : 1 ≤ ps.length) : ∃ b o, A = some ⟨b, o, none⟩ ∧ b < w.heap.size ∧ PtsAt w b o ps := by
  rcases h with h | ⟨b, o, h1, h2, h3⟩
  · rw [h] at hl; simp at hl
  · exact ⟨b, o, h1, h2, h3⟩

set_option maxRecDepth 100000 in
set_option maxHeartbeats 1000000 in
theorem at_all (A : Option Addr) (n c : Nat) (ps : List P3) (x : Int) (w : World) (hn : n = ps.length) (hm : n ≤ maxLen) (hp : Pts w A ps) :
  Calls Tryz.prog 162 #[tv A n c, .int .i64 x] w fun e w' => e = .returned (rt (AtS ps x)) ∧ Below w.heap.size w w' := by
 have hE : Below w.heap.size w ((w.alloc (.cells #[.slice A n c] 33)).alloc (.cells #[.int .i64 0, .int .i64 0] 30)) := below_a2 (Below.refl _ _)
 have bT := (Blk.new w 33 #[.slice A n c]).alloc (.cells #[.int .i64 0, .int .i64 0] 30)
 have bR := Blk.new (w.alloc (.cells #[.slice A n c] 33)) 30 #[.int .i64 0, .int .i64 0]
 simp only [World.size_alloc] at bR
 have HP := Lib.hid (hp.below hE); have HN := Lib.hid hn; clear hn
 obtain ⟨E, hEr⟩ : ∃ E, placesS ps x x = E := ⟨_, rfl⟩
 have HC : Hid (∀ W, Pts W A ps → Calls Tryz.prog 202 #[tv A n c, .int .i64 x, .int .i64 x] W fun e w' => e = .returned (.int .i64 E) ∧ Below W.heap.size W w') :=
  Lib.hid fun W hW => checkPlaces_to A n c ps x x E W HN.out hm hW hEr
 have HE := Lib.hid hE; have HT := Lib.hid bT; have HR := Lib.hid bR
 clear hE bT bR
 by_cases h0 : E = 0
 ·subst h0
  obtain ⟨ht, _, hx1, hx2⟩ := places_ok hEr
  obtain ⟨pl1, pl2⟩ := places_in ht
  have hl := (tabOk_len ht).1
  obtain ⟨b, o, rfl, hb, hc⟩ := hp.block hl
  obtain ⟨⟨ra, rb⟩, hr⟩ : ∃ r, atS ps x = r := ⟨_, rfl⟩
  have HA : Hid (∀ W, Below w.heap.size w W → Calls Tryz.prog 203 #[tv (some ⟨b, o, none⟩) n c, .int .i64 x] W fun e w' => e = .returned (rv ra rb) ∧ Below W.heap.size W w') := Lib.hid fun W hW =>
   at_to b o n c ps x ra rb W HN.out (by rw [HN.out]; exact hl) (Nat.lt_of_lt_of_le hb hW.size) ht (by omega) (by omega) (hc.below hW hb) hr
  have HV := Lib.hid (show AtS ps x = (ra, rb, 0) by unfold AtS; rw [if_pos hEr, hr])
  clear hEr hp hx1 hx2 hc hr ht
  go_enter Tryz.func162, Tryz.ntmps162
  go_wp2_with fail
  refine (HC.out _ HP.out).mono ?_
  rintro e w1 ⟨rfl, hb1⟩
  have HT1 := Lib.hid (blkOn HT.out hb1); have HR1 := Lib.hid (blkOn HR.out hb1); have HE1 := Lib.hid (below_then HE.out hb1)
  have t0 := HT1.out.cell 0
  simp at t0
  clear hb1
  go_wp2_with fail
  refine (HA.out _ HE1.out).mono ?_
  rintro e w2 ⟨rfl, hb2⟩
  have bR2 := blkOn HR1.out hb2
  have r0 := bR2.cell 0
  have r1 := bR2.cell 1
  have f0 := bR2.frozen 0
  have f1 := bR2.frozen 1
  simp at r0 r1
  have HE2 := Lib.hid (below_then HE1.out hb2)
  clear hb2 bR2 t0
  go_wp2
  refine bodyPost_ret (v := rt (ra, rb, 0)) (by simp [results, Tryz.results162, go_sem, r0, r1]) rfl ⟨by rw [HV.out], ?_⟩
  exact (HE2.out.setCell (p := ⟨w.heap.size + 1, 0, none⟩) (by show w.heap.size ≤ w.heap.size + 1; omega) _).setCell (p := ⟨w.heap.size + 1, 1, none⟩) (by show w.heap.size ≤ w.heap.size + 1; omega) _
 ·have HV := Lib.hid (show AtS ps x = (0, 0, E) by unfold AtS; rw [hEr, if_neg h0])
  have t1 : (E == 0) = false := beq_eq_false_iff_ne.2 h0
  clear hEr hp h0
  go_enter Tryz.func162, Tryz.ntmps162
  go_wp2_with fail
  refine (HC.out _ HP.out).mono ?_
  rintro e w1 ⟨rfl, hb1⟩
  have bR1 := blkOn HR.out hb1
  have r0 := bR1.cell 0
  have r1 := bR1.cell 1
  have f0 := bR1.frozen 0
  have f1 := bR1.frozen 1
  simp at r0 r1
  have HE1 := Lib.hid (below_then HE.out hb1)
  clear hb1 bR1
  go_wp2
  refine bodyPost_ret (v := rt (0, 0, E)) (by simp [results, Tryz.results162, go_sem, r0, r1]) rfl ⟨by rw [HV.out], ?_⟩
  exact (HE1.out.setCell (p := ⟨w.heap.size + 1, 0, none⟩) (by show w.heap.size ≤ w.heap.size + 1; omega) _).setCell (p := ⟨w.heap.size + 1, 1, none⟩) (by show w.heap.size ≤ w.heap.size + 1; omega) _

theorem field0 (a b c : Int) (w : World) : (Instr.field 211 (.agg #[.int .i64 a, .int .i64 b, .int .i64 c]) 0).run Tryz.prog w = .ok (.int .i64 a) w := by kernel_rfl

attribute [local go_sem] field0
end

section
open Go.RowKit

end

section
open Go.RowKit

theorem floor_ge (u D d : Int) (h0 : 0 ≤ u) (h1 : u ≤ D) (hD : 0 < D) : min d 0 ≤ u * d / D := by
  rw [Int.le_ediv_iff_mul_le hD]
  by_cases hd : 0 ≤ d
  · rw [Int.min_eq_right hd, Int.zero_mul]; exact Int.mul_nonneg h0 hd
  · rw [Int.min_eq_left (by omega)]
    have := Int.mul_le_mul_of_nonneg_left h1 (show 0 ≤ -d by omega)
    have e1 : -d * u = -(u * d) := by rw [Int.neg_mul, Int.mul_comm]
    have e2 : -d * D = -(d * D) := by rw [Int.neg_mul]
    omega
theorem floors_le (u D a b e : Int) (h0 : 0 ≤ u) (h1 : u ≤ D) (hD : 0 < D) (he : 0 ≤ e) (hab : a + b ≤ e) : u * a / D + u * b / D ≤ e := by
  have ha := Int.ediv_mul_le (u * a) (show D ≠ 0 by omega)
  have hb := Int.ediv_mul_le (u * b) (show D ≠ 0 by omega)
  have h2 := Int.mul_le_mul_of_nonneg_left hab h0
  have h3 := Int.mul_le_mul_of_nonneg_right h1 he
  rw [Int.mul_add] at h2
  refine Int.le_of_mul_le_mul_right (a := D) ?_ hD
  rw [Int.add_mul, Int.mul_comm e D]
  omega
theorem piece_in (p q : P3) (x : Int) (hp : Okp p) (hq : Okp q) (hpr : p.2.1 ≤ p.2.2) (hqr : q.2.1 ≤ q.2.2) (h1 : p.1 ≤ x) (h2 : x ≤ q.1) :
    inB (pAt p q x).1 (pAt p q x).2 (-1000000000) 1000000000 = true := by
  obtain ⟨_, _, p1, p2, p3, p4⟩ := hp
  obtain ⟨_, _, q1, q2, q3, q4⟩ := hq
  have hD : 0 < max (q.1 - p.1) 1 := by omega
  have hu : x - p.1 ≤ max (q.1 - p.1) 1 := by omega
  have A := floor_ge (x - p.1) _ (q.2.1 - p.2.1) (by omega) hu hD
  have B := floor_ge (x - p.1) _ (p.2.2 - q.2.2) (by omega) hu hD
  have C := floors_le (x - p.1) _ (q.2.1 - p.2.1) (p.2.2 - q.2.2) (p.2.2 - p.2.1) (by omega) hu hD (by omega) (by omega)
  have m1 : -1000000000 ≤ p.2.1 + min (q.2.1 - p.2.1) 0 := by omega
  have m2 : p.2.2 - min (p.2.2 - q.2.2) 0 ≤ 1000000000 := by omega
  refine inB_yes ?_ ?_ ?_ <;> simp only [pAt, riseS] <;> omega
end

section
open Go.RowKit

theorem pts_ordered : ∀ (ps : List P3) (last : Int), ptsOk last ps = true → ∀ p ∈ ps, p.2.1 ≤ p.2.2
  | [], _, _, _, h => by cases h
  | q :: ps, last, h, p, hp => by
    simp only [ptsOk, Bool.and_eq_true, ptOk, inB, decide_eq_true_eq] at h
    rcases List.mem_cons.1 hp with rfl | hp
    · omega
    · exact pts_ordered ps _ h.2 p hp
theorem atS_in {ps : List P3} {x : Int} (ht : tabOk ps = true) (h1 : firstX ps ≤ x) (h2 : x ≤ lastX ps) : inB (atS ps x).1 (atS ps x).2 (-1000000000) 1000000000 = true := by
  have hl := (tabOk_len ht).1
  have hok := okp_of ps (-1) (tabOk_pts ht) (by omega)
  have hor := pts_ordered ps (-1) (tabOk_pts ht)
  rcases Nat.lt_or_ge ps.length 2 with hc | hc
  · obtain ⟨p, rfl⟩ : ∃ p, ps = [p] := List.length_eq_one_iff.1 (by omega)
    have f1 : p.1 ≤ x := h1
    have f2 : x ≤ p.1 := h2
    have e : atS [p] x = pAt p p x := atS_piece (i := 0) (pq := (p, p)) rfl f2 (fun j hj => by omega)
    rw [e]
    exact piece_in p p x (hok p (by simp)).1 (hok p (by simp)).1 (hor p (by simp)) (hor p (by simp)) f1 f2
  · cases hf : (pcs ps).find? (fun pq => decide (x ≤ pq.2.1)) with
    | none =>
      exfalso
      rw [List.find?_eq_none] at hf
      have e1 : ps[ps.length - 2]? = some ps[ps.length - 2] := List.getElem?_eq_getElem (by omega)
      have e2 : ps[ps.length - 2 + 1]? = some ps[ps.length - 2 + 1] := List.getElem?_eq_getElem (by omega)
      have hm := hf _ (List.mem_of_getElem? (pcs_at hc e1 e2))
      simp only [decide_eq_true_eq] at hm
      have : lastX ps = (ps[ps.length - 2 + 1]'(by omega)).1 := by
        unfold lastX
        rw [List.getLast?_eq_getElem?, show ps.length - 1 = ps.length - 2 + 1 by omega, e2]; rfl
      omega
    | some pq =>
      have e : atS ps x = pAt pq.1 pq.2 x := by unfold atS; rw [hf]
      obtain ⟨hx, i, li, hi, hb⟩ := List.find?_eq_some_iff_getElem.1 hf
      have hx' : x ≤ pq.2.1 := by simpa using hx
      have hi' : (pcs ps)[i]? = some pq := by rw [List.getElem?_eq_getElem li, hi]
      have hz := hi'
      rw [pcs_two hc, List.getElem?_zip_eq_some] at hz
      have m1 := List.mem_of_getElem? hz.1
      have m2 := List.mem_of_getElem? (pcs_before hc hi')
      have hp1 : pq.1.1 ≤ x := by
        cases i with
        | zero =>
          have hz0 := hz.1
          have : firstX ps = pq.1.1 := by unfold firstX; rw [List.head?_eq_getElem?, hz0]; rfl
          omega
        | succ k =>
          have lk : k < (pcs ps).length := by omega
          have h0 := hb k (by omega)
          have hr := pcs_before hc (List.getElem?_eq_getElem lk)
          rw [hz.1] at hr
          injection hr with hr
          simp only [Bool.not_eq_true', decide_eq_false_iff_not] at h0
          rw [hr]; omega
      rw [e]
      exact piece_in pq.1 pq.2 x (hok _ m1).1 (hok _ m2).1 (hor _ m1) (hor _ m2) hp1 hx'
end

section
open Go.RowKit

theorem rising_last {ps : List P3} (ht : tabOk ps = true) {p : P3} (hp : p ∈ ps) : p.1 ≤ lastX ps := by
  obtain ⟨k, hk⟩ := List.mem_iff_getElem?.1 hp
  have hl := (List.getElem?_eq_some_iff.1 hk).1
  have e : ps[ps.length - 1]? = some (ps[ps.length - 1]'(by omega)) := List.getElem?_eq_getElem (by omega)
  have := rising_le ht hk e (by omega)
  have f : lastX ps = (ps[ps.length - 1]'(by omega)).1 := by unfold lastX; rw [List.getLast?_eq_getElem?, e]; rfl
  omega
theorem atS_point {ps : List P3} (ht : tabOk ps = true) {p : P3} (hp : p ∈ ps) : atS ps p.1 = (p.2.1, p.2.2) := by
  obtain ⟨k, hk⟩ := List.mem_iff_getElem?.1 hp
  exact (ref_at ht hk (Int.le_refl _) (rising_last ht hp) (fun q hq => rising_at ht hk hq (by omega))).1 rfl

theorem OwnPts.alloc {base : Nat} {w : World} {v : Value} {l : List P3} (h : OwnPts base w v l) (o : Obj) : OwnPts base (w.alloc o) v l := World.ownsRow.alloc h o
theorem OwnPts.below {base : Nat} {X Y : World} {v : Value} {L : List P3} (ho : OwnPts base X v L) (hb : Below X.heap.size X Y) : OwnPts base Y v L := ho.grown (below_grownNone hb) (fun _ e => by cases e)
end

section
open Go.RowKit
attribute [local go_sem ↓] neqPoint
end

section
open Go.RowKit

structure HoldD where
  id : Int
  al : Int
  ah : Int
  vol : List P3
  mom : List P3
  hei : List P3
  t0 : Int
  t1 : Int
  u0 : Int
  u1 : Int
  v0 : Int
  v1 : Int
  h0 : Int
  h1 : Int
structure HoldM where
  A : Option Addr
  n : Nat
  c : Nat
  B : Option Addr
  m : Nat
  d : Nat
  C : Option Addr
  l : Nat
  e : Nat
abbrev holdCells (h : HoldD) (m : HoldM) : Array Value := #[.int .i64 h.id, .int .i64 h.al, .int .i64 h.ah, .slice m.A m.n m.c, .slice m.B m.m m.d, .slice m.C m.l m.e, .int .i64 h.t0, .int .i64 h.t1, .int .i64 h.u0, .int .i64 h.u1, .int .i64 h.v0, .int .i64 h.v1, .int .i64 h.h0, .int .i64 h.h1]
abbrev holdV (h : HoldD) (m : HoldM) : Value := .agg (holdCells h m)
def TabIn (w : World) (A : Option Addr) (n : Nat) (ps : List P3) : Prop := n = ps.length ∧ n ≤ maxLen ∧ Pts w A ps
theorem TabIn.below {w w' : World} {A : Option Addr} {n : Nat} {ps : List P3} (h : TabIn w A n ps) (hb : Below w.heap.size w w') : TabIn w' A n ps := ⟨h.1, h.2.1, h.2.2.below hb⟩
def HoldIn (w : World) (h : HoldD) (m : HoldM) : Prop := TabIn w m.A m.n h.vol ∧ TabIn w m.B m.m h.mom ∧ TabIn w m.C m.l h.hei
theorem HoldIn.below {w w' : World} {h : HoldD} {m : HoldM} (i : HoldIn w h m) (hb : Below w.heap.size w w') : HoldIn w' h m := ⟨i.1.below hb, i.2.1.below hb, i.2.2.below hb⟩
def measuresS (ps : List P3) : Bool := (tabOk ps && decide (2 ≤ ps.length)) && ps.all fun p => decide (0 ≤ p.2.1)
def alongS (ps qs : List P3) : Bool := decide (firstX ps = firstX qs) && decide (lastX ps = lastX qs)
def fallsS : List P3 → Bool
  | p :: q :: r => (decide (q.2.1 ≤ p.2.1) && decide (q.2.2 ≤ p.2.2)) && fallsS (q :: r)
  | _ => true
def risesS : List P3 → Bool
  | p :: q :: r => (decide (p.2.1 ≤ q.2.1) && decide (p.2.2 ≤ q.2.2)) && risesS (q :: r)
  | _ => true
def amountS (a b : Int) : Bool := inB a b 0 1000000000
theorem boxes1' (w : World) (t1 : TypeId) (c1 : Array Value) : Boxes (w.alloc (.cells c1 t1)) [(w.heap.size, t1, c1)] := fun p hp => by
  have := List.mem_singleton.1 hp; subst this; exact Blk.new w _ _
theorem boxes2' (w : World) (t1 t2 : TypeId) (c1 c2 : Array Value) : Boxes ((w.alloc (.cells c1 t1)).alloc (.cells c2 t2)) [(w.heap.size + 1, t2, c2), (w.heap.size, t1, c1)] := by
  have h2 := (boxes1' w t1 c1).new t2 c2
  simp only [World.size_alloc] at h2
  exact h2
theorem boxes3' (w : World) (t1 t2 t3 : TypeId) (c1 c2 c3 : Array Value) : Boxes (((w.alloc (.cells c1 t1)).alloc (.cells c2 t2)).alloc (.cells c3 t3)) [(w.heap.size + 1 + 1, t3, c3), (w.heap.size + 1, t2, c2), (w.heap.size, t1, c1)] := by
  have h2 := (boxes2' w t1 t2 c1 c2).new t3 c3
  simp only [World.size_alloc] at h2
  exact h2
end

section
open Go.RowKit

theorem inB_cases {a b lo hi : Int} {t : Bool} (h : inB a b lo hi = t) : (¬ lo ≤ a ∧ t = false) ∨ (lo ≤ a ∧ ¬ a ≤ b ∧ t = false) ∨ (lo ≤ a ∧ a ≤ b ∧ ¬ b ≤ hi ∧ t = false) ∨ (lo ≤ a ∧ a ≤ b ∧ b ≤ hi ∧ t = true) := by
  subst h
  by_cases h1 : lo ≤ a
  · by_cases h2 : a ≤ b
    · by_cases h3 : b ≤ hi
      · exact .inr (.inr (.inr ⟨h1, h2, h3, inB_yes h2 h1 h3⟩))
      · exact .inr (.inr (.inl ⟨h1, h2, h3, inB_no (by omega)⟩))
    · exact .inr (.inl ⟨h1, h2, inB_no (by omega)⟩)
  · exact .inl ⟨h1, inB_no (by omega)⟩
set_option maxRecDepth 100000 in
set_option maxHeartbeats 2000000 in
theorem hwithin_to (a b lo hi : Int) (t : Bool) (w : World) (h : inB a b lo hi = t) :
  Calls Tryz.prog 99 #[rv a b, .int .i64 lo, .int .i64 hi] w fun e w' => e = .returned (.bool t) ∧ Below w.heap.size w w' := by
 rcases inB_cases h with ⟨h1, rfl⟩ | ⟨h1, h2, rfl⟩ | ⟨h1, h2, h3, rfl⟩ | ⟨h1, h2, h3, rfl⟩
 all_goals
  clear h
  go_enter Tryz.func99, Tryz.ntmps99
  go_wp2
  go_ret
  exact ⟨rfl, below_alloc1 _ _⟩
def densS (a b : Int) : Bool := inB a b 100 2000
theorem isDensity_to (a b : Int) (t : Bool) (w : World) (h : densS a b = t) :
  Calls Tryz.prog 128 #[rv a b] w fun e w' => e = .returned (.bool t) ∧ Below w.heap.size w w' := by
 have C : Hid (∀ W, Calls Tryz.prog 99 #[rv a b, .int .i64 100, .int .i64 2000] W fun e w' => e = .returned (.bool t) ∧ Below W.heap.size W w') := Lib.hid fun W => hwithin_to a b 100 2000 t W h
 clear h
 go_enter Tryz.func128, Tryz.ntmps128
 go_wp2_with fail
 refine (C.out _).mono ?_
 rintro e w1 ⟨rfl, hb⟩
 go_wp2
 go_ret
 exact ⟨rfl, below_a1 hb⟩
set_option maxRecDepth 100000 in
theorem hplaces_any (b o m c : Nat) (x xl : Int) (w : World) (hm : (m : Int) ≤ 1000000) (hb : b < w.heap.size) (h0 : w.cell? ⟨b, o, none⟩ = some (.int .i64 x)) (hl : w.cell? ⟨b, o + m * 3, none⟩ = some (.int .i64 xl)) :
  Calls Tryz.prog 77 #[tv (some ⟨b, o, none⟩) (m + 1) c] w fun e w' => e = .returned (rv x xl) ∧ Below w.heap.size w w' := by
 have k1 : (0 : Int) ≤ (m : Int) := by omega
 have k2 : (m : Int) < (m : Int) + 1 := by omega
 have k3 : IntKind.i64.wrap ((m : Int) + 1 - 1) = (m : Int) := by rw [IntWalk.i64_in _ ⟨by omega, by omega⟩]; omega
 go_enter Tryz.func77, Tryz.ntmps77
 go_wp2_with fail
 have z0 : ((w.alloc (.cells #[.slice (some ⟨b, o, none⟩) (m + 1) c] 33)).alloc (.cells #[.int .i64 0, .int .i64 0] 30)).cell? ⟨w.heap.size, 0, none⟩ = some (.slice (some ⟨b, o, none⟩) (m + 1) c) := by simp [go_sem]
 have z1 : ((w.alloc (.cells #[.slice (some ⟨b, o, none⟩) (m + 1) c] 33)).alloc (.cells #[.int .i64 0, .int .i64 0] 30)).cell? ⟨b, o, none⟩ = some (.int .i64 x) := by
  rw [World.cell?_alloc_lt _ _ _ (by simp; omega), World.cell?_alloc_lt _ _ _ hb]; exact h0
 have z2 : ((w.alloc (.cells #[.slice (some ⟨b, o, none⟩) (m + 1) c] 33)).alloc (.cells #[.int .i64 0, .int .i64 0] 30)).cell? ⟨b, o + m * 3, none⟩ = some (.int .i64 xl) := by
  rw [World.cell?_alloc_lt _ _ _ (by simp; omega), World.cell?_alloc_lt _ _ _ hb]; exact hl
 go_region
 go_wp2
 refine bodyPost_ret (v := rv x xl) (by simp [results, Tryz.results77, go_sem]) rfl ⟨rfl, ?_⟩
 exact (((Below.refl _ _).alloc (Nat.le_refl _) _).alloc (by simp) _).drew
theorem hplaces_tab (A : Option Addr) (n c : Nat) (ps : List P3) (w : World) (hp : TabIn w A n ps) (h : tabOk ps = true) :
    Calls Tryz.prog 77 #[tv A n c] w fun e w' => e = .returned (rv (firstX ps) (lastX ps)) ∧ Below w.heap.size w w' := by
  obtain ⟨h1, h2⟩ := tabOk_len h
  obtain ⟨hn, _, hp⟩ := hp
  obtain ⟨b, o, rfl, hb, hc⟩ := hp.block h1
  obtain ⟨m, rfl⟩ : ∃ m, n = m + 1 := ⟨n - 1, by omega⟩
  exact hplaces_any b o m c _ _ w (by omega) hb (first_at hc (by omega)) (last_at hc (by omega))
theorem inPlaces_to (A : Option Addr) (n c : Nat) (ps : List P3) (x y : Int) (t : Bool) (w : World) (hp : TabIn w A n ps) (h : tabOk ps = true) (ht : inB x y (firstX ps) (lastX ps) = t) :
  Calls Tryz.prog 183 #[rv x y, tv A n c] w fun e w' => e = .returned (.bool t) ∧ Below w.heap.size w w' := by
 have hE : Below w.heap.size w ((w.alloc (.cells #[.int .i64 x, .int .i64 y] 30)).alloc (.cells #[.slice A n c] 33)) := below_a2 (Below.refl _ _)
 have C1 : Hid (∀ W, Below w.heap.size w W → Calls Tryz.prog 77 #[tv A n c] W fun e w' => e = .returned (rv (firstX ps) (lastX ps)) ∧ Below W.heap.size W w') := Lib.hid fun W hW => hplaces_tab A n c ps W (hp.below hW) h
 have C2 : Hid (∀ W, Calls Tryz.prog 99 #[rv x y, .int .i64 (firstX ps), .int .i64 (lastX ps)] W fun e w' => e = .returned (.bool t) ∧ Below W.heap.size W w') := Lib.hid fun W => hwithin_to x y _ _ t W ht
 have HE := Lib.hid hE; have HK := Lib.hid (boxes2' w 30 33 #[.int .i64 x, .int .i64 y] #[.slice A n c])
 generalize firstX ps = f at *
 generalize lastX ps = l at *
 clear hE hp h ht
 go_enter Tryz.func183, Tryz.ntmps183
 go_wp2_with fail
 obtain ⟨W0, hW0⟩ : ∃ W0, ((w.alloc (.cells #[.int .i64 x, .int .i64 y] 30)).alloc (.cells #[.slice A n c] 33)) = W0 := ⟨_, rfl⟩
 rw [hW0] at HE HK ⊢
 clear hW0
 refine (C1.out _ HE.out).mono ?_
 rintro e w1 ⟨rfl, hb⟩
 have q0 := (HK.out.on hb _ (.tail _ (.head _))).cell 0
 have q1 := (HK.out.on hb _ (.tail _ (.head _))).cell 1
 have l0 := (HK.out.on hb _ (.tail _ (.head _))).lt
 simp at q0 q1 l0
 have HE1 := Lib.hid (below_then HE.out hb)
 clear hb
 go_wp2_with fail
 refine (C2.out _).mono ?_
 rintro e w2 ⟨rfl, hb⟩
 have HE2 := Lib.hid (below_then (below_then HE1.out (below_alloc1 w1 (.cells #[.int .i64 f, .int .i64 l] 30))) hb)
 clear hb
 go_wp2
 go_ret
 exact ⟨rfl, HE2.out⟩
end

end Go.Proofs.YtemlaaipnhmcoaaGreat
