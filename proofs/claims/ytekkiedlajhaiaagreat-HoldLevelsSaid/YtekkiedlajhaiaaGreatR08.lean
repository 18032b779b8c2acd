/- The contract of Lines (the specification). Its condition: the table's points lie in memory, 40 of them at most. -/
import Derived.BigQuiet
import Derived.Test.YtekkiedlajhaiaaGreatR03
import Derived.Test.YtekkiedlajhaiaaGreatR07
import Derived.Deep.AppendLies
set_option linter.unusedVariables false
set_option linter.unusedSimpArgs false
set_option linter.constructorNameAsVariable false
namespace Go.Proofs.YtekkiedlajhaiaaGreat

section
open Go.RowKit

theorem first_at {w : World} {b o : Nat} {ps : List P3} (h : PtsAt w b o ps) (hl : 1 ≤ ps.length) : w.cell? ⟨b, o, none⟩ = some (.int .i64 (firstX ps)) := by
  have e0 : ps[0]? = some (ps[0]'(by omega)) := List.getElem?_eq_getElem (by omega)
  have f0 : firstX ps = (ps[0]'(by omega)).1 := by unfold firstX; rw [List.head?_eq_getElem?, e0]; rfl
  have g0 := (h 0 _ e0).1
  rw [Nat.zero_mul, Nat.add_zero] at g0
  rw [f0]; exact g0
theorem last_at {w : World} {b o m : Nat} {ps : List P3} (h : PtsAt w b o ps) (hl : ps.length = m + 1) : w.cell? ⟨b, o + m * 3, none⟩ = some (.int .i64 (lastX ps)) := by
  have em : ps[m]? = some (ps[m]'(by omega)) := List.getElem?_eq_getElem (by omega)
  have fm : lastX ps = (ps[m]'(by omega)).1 := by
    unfold lastX
    rw [List.getLast?_eq_getElem?, show ps.length - 1 = m by omega, em]; rfl
  rw [fm]; exact (h m _ em).1
def upS (W N : Int) : Int := if 0 < N then W + 1 else W
end

section
open Go.RowKit
end

section
theorem rising_pts : ∀ (ps : List P3) (last : Int), ptsOk last ps = true → -1 ≤ last → ps.Pairwise (fun p q => p.1 < q.1)
  | [], _, _, _ => .nil
  | p :: ps, last, h, hl => by
    have h1 := (okp_of (p :: ps) last h hl p (by simp))
    simp only [ptsOk, Bool.and_eq_true] at h
    refine .cons (fun q hq => ?_) (rising_pts ps p.1 h.2 (by have := h1.2; omega))
    exact (okp_of ps p.1 h.2 (by have := h1.2; omega) q hq).2
theorem rising_at {ps : List P3} (ht : tabOk ps = true) {i j : Nat} {p q : P3} (hi : ps[i]? = some p) (hj : ps[j]? = some q) (h : i < j) : p.1 < q.1 := by
  obtain ⟨li, rfl⟩ := List.getElem?_eq_some_iff.1 hi
  obtain ⟨lj, rfl⟩ := List.getElem?_eq_some_iff.1 hj
  exact List.pairwise_iff_getElem.1 (rising_pts ps (-1) (tabOk_pts ht) (by omega)) i j li lj h
theorem rising_le {ps : List P3} (ht : tabOk ps = true) {i j : Nat} {p q : P3} (hi : ps[i]? = some p) (hj : ps[j]? = some q) (h : i ≤ j) : p.1 ≤ q.1 := by
  rcases Nat.lt_or_ge i j with c | c
  · exact Int.le_of_lt (rising_at ht hi hj c)
  · have : i = j := by omega
    subst this
    rw [hi] at hj; injection hj with hj; subst hj; exact Int.le_refl _

theorem ceil_eq (m d : Int) (hd : 0 < d) : -(-m / d) = m / d + (if 0 < m % d then 1 else 0) := by
  have h1 := Int.mul_ediv_add_emod m d
  have h2 := Int.emod_nonneg m (show d ≠ 0 by omega)
  have h3 := Int.emod_lt_of_pos m hd
  by_cases hz : 0 < m % d
  · rw [if_pos hz]
    have : -m / d = -(m / d) - 1 := by
      refine ((Int.ediv_emod_unique (r := d - m % d) hd).2 ⟨?_, by omega, by omega⟩).1
      rw [Int.mul_sub, Int.mul_neg]; omega
    omega
  · rw [if_neg hz]
    have : -m / d = -(m / d) := by
      refine ((Int.ediv_emod_unique (r := 0) hd).2 ⟨?_, by omega, by omega⟩).1
      rw [Int.mul_neg]; omega
    omega

theorem atS_piece {ps : List P3} {i : Nat} {pq : P3 × P3} {x : Int} (hi : (pcs ps)[i]? = some pq) (hx : x ≤ pq.2.1) (hb : ∀ j, j < i → ∀ r, (pcs ps)[j]? = some r → r.2.1 < x) : atS ps x = pAt pq.1 pq.2 x := by
  obtain ⟨li, hi'⟩ := List.getElem?_eq_some_iff.1 hi
  have hf : (pcs ps).find? (fun r => decide (x ≤ r.2.1)) = some pq := by
    rw [List.find?_eq_some_iff_getElem]
    refine ⟨by simpa using hx, i, li, hi', fun j hj => ?_⟩
    have := hb j hj _ (List.getElem?_eq_getElem (by omega))
    simp; omega
  unfold atS
  rw [hf]
theorem pcs_at {ps : List P3} {i : Nat} {p q : P3} (h2 : 2 ≤ ps.length) (hp : ps[i]? = some p) (hq : ps[i + 1]? = some q) : (pcs ps)[i]? = some (p, q) := by
  rw [pcs_two h2, List.getElem?_zip_eq_some]
  exact ⟨hp, by rw [List.getElem?_tail]; exact hq⟩
theorem pcs_before {ps : List P3} {j : Nat} {r : P3 × P3} (h2 : 2 ≤ ps.length) (h : (pcs ps)[j]? = some r) : ps[j + 1]? = some r.2 := by
  rw [pcs_two h2, List.getElem?_zip_eq_some, List.getElem?_tail] at h
  exact h.2

theorem ref_at {ps : List P3} (ht : tabOk ps = true) {k : Nat} {p : P3} {x : Int} (hp : ps[k]? = some p) (h1 : p.1 ≤ x) (hl : x ≤ lastX ps) (hn : ∀ q, ps[k + 1]? = some q → x < q.1) :
    (p.1 = x → atS ps x = (p.2.1, p.2.2)) ∧
    (p.1 ≠ x → ∃ q, ps[k + 1]? = some q ∧ p.1 < x ∧ x < q.1 ∧ atS ps x = (p.2.1 + (q.2.1 - p.2.1) * (x - p.1) / (q.1 - p.1), upS (p.2.2 + (q.2.2 - p.2.2) * (x - p.1) / (q.1 - p.1)) ((q.2.2 - p.2.2) * (x - p.1) % (q.1 - p.1)))) := by
  have hk : k < ps.length := (List.getElem?_eq_some_iff.1 hp).1
  constructor
  · rintro rfl
    by_cases h2 : 2 ≤ ps.length
    · cases k with
      | zero =>
        obtain ⟨q, hq⟩ : ∃ q, ps[1]? = some q := ⟨_, List.getElem?_eq_getElem (by omega)⟩
        rw [atS_piece (pcs_at h2 hp hq) (Int.le_of_lt (rising_at ht hp hq (by omega))) (fun j hj => by omega)]
        simp [pAt, riseS]
      | succ k =>
        obtain ⟨q, hq⟩ : ∃ q, ps[k]? = some q := ⟨_, List.getElem?_eq_getElem (by omega)⟩
        have hlt := rising_at ht hq hp (by omega)
        rw [atS_piece (pcs_at h2 hq hp) (Int.le_refl _) (fun j hj r hr => rising_at ht (pcs_before h2 hr) hp (by omega))]
        have hm : max (p.1 - q.1) 1 = p.1 - q.1 := by omega
        simp only [pAt, riseS, hm]
        rw [Int.mul_ediv_cancel_left _ (by omega), Int.mul_ediv_cancel_left _ (by omega)]
        ext <;> dsimp only <;> omega
    · have h1 : ps.length = 1 := by omega
      obtain ⟨p', rfl⟩ := List.length_eq_one_iff.1 h1
      have : k = 0 := by simp at hk; exact hk
      subst this
      simp at hp; subst hp
      simp [atS, pcs, pAt, riseS]
  · intro hne
    have hlt : p.1 < x := by omega
    have hk1 : k + 1 < ps.length := by
      rcases Nat.lt_or_ge (k + 1) ps.length with c | c
      · exact c
      · have e : ps[ps.length - 1]? = some p := by rw [show ps.length - 1 = k by omega]; exact hp
        have : lastX ps = p.1 := by unfold lastX; rw [List.getLast?_eq_getElem?, e]; rfl
        omega
    obtain ⟨q, hq⟩ : ∃ q, ps[k + 1]? = some q := ⟨_, List.getElem?_eq_getElem hk1⟩
    have hxq := hn q hq
    refine ⟨q, hq, hlt, hxq, ?_⟩
    have h2 : 2 ≤ ps.length := by omega
    rw [atS_piece (pcs_at h2 hp hq) (Int.le_of_lt hxq) (fun j hj r hr => by have := rising_le ht (pcs_before h2 hr) hp (by omega); omega)]
    have hm : max (q.1 - p.1) 1 = q.1 - p.1 := by omega
    have hc := ceil_eq ((q.2.2 - p.2.2) * (x - p.1)) (q.1 - p.1) (by omega)
    have e1 : (x - p.1) * (q.2.1 - p.2.1) = (q.2.1 - p.2.1) * (x - p.1) := Int.mul_comm _ _
    have e2 : (x - p.1) * (p.2.2 - q.2.2) = -((q.2.2 - p.2.2) * (x - p.1)) := by rw [Int.mul_comm, ← Int.neg_mul]; congr 1; omega
    simp only [pAt, riseS, hm, e1, e2]
    ext
    · rfl
    · dsimp only
      unfold upS
      split at hc <;> rename_i hz
      · rw [if_pos hz]; omega
      · rw [if_neg hz]; omega
end

section
open Go.RowKit

def Apart (v v' : Value) : Prop := ∀ g, v.ownBlock = some g → v'.ownBlock = some g → False
theorem Apart.symm {v v' : Value} (h : Apart v v') : Apart v' v := fun g a b => h g b a
def LinesAt (base : Nat) (W : World) (v1 v2 v3 : Value) (L : List P3) : Prop :=
  OwnInts base W v1 (L.map (·.1)) ∧ OwnInts base W v2 (L.map (·.2.1)) ∧ OwnInts base W v3 (L.map (·.2.2)) ∧ Apart v1 v2 ∧ Apart v1 v3 ∧ Apart v2 v3
theorem LinesAt.alloc {base : Nat} {W : World} {v1 v2 v3 : Value} {L : List P3} (h : LinesAt base W v1 v2 v3 L) (o : Obj) : LinesAt base (W.alloc o) v1 v2 v3 L :=
  ⟨h.1.alloc o, h.2.1.alloc o, h.2.2.1.alloc o, h.2.2.2⟩
end

end Go.Proofs.YtekkiedlajhaiaaGreat
