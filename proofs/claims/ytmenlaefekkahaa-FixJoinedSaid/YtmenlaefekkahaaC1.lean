/- The contracts of floor at every number, and of add, down and addArea of a total (fix). Conditions: divisors of 1 or more; sums wrap as ints do. The contract of addArea of a total (fix), for a piece and a line with the numbers of a valid table; sums wrap as ints do. -/
import Derived.Test.YtmenlaefekkahaaB5
import Derived.RegionTactic
import Derived.BigRegion
import Derived.Test.YtmenlaefekkahaaA8
set_option linter.unusedVariables false
set_option linter.unusedSimpArgs false
set_option linter.constructorNameAsVariable false
namespace Go.Proofs.Ytmenlaefekkahaa
open Go.RowKit

theorem ediv_i64 (n d : Int) (hd : 1 ≤ d) (h1 : -9223372036854775808 ≤ n) (h2 : n ≤ 9223372036854775807) : -9223372036854775808 ≤ n / d ∧ n / d ≤ 9223372036854775807 := by
  refine ⟨Int.le_ediv_of_mul_le (by omega) ?_, Int.ediv_le_of_le_mul (by omega) ?_⟩
  · have := Int.mul_le_mul_of_nonneg_left hd (show (0 : Int) ≤ 9223372036854775808 by omega)
    omega
  · have := Int.mul_le_mul_of_nonneg_left hd (show (0 : Int) ≤ 9223372036854775807 by omega)
    omega
theorem floor_all (n d : Int) (w : World) (hd : 1 ≤ d) (hn : -9223372036854775808 ≤ n) (hn' : n ≤ 9223372036854775807) :
    Calls Try.prog 124 #[.int .i64 n, .int .i64 d] w fun e w' => e = .returned (.int .i64 (n / d)) ∧ w = w' := by
  have hf := tdiv_floor n d (by omega)
  have hb := ediv_i64 n d hd hn hn'
  have H := Lib.hid (And.intro hf hb)
  clear hf hb
  go_enter Try.func124, Try.ntmps124
  go_wp2
  · have h : n.tmod d < 0 := by assumption
    go_ret
    obtain ⟨⟨h1, _⟩, h3, h4⟩ := H.out
    have h5 := h1 h
    exact ⟨ret_int (by rw [h5]; exact IntWalk.wrap64_in _ ⟨by omega, by omega⟩), rfl⟩
  · have h : 0 ≤ n.tmod d := by assumption
    go_ret
    obtain ⟨⟨_, h2⟩, _⟩ := H.out
    exact ⟨ret_int (h2 h), rfl⟩

/-- a total in memory -/
abbrev totCells (a n d : Int) : Array Value := #[.int .i64 a, .int .i64 n, .int .i64 d]

set_option maxRecDepth 100000 in
set_option maxHeartbeats 2000000 in
theorem totalAdd_some (g : Nat) (a n d x y : Int) (w : World) (h : Blk w g 118 (totCells a n d)) (hx : (x == 0) = false) :
    Calls Try.prog 133 #[.pointer (some ⟨g, 0, none⟩), .int .i64 x, .int .i64 y] w fun e w' => e = .returned (.tuple #[]) ∧ Blk w' g 118 (totCells a (wrap64 (wrap64 (n * y) + wrap64 (x * d))) (wrap64 (d * y))) ∧ Only g w w' := by
  have c1 := h.cell 1
  have c2 := h.cell 2
  have f1 := h.frozen 1
  have f2 := h.frozen 2
  simp at c1 c2
  have HB := Lib.hid h; clear h
  go_enter Try.func133, Try.ntmps133
  go_wp2
  go_region
  go_wp2
  go_end0
  refine ⟨rfl, ?_, ?_⟩
  · have h3 := ((HB.out.set_ 1 (.int .i64 (wrap64 (wrap64 (n * y) + wrap64 (x * d))))).set_ 2 (.int .i64 (wrap64 (d * y))))
    simpa [totCells] using h3.drew
  · exact (((Only.refl g w).setCell (p := ⟨g, 1, none⟩) (.inl rfl) _).setCell (p := ⟨g, 2, none⟩) (.inl rfl) _).drew

/-- the fraction of a total, with x / y added -/
def addS3 (s : Int × Int × Int) (x y : Int) : Int × Int × Int := if x = 0 then s else (s.1, wrap64 (wrap64 (s.2.1 * y) + wrap64 (x * s.2.2)), wrap64 (s.2.2 * y))
abbrev tot3 (s : Int × Int × Int) : Array Value := totCells s.1 s.2.1 s.2.2
theorem totalAdd_any (g : Nat) (s : Int × Int × Int) (x y : Int) (w : World) (h : Blk w g 118 (tot3 s)) :
    Calls Try.prog 133 #[.pointer (some ⟨g, 0, none⟩), .int .i64 x, .int .i64 y] w fun e w' => e = .returned (.tuple #[]) ∧ Blk w' g 118 (tot3 (addS3 s x y)) ∧ Only g w w' := by
  obtain ⟨a, n, d⟩ := s
  by_cases hx : x = 0
  · subst hx
    have HB := Lib.hid h; clear h
    go_enter Try.func133, Try.ntmps133
    go_wp2
    go_end0
    exact ⟨rfl, HB.out, Only.refl g w⟩
  · have e : addS3 (a, n, d) x y = (a, wrap64 (wrap64 (n * y) + wrap64 (x * d)), wrap64 (d * y)) := by unfold addS3; rw [if_neg hx]
    rw [e]
    exact totalAdd_some g a n d x y w h (beq_eq_false_iff_ne.2 hx)

/-- down -/
def downS (s : Int × Int × Int) : Int := wrap64 (s.1 + s.2.1 / s.2.2)
set_option maxRecDepth 100000 in
theorem down_any (g : Nat) (s : Int × Int × Int) (w : World) (h : Blk w g 118 (tot3 s)) (hd : 1 ≤ s.2.2) (h1 : -9223372036854775808 ≤ s.2.1) (h2 : s.2.1 ≤ 9223372036854775807) :
    Calls Try.prog 113 #[.pointer (some ⟨g, 0, none⟩)] w fun e w' => e = .returned (.int .i64 (downS s)) ∧ ∃ k, w' = w.drewN k := by
  obtain ⟨a, n, d⟩ := s
  dsimp only at hd h1 h2
  have c0 := h.cell 0
  have c1 := h.cell 1
  have c2 := h.cell 2
  simp at c0 c1 c2
  have HB := Lib.hid h; clear h
  unfold downS
  dsimp only
  go_enter Try.func113, Try.ntmps113
  go_wp2
  go_quiet ((go_at_call 124; exact Calls.quiet_of_same ((floor_all _ _ _ hd h1 h2).mono fun e w' ⟨he, hw⟩ => ⟨he, hw.symm⟩)))
  go_wp2
  go_ret
  exact ⟨rfl, _, rfl⟩
end Go.Proofs.Ytmenlaefekkahaa
namespace Go.Proofs.Ytmenlaefekkahaa
open Go.RowKit
attribute [local go_sem ↓] run_minI run_maxI

/-- twice the sum of the places from u to v, from x0 on -/
def mS (x0 u v : Int) : Int := (v - u) * (v + u - 2 * x0)
/-- addArea between places u and v of a piece -/
def areaIn (s : Int × Int × Int) (x0 x1 l0 l1 u v : Int) : Int × Int × Int :=
  addS3 (wrap64 (s.1 + (2 * l0 * (v - u) + mS x0 u v / (x1 - x0) * (l1 - l0) + mS x0 u v % (x1 - x0) * (l1 - l0) / (x1 - x0))), s.2.1, s.2.2) (mS x0 u v % (x1 - x0) * (l1 - l0) - mS x0 u v % (x1 - x0) * (l1 - l0) / (x1 - x0) * (x1 - x0)) (x1 - x0)
def areaStep (s : Int × Int × Int) (p q : P3) (l0 l1 a b : Int) : Int × Int × Int :=
  if min b q.1 ≤ max a p.1 then s else areaIn s p.1 q.1 l0 l1 (max a p.1) (min b q.1)

theorem mS_bounds (x0 x1 u v : Int) (h0 : x0 ≤ u) (h1 : u < v) (h2 : v ≤ x1) (hd : x1 - x0 ≤ 1000000) :
    0 ≤ mS x0 u v ∧ mS x0 u v ≤ 2000000000000 ∧ 0 ≤ mS x0 u v / (x1 - x0) ∧ mS x0 u v / (x1 - x0) ≤ 2000000 ∧ 0 ≤ mS x0 u v % (x1 - x0) ∧ mS x0 u v % (x1 - x0) < x1 - x0 := by
  have hd0 : 0 < x1 - x0 := by omega
  have e1 : 0 ≤ v - u := by omega
  have e2 : v - u ≤ x1 - x0 := by omega
  have e3 : 0 ≤ v + u - 2 * x0 := by omega
  have e4 : v + u - 2 * x0 ≤ 2 * (x1 - x0) := by omega
  have m0 : 0 ≤ mS x0 u v := Int.mul_nonneg e1 e3
  have m1 : mS x0 u v ≤ (x1 - x0) * (2 * (x1 - x0)) := Int.mul_le_mul e2 e4 e3 (by omega)
  have m2 : (x1 - x0) * (2 * (x1 - x0)) ≤ 1000000 * 2000000 := Int.mul_le_mul hd (by omega) (by omega) (by omega)
  refine ⟨m0, by omega, Int.ediv_nonneg m0 (by omega), ?_, Int.emod_nonneg _ (by omega), Int.emod_lt_of_pos _ hd0⟩
  have := Int.ediv_le_of_le_mul hd0 (show mS x0 u v ≤ 2 * (x1 - x0) * (x1 - x0) by rw [Int.mul_comm]; exact m1)
  omega

set_option maxRecDepth 100000 in
set_option maxHeartbeats 4000000 in
theorem addArea_in (g : Nat) (s : Int × Int × Int) (x0 p1 p2 x1 q1 q2 l0 l1 a b u v : Int) (w : World) (h : Blk w g 118 (tot3 s)) (hx0 : 0 ≤ x0) (hx1 : x1 ≤ 1000000) (a1 : -1000000000 ≤ l0) (a2 : l0 ≤ 1000000000) (b1 : -1000000000 ≤ l1) (b2 : l1 ≤ 1000000000)
    (hu : max a x0 = u) (hv : min b x1 = v) (huv : u < v) :
    Calls Try.prog 112 #[.pointer (some ⟨g, 0, none⟩), .agg #[.int .i64 x0, .int .i64 p1, .int .i64 p2, .int .i64 x1, .int .i64 q1, .int .i64 q2], .agg #[.int .i64 l0, .int .i64 l1], .int .i64 a, .int .i64 b] w fun e w' =>
      e = .returned (.tuple #[]) ∧ Blk w' g 118 (tot3 (areaIn s x0 x1 l0 l1 u v)) ∧ Only g w w' := by
  have hux : x0 ≤ u := by omega
  have hvx : v ≤ x1 := by omega
  obtain ⟨m0, m1, m2, m3, m4, m5⟩ := mS_bounds x0 x1 u v hux huv hvx (by omega)
  obtain ⟨k1, k2⟩ := mul_between2 (mS x0 u v / (x1 - x0)) (l1 - l0) 2000000 2000000000 (by omega) m3 (by omega) (by omega)
  obtain ⟨k3, k4⟩ := mul_between2 (mS x0 u v % (x1 - x0)) (l1 - l0) 1000000 2000000000 (by omega) (by omega) (by omega) (by omega)
  obtain ⟨k5, k6⟩ := ediv_between (mS x0 u v % (x1 - x0) * (l1 - l0)) (x1 - x0) 2000000000000000 (by omega) (by omega) (by omega) (by omega)
  obtain ⟨k7, k8⟩ := mul_between2 (2 * l0) (v - u) 2000000000 1000000 (by omega) (by omega) (by omega) (by omega)
  obtain ⟨r1, r2⟩ := rest_bounds (mS x0 u v % (x1 - x0) * (l1 - l0)) (x1 - x0) (by omega)
  have hgl := h.lt
  have c0 := h.cell 0
  have f0 := h.frozen 0
  simp at c0
  have HB := Lib.hid h; clear h
  unfold areaIn
  generalize hA : addS3 _ _ _ = A
  have HA := Lib.hid hA; clear hA
  unfold mS at m0 m1 m2 m3 m4 m5 k1 k2 k3 k4 k5 k6 r1 r2
  have w1 : IntKind.i64.wrap (x1 - x0) = x1 - x0 := IntWalk.i64_in _ ⟨by omega, by omega⟩
  have w2 : IntKind.i64.wrap (l1 - l0) = l1 - l0 := IntWalk.i64_in _ ⟨by omega, by omega⟩
  have w3 : IntKind.i64.wrap (2 * l0) = 2 * l0 := IntWalk.i64_in _ ⟨by omega, by omega⟩
  have w4 : IntKind.i64.wrap (v - u) = v - u := IntWalk.i64_in _ ⟨by omega, by omega⟩
  have w5 : IntKind.i64.wrap (2 * l0 * (v - u)) = 2 * l0 * (v - u) := IntWalk.i64_in _ ⟨by omega, by omega⟩
  have hdp : 1 ≤ x1 - x0 := by omega
  have hd6 : x1 - x0 ≤ 1000000 := by omega
  go_enter Try.func112, Try.ntmps112
  go_wp2
  go_quiet (fail)
  go_wp2
  go_quiet (fail)
  go_wp2_with fail
  refine (floor_any _ _ _ hdp (by omega) (by omega)).mono ?_
  rintro e w' ⟨rfl, rfl⟩
  have w6 : IntKind.i64.wrap ((v - u) * (v + u - 2 * x0) / (x1 - x0) * (l1 - l0)) = (v - u) * (v + u - 2 * x0) / (x1 - x0) * (l1 - l0) := IntWalk.i64_in _ ⟨by omega, by omega⟩
  go_wp2_with fail
  have w7 : ((v - u) * (v + u - 2 * x0)).tdiv (x1 - x0) = (v - u) * (v + u - 2 * x0) / (x1 - x0) := Int.tdiv_eq_ediv_of_nonneg m0
  have w8 : ((x1 - x0 : Int) == 0) = false := beq_eq_false_iff_ne.2 (by omega)
  go_region
  go_wp2_with fail
  have hB7 : ∀ k W, Blk (((((w.alloc (.cells #[.int .i64 x0, .int .i64 p1, .int .i64 p2, .int .i64 x1, .int .i64 q1, .int .i64 q2] 111)).alloc (.cells #[.int .i64 l0, .int .i64 l1] 124)).drewN k).setCell ⟨g, 0, none⟩ (.int .i64 W))) g 118 (tot3 (W, s.2.1, s.2.2)) := fun k W => by
    have h3 := (((HB.out.alloc (.cells #[.int .i64 x0, .int .i64 p1, .int .i64 p2, .int .i64 x1, .int .i64 q1, .int .i64 q2] 111)).alloc (.cells #[.int .i64 l0, .int .i64 l1] 124)).drewN k).set_ 0 (.int .i64 W)
    simpa [totCells] using h3
  have hO7 : ∀ k W, Only g w (((((w.alloc (.cells #[.int .i64 x0, .int .i64 p1, .int .i64 p2, .int .i64 x1, .int .i64 q1, .int .i64 q2] 111)).alloc (.cells #[.int .i64 l0, .int .i64 l1] 124)).drewN k).setCell ⟨g, 0, none⟩ (.int .i64 W))) := fun k W =>
    ((((Only.refl g w).alloc _).alloc _).drewN k).setCell (p := ⟨g, 0, none⟩) (.inl rfl) _
  refine (totalAdd_any g (_, s.2.1, s.2.2) _ _ _ (hB7 _ _)).mono ?_
  rintro e w8 ⟨rfl, hB8, ho8⟩
  have hO8 := (hO7 _ _).trans ho8
  have hB9 : Blk w8 g 118 (tot3 A) := by rw [← HA.out]; exact hB8
  have HB9 := Lib.hid hB9
  have HO8 := Lib.hid hO8
  clear hB8 hB9 ho8 hO8 hB7 hO7
  go_wp2
  go_end0
  exact ⟨rfl, HB9.out, HO8.out⟩

set_option maxRecDepth 100000 in
set_option maxHeartbeats 1000000 in
theorem addArea_out (g : Nat) (s : Int × Int × Int) (x0 p1 p2 x1 q1 q2 l0 l1 a b u v : Int) (w : World) (h : Blk w g 118 (tot3 s))
    (hu : max a x0 = u) (hv : min b x1 = v) (huv : ¬ u < v) :
    Calls Try.prog 112 #[.pointer (some ⟨g, 0, none⟩), .agg #[.int .i64 x0, .int .i64 p1, .int .i64 p2, .int .i64 x1, .int .i64 q1, .int .i64 q2], .agg #[.int .i64 l0, .int .i64 l1], .int .i64 a, .int .i64 b] w fun e w' =>
      e = .returned (.tuple #[]) ∧ Blk w' g 118 (tot3 s) ∧ Only g w w' := by
  have HB := Lib.hid h; clear h
  have hvu : v ≤ u := by omega
  go_enter Try.func112, Try.ntmps112
  go_wp2
  go_quiet (fail)
  go_wp2
  refine bodyPost_ret (results_none rfl _ _ _) rfl ⟨rfl, ?_, ?_⟩
  · exact ((HB.out.alloc _).alloc _).drewN _
  · exact (((Only.refl g w).alloc _).alloc _).drewN _

theorem addArea_any (g : Nat) (s : Int × Int × Int) (p q : P3) (l0 l1 a b : Int) (w : World) (h : Blk w g 118 (tot3 s)) (hp : Okp p) (hq : Okp q) (a1 : -1000000000 ≤ l0) (a2 : l0 ≤ 1000000000) (b1 : -1000000000 ≤ l1) (b2 : l1 ≤ 1000000000) :
    Calls Try.prog 112 #[.pointer (some ⟨g, 0, none⟩), pv p q, .agg #[.int .i64 l0, .int .i64 l1], .int .i64 a, .int .i64 b] w fun e w' =>
      e = .returned (.tuple #[]) ∧ Blk w' g 118 (tot3 (areaStep s p q l0 l1 a b)) ∧ Only g w w' := by
  unfold areaStep
  by_cases hle : min b q.1 ≤ max a p.1
  · rw [if_pos hle]
    exact addArea_out g s p.1 p.2.1 p.2.2 q.1 q.2.1 q.2.2 l0 l1 a b _ _ w h rfl rfl (by omega)
  · rw [if_neg hle]
    exact addArea_in g s p.1 p.2.1 p.2.2 q.1 q.2.1 q.2.2 l0 l1 a b _ _ w h hp.1 hq.2.1 a1 a2 b1 b2 rfl rfl (by omega)
end Go.Proofs.Ytmenlaefekkahaa
