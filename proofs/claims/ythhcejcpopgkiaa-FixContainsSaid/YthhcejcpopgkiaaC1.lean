/- The contracts of floor at every number, and of add, down and addArea of a total (fix). Conditions: divisors of 1 or more; sums wrap as ints do. -/
import Derived.Test.YthhcejcpopgkiaaB5
import Derived.RegionTactic
import Derived.BigRegion
set_option linter.unusedVariables false
set_option linter.unusedSimpArgs false
set_option linter.constructorNameAsVariable false
namespace Go.Proofs.Ythhcejcpopgkiaa
open Go.RowKit

theorem ediv_i64 (n d : Int) (hd : 1 ≤ d) (h1 : -9223372036854775808 ≤ n) (h2 : n ≤ 9223372036854775807) : -9223372036854775808 ≤ n / d ∧ n / d ≤ 9223372036854775807 := by
  refine ⟨Int.le_ediv_of_mul_le (by omega) ?_, Int.ediv_le_of_le_mul (by omega) ?_⟩
  · have := Int.mul_le_mul_of_nonneg_left hd (show (0 : Int) ≤ 9223372036854775808 by omega)
    omega
  · have := Int.mul_le_mul_of_nonneg_left hd (show (0 : Int) ≤ 9223372036854775807 by omega)
    omega
theorem floor_all (n d : Int) (w : World) (hd : 1 ≤ d) (hn : -9223372036854775808 ≤ n) (hn' : n ≤ 9223372036854775807) :
    Calls Try.prog 124 #[.int .i64 n, .int .i64 d] w fun e w' => e = .returned (.int .i64 (n / d)) ∧ w = w' := by
  have hf := tdiv_floor n d (by omega)
  have hb := ediv_i64 n d hd hn hn'
  have H := Lib.hid (And.intro hf hb)
  clear hf hb
  go_enter Try.func124, Try.ntmps124
  go_wp2
  · have h : n.tmod d < 0 := by assumption
    go_ret
    obtain ⟨⟨h1, _⟩, h3, h4⟩ := H.out
    have h5 := h1 h
    exact ⟨ret_int (by rw [h5]; exact IntWalk.wrap64_in _ ⟨by omega, by omega⟩), rfl⟩
  · have h : 0 ≤ n.tmod d := by assumption
    go_ret
    obtain ⟨⟨_, h2⟩, _⟩ := H.out
    exact ⟨ret_int (h2 h), rfl⟩

/-- a total in memory -/
abbrev totCells (a n d : Int) : Array Value := #[.int .i64 a, .int .i64 n, .int .i64 d]

set_option maxRecDepth 100000 in
set_option maxHeartbeats 2000000 in
theorem totalAdd_some (g : Nat) (a n d x y : Int) (w : World) (h : Blk w g 118 (totCells a n d)) (hx : (x == 0) = false) :
    Calls Try.prog 133 #[.pointer (some ⟨g, 0, none⟩), .int .i64 x, .int .i64 y] w fun e w' => e = .returned (.tuple #[]) ∧ Blk w' g 118 (totCells a (wrap64 (wrap64 (n * y) + wrap64 (x * d))) (wrap64 (d * y))) ∧ Only g w w' := by
  have c1 := h.cell 1
  have c2 := h.cell 2
  have f1 := h.frozen 1
  have f2 := h.frozen 2
  simp at c1 c2
  have HB := Lib.hid h; clear h
  go_enter Try.func133, Try.ntmps133
  go_wp2
  go_region
  go_wp2
  go_end0
  refine ⟨rfl, ?_, ?_⟩
  · have h3 := ((HB.out.set_ 1 (.int .i64 (wrap64 (wrap64 (n * y) + wrap64 (x * d))))).set_ 2 (.int .i64 (wrap64 (d * y))))
    simpa [totCells] using h3.drew
  · exact (((Only.refl g w).setCell (p := ⟨g, 1, none⟩) (.inl rfl) _).setCell (p := ⟨g, 2, none⟩) (.inl rfl) _).drew

/-- the fraction of a total, with x / y added -/
def addS3 (s : Int × Int × Int) (x y : Int) : Int × Int × Int := if x = 0 then s else (s.1, wrap64 (wrap64 (s.2.1 * y) + wrap64 (x * s.2.2)), wrap64 (s.2.2 * y))
abbrev tot3 (s : Int × Int × Int) : Array Value := totCells s.1 s.2.1 s.2.2
theorem totalAdd_any (g : Nat) (s : Int × Int × Int) (x y : Int) (w : World) (h : Blk w g 118 (tot3 s)) :
    Calls Try.prog 133 #[.pointer (some ⟨g, 0, none⟩), .int .i64 x, .int .i64 y] w fun e w' => e = .returned (.tuple #[]) ∧ Blk w' g 118 (tot3 (addS3 s x y)) ∧ Only g w w' := by
  obtain ⟨a, n, d⟩ := s
  by_cases hx : x = 0
  · subst hx
    have HB := Lib.hid h; clear h
    go_enter Try.func133, Try.ntmps133
    go_wp2
    go_end0
    exact ⟨rfl, HB.out, Only.refl g w⟩
  · have e : addS3 (a, n, d) x y = (a, wrap64 (wrap64 (n * y) + wrap64 (x * d)), wrap64 (d * y)) := by unfold addS3; rw [if_neg hx]
    rw [e]
    exact totalAdd_some g a n d x y w h (beq_eq_false_iff_ne.2 hx)

/-- down -/
def downS (s : Int × Int × Int) : Int := wrap64 (s.1 + s.2.1 / s.2.2)
set_option maxRecDepth 100000 in
theorem down_any (g : Nat) (s : Int × Int × Int) (w : World) (h : Blk w g 118 (tot3 s)) (hd : 1 ≤ s.2.2) (h1 : -9223372036854775808 ≤ s.2.1) (h2 : s.2.1 ≤ 9223372036854775807) :
    Calls Try.prog 113 #[.pointer (some ⟨g, 0, none⟩)] w fun e w' => e = .returned (.int .i64 (downS s)) ∧ ∃ k, w' = w.drewN k := by
  obtain ⟨a, n, d⟩ := s
  dsimp only at hd h1 h2
  have c0 := h.cell 0
  have c1 := h.cell 1
  have c2 := h.cell 2
  simp at c0 c1 c2
  have HB := Lib.hid h; clear h
  unfold downS
  dsimp only
  go_enter Try.func113, Try.ntmps113
  go_wp2
  go_quiet ((go_at_call 124; exact Calls.quiet_of_same ((floor_all _ _ _ hd h1 h2).mono fun e w' ⟨he, hw⟩ => ⟨he, hw.symm⟩)))
  go_wp2
  go_ret
  exact ⟨rfl, _, rfl⟩
end Go.Proofs.Ythhcejcpopgkiaa
