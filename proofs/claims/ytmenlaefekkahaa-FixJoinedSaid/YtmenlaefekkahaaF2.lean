/- The contracts of table and other (the law package). No conditions. -/
import Derived.Test.YtmenlaefekkahaaB7
set_option linter.unusedVariables false
set_option linter.unusedSimpArgs false
set_option linter.constructorNameAsVariable false
namespace Go.Proofs.Ytmenlaefekkahaa
open Go.RowKit

/-- A table of the call's own, given back. -/
def GivesTab (w : World) (ps : List P3) (e : Ending) (w' : World) : Prop :=
  ∃ g, e = .returned (tv (some ⟨g, 0, none⟩) ps.length ps.length) ∧ w.heap.size ≤ g ∧ g < w'.heap.size ∧ PtsAt w' g 0 ps ∧ Below w.heap.size w w'
def tabS : List P3 := [(0, 0, 0), (10, 5, 8), (40, 20, 20)]
def otherS : List P3 := [(5, 1, 2), (20, 1, 4)]

set_option maxRecDepth 100000 in
set_option maxHeartbeats 1000000 in
theorem other_any (w : World) : Calls Try.prog 89 #[] w (GivesTab w otherS) := by
  go_enter Try.func89, Try.ntmps89
  go_wp2_with fail
  have hE : Below w.heap.size w ((w.alloc (.cells #[.slice (some ⟨w.heap.size + 1, 0, none⟩) 2 2] 43)).alloc (.cells #[.int .i64 5, .int .i64 1, .int .i64 2, .int .i64 20, .int .i64 1, .int .i64 4] 87)) := below_a2 (Below.refl _ _)
  have bP := Blk.new (w.alloc (.cells #[.slice (some ⟨w.heap.size + 1, 0, none⟩) 2 2] 43)) 87 #[.int .i64 5, .int .i64 1, .int .i64 2, .int .i64 20, .int .i64 1, .int .i64 4]
  simp only [World.size_alloc] at bP
  refine bodyPost_ret (v := tv (some ⟨w.heap.size + 1, 0, none⟩) 2 2) (by simp [results, Try.results89, go_sem]) rfl ⟨_, rfl, by omega, by simp, ?_, hE⟩
  intro k p hp
  rcases k with _ | _ | k
  · simp [otherS] at hp; subst hp
    exact ⟨bP.cell 0, bP.cell 1, bP.cell 2⟩
  · simp [otherS] at hp; subst hp
    exact ⟨bP.cell 3, bP.cell 4, bP.cell 5⟩
  · simp [otherS] at hp

set_option maxRecDepth 100000 in
set_option maxHeartbeats 1000000 in
theorem table_any (w : World) : Calls Try.prog 88 #[] w (GivesTab w tabS) := by
  go_enter Try.func88, Try.ntmps88
  go_wp2_with fail
  have hE : Below w.heap.size w ((w.alloc (.cells #[.slice (some ⟨w.heap.size + 1, 0, none⟩) 3 3] 43)).alloc (.cells #[.int .i64 0, .int .i64 0, .int .i64 0, .int .i64 10, .int .i64 5, .int .i64 8, .int .i64 40, .int .i64 20, .int .i64 20] 87)) := below_a2 (Below.refl _ _)
  have bP := Blk.new (w.alloc (.cells #[.slice (some ⟨w.heap.size + 1, 0, none⟩) 3 3] 43)) 87 #[.int .i64 0, .int .i64 0, .int .i64 0, .int .i64 10, .int .i64 5, .int .i64 8, .int .i64 40, .int .i64 20, .int .i64 20]
  simp only [World.size_alloc] at bP
  refine bodyPost_ret (v := tv (some ⟨w.heap.size + 1, 0, none⟩) 3 3) (by simp [results, Try.results88, go_sem]) rfl ⟨_, rfl, by omega, by simp, ?_, hE⟩
  intro k p hp
  rcases k with _ | _ | _ | k
  · simp [tabS] at hp; subst hp
    exact ⟨bP.cell 0, bP.cell 1, bP.cell 2⟩
  · simp [tabS] at hp; subst hp
    exact ⟨bP.cell 3, bP.cell 4, bP.cell 5⟩
  · simp [tabS] at hp; subst hp
    exact ⟨bP.cell 6, bP.cell 7, bP.cell 8⟩
  · simp [tabS] at hp
end Go.Proofs.Ytmenlaefekkahaa
