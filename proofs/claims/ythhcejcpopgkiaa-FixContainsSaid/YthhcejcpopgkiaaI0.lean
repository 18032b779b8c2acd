/- The contracts of Mul, Over, Plus, Area and Where at the chapter's examples. Their conditions: the tables lie in memory. -/
import Derived.Test.YthhcejcpopgkiaaH3
import Derived.Test.YthhcejcpopgkiaaE5
import Derived.Test.YthhcejcpopgkiaaF3
import Derived.Test.YthhcejcpopgkiaaA7
set_option linter.unusedVariables false
set_option linter.unusedSimpArgs false
set_option linter.constructorNameAsVariable false
namespace Go.Proofs.Ythhcejcpopgkiaa
open Go.RowKit

theorem mul_ex (w : World) : Calls Try.prog 18 #[rv (-2) 3, rv 4 5] w fun e w' => e = .returned (.tuple #[rv (-10) 15, .int .i64 0]) ∧ Below w.heap.size w w' := by
  have h := mul_any (-2) 3 4 5 w
  rwa [show mulS (-2) 3 4 5 = (-10, 15, 0) by decide] at h
theorem tabOk_tab : tabOk tabS = true := by decide
theorem tabOk_other : tabOk otherS = true := by decide
theorem over_ex (b c : Nat) (w : World) (hb : b < w.heap.size) (hc : PtsAt w b 0 tabS) : Calls Try.prog 48 #[tv (some ⟨b, 0, none⟩) 3 c, rv 5 12] w fun e w' => e = .returned (.tuple #[rv 2 9, .int .i64 0]) ∧ Below w.heap.size w w' := by
  have h := over_good b 0 3 c tabS 5 12 w rfl (by decide) hb tabOk_tab (by decide) (by decide) hc
  rwa [show overGood tabS 5 12 = (2, 9, true) by decide] at h

def sumS : List P3 := [(5, 3, 6), (10, 6, 11), (20, 11, 16)]
theorem sum_built : built (plusAt tabS otherS) [5, 10, 20] = sumS := by decide
theorem OwnPts.pts {base : Nat} {w : World} {v : Value} {L : List P3} (ho : OwnPts base w v L) (hne : 0 < L.length) :
    ∃ g cap, v = .slice (some ⟨g, 0, none⟩) L.length cap ∧ base ≤ g ∧ g < w.heap.size ∧ PtsAt w g 0 L := by
  have ho' : w.ownsRow base 87 3 v L.length (ptCells L) := ho
  obtain ⟨g, cap, rfl, h1, h2⟩ := ho'.form hne
  refine ⟨g, cap, rfl, h1, h2, fun k p hp => ?_⟩
  have hk : k < L.length := (List.getElem?_eq_some_iff.1 hp).1
  have hcell : ∀ i, i < 3 → (ptCells L)[k * 3 + i]? = [Value.int .i64 p.1, .int .i64 p.2.1, .int .i64 p.2.2][i]? := by
    intro i hi
    clear ho ho' h1 h2 hne
    induction L generalizing k with
    | nil => cases hp
    | cons q L ih =>
      cases k with
      | zero =>
        simp at hp; subst hp
        have : i = 0 ∨ i = 1 ∨ i = 2 := by omega
        rcases this with rfl | rfl | rfl <;> simp [ptCells]
      | succ k =>
        have e : ptCells (q :: L) = [Value.int .i64 q.1, .int .i64 q.2.1, .int .i64 q.2.2] ++ ptCells L := by simp [ptCells]
        rw [e, List.getElem?_append_right (by simp; omega)]
        have := ih k (by simpa using hp) (by simpa using hk)
        rw [← this]
        congr 1
        simp; omega
  have c := fun i (hi : i < 3) => (ho'.cellAt (k * 3 + i) (by omega)).trans (hcell i hi)
  refine ⟨?_, ?_, ?_⟩
  · rw [Nat.zero_add]; exact c 0 (by omega)
  · rw [Nat.zero_add]; exact c 1 (by omega)
  · rw [Nat.zero_add]; exact c 2 (by omega)
theorem plus_ex (b c b' c' : Nat) (w : World) (hb : b < w.heap.size) (hb' : b' < w.heap.size) (hc : PtsAt w b 0 tabS) (hc' : PtsAt w b' 0 otherS) :
    Calls Try.prog 57 #[tv (some ⟨b, 0, none⟩) 3 c, tv (some ⟨b', 0, none⟩) 2 c'] w fun e w' =>
      ∃ g cap, e = .returned (.tuple #[tv (some ⟨g, 0, none⟩) 3 cap, .int .i64 0]) ∧ w.heap.size ≤ g ∧ g < w'.heap.size ∧ PtsAt w' g 0 sumS ∧ Below w.heap.size w w' := by
  refine (plus_good b 0 3 c b' 0 2 c' tabS otherS 5 20 [5, 10, 20] w rfl (by decide) tabOk_tab rfl (by decide) tabOk_other hb hb' hc hc' (by decide) (by decide) (by decide) (by decide) ?_ (by decide) (by decide)).mono ?_
  · intro x
    rw [show cornersS tabS 5 20 ++ cornersS otherS 5 20 = [5, 10, 20, 5, 20] by decide]
    simp only [List.mem_cons, List.not_mem_nil, or_false]
    omega
  · rintro e w' ⟨v, rfl, ho, hB⟩
    rw [sum_built] at ho
    obtain ⟨g, cap, rfl, h1, h2, h3⟩ := ho.pts (by decide)
    exact ⟨g, cap, rfl, h1, h2, h3, hB⟩

def piecesEx : List Pc := [⟨((0, 0, 0), (10, 5, 8)), by unfold Okp; decide⟩, ⟨((10, 5, 8), (40, 20, 20)), by unfold Okp; decide⟩]
def piecesRise : List Pr := [⟨((0, 0, 0), (10, 5, 8)), by unfold Okp; decide⟩, ⟨((10, 5, 8), (40, 20, 20)), by unfold Okp; decide⟩]
theorem area_ex (b c : Nat) (w : World) (hb : b < w.heap.size) (hc : PtsAt w b 0 tabS) : Calls Try.prog 54 #[tv (some ⟨b, 0, none⟩) 3 c, .int .i64 5, .int .i64 11] w fun e w' => e = .returned (.tuple #[.int .i64 48, .int .i64 77, .int .i64 0]) ∧ Below w.heap.size w w' := by
  have h := area_good b 0 3 c tabS piecesEx 5 11 w rfl (by decide) hb tabOk_tab rfl (by decide) hc (by decide +kernel) (by decide +kernel) (by decide +kernel) (by decide +kernel) (by decide +kernel) (by decide +kernel)
  rwa [show downS (lowF 5 11 piecesEx) = 48 by decide +kernel, show wrap64 (-(downS (highF 5 11 piecesEx))) = 77 by decide +kernel] at h
theorem OwnRuns.mem {base : Nat} {w : World} {v : Value} {r : Int × Int} (ho : OwnRuns base w v [r]) :
    ∃ g cap, v = .slice (some ⟨g, 0, none⟩) 1 cap ∧ g < w.heap.size ∧ RunsMem w g 0 [r] := by
  have ho' : w.ownsRow base 23 2 v 1 (runCells [r]) := ho
  obtain ⟨g, cap, rfl, _, h2⟩ := ho'.form (by omega)
  refine ⟨g, cap, rfl, h2, fun k p hp => ?_⟩
  have c0 := ho'.cellAt 0 (by omega)
  have c1 := ho'.cellAt 1 (by omega)
  cases k with
  | zero => simp at hp; subst hp; exact ⟨c0, c1⟩
  | succ k => simp at hp
theorem where_ex (b c : Nat) (w : World) (hb : b < w.heap.size) (hc : PtsAt w b 0 tabS) : Calls Try.prog 50 #[tv (some ⟨b, 0, none⟩) 3 c, rv 6 6] w fun e w' =>
    ∃ g cap, e = .returned (.tuple #[.slice (some ⟨g, 0, none⟩) 1 cap, .int .i64 0]) ∧ g < w'.heap.size ∧ RunsMem w' g 0 [(7, 13)] ∧ Below w.heap.size w w' := by
  refine (where_good b 0 3 c tabS piecesRise 6 6 w rfl (by decide) hb tabOk_tab (by decide) rfl hc).mono ?_
  rintro e w' ⟨v, rfl, ho, hB⟩
  rw [show runsF (whereS 6 6) piecesRise = [(7, 13)] by decide +kernel] at ho
  obtain ⟨g, cap, rfl, h2, h3⟩ := ho.mem
  exact ⟨g, cap, rfl, h2, h3, hB⟩
end Go.Proofs.Ythhcejcpopgkiaa
