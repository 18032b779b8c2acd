/- Plain laws on lists of whole numbers: what sorting and compacting a list gives is the rising list of its numbers. No conditions; nothing of the program. The contracts of slices.Sort and slices.Compact at a row of numbers of the call's own. Its conditions: the row has a number, and 1000 at most. -/
import Derived.Lib.SlicesCompact
import Derived.Sort.OwnSortedInts
import Derived.Shelf.Lay
import Derived.Shelf.LaySoft
import Derived.Test.YtmdilbmgopggaaaGreatProg
import Derived.Test.YtmdilbmgopggaaaGreatQ04
set_option linter.unusedVariables false
set_option linter.unusedSimpArgs false
set_option linter.constructorNameAsVariable false
namespace Go.Proofs.YtmdilbmgopggaaaGreat

section
open Go.Lib

end

section
open Go.RowKit Go.Sort

/-- The numbers of a row of the call's own lie in memory. -/
theorem OwnInts.cells {base : Nat} {w : World} {v : Value} {L : List Int} (ho : OwnInts base w v L) (hne : L ≠ []) :
    ∃ g cap, v = .slice (some ⟨g, 0, none⟩) L.length cap ∧ base ≤ g ∧ g < w.heap.size ∧ (∀ (j : Nat) (x : Int), L[j]? = some x → w.cell? ⟨g, 0 + j, none⟩ = some (.int .i64 x)) := by
  rcases ho.2 with ⟨_, h0⟩ | ⟨g, cap, cur, rfl, hbg, hg, hle, hm, hs, ht⟩
  · exact absurd (by simpa using h0) hne
  · refine ⟨g, cap, by simp, hbg, (Array.getElem?_eq_some_iff.1 hg).1, fun j x hx => ?_⟩
    have h1 : w.cell? ⟨g, 0 + j, none⟩ = cur[0 + j]? := cell_of_row w g (0 + j) cur _ (0, 0) hg
    rw [h1, Nat.zero_add]
    have hj : j < L.length := (List.getElem?_eq_some_iff.1 hx).1
    have h2 : (ints L)[j]? = some (.int .i64 x) := by rw [List.getElem?_map, hx]; rfl
    rw [← ht, List.getElem?_take_of_lt (by simp; omega)] at h2
    simpa using h2
end

end Go.Proofs.YtmdilbmgopggaaaGreat
