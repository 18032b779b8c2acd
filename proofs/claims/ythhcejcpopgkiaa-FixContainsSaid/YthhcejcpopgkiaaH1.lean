/- The contracts of slices.Sort and slices.Compact at a row of numbers of the call's own. Its conditions: the row has a number, and 1000 at most. -/
import Derived.Test.YthhcejcpopgkiaaS1
import Derived.Test.YthhcejcpopgkiaaH0
import Derived.Test.YthhcejcpopgkiaaB6
import Derived.Sort.OwnSortedInts
set_option linter.unusedVariables false
set_option linter.unusedSimpArgs false
set_option linter.constructorNameAsVariable false
namespace Go.Proofs.Ythhcejcpopgkiaa
open Go.RowKit Go.Sort

theorem grow_none (w : World) : grow w #[] = w := by simp [grow]

theorem sort_own (base : Nat) (v : Value) (L : List Int) (w : World) (ho : OwnInts base w v L) (hne : L ≠ []) (hm : L.length ≤ 1000) :
    Calls Try.prog 134 #[v] w fun e w' => e = .returned (.tuple #[]) ∧ OwnInts base w' v (L.mergeSort fun x y => decide (x ≤ y)) ∧ w.grownBy w' v.ownBlock := by
  rcases ho.2 with ⟨_, h0⟩ | ⟨g, cap, cur, rfl, hbase, hb, h1, h2, h3, h4⟩
  · exact absurd (by simpa using h0) hne
  · simp only [List.length_map] at h1 h4 ⊢
    have h63 : L.length < 4611686018427387904 := by omega
    refine (Try.slices_Sort_int g 0 cap L w (holds_of_blockI hb (by simpa using h4)) (Array.getElem?_eq_some_iff.1 hb).1 h63).mono ?_
    rintro e w' ⟨rfl, n, os, rfl⟩
    refine ⟨rfl, ?_, grownBy_sortedI _⟩
    have h := ownsRow_sortedI (w := w) (n := n) (os := os) (ss := L) (ts := L.mergeSort fun x y => decide (x ≤ y)) (by simp) hbase hb h1 h2 h3
    unfold OwnInts
    simp only [List.length_map, List.length_mergeSort]
    exact h

theorem take_putCellsA (cur : Array Value) (ts zs : List Int) (h : ts.length + zs.length ≤ cur.size) : (putCells (Value.int .i64) 0 (ts ++ zs).toArray cur).toList.take ts.length = ts.map (Value.int .i64) := by
  have h1 := take_putCellsI cur (ts ++ zs) (by simp; omega)
  have h2 := congrArg (List.take ts.length) h1
  rw [List.take_take, Nat.min_eq_left (by simp)] at h2
  rw [h2, List.map_append, List.take_append_of_le_length (by simp), List.take_of_length_le (by simp)]
theorem compact_len_le (L : List Int) : (Lib.compact L).length ≤ L.length := by
  unfold Lib.compact Lib.compactUpTo
  rw [List.length_map]
  exact Nat.le_trans (List.length_filter_le _ _) (by simp)

theorem compact_own (base : Nat) (v : Value) (L : List Int) (w : World) (ho : OwnInts base w v L) (hne : L ≠ []) :
    Calls Try.prog 135 #[v] w fun e w' => ∃ v', e = .returned v' ∧ OwnInts base w' v' (Lib.compact L) ∧ v'.ownBlock = v.ownBlock ∧ w.grownBy w' v.ownBlock := by
  rcases ho.2 with ⟨_, h0⟩ | ⟨g, cap, cur, rfl, hbase, hb, h1, h2, h3, h4⟩
  · exact absurd (by simpa using h0) hne
  · simp only [List.length_map] at h1 h4 ⊢
    have h63 : L.length ≤ 9223372036854775807 := by unfold maxLen at h2; omega
    refine (Try.slices_Compact_int g 0 cap L w (holds_of_blockI hb (by simpa using h4)) h63 h1).mono ?_
    rintro e w' ⟨rfl, n, rfl⟩
    have hl := compact_len_le L
    refine ⟨_, rfl, ?_, rfl, ?_⟩
    · unfold OwnInts
      refine ⟨by simp, .inr ⟨g, cap, putCells (Value.int .i64) 0 (Lib.compact L ++ List.replicate (L.length - (Lib.compact L).length) 0).toArray cur, by simp, hbase, ?_, by simp; omega, h2, ?_, ?_⟩⟩
      · have h := heap_sortedI (n := n) (os := #[]) (Lib.compact L ++ List.replicate (L.length - (Lib.compact L).length) 0).toArray hb
        rw [grow_none] at h
        exact h
      · simp [putCells, h3]
      · rw [List.length_map, Nat.mul_one]
        exact take_putCellsA cur _ _ (by simp; omega)
    · have h := grownBy_sortedI (w := w) (g := g) (n := n) (os := #[]) (Lib.compact L ++ List.replicate (L.length - (Lib.compact L).length) 0).toArray
      rw [grow_none] at h
      exact h

/-- The numbers of a row of the call's own lie in memory. -/
theorem OwnInts.cells {base : Nat} {w : World} {v : Value} {L : List Int} (ho : OwnInts base w v L) (hne : L ≠ []) :
    ∃ g cap, v = .slice (some ⟨g, 0, none⟩) L.length cap ∧ base ≤ g ∧ g < w.heap.size ∧ (∀ (j : Nat) (x : Int), L[j]? = some x → w.cell? ⟨g, 0 + j, none⟩ = some (.int .i64 x)) := by
  rcases ho.2 with ⟨_, h0⟩ | ⟨g, cap, cur, rfl, hbg, hg, hle, hm, hs, ht⟩
  · exact absurd (by simpa using h0) hne
  · refine ⟨g, cap, by simp, hbg, (Array.getElem?_eq_some_iff.1 hg).1, fun j x hx => ?_⟩
    have h1 : w.cell? ⟨g, 0 + j, none⟩ = cur[0 + j]? := cell_of_row w g (0 + j) cur _ (0, 0) hg
    rw [h1, Nat.zero_add]
    have hj : j < L.length := (List.getElem?_eq_some_iff.1 hx).1
    have h2 : (ints L)[j]? = some (.int .i64 x) := by rw [List.getElem?_map, hx]; rfl
    rw [← ht, List.getElem?_take_of_lt (by simp; omega)] at h2
    simpa using h2
end Go.Proofs.Ythhcejcpopgkiaa
