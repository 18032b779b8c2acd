/- Plain laws on lists of whole numbers: what sorting and compacting a list gives is the rising list of its numbers. No conditions; nothing of the program. The contracts of slices.Sort and slices.Compact at a row of numbers of the call's own. Its conditions: the row has a number, and 1000 at most. -/
import Derived.Lib.SlicesCompact
import Derived.Test.YtmenlaefekkahaaS1
import Derived.Test.YtmenlaefekkahaaB6
import Derived.Sort.OwnSortedInts
set_option linter.unusedVariables false
set_option linter.unusedSimpArgs false
set_option linter.constructorNameAsVariable false
namespace Go.Proofs.Ytmenlaefekkahaa
open Go.Lib

/-- Two rising lists with the same numbers are the same. -/
theorem rising_ext : ∀ (a b : List Int), a.Pairwise (· < ·) → b.Pairwise (· < ·) → (∀ x, x ∈ a ↔ x ∈ b) → a = b
  | [], [], _, _, _ => rfl
  | [], y :: b, _, _, h => by have := (h y).2 (by simp); simp at this
  | x :: a, [], _, _, h => by have := (h x).1 (by simp); simp at this
  | x :: a, y :: b, ha, hb, h => by
    rw [List.pairwise_cons] at ha hb
    have e : x = y := by
      have h1 := (h x).1 (by simp)
      have h2 := (h y).2 (by simp)
      rw [List.mem_cons] at h1 h2
      rcases h1 with h1 | h1
      · exact h1
      · rcases h2 with h2 | h2
        · exact h2.symm
        · have := hb.1 x h1; have := ha.1 y h2; omega
    subst e
    congr 1
    refine rising_ext a b ha.2 hb.2 fun z => ⟨fun hz => ?_, fun hz => ?_⟩
    · have h1 := (h z).1 (List.mem_cons_of_mem _ hz)
      rw [List.mem_cons] at h1
      rcases h1 with h1 | h1
      · have := ha.1 z hz; omega
      · exact h1
    · have h1 := (h z).2 (List.mem_cons_of_mem _ hz)
      rw [List.mem_cons] at h1
      rcases h1 with h1 | h1
      · have := hb.1 z hz; omega
      · exact h1

theorem compactUpTo_rises (d : Array Int) (hs : ∀ i j, i ≤ j → j < d.size → d[i]! ≤ d[j]!) : ∀ m, m ≤ d.size →
    (compactUpTo d m).Pairwise (· < ·) ∧ (∀ x, x ∈ compactUpTo d m ↔ ∃ j, j < m ∧ d[j]! = x)
  | 0, _ => by simp [compactUpTo]
  | m + 1, hm => by
    obtain ⟨h1, h2⟩ := compactUpTo_rises d hs m (by omega)
    rw [compactUpTo_succ]
    by_cases hk : keeps d m = true
    · rw [if_pos hk]
      have hlt : ∀ x, x ∈ compactUpTo d m → x < d[m]! := by
        intro x hx
        obtain ⟨j, hj, rfl⟩ := (h2 x).1 hx
        have e1 := hs j (m - 1) (by omega) (by omega)
        have e2 := hs (m - 1) m (by omega) (by omega)
        have e3 : m = 0 ∨ d[m]! ≠ d[m - 1]! := by simpa [keeps] using hk
        rcases e3 with e3 | e3 <;> omega
      refine ⟨List.pairwise_append.2 ⟨h1, by simp, fun a ha b hb => ?_⟩, fun x => ?_⟩
      · have : b = d[m]! := by simpa using hb
        subst this; exact hlt a ha
      · rw [List.mem_append, h2]
        constructor
        · rintro (⟨j, hj, rfl⟩ | hx)
          · exact ⟨j, by omega, rfl⟩
          · exact ⟨m, by omega, (by simpa using hx : x = d[m]!).symm⟩
        · rintro ⟨j, hj, rfl⟩
          rcases Nat.lt_or_ge j m with c | c
          · exact .inl ⟨j, c, rfl⟩
          · have : j = m := by omega
            subst this; exact .inr (by simp)
    · have e3 : ¬ (m = 0 ∨ d[m]! ≠ d[m - 1]!) := by simpa [keeps] using hk
      have e4 : m ≠ 0 := fun h => e3 (.inl h)
      have e5 : d[m]! = d[m - 1]! := Classical.byContradiction fun h => e3 (.inr h)
      rw [if_neg hk, List.append_nil]
      refine ⟨h1, fun x => ?_⟩
      rw [h2]
      constructor
      · rintro ⟨j, hj, rfl⟩; exact ⟨j, by omega, rfl⟩
      · rintro ⟨j, hj, rfl⟩
        rcases Nat.lt_or_ge j m with c | c
        · exact ⟨j, c, rfl⟩
        · have : j = m := by omega
          subst this; exact ⟨j - 1, by omega, e5.symm⟩

/-- Sorted and compacted, a list is the rising list of its numbers. -/
theorem compact_sorted (L L' : List Int) (hr : L'.Pairwise (· < ·)) (hm : ∀ x, x ∈ L' ↔ x ∈ L) : compact (L.mergeSort fun x y => decide (x ≤ y)) = L' := by
  have hsort : (L.mergeSort fun x y => decide (x ≤ y)).Pairwise (fun x y => decide (x ≤ y) = true) :=
    List.pairwise_mergeSort (fun a b c h1 h2 => by simp at *; omega) (fun a b => by simp; omega) L
  have hperm := List.mergeSort_perm L fun x y => decide (x ≤ y)
  generalize (L.mergeSort fun x y => decide (x ≤ y)) = S at *
  have hs : ∀ i j, i ≤ j → j < S.toArray.size → S.toArray[i]! ≤ S.toArray[j]! := by
    intro i j hij hj
    have hj' : j < S.length := by simpa using hj
    rcases Nat.lt_or_ge i j with c | c
    · have := List.pairwise_iff_getElem.1 hsort i j (by omega) hj' c
      simp at this
      simpa [getElem!_pos, hj', show i < S.length by omega] using this
    · have : i = j := by omega
      subst this; exact Int.le_refl _
  obtain ⟨h1, h2⟩ := compactUpTo_rises S.toArray hs S.length (by simp)
  refine rising_ext _ _ h1 hr fun x => ?_
  show x ∈ compactUpTo S.toArray S.length ↔ _
  rw [h2, hm, ← hperm.mem_iff]
  constructor
  · rintro ⟨j, hj, rfl⟩
    simp [getElem!_pos, hj]
  · intro hx
    obtain ⟨j, hj, rfl⟩ := List.getElem_of_mem hx
    exact ⟨j, hj, by simp [getElem!_pos, hj]⟩
end Go.Proofs.Ytmenlaefekkahaa
namespace Go.Proofs.Ytmenlaefekkahaa
open Go.RowKit Go.Sort

theorem grow_none (w : World) : grow w #[] = w := by simp [grow]

theorem sort_own (base : Nat) (v : Value) (L : List Int) (w : World) (ho : OwnInts base w v L) (hne : L ≠ []) (hm : L.length ≤ 1000) :
    Calls Try.prog 134 #[v] w fun e w' => e = .returned (.tuple #[]) ∧ OwnInts base w' v (L.mergeSort fun x y => decide (x ≤ y)) ∧ w.grownBy w' v.ownBlock := by
  rcases ho.2 with ⟨_, h0⟩ | ⟨g, cap, cur, rfl, hbase, hb, h1, h2, h3, h4⟩
  · exact absurd (by simpa using h0) hne
  · simp only [List.length_map] at h1 h4 ⊢
    have h63 : L.length < 4611686018427387904 := by omega
    refine (Try.slices_Sort_int g 0 cap L w (holds_of_blockI hb (by simpa using h4)) (Array.getElem?_eq_some_iff.1 hb).1 h63).mono ?_
    rintro e w' ⟨rfl, n, os, rfl⟩
    refine ⟨rfl, ?_, grownBy_sortedI _⟩
    have h := ownsRow_sortedI (w := w) (n := n) (os := os) (ss := L) (ts := L.mergeSort fun x y => decide (x ≤ y)) (by simp) hbase hb h1 h2 h3
    unfold OwnInts
    simp only [List.length_map, List.length_mergeSort]
    exact h

theorem take_putCellsA (cur : Array Value) (ts zs : List Int) (h : ts.length + zs.length ≤ cur.size) : (putCells (Value.int .i64) 0 (ts ++ zs).toArray cur).toList.take ts.length = ts.map (Value.int .i64) := by
  have h1 := take_putCellsI cur (ts ++ zs) (by simp; omega)
  have h2 := congrArg (List.take ts.length) h1
  rw [List.take_take, Nat.min_eq_left (by simp)] at h2
  rw [h2, List.map_append, List.take_append_of_le_length (by simp), List.take_of_length_le (by simp)]
theorem compact_len_le (L : List Int) : (Lib.compact L).length ≤ L.length := by
  unfold Lib.compact Lib.compactUpTo
  rw [List.length_map]
  exact Nat.le_trans (List.length_filter_le _ _) (by simp)

theorem compact_own (base : Nat) (v : Value) (L : List Int) (w : World) (ho : OwnInts base w v L) (hne : L ≠ []) :
    Calls Try.prog 135 #[v] w fun e w' => ∃ v', e = .returned v' ∧ OwnInts base w' v' (Lib.compact L) ∧ v'.ownBlock = v.ownBlock ∧ w.grownBy w' v.ownBlock := by
  rcases ho.2 with ⟨_, h0⟩ | ⟨g, cap, cur, rfl, hbase, hb, h1, h2, h3, h4⟩
  · exact absurd (by simpa using h0) hne
  · simp only [List.length_map] at h1 h4 ⊢
    have h63 : L.length ≤ 9223372036854775807 := by unfold maxLen at h2; omega
    refine (Try.slices_Compact_int g 0 cap L w (holds_of_blockI hb (by simpa using h4)) h63 h1).mono ?_
    rintro e w' ⟨rfl, n, rfl⟩
    have hl := compact_len_le L
    refine ⟨_, rfl, ?_, rfl, ?_⟩
    · unfold OwnInts
      refine ⟨by simp, .inr ⟨g, cap, putCells (Value.int .i64) 0 (Lib.compact L ++ List.replicate (L.length - (Lib.compact L).length) 0).toArray cur, by simp, hbase, ?_, by simp; omega, h2, ?_, ?_⟩⟩
      · have h := heap_sortedI (n := n) (os := #[]) (Lib.compact L ++ List.replicate (L.length - (Lib.compact L).length) 0).toArray hb
        rw [grow_none] at h
        exact h
      · simp [putCells, h3]
      · rw [List.length_map, Nat.mul_one]
        exact take_putCellsA cur _ _ (by simp; omega)
    · have h := grownBy_sortedI (w := w) (g := g) (n := n) (os := #[]) (Lib.compact L ++ List.replicate (L.length - (Lib.compact L).length) 0).toArray
      rw [grow_none] at h
      exact h

/-- The numbers of a row of the call's own lie in memory. -/
theorem OwnInts.cells {base : Nat} {w : World} {v : Value} {L : List Int} (ho : OwnInts base w v L) (hne : L ≠ []) :
    ∃ g cap, v = .slice (some ⟨g, 0, none⟩) L.length cap ∧ base ≤ g ∧ g < w.heap.size ∧ (∀ (j : Nat) (x : Int), L[j]? = some x → w.cell? ⟨g, 0 + j, none⟩ = some (.int .i64 x)) := by
  rcases ho.2 with ⟨_, h0⟩ | ⟨g, cap, cur, rfl, hbg, hg, hle, hm, hs, ht⟩
  · exact absurd (by simpa using h0) hne
  · refine ⟨g, cap, by simp, hbg, (Array.getElem?_eq_some_iff.1 hg).1, fun j x hx => ?_⟩
    have h1 : w.cell? ⟨g, 0 + j, none⟩ = cur[0 + j]? := cell_of_row w g (0 + j) cur _ (0, 0) hg
    rw [h1, Nat.zero_add]
    have hj : j < L.length := (List.getElem?_eq_some_iff.1 hx).1
    have h2 : (ints L)[j]? = some (.int .i64 x) := by rw [List.getElem?_map, hx]; rfl
    rw [← ht, List.getElem?_take_of_lt (by simp; omega)] at h2
    simpa using h2
end Go.Proofs.Ytmenlaefekkahaa
