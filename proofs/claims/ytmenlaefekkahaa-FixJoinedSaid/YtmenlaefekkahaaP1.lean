/- Cut (fix and its specification) for all tables and places, and Same of equal tables. Its condition: the points lie in memory. -/
import Derived.Test.YtmenlaefekkahaaN2
import Derived.Test.YtmenlaefekkahaaI1
import Derived.Test.YtmenlaefekkahaaM3
import Derived.Test.YtmenlaefekkahaaU0
set_option linter.unusedVariables false
set_option linter.unusedSimpArgs false
set_option linter.constructorNameAsVariable false
namespace Go.Proofs.Ytmenlaefekkahaa
open Go.RowKit

/-- A table and an error are handed back. -/
def TabE (w : World) (L : List P3) (E : Int) (e : Ending) (w' : World) : Prop := ∃ A n c, e = .returned (.tuple #[tv A n c, .int .i64 E]) ∧ n = L.length ∧ n ≤ maxLen ∧ Pts w' A L ∧ Below w.heap.size w w'
theorem tabE_of {w : World} {L : List P3} {e : Ending} {w' : World} (h : GivesTab0 w L e w') (h40 : L.length ≤ 100) : TabE w L 0 e w' := by
  obtain ⟨v, rfl, ho, hb⟩ := h
  rcases Nat.lt_or_ge 0 L.length with hl | hl
  · obtain ⟨g, cap, rfl, _, hg, hp⟩ := ho.pts hl
    exact ⟨_, _, _, rfl, rfl, by unfold maxLen; omega, .inr ⟨g, 0, rfl, hg, hp⟩, hb⟩
  · obtain rfl : L = [] := List.eq_nil_of_length_eq_zero (by omega)
    obtain ⟨p, n, c, rfl⟩ := ho.slice
    rcases (show w'.ownsRow _ 87 3 (.slice p n c) 0 (ptCells []) from ho).2 with ⟨h, _⟩ | ⟨g, cap, _, h, _⟩
    · injection h with h1 h2 h3
      subst h1 h2 h3
      exact ⟨_, _, _, rfl, rfl, by unfold maxLen; omega, .inl rfl, hb⟩
    · injection h with h1 h2 h3
      subst h1 h2 h3
      exact ⟨_, _, _, rfl, rfl, by unfold maxLen; omega, .inl rfl, hb⟩
theorem tabE_nil {w : World} {E : Int} {e : Ending} {w' : World} (h : e = .returned (.tuple #[.agg #[.slice none 0 0], .int .i64 E]) ∧ Below w.heap.size w w') : TabE w [] E e w' :=
  ⟨none, 0, 0, h.1, rfl, by unfold maxLen; omega, .inl rfl, h.2⟩

/-- Cut -/
def cutS (ps : List P3) (x y : Int) : List P3 := if placesS ps x y = 0 then built (cutAt ps) (cornersS ps x y) else []
theorem cut_all (A : Option Addr) (n c : Nat) (ps : List P3) (x y : Int) (w : World) (hn : n = ps.length) (hm : n ≤ maxLen) (hp : Pts w A ps) :
    Calls Try.prog 37 #[tv A n c, .int .i64 x, .int .i64 y] w (TabE w (cutS ps x y) (placesS ps x y)) := by
  by_cases h : placesS ps x y = 0
  · obtain ⟨ht, hxy, hf, hl⟩ := places_ok h
    have h1 := (tabOk_len ht).1
    have h40 := (tabOk_len ht).2
    obtain ⟨b, o, rfl, hb, hc⟩ := hp.block h1
    rw [h]
    unfold cutS
    rw [if_pos h]
    exact (cut_good b o n c ps x y w hn hb h hc).mono fun e w' hg => tabE_of hg (by unfold built; rw [List.length_map]; have := corners_le h1 hf hl; omega)
  · unfold cutS
    rw [if_neg h]
    exact (cut_bad A n c ps x y _ w hn hm hp rfl h).mono fun e w' hg => tabE_nil hg
theorem rCut_all (A : Option Addr) (n c : Nat) (ps : List P3) (x y : Int) (w : World) (hn : n = ps.length) (hm : n ≤ maxLen) (hp : Pts w A ps) :
    Calls Try.prog 38 #[tv A n c, .int .i64 x, .int .i64 y] w (TabE w (cutS ps x y) (placesS ps x y)) := by
  by_cases h : placesS ps x y = 0
  · obtain ⟨ht, hxy, hf, hl⟩ := places_ok h
    have h1 := (tabOk_len ht).1
    have h40 := (tabOk_len ht).2
    obtain ⟨b, o, rfl, hb, hc⟩ := hp.block h1
    rw [h]
    unfold cutS
    rw [if_pos h]
    exact (rCut_good b o n c ps x y w hn hb h hc).mono fun e w' hg => tabE_of hg (by unfold built; rw [List.length_map]; have := corners_le h1 hf hl; omega)
  · unfold cutS
    rw [if_neg h]
    exact (rCut_bad A n c ps x y _ w hn hm hp rfl h).mono fun e w' hg => tabE_nil hg

theorem tabE_to {P : Program} {f : FuncId} {args : Array Value} {w : World} {L M : List P3} {E F : Int} (h : Calls P f args w (TabE w L E)) (h1 : L = M) (h2 : E = F) : Calls P f args w (TabE w M F) := by
  subst h1 h2; exact h

theorem same_all (A A' : Option Addr) (n n' c c' : Nat) (L : List P3) (w : World) (hn : n = L.length) (hn' : n' = L.length) (hm : n ≤ maxLen) (hp : Pts w A L) (hp' : Pts w A' L) :
    Calls Try.prog 39 #[tv A n c, tv A' n' c'] w fun e w' => e = .returned (.bool true) ∧ Below w.heap.size w w' := by
  subst hn'
  rcases Nat.lt_or_ge 0 L.length with hl | hl
  · obtain ⟨b, o, rfl, hb, hc⟩ := hp.block hl
    obtain ⟨b', o', rfl, hb', hc'⟩ := hp'.block hl
    rw [← hn]
    exact same_yes b o b' o' n c c' L w hn hm hb hb' hc hc'
  · have h0 : L.length = 0 := by omega
    rw [h0] at hn ⊢
    subst hn
    exact same_empty A A' c c' w
end Go.Proofs.Ytmenlaefekkahaa
