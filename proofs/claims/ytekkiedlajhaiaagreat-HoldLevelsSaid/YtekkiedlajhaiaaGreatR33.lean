/- The hold that numbers describe (Hold of the specification). Its condition: the lists lie in memory. -/
import Derived.Deep.QuietTactic
import Derived.BigQuiet
import Derived.Test.YtekkiedlajhaiaaGreatR31
import Derived.Test.YtekkiedlajhaiaaGreatR09
import Derived.Test.YtekkiedlajhaiaaGreatR11
import Derived.Test.YtekkiedlajhaiaaGreatR10
import Derived.Test.YtekkiedlajhaiaaGreatR12
import Derived.Test.YtekkiedlajhaiaaGreatR14
import Derived.Test.YtekkiedlajhaiaaGreatR17
import Derived.Test.YtekkiedlajhaiaaGreatR18
import Derived.Test.YtekkiedlajhaiaaGreatR24
set_option linter.unusedVariables false
set_option linter.unusedSimpArgs false
set_option linter.constructorNameAsVariable false
namespace Go.Proofs.YtekkiedlajhaiaaGreat

section
open Go.RowKit

theorem own_tab {base : Nat} {w : World} {p : Option Addr} {n c : Nat} {L : List P3} (ho : OwnPts base w (.slice p n c) L) (h40 : L.length ≤ 40) : TabIn w p n L := by
  rcases Nat.lt_or_ge 0 L.length with hl | hl
  · obtain ⟨g, cap, h, _, hg, hp⟩ := ho.pts hl
    injection h with h1 h2 h3
    subst h1 h2 h3
    exact ⟨rfl, by simp only [maxLen]; omega, .inr ⟨g, 0, rfl, hg, hp⟩⟩
  · obtain rfl : L = [] := List.eq_nil_of_length_eq_zero (by omega)
    rcases (show w.ownsRow base 93 3 (.slice p n c) 0 [] from ho).2 with ⟨h, _⟩ | ⟨g, cap, cur, h, _⟩
    · injection h with h1 h2 h3; subst h2; exact ⟨rfl, by simp only [maxLen]; omega, .inl rfl⟩
    · injection h with h1 h2 h3; subst h2; exact ⟨rfl, by simp only [maxLen]; omega, .inl rfl⟩
theorem grownBy_setCellY (w : World) (b i : Nat) (v : Value) : w.grownBy (w.setCell ⟨b, i, none⟩ v) (some b) := ⟨rfl, rfl, rfl, by simp [World.setCell], fun k _ hk => Below.heap_setCell _ _ _ _ (fun e => hk (by simp [e]))⟩
theorem grownBy_setRowY (w : World) (g : Nat) (cs : Array Value) : w.grownBy (w.setRow g cs) (some g) := ⟨rfl, rfl, rfl, by simp [World.setRow], fun k _ hk => setRow_other w g k _ (fun e => hk (by rw [e]))⟩
theorem OwnPts.keptAt {base g i : Nat} {w : World} {v u : Value} {L : List P3} (h : OwnPts base w v L) (hg : g < base) : OwnPts base (w.setCell ⟨g, i, none⟩ u) v L :=
  World.ownsRow.kept (show w.ownsRow base 93 3 v L.length (ptCells L) from h) (grownBy_setCellY w g i u) (.inr (fun e => by have := (World.ownsRow.lt (show w.ownsRow base 93 3 v L.length (ptCells L) from h) _ e).1; omega))
theorem OwnPts.keptRow {base g : Nat} {w : World} {v : Value} {L : List P3} {cs : Array Value} (h : OwnPts base w v L) (hg : g < base) : OwnPts base (w.setRow g cs) v L :=
  World.ownsRow.kept (show w.ownsRow base 93 3 v L.length (ptCells L) from h) (grownBy_setRowY w g cs) (.inr (fun e => by have := (World.ownsRow.lt (show w.ownsRow base 93 3 v L.length (ptCells L) from h) _ e).1; omega))
def BB2 (w0 : World) (L : List (Nat × TypeId × Array Value)) (w : World) : Prop := Boxes w L ∧ Below w0.heap.size w0 w
theorem BB2.be2 {w0 w : World} {L : List (Nat × TypeId × Array Value)} (h : BB2 w0 L w) : Below w0.heap.size w0 w := h.2
theorem Boxes.farRowless2 {W : World} {L : List (Nat × TypeId × Array Value)} (h : Boxes W L) {g : Nat} (hg : ∀ p ∈ L, p.1 ≠ g) (i j : Nat) (u v : Value) : Boxes ((W.setCell ⟨g, i, none⟩ u).setCell ⟨g, j, none⟩ v) L := fun p hp => ((h p hp).far (p := ⟨g, i, none⟩) (hg p hp) u).far (p := ⟨g, j, none⟩) (hg p hp) v
end

end Go.Proofs.YtekkiedlajhaiaaGreat
