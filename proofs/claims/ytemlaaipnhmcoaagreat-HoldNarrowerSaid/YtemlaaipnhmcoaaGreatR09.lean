/- The contracts of First, Last, inside and up (the specification). Their conditions: the table has a point, its points lie in memory. The contract of ValidTable (the specification). Its condition: the table's points lie in memory. -/
import Derived.BigQuiet
import Derived.Test.YtemlaaipnhmcoaaGreatR04
import Derived.Test.YtemlaaipnhmcoaaGreatR08
set_option linter.unusedVariables false
set_option linter.unusedSimpArgs false
set_option linter.constructorNameAsVariable false
namespace Go.Proofs.YtemlaaipnhmcoaaGreat

section
open Go.RowKit

theorem first_at {w : World} {b o : Nat} {ps : List P3} (h : PtsAt w b o ps) (hl : 1 ≤ ps.length) : w.cell? ⟨b, o, none⟩ = some (.int .i64 (firstX ps)) := by
  have e0 : ps[0]? = some (ps[0]'(by omega)) := List.getElem?_eq_getElem (by omega)
  have f0 : firstX ps = (ps[0]'(by omega)).1 := by unfold firstX; rw [List.head?_eq_getElem?, e0]; rfl
  have g0 := (h 0 _ e0).1
  rw [Nat.zero_mul, Nat.add_zero] at g0
  rw [f0]; exact g0
theorem last_at {w : World} {b o m : Nat} {ps : List P3} (h : PtsAt w b o ps) (hl : ps.length = m + 1) : w.cell? ⟨b, o + m * 3, none⟩ = some (.int .i64 (lastX ps)) := by
  have em : ps[m]? = some (ps[m]'(by omega)) := List.getElem?_eq_getElem (by omega)
  have fm : lastX ps = (ps[m]'(by omega)).1 := by
    unfold lastX
    rw [List.getLast?_eq_getElem?, show ps.length - 1 = m by omega, em]; rfl
  rw [fm]; exact (h m _ em).1
def upS (W N : Int) : Int := if 0 < N then W + 1 else W
end

section
open Go.RowKit
end

end Go.Proofs.YtemlaaipnhmcoaaGreat
