/-
  No cell of these rows narrows 'for every input' (looked for: loops, veiled, ifaces, maps, wideKeys, modest, calm, conditions, laid).
  DERIVED. THE GIVEN ROWS OF THIS SEAT. 4 by the template 'for every input the law returns true; each argument reads behind the call as it read before'; 0 by the template 'total and deterministic' (their statements: YtekkiedlajhaiaaGreatTotals.lean).
  GIVEN WITH THE SEED: the statements are not yours to turn. If you find one false, say at which input.
  Laid BY PROGRAM, IN A SANDBOX (cutbox-rows.mjs): the forced cells as the released guide's own fill.sh prints them over the translation 09e1fd9e32914d36… (all of the seat's roots in one cut). By AI agents, Wed Nov 11 2026. No macro, syntax, notation, axiom, sorry.
-/
import Derived.Test.YtekkiedlajhaiaaGreatChecked
import GoSem.Claim
import GoSem.ClaimJoined
import GoSem.ClaimMapViews
import Derived.JoinedTies
import Derived.KernelRfl
namespace Go.Proofs.YtekkiedlajhaiaaGreat
/- THE CELL 'sum', in the pinned program and in every row, IS THE sha256 OF THE DUMP (.gsa) THAT YtekkiedlajhaiaaGreatProg.lean LOADS. Nothing in Lean hashes anything: it is a label: what it is worth is what the hold of that sum in a sandbox is worth. -/
noncomputable def Tryz.pinned : Pinned := { name := "ytekkiedlajhaiaagreat", sum := "09e1fd9e32914d36c1188f90dbc3ed14118f0ad9fc0a3d6dc3fa634abef1555c", checked := Tryz.checked }
namespace Rows
def none {H : Type} : Left H := { results := [], args := [] }

/-- 'ullagelaw02.HoldLoads': WHATEVER THE INPUT: true; the input reads as it did. -/
def holdLoadsSpec : ChangeSpec := { name := "holdLoads", fn := fun _ => fun
  | [d] => { results := [.lit (.bool true)], args := [d] }
  | _ => none }
def holdLoadsRow : OpenClaim := { program := "ytekkiedlajhaiaagreat", sum := "09e1fd9e32914d36c1188f90dbc3ed14118f0ad9fc0a3d6dc3fa634abef1555c", func := "ullage/ullagelaw02.HoldLoads", spec := "holdLoads", unfollowed := true, recurses := true, apart := false }
def HoldLoadsSaid : Prop := holdLoadsRow.holds Tryz.pinned (OpenSpec.ofChange holdLoadsSpec)

/-- ITS FALSE NEIGHBOUR: 'it returns false'. Refute it at one input. -/
def holdLoadsWrong : ChangeSpec := { name := "holdLoads", fn := fun _ => fun
  | [d] => { results := [.lit (.bool false)], args := [d] }
  | _ => none }
def HoldLoadsWrongFalsely : Prop := holdLoadsRow.holds Tryz.pinned (OpenSpec.ofChange holdLoadsWrong)

/-- 'ullagelaw02.HoldBounds': WHATEVER THE INPUT: true; the input reads as it did. -/
def holdBoundsSpec : ChangeSpec := { name := "holdBounds", fn := fun _ => fun
  | [d1, d2, d3] => { results := [.lit (.bool true)], args := [d1, d2, d3] }
  | _ => none }
def holdBoundsRow : OpenClaim := { program := "ytekkiedlajhaiaagreat", sum := "09e1fd9e32914d36c1188f90dbc3ed14118f0ad9fc0a3d6dc3fa634abef1555c", func := "ullage/ullagelaw02.HoldBounds", spec := "holdBounds", unfollowed := true, recurses := true, apart := false }
def HoldBoundsSaid : Prop := holdBoundsRow.holds Tryz.pinned (OpenSpec.ofChange holdBoundsSpec)

/-- ITS FALSE NEIGHBOUR: 'it returns false'. Refute it at one input. -/
def holdBoundsWrong : ChangeSpec := { name := "holdBounds", fn := fun _ => fun
  | [d1, d2, d3] => { results := [.lit (.bool false)], args := [d1, d2, d3] }
  | _ => none }
def HoldBoundsWrongFalsely : Prop := holdBoundsRow.holds Tryz.pinned (OpenSpec.ofChange holdBoundsWrong)

/-- 'ullagelaw02.HoldLevels': WHATEVER THE INPUT: true; the input reads as it did. -/
def holdLevelsSpec : ChangeSpec := { name := "holdLevels", fn := fun _ => fun
  | [d1, d2, d3] => { results := [.lit (.bool true)], args := [d1, d2, d3] }
  | _ => none }
def holdLevelsRow : OpenClaim := { program := "ytekkiedlajhaiaagreat", sum := "09e1fd9e32914d36c1188f90dbc3ed14118f0ad9fc0a3d6dc3fa634abef1555c", func := "ullage/ullagelaw02.HoldLevels", spec := "holdLevels", unfollowed := true, recurses := true, apart := false }
def HoldLevelsSaid : Prop := holdLevelsRow.holds Tryz.pinned (OpenSpec.ofChange holdLevelsSpec)

/-- ITS FALSE NEIGHBOUR: 'it returns false'. Refute it at one input. -/
def holdLevelsWrong : ChangeSpec := { name := "holdLevels", fn := fun _ => fun
  | [d1, d2, d3] => { results := [.lit (.bool false)], args := [d1, d2, d3] }
  | _ => none }
def HoldLevelsWrongFalsely : Prop := holdLevelsRow.holds Tryz.pinned (OpenSpec.ofChange holdLevelsWrong)

/-- 'ullagelaw02.HoldWorst': WHATEVER THE INPUT: true; the input reads as it did. -/
def holdWorstSpec : ChangeSpec := { name := "holdWorst", fn := fun _ => fun
  | [d1, d2, d3] => { results := [.lit (.bool true)], args := [d1, d2, d3] }
  | _ => none }
def holdWorstRow : OpenClaim := { program := "ytekkiedlajhaiaagreat", sum := "09e1fd9e32914d36c1188f90dbc3ed14118f0ad9fc0a3d6dc3fa634abef1555c", func := "ullage/ullagelaw02.HoldWorst", spec := "holdWorst", unfollowed := true, recurses := true, apart := false }
def HoldWorstSaid : Prop := holdWorstRow.holds Tryz.pinned (OpenSpec.ofChange holdWorstSpec)

/-- ITS FALSE NEIGHBOUR: 'it returns false'. Refute it at one input. -/
def holdWorstWrong : ChangeSpec := { name := "holdWorst", fn := fun _ => fun
  | [d1, d2, d3] => { results := [.lit (.bool false)], args := [d1, d2, d3] }
  | _ => none }
def HoldWorstWrongFalsely : Prop := holdWorstRow.holds Tryz.pinned (OpenSpec.ofChange holdWorstWrong)

/- THE SECOND FORM. 'bulk': how many values and letters a reading holds, each counted each time it is reached (what is shared counts as often as it is met; a slice's spare places count too). A statement '..UptoSaid' is the law's where the arguments, and the package variables that the reading takes, are together of bulk at most 1048576: NARROWER than '..Said'. Prove '..Said' where nothing that the law and all that it calls make is longer than what came in: it says more and counts as full. Else prove '..UptoSaid'. A law counts once. -/
mutual
def uptoBulk {H : Type} : DataW H → Nat
  | .lit (.string bytes) => bytes.length + 1
  | .lit _ => 1
  | .nil => 1
  | .ptr d => uptoBulk d + 1
  | .slice elems spare => uptoBulkAll elems + uptoBulkAll spare + 1
  | .agg parts => uptoBulkAll parts + 1
  | .iface _ d => uptoBulk d + 1
  | .map entries => uptoBulkEntries entries + 1
  | .held _ => 1
def uptoBulkAll {H : Type} : List (DataW H) → Nat
  | [] => 0
  | d :: r => uptoBulk d + uptoBulkAll r
def uptoBulkEntries {H : Type} : List (Lit × DataW H) → Nat
  | [] => 0
  | x :: r => uptoBulkEntry x + uptoBulkEntries r
def uptoBulkEntry {H : Type} : Lit × DataW H → Nat
  | (.string bytes, d) => bytes.length + uptoBulk d + 1
  | (_, d) => uptoBulk d + 1
 end
def uptoSmall : (H : Type) → List (DataW H) → Bool := fun _ ds => decide (uptoBulkAll ds ≤ 1048576)
def OpenSpec.upto (s : _root_.Go.ChangeSpec) : _root_.Go.OpenSpec := { _root_.Go.OpenSpec.ofChange s with cond := some uptoSmall }

/-- 'ullagelaw02.HoldLoads', WHERE WHAT IT READS IS OF BULK AT MOST 1048576: true; the input reads as it did. -/
def holdLoadsUptoRow : OpenClaim := { program := "ytekkiedlajhaiaagreat", sum := "09e1fd9e32914d36c1188f90dbc3ed14118f0ad9fc0a3d6dc3fa634abef1555c", func := "ullage/ullagelaw02.HoldLoads", spec := "holdLoads", unfollowed := true, recurses := true, apart := false, narrowed := true }
def HoldLoadsUptoSaid : Prop := holdLoadsUptoRow.holds Tryz.pinned (OpenSpec.upto holdLoadsSpec)

/-- 'ullagelaw02.HoldBounds', WHERE WHAT IT READS IS OF BULK AT MOST 1048576: true; the input reads as it did. -/
def holdBoundsUptoRow : OpenClaim := { program := "ytekkiedlajhaiaagreat", sum := "09e1fd9e32914d36c1188f90dbc3ed14118f0ad9fc0a3d6dc3fa634abef1555c", func := "ullage/ullagelaw02.HoldBounds", spec := "holdBounds", unfollowed := true, recurses := true, apart := false, narrowed := true }
def HoldBoundsUptoSaid : Prop := holdBoundsUptoRow.holds Tryz.pinned (OpenSpec.upto holdBoundsSpec)

/-- 'ullagelaw02.HoldLevels', WHERE WHAT IT READS IS OF BULK AT MOST 1048576: true; the input reads as it did. -/
def holdLevelsUptoRow : OpenClaim := { program := "ytekkiedlajhaiaagreat", sum := "09e1fd9e32914d36c1188f90dbc3ed14118f0ad9fc0a3d6dc3fa634abef1555c", func := "ullage/ullagelaw02.HoldLevels", spec := "holdLevels", unfollowed := true, recurses := true, apart := false, narrowed := true }
def HoldLevelsUptoSaid : Prop := holdLevelsUptoRow.holds Tryz.pinned (OpenSpec.upto holdLevelsSpec)

/-- 'ullagelaw02.HoldWorst', WHERE WHAT IT READS IS OF BULK AT MOST 1048576: true; the input reads as it did. -/
def holdWorstUptoRow : OpenClaim := { program := "ytekkiedlajhaiaagreat", sum := "09e1fd9e32914d36c1188f90dbc3ed14118f0ad9fc0a3d6dc3fa634abef1555c", func := "ullage/ullagelaw02.HoldWorst", spec := "holdWorst", unfollowed := true, recurses := true, apart := false, narrowed := true }
def HoldWorstUptoSaid : Prop := holdWorstUptoRow.holds Tryz.pinned (OpenSpec.upto holdWorstSpec)

end Rows
end Go.Proofs.YtekkiedlajhaiaaGreat
