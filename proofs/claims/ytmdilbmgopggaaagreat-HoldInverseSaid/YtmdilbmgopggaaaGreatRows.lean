/-
  No cell of these rows narrows 'for every input' (looked for: loops, veiled, ifaces, maps, wideKeys, modest, calm, conditions, laid).
  DERIVED. THE GIVEN ROWS OF THIS SEAT. 12 by the template 'for every input the law returns true; each argument reads behind the call as it read before'; 0 by the template 'total and deterministic' (their statements: YtmdilbmgopggaaaGreatTotals.lean).
  GIVEN WITH THE SEED: the statements are not yours to turn. If you find one false, say at which input.
  Laid BY PROGRAM, IN A SANDBOX (cutbox-rows.mjs): the forced cells as the released guide's own fill.sh prints them over the translation f696809dac133da0… (all of the seat's roots in one cut). By AI agents, Wed Nov 11 2026. No macro, syntax, notation, axiom, sorry.
-/
import Derived.Test.YtmdilbmgopggaaaGreatChecked
import GoSem.Claim
import GoSem.ClaimJoined
import GoSem.ClaimMapViews
import Derived.JoinedTies
import Derived.KernelRfl
namespace Go.Proofs.YtmdilbmgopggaaaGreat
/- THE CELL 'sum', in the pinned program and in every row, IS THE sha256 OF THE DUMP (.gsa) THAT YtmdilbmgopggaaaGreatProg.lean LOADS. Nothing in Lean hashes anything: it is a label: what it is worth is what the hold of that sum in a sandbox is worth. -/
noncomputable def Tryz.pinned : Pinned := { name := "ytmdilbmgopggaaagreat", sum := "f696809dac133da05a3b8a2082e037d598d93217cc039473da836b6d508f476e", checked := Tryz.checked }
namespace Rows
def none {H : Type} : Left H := { results := [], args := [] }

/-- 'ullagelaw02.HoldChecks': WHATEVER THE INPUT: true; the input reads as it did. -/
def holdChecksSpec : ChangeSpec := { name := "holdChecks", fn := fun _ => fun
  | [d1, d2] => { results := [.lit (.bool true)], args := [d1, d2] }
  | _ => none }
def holdChecksRow : OpenClaim := { program := "ytmdilbmgopggaaagreat", sum := "f696809dac133da05a3b8a2082e037d598d93217cc039473da836b6d508f476e", func := "ullage/ullagelaw02.HoldChecks", spec := "holdChecks", unfollowed := true, recurses := true, apart := false }
def HoldChecksSaid : Prop := holdChecksRow.holds Tryz.pinned (OpenSpec.ofChange holdChecksSpec)

/-- ITS FALSE NEIGHBOUR: 'it returns false'. Refute it at one input. -/
def holdChecksWrong : ChangeSpec := { name := "holdChecks", fn := fun _ => fun
  | [d1, d2] => { results := [.lit (.bool false)], args := [d1, d2] }
  | _ => none }
def HoldChecksWrongFalsely : Prop := holdChecksRow.holds Tryz.pinned (OpenSpec.ofChange holdChecksWrong)

/-- 'ullagelaw02.HoldTanks': WHATEVER THE INPUT: true; the input reads as it did. -/
def holdTanksSpec : ChangeSpec := { name := "holdTanks", fn := fun _ => fun
  | [d1, d2, d3] => { results := [.lit (.bool true)], args := [d1, d2, d3] }
  | _ => none }
def holdTanksRow : OpenClaim := { program := "ytmdilbmgopggaaagreat", sum := "f696809dac133da05a3b8a2082e037d598d93217cc039473da836b6d508f476e", func := "ullage/ullagelaw02.HoldTanks", spec := "holdTanks", unfollowed := true, recurses := true, apart := false }
def HoldTanksSaid : Prop := holdTanksRow.holds Tryz.pinned (OpenSpec.ofChange holdTanksSpec)

/-- ITS FALSE NEIGHBOUR: 'it returns false'. Refute it at one input. -/
def holdTanksWrong : ChangeSpec := { name := "holdTanks", fn := fun _ => fun
  | [d1, d2, d3] => { results := [.lit (.bool false)], args := [d1, d2, d3] }
  | _ => none }
def HoldTanksWrongFalsely : Prop := holdTanksRow.holds Tryz.pinned (OpenSpec.ofChange holdTanksWrong)

/-- 'ullagelaw02.HoldInverse': WHATEVER THE INPUT: true; the input reads as it did. -/
def holdInverseSpec : ChangeSpec := { name := "holdInverse", fn := fun _ => fun
  | [d1, d2, d3] => { results := [.lit (.bool true)], args := [d1, d2, d3] }
  | _ => none }
def holdInverseRow : OpenClaim := { program := "ytmdilbmgopggaaagreat", sum := "f696809dac133da05a3b8a2082e037d598d93217cc039473da836b6d508f476e", func := "ullage/ullagelaw02.HoldInverse", spec := "holdInverse", unfollowed := true, recurses := true, apart := false }
def HoldInverseSaid : Prop := holdInverseRow.holds Tryz.pinned (OpenSpec.ofChange holdInverseSpec)

/-- ITS FALSE NEIGHBOUR: 'it returns false'. Refute it at one input. -/
def holdInverseWrong : ChangeSpec := { name := "holdInverse", fn := fun _ => fun
  | [d1, d2, d3] => { results := [.lit (.bool false)], args := [d1, d2, d3] }
  | _ => none }
def HoldInverseWrongFalsely : Prop := holdInverseRow.holds Tryz.pinned (OpenSpec.ofChange holdInverseWrong)

/-- 'ullagelaw02.HoldPours': WHATEVER THE INPUT: true; the input reads as it did. -/
def holdPoursSpec : ChangeSpec := { name := "holdPours", fn := fun _ => fun
  | [d1, d2, d3] => { results := [.lit (.bool true)], args := [d1, d2, d3] }
  | _ => none }
def holdPoursRow : OpenClaim := { program := "ytmdilbmgopggaaagreat", sum := "f696809dac133da05a3b8a2082e037d598d93217cc039473da836b6d508f476e", func := "ullage/ullagelaw02.HoldPours", spec := "holdPours", unfollowed := true, recurses := true, apart := false }
def HoldPoursSaid : Prop := holdPoursRow.holds Tryz.pinned (OpenSpec.ofChange holdPoursSpec)

/-- ITS FALSE NEIGHBOUR: 'it returns false'. Refute it at one input. -/
def holdPoursWrong : ChangeSpec := { name := "holdPours", fn := fun _ => fun
  | [d1, d2, d3] => { results := [.lit (.bool false)], args := [d1, d2, d3] }
  | _ => none }
def HoldPoursWrongFalsely : Prop := holdPoursRow.holds Tryz.pinned (OpenSpec.ofChange holdPoursWrong)

/-- 'ullagelaw02.HoldWorsts': WHATEVER THE INPUT: true; the input reads as it did. -/
def holdWorstsSpec : ChangeSpec := { name := "holdWorsts", fn := fun _ => fun
  | [d1, d2, d3] => { results := [.lit (.bool true)], args := [d1, d2, d3] }
  | _ => none }
def holdWorstsRow : OpenClaim := { program := "ytmdilbmgopggaaagreat", sum := "f696809dac133da05a3b8a2082e037d598d93217cc039473da836b6d508f476e", func := "ullage/ullagelaw02.HoldWorsts", spec := "holdWorsts", unfollowed := true, recurses := true, apart := false }
def HoldWorstsSaid : Prop := holdWorstsRow.holds Tryz.pinned (OpenSpec.ofChange holdWorstsSpec)

/-- ITS FALSE NEIGHBOUR: 'it returns false'. Refute it at one input. -/
def holdWorstsWrong : ChangeSpec := { name := "holdWorsts", fn := fun _ => fun
  | [d1, d2, d3] => { results := [.lit (.bool false)], args := [d1, d2, d3] }
  | _ => none }
def HoldWorstsWrongFalsely : Prop := holdWorstsRow.holds Tryz.pinned (OpenSpec.ofChange holdWorstsWrong)

/-- 'ullagelaw02.HoldBetween': WHATEVER THE INPUT: true; the input reads as it did. -/
def holdBetweenSpec : ChangeSpec := { name := "holdBetween", fn := fun _ => fun
  | [d1, d2, d3] => { results := [.lit (.bool true)], args := [d1, d2, d3] }
  | _ => none }
def holdBetweenRow : OpenClaim := { program := "ytmdilbmgopggaaagreat", sum := "f696809dac133da05a3b8a2082e037d598d93217cc039473da836b6d508f476e", func := "ullage/ullagelaw02.HoldBetween", spec := "holdBetween", unfollowed := true, recurses := true, apart := false }
def HoldBetweenSaid : Prop := holdBetweenRow.holds Tryz.pinned (OpenSpec.ofChange holdBetweenSpec)

/-- ITS FALSE NEIGHBOUR: 'it returns false'. Refute it at one input. -/
def holdBetweenWrong : ChangeSpec := { name := "holdBetween", fn := fun _ => fun
  | [d1, d2, d3] => { results := [.lit (.bool false)], args := [d1, d2, d3] }
  | _ => none }
def HoldBetweenWrongFalsely : Prop := holdBetweenRow.holds Tryz.pinned (OpenSpec.ofChange holdBetweenWrong)

/-- 'ullagelaw02.HoldLoads': WHATEVER THE INPUT: true; the input reads as it did. -/
def holdLoadsSpec : ChangeSpec := { name := "holdLoads", fn := fun _ => fun
  | [d] => { results := [.lit (.bool true)], args := [d] }
  | _ => none }
def holdLoadsRow : OpenClaim := { program := "ytmdilbmgopggaaagreat", sum := "f696809dac133da05a3b8a2082e037d598d93217cc039473da836b6d508f476e", func := "ullage/ullagelaw02.HoldLoads", spec := "holdLoads", unfollowed := true, recurses := true, apart := false }
def HoldLoadsSaid : Prop := holdLoadsRow.holds Tryz.pinned (OpenSpec.ofChange holdLoadsSpec)

/-- ITS FALSE NEIGHBOUR: 'it returns false'. Refute it at one input. -/
def holdLoadsWrong : ChangeSpec := { name := "holdLoads", fn := fun _ => fun
  | [d] => { results := [.lit (.bool false)], args := [d] }
  | _ => none }
def HoldLoadsWrongFalsely : Prop := holdLoadsRow.holds Tryz.pinned (OpenSpec.ofChange holdLoadsWrong)

/-- 'ullagelaw02.HoldBounds': WHATEVER THE INPUT: true; the input reads as it did. -/
def holdBoundsSpec : ChangeSpec := { name := "holdBounds", fn := fun _ => fun
  | [d1, d2, d3] => { results := [.lit (.bool true)], args := [d1, d2, d3] }
  | _ => none }
def holdBoundsRow : OpenClaim := { program := "ytmdilbmgopggaaagreat", sum := "f696809dac133da05a3b8a2082e037d598d93217cc039473da836b6d508f476e", func := "ullage/ullagelaw02.HoldBounds", spec := "holdBounds", unfollowed := true, recurses := true, apart := false }
def HoldBoundsSaid : Prop := holdBoundsRow.holds Tryz.pinned (OpenSpec.ofChange holdBoundsSpec)

/-- ITS FALSE NEIGHBOUR: 'it returns false'. Refute it at one input. -/
def holdBoundsWrong : ChangeSpec := { name := "holdBounds", fn := fun _ => fun
  | [d1, d2, d3] => { results := [.lit (.bool false)], args := [d1, d2, d3] }
  | _ => none }
def HoldBoundsWrongFalsely : Prop := holdBoundsRow.holds Tryz.pinned (OpenSpec.ofChange holdBoundsWrong)

/-- 'ullagelaw02.HoldLevels': WHATEVER THE INPUT: true; the input reads as it did. -/
def holdLevelsSpec : ChangeSpec := { name := "holdLevels", fn := fun _ => fun
  | [d1, d2, d3] => { results := [.lit (.bool true)], args := [d1, d2, d3] }
  | _ => none }
def holdLevelsRow : OpenClaim := { program := "ytmdilbmgopggaaagreat", sum := "f696809dac133da05a3b8a2082e037d598d93217cc039473da836b6d508f476e", func := "ullage/ullagelaw02.HoldLevels", spec := "holdLevels", unfollowed := true, recurses := true, apart := false }
def HoldLevelsSaid : Prop := holdLevelsRow.holds Tryz.pinned (OpenSpec.ofChange holdLevelsSpec)

/-- ITS FALSE NEIGHBOUR: 'it returns false'. Refute it at one input. -/
def holdLevelsWrong : ChangeSpec := { name := "holdLevels", fn := fun _ => fun
  | [d1, d2, d3] => { results := [.lit (.bool false)], args := [d1, d2, d3] }
  | _ => none }
def HoldLevelsWrongFalsely : Prop := holdLevelsRow.holds Tryz.pinned (OpenSpec.ofChange holdLevelsWrong)

/-- 'ullagelaw02.HoldInverts': WHATEVER THE INPUT: true; the input reads as it did. -/
def holdInvertsSpec : ChangeSpec := { name := "holdInverts", fn := fun _ => fun
  | [d1, d2, d3] => { results := [.lit (.bool true)], args := [d1, d2, d3] }
  | _ => none }
def holdInvertsRow : OpenClaim := { program := "ytmdilbmgopggaaagreat", sum := "f696809dac133da05a3b8a2082e037d598d93217cc039473da836b6d508f476e", func := "ullage/ullagelaw02.HoldInverts", spec := "holdInverts", unfollowed := true, recurses := true, apart := false }
def HoldInvertsSaid : Prop := holdInvertsRow.holds Tryz.pinned (OpenSpec.ofChange holdInvertsSpec)

/-- ITS FALSE NEIGHBOUR: 'it returns false'. Refute it at one input. -/
def holdInvertsWrong : ChangeSpec := { name := "holdInverts", fn := fun _ => fun
  | [d1, d2, d3] => { results := [.lit (.bool false)], args := [d1, d2, d3] }
  | _ => none }
def HoldInvertsWrongFalsely : Prop := holdInvertsRow.holds Tryz.pinned (OpenSpec.ofChange holdInvertsWrong)

/-- 'ullagelaw02.HoldPoured': WHATEVER THE INPUT: true; the input reads as it did. -/
def holdPouredSpec : ChangeSpec := { name := "holdPoured", fn := fun _ => fun
  | [d1, d2, d3] => { results := [.lit (.bool true)], args := [d1, d2, d3] }
  | _ => none }
def holdPouredRow : OpenClaim := { program := "ytmdilbmgopggaaagreat", sum := "f696809dac133da05a3b8a2082e037d598d93217cc039473da836b6d508f476e", func := "ullage/ullagelaw02.HoldPoured", spec := "holdPoured", unfollowed := true, recurses := true, apart := false }
def HoldPouredSaid : Prop := holdPouredRow.holds Tryz.pinned (OpenSpec.ofChange holdPouredSpec)

/-- ITS FALSE NEIGHBOUR: 'it returns false'. Refute it at one input. -/
def holdPouredWrong : ChangeSpec := { name := "holdPoured", fn := fun _ => fun
  | [d1, d2, d3] => { results := [.lit (.bool false)], args := [d1, d2, d3] }
  | _ => none }
def HoldPouredWrongFalsely : Prop := holdPouredRow.holds Tryz.pinned (OpenSpec.ofChange holdPouredWrong)

/-- 'ullagelaw02.HoldDrawn': WHATEVER THE INPUT: true; the input reads as it did. -/
def holdDrawnSpec : ChangeSpec := { name := "holdDrawn", fn := fun _ => fun
  | [d1, d2, d3] => { results := [.lit (.bool true)], args := [d1, d2, d3] }
  | _ => none }
def holdDrawnRow : OpenClaim := { program := "ytmdilbmgopggaaagreat", sum := "f696809dac133da05a3b8a2082e037d598d93217cc039473da836b6d508f476e", func := "ullage/ullagelaw02.HoldDrawn", spec := "holdDrawn", unfollowed := true, recurses := true, apart := false }
def HoldDrawnSaid : Prop := holdDrawnRow.holds Tryz.pinned (OpenSpec.ofChange holdDrawnSpec)

/-- ITS FALSE NEIGHBOUR: 'it returns false'. Refute it at one input. -/
def holdDrawnWrong : ChangeSpec := { name := "holdDrawn", fn := fun _ => fun
  | [d1, d2, d3] => { results := [.lit (.bool false)], args := [d1, d2, d3] }
  | _ => none }
def HoldDrawnWrongFalsely : Prop := holdDrawnRow.holds Tryz.pinned (OpenSpec.ofChange holdDrawnWrong)

/- THE SECOND FORM. 'bulk': how many values and letters a reading holds, each counted each time it is reached (what is shared counts as often as it is met; a slice's spare places count too). A statement '..UptoSaid' is the law's where the arguments, and the package variables that the reading takes, are together of bulk at most 1048576: NARROWER than '..Said'. Prove '..Said' where nothing that the law and all that it calls make is longer than what came in: it says more and counts as full. Else prove '..UptoSaid'. A law counts once. -/
mutual
def uptoBulk {H : Type} : DataW H → Nat
  | .lit (.string bytes) => bytes.length + 1
  | .lit _ => 1
  | .nil => 1
  | .ptr d => uptoBulk d + 1
  | .slice elems spare => uptoBulkAll elems + uptoBulkAll spare + 1
  | .agg parts => uptoBulkAll parts + 1
  | .iface _ d => uptoBulk d + 1
  | .map entries => uptoBulkEntries entries + 1
  | .held _ => 1
def uptoBulkAll {H : Type} : List (DataW H) → Nat
  | [] => 0
  | d :: r => uptoBulk d + uptoBulkAll r
def uptoBulkEntries {H : Type} : List (Lit × DataW H) → Nat
  | [] => 0
  | x :: r => uptoBulkEntry x + uptoBulkEntries r
def uptoBulkEntry {H : Type} : Lit × DataW H → Nat
  | (.string bytes, d) => bytes.length + uptoBulk d + 1
  | (_, d) => uptoBulk d + 1
 end
def uptoSmall : (H : Type) → List (DataW H) → Bool := fun _ ds => decide (uptoBulkAll ds ≤ 1048576)
def OpenSpec.upto (s : _root_.Go.ChangeSpec) : _root_.Go.OpenSpec := { _root_.Go.OpenSpec.ofChange s with cond := some uptoSmall }

/-- 'ullagelaw02.HoldChecks', WHERE WHAT IT READS IS OF BULK AT MOST 1048576: true; the input reads as it did. -/
def holdChecksUptoRow : OpenClaim := { program := "ytmdilbmgopggaaagreat", sum := "f696809dac133da05a3b8a2082e037d598d93217cc039473da836b6d508f476e", func := "ullage/ullagelaw02.HoldChecks", spec := "holdChecks", unfollowed := true, recurses := true, apart := false, narrowed := true }
def HoldChecksUptoSaid : Prop := holdChecksUptoRow.holds Tryz.pinned (OpenSpec.upto holdChecksSpec)

/-- 'ullagelaw02.HoldTanks', WHERE WHAT IT READS IS OF BULK AT MOST 1048576: true; the input reads as it did. -/
def holdTanksUptoRow : OpenClaim := { program := "ytmdilbmgopggaaagreat", sum := "f696809dac133da05a3b8a2082e037d598d93217cc039473da836b6d508f476e", func := "ullage/ullagelaw02.HoldTanks", spec := "holdTanks", unfollowed := true, recurses := true, apart := false, narrowed := true }
def HoldTanksUptoSaid : Prop := holdTanksUptoRow.holds Tryz.pinned (OpenSpec.upto holdTanksSpec)

/-- 'ullagelaw02.HoldInverse', WHERE WHAT IT READS IS OF BULK AT MOST 1048576: true; the input reads as it did. -/
def holdInverseUptoRow : OpenClaim := { program := "ytmdilbmgopggaaagreat", sum := "f696809dac133da05a3b8a2082e037d598d93217cc039473da836b6d508f476e", func := "ullage/ullagelaw02.HoldInverse", spec := "holdInverse", unfollowed := true, recurses := true, apart := false, narrowed := true }
def HoldInverseUptoSaid : Prop := holdInverseUptoRow.holds Tryz.pinned (OpenSpec.upto holdInverseSpec)

/-- 'ullagelaw02.HoldPours', WHERE WHAT IT READS IS OF BULK AT MOST 1048576: true; the input reads as it did. -/
def holdPoursUptoRow : OpenClaim := { program := "ytmdilbmgopggaaagreat", sum := "f696809dac133da05a3b8a2082e037d598d93217cc039473da836b6d508f476e", func := "ullage/ullagelaw02.HoldPours", spec := "holdPours", unfollowed := true, recurses := true, apart := false, narrowed := true }
def HoldPoursUptoSaid : Prop := holdPoursUptoRow.holds Tryz.pinned (OpenSpec.upto holdPoursSpec)

/-- 'ullagelaw02.HoldWorsts', WHERE WHAT IT READS IS OF BULK AT MOST 1048576: true; the input reads as it did. -/
def holdWorstsUptoRow : OpenClaim := { program := "ytmdilbmgopggaaagreat", sum := "f696809dac133da05a3b8a2082e037d598d93217cc039473da836b6d508f476e", func := "ullage/ullagelaw02.HoldWorsts", spec := "holdWorsts", unfollowed := true, recurses := true, apart := false, narrowed := true }
def HoldWorstsUptoSaid : Prop := holdWorstsUptoRow.holds Tryz.pinned (OpenSpec.upto holdWorstsSpec)

/-- 'ullagelaw02.HoldBetween', WHERE WHAT IT READS IS OF BULK AT MOST 1048576: true; the input reads as it did. -/
def holdBetweenUptoRow : OpenClaim := { program := "ytmdilbmgopggaaagreat", sum := "f696809dac133da05a3b8a2082e037d598d93217cc039473da836b6d508f476e", func := "ullage/ullagelaw02.HoldBetween", spec := "holdBetween", unfollowed := true, recurses := true, apart := false, narrowed := true }
def HoldBetweenUptoSaid : Prop := holdBetweenUptoRow.holds Tryz.pinned (OpenSpec.upto holdBetweenSpec)

/-- 'ullagelaw02.HoldLoads', WHERE WHAT IT READS IS OF BULK AT MOST 1048576: true; the input reads as it did. -/
def holdLoadsUptoRow : OpenClaim := { program := "ytmdilbmgopggaaagreat", sum := "f696809dac133da05a3b8a2082e037d598d93217cc039473da836b6d508f476e", func := "ullage/ullagelaw02.HoldLoads", spec := "holdLoads", unfollowed := true, recurses := true, apart := false, narrowed := true }
def HoldLoadsUptoSaid : Prop := holdLoadsUptoRow.holds Tryz.pinned (OpenSpec.upto holdLoadsSpec)

/-- 'ullagelaw02.HoldBounds', WHERE WHAT IT READS IS OF BULK AT MOST 1048576: true; the input reads as it did. -/
def holdBoundsUptoRow : OpenClaim := { program := "ytmdilbmgopggaaagreat", sum := "f696809dac133da05a3b8a2082e037d598d93217cc039473da836b6d508f476e", func := "ullage/ullagelaw02.HoldBounds", spec := "holdBounds", unfollowed := true, recurses := true, apart := false, narrowed := true }
def HoldBoundsUptoSaid : Prop := holdBoundsUptoRow.holds Tryz.pinned (OpenSpec.upto holdBoundsSpec)

/-- 'ullagelaw02.HoldLevels', WHERE WHAT IT READS IS OF BULK AT MOST 1048576: true; the input reads as it did. -/
def holdLevelsUptoRow : OpenClaim := { program := "ytmdilbmgopggaaagreat", sum := "f696809dac133da05a3b8a2082e037d598d93217cc039473da836b6d508f476e", func := "ullage/ullagelaw02.HoldLevels", spec := "holdLevels", unfollowed := true, recurses := true, apart := false, narrowed := true }
def HoldLevelsUptoSaid : Prop := holdLevelsUptoRow.holds Tryz.pinned (OpenSpec.upto holdLevelsSpec)

/-- 'ullagelaw02.HoldInverts', WHERE WHAT IT READS IS OF BULK AT MOST 1048576: true; the input reads as it did. -/
def holdInvertsUptoRow : OpenClaim := { program := "ytmdilbmgopggaaagreat", sum := "f696809dac133da05a3b8a2082e037d598d93217cc039473da836b6d508f476e", func := "ullage/ullagelaw02.HoldInverts", spec := "holdInverts", unfollowed := true, recurses := true, apart := false, narrowed := true }
def HoldInvertsUptoSaid : Prop := holdInvertsUptoRow.holds Tryz.pinned (OpenSpec.upto holdInvertsSpec)

/-- 'ullagelaw02.HoldPoured', WHERE WHAT IT READS IS OF BULK AT MOST 1048576: true; the input reads as it did. -/
def holdPouredUptoRow : OpenClaim := { program := "ytmdilbmgopggaaagreat", sum := "f696809dac133da05a3b8a2082e037d598d93217cc039473da836b6d508f476e", func := "ullage/ullagelaw02.HoldPoured", spec := "holdPoured", unfollowed := true, recurses := true, apart := false, narrowed := true }
def HoldPouredUptoSaid : Prop := holdPouredUptoRow.holds Tryz.pinned (OpenSpec.upto holdPouredSpec)

/-- 'ullagelaw02.HoldDrawn', WHERE WHAT IT READS IS OF BULK AT MOST 1048576: true; the input reads as it did. -/
def holdDrawnUptoRow : OpenClaim := { program := "ytmdilbmgopggaaagreat", sum := "f696809dac133da05a3b8a2082e037d598d93217cc039473da836b6d508f476e", func := "ullage/ullagelaw02.HoldDrawn", spec := "holdDrawn", unfollowed := true, recurses := true, apart := false, narrowed := true }
def HoldDrawnUptoSaid : Prop := holdDrawnUptoRow.holds Tryz.pinned (OpenSpec.upto holdDrawnSpec)

end Rows
end Go.Proofs.YtmdilbmgopggaaaGreat
