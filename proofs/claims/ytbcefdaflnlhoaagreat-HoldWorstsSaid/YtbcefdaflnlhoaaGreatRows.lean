/-
  No cell of these rows narrows 'for every input' (looked for: loops, veiled, ifaces, maps, wideKeys, modest, calm, conditions, laid).
  DERIVED. THE GIVEN ROWS OF THIS SEAT. 5 by the template 'for every input the law returns true; each argument reads behind the call as it read before'; 0 by the template 'total and deterministic' (their statements: YtbcefdaflnlhoaaGreatTotals.lean).
  GIVEN WITH THE SEED: the statements are not yours to turn. If you find one false, say at which input.
  Laid BY PROGRAM, IN A SANDBOX (cutbox-rows.mjs): the forced cells as the released guide's own fill.sh prints them over the translation b28a479064704859… (all of the seat's roots in one cut). By AI agents, Wed Nov 11 2026. No macro, syntax, notation, axiom, sorry.
-/
import Derived.Test.YtbcefdaflnlhoaaGreatChecked
import GoSem.Claim
import GoSem.ClaimJoined
import GoSem.ClaimMapViews
import Derived.JoinedTies
import Derived.KernelRfl
namespace Go.Proofs.YtbcefdaflnlhoaaGreat
/- THE CELL 'sum', in the pinned program and in every row, IS THE sha256 OF THE DUMP (.gsa) THAT YtbcefdaflnlhoaaGreatProg.lean LOADS. Nothing in Lean hashes anything: it is a label: what it is worth is what the hold of that sum in a sandbox is worth. -/
noncomputable def Tryz.pinned : Pinned := { name := "ytbcefdaflnlhoaagreat", sum := "b28a4790647048599d8ba7f07feb118d78f8f1bea7e48b01abec953956cb7eb8", checked := Tryz.checked }
namespace Rows
def none {H : Type} : Left H := { results := [], args := [] }

/-- 'ullagelaw02.HoldTanks': WHATEVER THE INPUT: true; the input reads as it did. -/
def holdTanksSpec : ChangeSpec := { name := "holdTanks", fn := fun _ => fun
  | [d1, d2, d3] => { results := [.lit (.bool true)], args := [d1, d2, d3] }
  | _ => none }
def holdTanksRow : OpenClaim := { program := "ytbcefdaflnlhoaagreat", sum := "b28a4790647048599d8ba7f07feb118d78f8f1bea7e48b01abec953956cb7eb8", func := "ullage/ullagelaw02.HoldTanks", spec := "holdTanks", unfollowed := true, recurses := true, apart := false }
def HoldTanksSaid : Prop := holdTanksRow.holds Tryz.pinned (OpenSpec.ofChange holdTanksSpec)

/-- ITS FALSE NEIGHBOUR: 'it returns false'. Refute it at one input. -/
def holdTanksWrong : ChangeSpec := { name := "holdTanks", fn := fun _ => fun
  | [d1, d2, d3] => { results := [.lit (.bool false)], args := [d1, d2, d3] }
  | _ => none }
def HoldTanksWrongFalsely : Prop := holdTanksRow.holds Tryz.pinned (OpenSpec.ofChange holdTanksWrong)

/-- 'ullagelaw02.HoldPours': WHATEVER THE INPUT: true; the input reads as it did. -/
def holdPoursSpec : ChangeSpec := { name := "holdPours", fn := fun _ => fun
  | [d1, d2, d3] => { results := [.lit (.bool true)], args := [d1, d2, d3] }
  | _ => none }
def holdPoursRow : OpenClaim := { program := "ytbcefdaflnlhoaagreat", sum := "b28a4790647048599d8ba7f07feb118d78f8f1bea7e48b01abec953956cb7eb8", func := "ullage/ullagelaw02.HoldPours", spec := "holdPours", unfollowed := true, recurses := true, apart := false }
def HoldPoursSaid : Prop := holdPoursRow.holds Tryz.pinned (OpenSpec.ofChange holdPoursSpec)

/-- ITS FALSE NEIGHBOUR: 'it returns false'. Refute it at one input. -/
def holdPoursWrong : ChangeSpec := { name := "holdPours", fn := fun _ => fun
  | [d1, d2, d3] => { results := [.lit (.bool false)], args := [d1, d2, d3] }
  | _ => none }
def HoldPoursWrongFalsely : Prop := holdPoursRow.holds Tryz.pinned (OpenSpec.ofChange holdPoursWrong)

/-- 'ullagelaw02.HoldWorsts': WHATEVER THE INPUT: true; the input reads as it did. -/
def holdWorstsSpec : ChangeSpec := { name := "holdWorsts", fn := fun _ => fun
  | [d1, d2, d3] => { results := [.lit (.bool true)], args := [d1, d2, d3] }
  | _ => none }
def holdWorstsRow : OpenClaim := { program := "ytbcefdaflnlhoaagreat", sum := "b28a4790647048599d8ba7f07feb118d78f8f1bea7e48b01abec953956cb7eb8", func := "ullage/ullagelaw02.HoldWorsts", spec := "holdWorsts", unfollowed := true, recurses := true, apart := false }
def HoldWorstsSaid : Prop := holdWorstsRow.holds Tryz.pinned (OpenSpec.ofChange holdWorstsSpec)

/-- ITS FALSE NEIGHBOUR: 'it returns false'. Refute it at one input. -/
def holdWorstsWrong : ChangeSpec := { name := "holdWorsts", fn := fun _ => fun
  | [d1, d2, d3] => { results := [.lit (.bool false)], args := [d1, d2, d3] }
  | _ => none }
def HoldWorstsWrongFalsely : Prop := holdWorstsRow.holds Tryz.pinned (OpenSpec.ofChange holdWorstsWrong)

/-- 'ullagelaw02.HoldBetween': WHATEVER THE INPUT: true; the input reads as it did. -/
def holdBetweenSpec : ChangeSpec := { name := "holdBetween", fn := fun _ => fun
  | [d1, d2, d3] => { results := [.lit (.bool true)], args := [d1, d2, d3] }
  | _ => none }
def holdBetweenRow : OpenClaim := { program := "ytbcefdaflnlhoaagreat", sum := "b28a4790647048599d8ba7f07feb118d78f8f1bea7e48b01abec953956cb7eb8", func := "ullage/ullagelaw02.HoldBetween", spec := "holdBetween", unfollowed := true, recurses := true, apart := false }
def HoldBetweenSaid : Prop := holdBetweenRow.holds Tryz.pinned (OpenSpec.ofChange holdBetweenSpec)

/-- ITS FALSE NEIGHBOUR: 'it returns false'. Refute it at one input. -/
def holdBetweenWrong : ChangeSpec := { name := "holdBetween", fn := fun _ => fun
  | [d1, d2, d3] => { results := [.lit (.bool false)], args := [d1, d2, d3] }
  | _ => none }
def HoldBetweenWrongFalsely : Prop := holdBetweenRow.holds Tryz.pinned (OpenSpec.ofChange holdBetweenWrong)

/-- 'ullagelaw02.HoldLoads': WHATEVER THE INPUT: true; the input reads as it did. -/
def holdLoadsSpec : ChangeSpec := { name := "holdLoads", fn := fun _ => fun
  | [d] => { results := [.lit (.bool true)], args := [d] }
  | _ => none }
def holdLoadsRow : OpenClaim := { program := "ytbcefdaflnlhoaagreat", sum := "b28a4790647048599d8ba7f07feb118d78f8f1bea7e48b01abec953956cb7eb8", func := "ullage/ullagelaw02.HoldLoads", spec := "holdLoads", unfollowed := true, recurses := true, apart := false }
def HoldLoadsSaid : Prop := holdLoadsRow.holds Tryz.pinned (OpenSpec.ofChange holdLoadsSpec)

/-- ITS FALSE NEIGHBOUR: 'it returns false'. Refute it at one input. -/
def holdLoadsWrong : ChangeSpec := { name := "holdLoads", fn := fun _ => fun
  | [d] => { results := [.lit (.bool false)], args := [d] }
  | _ => none }
def HoldLoadsWrongFalsely : Prop := holdLoadsRow.holds Tryz.pinned (OpenSpec.ofChange holdLoadsWrong)

/- THE SECOND FORM. 'bulk': how many values and letters a reading holds, each counted each time it is reached (what is shared counts as often as it is met; a slice's spare places count too). A statement '..UptoSaid' is the law's where the arguments, and the package variables that the reading takes, are together of bulk at most 1048576: NARROWER than '..Said'. Prove '..Said' where nothing that the law and all that it calls make is longer than what came in: it says more and counts as full. Else prove '..UptoSaid'. A law counts once. -/
mutual
def uptoBulk {H : Type} : DataW H → Nat
  | .lit (.string bytes) => bytes.length + 1
  | .lit _ => 1
  | .nil => 1
  | .ptr d => uptoBulk d + 1
  | .slice elems spare => uptoBulkAll elems + uptoBulkAll spare + 1
  | .agg parts => uptoBulkAll parts + 1
  | .iface _ d => uptoBulk d + 1
  | .map entries => uptoBulkEntries entries + 1
  | .held _ => 1
def uptoBulkAll {H : Type} : List (DataW H) → Nat
  | [] => 0
  | d :: r => uptoBulk d + uptoBulkAll r
def uptoBulkEntries {H : Type} : List (Lit × DataW H) → Nat
  | [] => 0
  | x :: r => uptoBulkEntry x + uptoBulkEntries r
def uptoBulkEntry {H : Type} : Lit × DataW H → Nat
  | (.string bytes, d) => bytes.length + uptoBulk d + 1
  | (_, d) => uptoBulk d + 1
 end
def uptoSmall : (H : Type) → List (DataW H) → Bool := fun _ ds => decide (uptoBulkAll ds ≤ 1048576)
def OpenSpec.upto (s : _root_.Go.ChangeSpec) : _root_.Go.OpenSpec := { _root_.Go.OpenSpec.ofChange s with cond := some uptoSmall }

/-- 'ullagelaw02.HoldTanks', WHERE WHAT IT READS IS OF BULK AT MOST 1048576: true; the input reads as it did. -/
def holdTanksUptoRow : OpenClaim := { program := "ytbcefdaflnlhoaagreat", sum := "b28a4790647048599d8ba7f07feb118d78f8f1bea7e48b01abec953956cb7eb8", func := "ullage/ullagelaw02.HoldTanks", spec := "holdTanks", unfollowed := true, recurses := true, apart := false, narrowed := true }
def HoldTanksUptoSaid : Prop := holdTanksUptoRow.holds Tryz.pinned (OpenSpec.upto holdTanksSpec)

/-- 'ullagelaw02.HoldPours', WHERE WHAT IT READS IS OF BULK AT MOST 1048576: true; the input reads as it did. -/
def holdPoursUptoRow : OpenClaim := { program := "ytbcefdaflnlhoaagreat", sum := "b28a4790647048599d8ba7f07feb118d78f8f1bea7e48b01abec953956cb7eb8", func := "ullage/ullagelaw02.HoldPours", spec := "holdPours", unfollowed := true, recurses := true, apart := false, narrowed := true }
def HoldPoursUptoSaid : Prop := holdPoursUptoRow.holds Tryz.pinned (OpenSpec.upto holdPoursSpec)

/-- 'ullagelaw02.HoldWorsts', WHERE WHAT IT READS IS OF BULK AT MOST 1048576: true; the input reads as it did. -/
def holdWorstsUptoRow : OpenClaim := { program := "ytbcefdaflnlhoaagreat", sum := "b28a4790647048599d8ba7f07feb118d78f8f1bea7e48b01abec953956cb7eb8", func := "ullage/ullagelaw02.HoldWorsts", spec := "holdWorsts", unfollowed := true, recurses := true, apart := false, narrowed := true }
def HoldWorstsUptoSaid : Prop := holdWorstsUptoRow.holds Tryz.pinned (OpenSpec.upto holdWorstsSpec)

/-- 'ullagelaw02.HoldBetween', WHERE WHAT IT READS IS OF BULK AT MOST 1048576: true; the input reads as it did. -/
def holdBetweenUptoRow : OpenClaim := { program := "ytbcefdaflnlhoaagreat", sum := "b28a4790647048599d8ba7f07feb118d78f8f1bea7e48b01abec953956cb7eb8", func := "ullage/ullagelaw02.HoldBetween", spec := "holdBetween", unfollowed := true, recurses := true, apart := false, narrowed := true }
def HoldBetweenUptoSaid : Prop := holdBetweenUptoRow.holds Tryz.pinned (OpenSpec.upto holdBetweenSpec)

/-- 'ullagelaw02.HoldLoads', WHERE WHAT IT READS IS OF BULK AT MOST 1048576: true; the input reads as it did. -/
def holdLoadsUptoRow : OpenClaim := { program := "ytbcefdaflnlhoaagreat", sum := "b28a4790647048599d8ba7f07feb118d78f8f1bea7e48b01abec953956cb7eb8", func := "ullage/ullagelaw02.HoldLoads", spec := "holdLoads", unfollowed := true, recurses := true, apart := false, narrowed := true }
def HoldLoadsUptoSaid : Prop := holdLoadsUptoRow.holds Tryz.pinned (OpenSpec.upto holdLoadsSpec)

end Rows
end Go.Proofs.YtbcefdaflnlhoaaGreat
