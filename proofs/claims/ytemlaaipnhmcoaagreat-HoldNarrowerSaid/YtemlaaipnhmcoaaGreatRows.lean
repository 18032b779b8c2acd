/-
  No cell of these rows narrows 'for every input' (looked for: loops, veiled, ifaces, maps, wideKeys, modest, calm, conditions, laid).
  DERIVED. THE GIVEN ROWS OF THIS SEAT. 10 by the template 'for every input the law returns true; each argument reads behind the call as it read before'; 0 by the template 'total and deterministic' (their statements: YtemlaaipnhmcoaaGreatTotals.lean).
  GIVEN WITH THE SEED: the statements are not yours to turn. If you find one false, say at which input.
  Laid BY PROGRAM, IN A SANDBOX (cutbox-rows.mjs): the forced cells as the released guide's own fill.sh prints them over the translation 7eedefdc05091cc9… (all of the seat's roots in one cut). By AI agents, Wed Nov 11 2026. No macro, syntax, notation, axiom, sorry.
-/
import Derived.Test.YtemlaaipnhmcoaaGreatChecked
import GoSem.Claim
import GoSem.ClaimJoined
import GoSem.ClaimMapViews
import Derived.JoinedTies
import Derived.KernelRfl
namespace Go.Proofs.YtemlaaipnhmcoaaGreat
/- THE CELL 'sum', in the pinned program and in every row, IS THE sha256 OF THE DUMP (.gsa) THAT YtemlaaipnhmcoaaGreatProg.lean LOADS. Nothing in Lean hashes anything: it is a label: what it is worth is what the hold of that sum in a sandbox is worth. -/
noncomputable def Tryz.pinned : Pinned := { name := "ytemlaaipnhmcoaagreat", sum := "7eedefdc05091cc967390349e71a5b3bb4287bbbd44345f7b51a8785b73b1601", checked := Tryz.checked }
namespace Rows
def none {H : Type} : Left H := { results := [], args := [] }

/-- 'ullagelaw02.HoldInverts': WHATEVER THE INPUT: true; the input reads as it did. -/
def holdInvertsSpec : ChangeSpec := { name := "holdInverts", fn := fun _ => fun
  | [d1, d2, d3] => { results := [.lit (.bool true)], args := [d1, d2, d3] }
  | _ => none }
def holdInvertsRow : OpenClaim := { program := "ytemlaaipnhmcoaagreat", sum := "7eedefdc05091cc967390349e71a5b3bb4287bbbd44345f7b51a8785b73b1601", func := "ullage/ullagelaw02.HoldInverts", spec := "holdInverts", unfollowed := true, recurses := true, apart := false }
def HoldInvertsSaid : Prop := holdInvertsRow.holds Tryz.pinned (OpenSpec.ofChange holdInvertsSpec)

/-- ITS FALSE NEIGHBOUR: 'it returns false'. Refute it at one input. -/
def holdInvertsWrong : ChangeSpec := { name := "holdInverts", fn := fun _ => fun
  | [d1, d2, d3] => { results := [.lit (.bool false)], args := [d1, d2, d3] }
  | _ => none }
def HoldInvertsWrongFalsely : Prop := holdInvertsRow.holds Tryz.pinned (OpenSpec.ofChange holdInvertsWrong)

/-- 'ullagelaw02.HoldPoured': WHATEVER THE INPUT: true; the input reads as it did. -/
def holdPouredSpec : ChangeSpec := { name := "holdPoured", fn := fun _ => fun
  | [d1, d2, d3] => { results := [.lit (.bool true)], args := [d1, d2, d3] }
  | _ => none }
def holdPouredRow : OpenClaim := { program := "ytemlaaipnhmcoaagreat", sum := "7eedefdc05091cc967390349e71a5b3bb4287bbbd44345f7b51a8785b73b1601", func := "ullage/ullagelaw02.HoldPoured", spec := "holdPoured", unfollowed := true, recurses := true, apart := false }
def HoldPouredSaid : Prop := holdPouredRow.holds Tryz.pinned (OpenSpec.ofChange holdPouredSpec)

/-- ITS FALSE NEIGHBOUR: 'it returns false'. Refute it at one input. -/
def holdPouredWrong : ChangeSpec := { name := "holdPoured", fn := fun _ => fun
  | [d1, d2, d3] => { results := [.lit (.bool false)], args := [d1, d2, d3] }
  | _ => none }
def HoldPouredWrongFalsely : Prop := holdPouredRow.holds Tryz.pinned (OpenSpec.ofChange holdPouredWrong)

/-- 'ullagelaw02.HoldDrawn': WHATEVER THE INPUT: true; the input reads as it did. -/
def holdDrawnSpec : ChangeSpec := { name := "holdDrawn", fn := fun _ => fun
  | [d1, d2, d3] => { results := [.lit (.bool true)], args := [d1, d2, d3] }
  | _ => none }
def holdDrawnRow : OpenClaim := { program := "ytemlaaipnhmcoaagreat", sum := "7eedefdc05091cc967390349e71a5b3bb4287bbbd44345f7b51a8785b73b1601", func := "ullage/ullagelaw02.HoldDrawn", spec := "holdDrawn", unfollowed := true, recurses := true, apart := false }
def HoldDrawnSaid : Prop := holdDrawnRow.holds Tryz.pinned (OpenSpec.ofChange holdDrawnSpec)

/-- ITS FALSE NEIGHBOUR: 'it returns false'. Refute it at one input. -/
def holdDrawnWrong : ChangeSpec := { name := "holdDrawn", fn := fun _ => fun
  | [d1, d2, d3] => { results := [.lit (.bool false)], args := [d1, d2, d3] }
  | _ => none }
def HoldDrawnWrongFalsely : Prop := holdDrawnRow.holds Tryz.pinned (OpenSpec.ofChange holdDrawnWrong)

/-- 'ullagelaw02.HoldInstants': WHATEVER THE INPUT: true; the input reads as it did. -/
def holdInstantsSpec : ChangeSpec := { name := "holdInstants", fn := fun _ => fun
  | [d1, d2, d3] => { results := [.lit (.bool true)], args := [d1, d2, d3] }
  | _ => none }
def holdInstantsRow : OpenClaim := { program := "ytemlaaipnhmcoaagreat", sum := "7eedefdc05091cc967390349e71a5b3bb4287bbbd44345f7b51a8785b73b1601", func := "ullage/ullagelaw02.HoldInstants", spec := "holdInstants", unfollowed := true, recurses := true, apart := false }
def HoldInstantsSaid : Prop := holdInstantsRow.holds Tryz.pinned (OpenSpec.ofChange holdInstantsSpec)

/-- ITS FALSE NEIGHBOUR: 'it returns false'. Refute it at one input. -/
def holdInstantsWrong : ChangeSpec := { name := "holdInstants", fn := fun _ => fun
  | [d1, d2, d3] => { results := [.lit (.bool false)], args := [d1, d2, d3] }
  | _ => none }
def HoldInstantsWrongFalsely : Prop := holdInstantsRow.holds Tryz.pinned (OpenSpec.ofChange holdInstantsWrong)

/-- 'ullagelaw02.HoldNarrower': WHATEVER THE INPUT: true; the input reads as it did. -/
def holdNarrowerSpec : ChangeSpec := { name := "holdNarrower", fn := fun _ => fun
  | [d1, d2, d3] => { results := [.lit (.bool true)], args := [d1, d2, d3] }
  | _ => none }
def holdNarrowerRow : OpenClaim := { program := "ytemlaaipnhmcoaagreat", sum := "7eedefdc05091cc967390349e71a5b3bb4287bbbd44345f7b51a8785b73b1601", func := "ullage/ullagelaw02.HoldNarrower", spec := "holdNarrower", unfollowed := true, recurses := true, apart := false }
def HoldNarrowerSaid : Prop := holdNarrowerRow.holds Tryz.pinned (OpenSpec.ofChange holdNarrowerSpec)

/-- ITS FALSE NEIGHBOUR: 'it returns false'. Refute it at one input. -/
def holdNarrowerWrong : ChangeSpec := { name := "holdNarrower", fn := fun _ => fun
  | [d1, d2, d3] => { results := [.lit (.bool false)], args := [d1, d2, d3] }
  | _ => none }
def HoldNarrowerWrongFalsely : Prop := holdNarrowerRow.holds Tryz.pinned (OpenSpec.ofChange holdNarrowerWrong)

/-- 'ullagelaw02.HoldSums': WHATEVER THE INPUT: true; the input reads as it did. -/
def holdSumsSpec : ChangeSpec := { name := "holdSums", fn := fun _ => fun
  | [d1, d2, d3] => { results := [.lit (.bool true)], args := [d1, d2, d3] }
  | _ => none }
def holdSumsRow : OpenClaim := { program := "ytemlaaipnhmcoaagreat", sum := "7eedefdc05091cc967390349e71a5b3bb4287bbbd44345f7b51a8785b73b1601", func := "ullage/ullagelaw02.HoldSums", spec := "holdSums", unfollowed := true, recurses := true, apart := false }
def HoldSumsSaid : Prop := holdSumsRow.holds Tryz.pinned (OpenSpec.ofChange holdSumsSpec)

/-- ITS FALSE NEIGHBOUR: 'it returns false'. Refute it at one input. -/
def holdSumsWrong : ChangeSpec := { name := "holdSums", fn := fun _ => fun
  | [d1, d2, d3] => { results := [.lit (.bool false)], args := [d1, d2, d3] }
  | _ => none }
def HoldSumsWrongFalsely : Prop := holdSumsRow.holds Tryz.pinned (OpenSpec.ofChange holdSumsWrong)

/-- 'ullagelaw02.HoldChecks': WHATEVER THE INPUT: true; the input reads as it did. -/
def holdChecksSpec : ChangeSpec := { name := "holdChecks", fn := fun _ => fun
  | [d1, d2] => { results := [.lit (.bool true)], args := [d1, d2] }
  | _ => none }
def holdChecksRow : OpenClaim := { program := "ytemlaaipnhmcoaagreat", sum := "7eedefdc05091cc967390349e71a5b3bb4287bbbd44345f7b51a8785b73b1601", func := "ullage/ullagelaw02.HoldChecks", spec := "holdChecks", unfollowed := true, recurses := true, apart := false }
def HoldChecksSaid : Prop := holdChecksRow.holds Tryz.pinned (OpenSpec.ofChange holdChecksSpec)

/-- ITS FALSE NEIGHBOUR: 'it returns false'. Refute it at one input. -/
def holdChecksWrong : ChangeSpec := { name := "holdChecks", fn := fun _ => fun
  | [d1, d2] => { results := [.lit (.bool false)], args := [d1, d2] }
  | _ => none }
def HoldChecksWrongFalsely : Prop := holdChecksRow.holds Tryz.pinned (OpenSpec.ofChange holdChecksWrong)

/-- 'ullagelaw02.HoldPours': WHATEVER THE INPUT: true; the input reads as it did. -/
def holdPoursSpec : ChangeSpec := { name := "holdPours", fn := fun _ => fun
  | [d1, d2, d3] => { results := [.lit (.bool true)], args := [d1, d2, d3] }
  | _ => none }
def holdPoursRow : OpenClaim := { program := "ytemlaaipnhmcoaagreat", sum := "7eedefdc05091cc967390349e71a5b3bb4287bbbd44345f7b51a8785b73b1601", func := "ullage/ullagelaw02.HoldPours", spec := "holdPours", unfollowed := true, recurses := true, apart := false }
def HoldPoursSaid : Prop := holdPoursRow.holds Tryz.pinned (OpenSpec.ofChange holdPoursSpec)

/-- ITS FALSE NEIGHBOUR: 'it returns false'. Refute it at one input. -/
def holdPoursWrong : ChangeSpec := { name := "holdPours", fn := fun _ => fun
  | [d1, d2, d3] => { results := [.lit (.bool false)], args := [d1, d2, d3] }
  | _ => none }
def HoldPoursWrongFalsely : Prop := holdPoursRow.holds Tryz.pinned (OpenSpec.ofChange holdPoursWrong)

/-- 'ullagelaw02.HoldBetween': WHATEVER THE INPUT: true; the input reads as it did. -/
def holdBetweenSpec : ChangeSpec := { name := "holdBetween", fn := fun _ => fun
  | [d1, d2, d3] => { results := [.lit (.bool true)], args := [d1, d2, d3] }
  | _ => none }
def holdBetweenRow : OpenClaim := { program := "ytemlaaipnhmcoaagreat", sum := "7eedefdc05091cc967390349e71a5b3bb4287bbbd44345f7b51a8785b73b1601", func := "ullage/ullagelaw02.HoldBetween", spec := "holdBetween", unfollowed := true, recurses := true, apart := false }
def HoldBetweenSaid : Prop := holdBetweenRow.holds Tryz.pinned (OpenSpec.ofChange holdBetweenSpec)

/-- ITS FALSE NEIGHBOUR: 'it returns false'. Refute it at one input. -/
def holdBetweenWrong : ChangeSpec := { name := "holdBetween", fn := fun _ => fun
  | [d1, d2, d3] => { results := [.lit (.bool false)], args := [d1, d2, d3] }
  | _ => none }
def HoldBetweenWrongFalsely : Prop := holdBetweenRow.holds Tryz.pinned (OpenSpec.ofChange holdBetweenWrong)

/-- 'ullagelaw02.HoldLoads': WHATEVER THE INPUT: true; the input reads as it did. -/
def holdLoadsSpec : ChangeSpec := { name := "holdLoads", fn := fun _ => fun
  | [d] => { results := [.lit (.bool true)], args := [d] }
  | _ => none }
def holdLoadsRow : OpenClaim := { program := "ytemlaaipnhmcoaagreat", sum := "7eedefdc05091cc967390349e71a5b3bb4287bbbd44345f7b51a8785b73b1601", func := "ullage/ullagelaw02.HoldLoads", spec := "holdLoads", unfollowed := true, recurses := true, apart := false }
def HoldLoadsSaid : Prop := holdLoadsRow.holds Tryz.pinned (OpenSpec.ofChange holdLoadsSpec)

/-- ITS FALSE NEIGHBOUR: 'it returns false'. Refute it at one input. -/
def holdLoadsWrong : ChangeSpec := { name := "holdLoads", fn := fun _ => fun
  | [d] => { results := [.lit (.bool false)], args := [d] }
  | _ => none }
def HoldLoadsWrongFalsely : Prop := holdLoadsRow.holds Tryz.pinned (OpenSpec.ofChange holdLoadsWrong)

/- THE SECOND FORM. 'bulk': how many values and letters a reading holds, each counted each time it is reached (what is shared counts as often as it is met; a slice's spare places count too). A statement '..UptoSaid' is the law's where the arguments, and the package variables that the reading takes, are together of bulk at most 1048576: NARROWER than '..Said'. Prove '..Said' where nothing that the law and all that it calls make is longer than what came in: it says more and counts as full. Else prove '..UptoSaid'. A law counts once. -/
mutual
def uptoBulk {H : Type} : DataW H → Nat
  | .lit (.string bytes) => bytes.length + 1
  | .lit _ => 1
  | .nil => 1
  | .ptr d => uptoBulk d + 1
  | .slice elems spare => uptoBulkAll elems + uptoBulkAll spare + 1
  | .agg parts => uptoBulkAll parts + 1
  | .iface _ d => uptoBulk d + 1
  | .map entries => uptoBulkEntries entries + 1
  | .held _ => 1
def uptoBulkAll {H : Type} : List (DataW H) → Nat
  | [] => 0
  | d :: r => uptoBulk d + uptoBulkAll r
def uptoBulkEntries {H : Type} : List (Lit × DataW H) → Nat
  | [] => 0
  | x :: r => uptoBulkEntry x + uptoBulkEntries r
def uptoBulkEntry {H : Type} : Lit × DataW H → Nat
  | (.string bytes, d) => bytes.length + uptoBulk d + 1
  | (_, d) => uptoBulk d + 1
 end
def uptoSmall : (H : Type) → List (DataW H) → Bool := fun _ ds => decide (uptoBulkAll ds ≤ 1048576)
def OpenSpec.upto (s : _root_.Go.ChangeSpec) : _root_.Go.OpenSpec := { _root_.Go.OpenSpec.ofChange s with cond := some uptoSmall }

/-- 'ullagelaw02.HoldInverts', WHERE WHAT IT READS IS OF BULK AT MOST 1048576: true; the input reads as it did. -/
def holdInvertsUptoRow : OpenClaim := { program := "ytemlaaipnhmcoaagreat", sum := "7eedefdc05091cc967390349e71a5b3bb4287bbbd44345f7b51a8785b73b1601", func := "ullage/ullagelaw02.HoldInverts", spec := "holdInverts", unfollowed := true, recurses := true, apart := false, narrowed := true }
def HoldInvertsUptoSaid : Prop := holdInvertsUptoRow.holds Tryz.pinned (OpenSpec.upto holdInvertsSpec)

/-- 'ullagelaw02.HoldPoured', WHERE WHAT IT READS IS OF BULK AT MOST 1048576: true; the input reads as it did. -/
def holdPouredUptoRow : OpenClaim := { program := "ytemlaaipnhmcoaagreat", sum := "7eedefdc05091cc967390349e71a5b3bb4287bbbd44345f7b51a8785b73b1601", func := "ullage/ullagelaw02.HoldPoured", spec := "holdPoured", unfollowed := true, recurses := true, apart := false, narrowed := true }
def HoldPouredUptoSaid : Prop := holdPouredUptoRow.holds Tryz.pinned (OpenSpec.upto holdPouredSpec)

/-- 'ullagelaw02.HoldDrawn', WHERE WHAT IT READS IS OF BULK AT MOST 1048576: true; the input reads as it did. -/
def holdDrawnUptoRow : OpenClaim := { program := "ytemlaaipnhmcoaagreat", sum := "7eedefdc05091cc967390349e71a5b3bb4287bbbd44345f7b51a8785b73b1601", func := "ullage/ullagelaw02.HoldDrawn", spec := "holdDrawn", unfollowed := true, recurses := true, apart := false, narrowed := true }
def HoldDrawnUptoSaid : Prop := holdDrawnUptoRow.holds Tryz.pinned (OpenSpec.upto holdDrawnSpec)

/-- 'ullagelaw02.HoldInstants', WHERE WHAT IT READS IS OF BULK AT MOST 1048576: true; the input reads as it did. -/
def holdInstantsUptoRow : OpenClaim := { program := "ytemlaaipnhmcoaagreat", sum := "7eedefdc05091cc967390349e71a5b3bb4287bbbd44345f7b51a8785b73b1601", func := "ullage/ullagelaw02.HoldInstants", spec := "holdInstants", unfollowed := true, recurses := true, apart := false, narrowed := true }
def HoldInstantsUptoSaid : Prop := holdInstantsUptoRow.holds Tryz.pinned (OpenSpec.upto holdInstantsSpec)

/-- 'ullagelaw02.HoldNarrower', WHERE WHAT IT READS IS OF BULK AT MOST 1048576: true; the input reads as it did. -/
def holdNarrowerUptoRow : OpenClaim := { program := "ytemlaaipnhmcoaagreat", sum := "7eedefdc05091cc967390349e71a5b3bb4287bbbd44345f7b51a8785b73b1601", func := "ullage/ullagelaw02.HoldNarrower", spec := "holdNarrower", unfollowed := true, recurses := true, apart := false, narrowed := true }
def HoldNarrowerUptoSaid : Prop := holdNarrowerUptoRow.holds Tryz.pinned (OpenSpec.upto holdNarrowerSpec)

/-- 'ullagelaw02.HoldSums', WHERE WHAT IT READS IS OF BULK AT MOST 1048576: true; the input reads as it did. -/
def holdSumsUptoRow : OpenClaim := { program := "ytemlaaipnhmcoaagreat", sum := "7eedefdc05091cc967390349e71a5b3bb4287bbbd44345f7b51a8785b73b1601", func := "ullage/ullagelaw02.HoldSums", spec := "holdSums", unfollowed := true, recurses := true, apart := false, narrowed := true }
def HoldSumsUptoSaid : Prop := holdSumsUptoRow.holds Tryz.pinned (OpenSpec.upto holdSumsSpec)

/-- 'ullagelaw02.HoldChecks', WHERE WHAT IT READS IS OF BULK AT MOST 1048576: true; the input reads as it did. -/
def holdChecksUptoRow : OpenClaim := { program := "ytemlaaipnhmcoaagreat", sum := "7eedefdc05091cc967390349e71a5b3bb4287bbbd44345f7b51a8785b73b1601", func := "ullage/ullagelaw02.HoldChecks", spec := "holdChecks", unfollowed := true, recurses := true, apart := false, narrowed := true }
def HoldChecksUptoSaid : Prop := holdChecksUptoRow.holds Tryz.pinned (OpenSpec.upto holdChecksSpec)

/-- 'ullagelaw02.HoldPours', WHERE WHAT IT READS IS OF BULK AT MOST 1048576: true; the input reads as it did. -/
def holdPoursUptoRow : OpenClaim := { program := "ytemlaaipnhmcoaagreat", sum := "7eedefdc05091cc967390349e71a5b3bb4287bbbd44345f7b51a8785b73b1601", func := "ullage/ullagelaw02.HoldPours", spec := "holdPours", unfollowed := true, recurses := true, apart := false, narrowed := true }
def HoldPoursUptoSaid : Prop := holdPoursUptoRow.holds Tryz.pinned (OpenSpec.upto holdPoursSpec)

/-- 'ullagelaw02.HoldBetween', WHERE WHAT IT READS IS OF BULK AT MOST 1048576: true; the input reads as it did. -/
def holdBetweenUptoRow : OpenClaim := { program := "ytemlaaipnhmcoaagreat", sum := "7eedefdc05091cc967390349e71a5b3bb4287bbbd44345f7b51a8785b73b1601", func := "ullage/ullagelaw02.HoldBetween", spec := "holdBetween", unfollowed := true, recurses := true, apart := false, narrowed := true }
def HoldBetweenUptoSaid : Prop := holdBetweenUptoRow.holds Tryz.pinned (OpenSpec.upto holdBetweenSpec)

/-- 'ullagelaw02.HoldLoads', WHERE WHAT IT READS IS OF BULK AT MOST 1048576: true; the input reads as it did. -/
def holdLoadsUptoRow : OpenClaim := { program := "ytemlaaipnhmcoaagreat", sum := "7eedefdc05091cc967390349e71a5b3bb4287bbbd44345f7b51a8785b73b1601", func := "ullage/ullagelaw02.HoldLoads", spec := "holdLoads", unfollowed := true, recurses := true, apart := false, narrowed := true }
def HoldLoadsUptoSaid : Prop := holdLoadsUptoRow.holds Tryz.pinned (OpenSpec.upto holdLoadsSpec)

end Rows
end Go.Proofs.YtemlaaipnhmcoaaGreat
