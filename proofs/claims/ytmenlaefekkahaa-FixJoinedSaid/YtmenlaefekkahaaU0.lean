/- Tools that the walks of the laws share: blocks with their cells; contracts under a result's name. No conditions. -/
import Derived.Test.YtmenlaefekkahaaA6
import Derived.Test.YtmenlaefekkahaaH2
set_option linter.unusedVariables false
set_option linter.unusedSimpArgs false
set_option linter.constructorNameAsVariable false
namespace Go.Proofs.Ytmenlaefekkahaa
open Go.RowKit

/-- Blocks with their cells. -/
def Boxes (W : World) (L : List (Nat × TypeId × Array Value)) : Prop := ∀ p ∈ L, Blk W p.1 p.2.1 p.2.2
theorem Boxes.on {W W' : World} {L : List (Nat × TypeId × Array Value)} (h : Boxes W L) (hb : Below W.heap.size W W') : Boxes W' L := fun p hp => blkOn (h p hp) hb
theorem Boxes.new {W : World} {L : List (Nat × TypeId × Array Value)} (h : Boxes W L) (t : TypeId) (cs : Array Value) : Boxes (W.alloc (.cells cs t)) ((W.heap.size, t, cs) :: L) := fun p hp => by
  rcases List.mem_cons.1 hp with rfl | hp
  · exact Blk.new W t cs
  · exact (h p hp).alloc _
theorem rt_to {P : Program} {f : FuncId} {args : Array Value} {w : World} {r : Int × Int × Int} {x y z : Int} (h : Calls P f args w fun e w' => e = .returned (rt r) ∧ Below w.heap.size w w') (hr : r = (x, y, z)) :
    Calls P f args w fun e w' => e = .returned (.tuple #[rv x y, .int .i64 z]) ∧ Below w.heap.size w w' := by
  subst hr; exact h
theorem int_to {P : Program} {f : FuncId} {args : Array Value} {w : World} {r x : Int} (h : Calls P f args w fun e w' => e = .returned (.int .i64 r) ∧ Below w.heap.size w w') (hr : r = x) :
    Calls P f args w fun e w' => e = .returned (.int .i64 x) ∧ Below w.heap.size w w' := by
  subst hr; exact h
theorem bool_to {P : Program} {f : FuncId} {args : Array Value} {w : World} {r x : Bool} (h : Calls P f args w fun e w' => e = .returned (.bool r) ∧ Below w.heap.size w w') (hr : r = x) :
    Calls P f args w fun e w' => e = .returned (.bool x) ∧ Below w.heap.size w w' := by
  subst hr; exact h
def I64 (x : Int) : Prop := -9223372036854775808 ≤ x ∧ x ≤ 9223372036854775807
theorem has_yes {a b n : Int} (h1 : a ≤ n) (h2 : n ≤ b) (ha : -1000000000000000 ≤ a) (hb : b ≤ 1000000000000000) : hasS a b n = true := by
  simp [hasS, (vR_iff a b).2 ⟨by omega, ha, hb⟩, h1, h2]
theorem has_no {a b n : Int} (h : ¬ (a ≤ n ∧ n ≤ b)) : hasS a b n = false := by
  simp [hasS]; omega
def IntsP (w : World) (A : Option Addr) (cs : List Int) : Prop := cs = [] ∨ ∃ b o, A = some ⟨b, o, none⟩ ∧ b < w.heap.size ∧ IntsMem w b o cs
theorem IntsMem.below {w w' : World} {b o : Nat} {L : List Int} (h : IntsMem w b o L) (hB : Below w.heap.size w w') (hb : b < w.heap.size) : IntsMem w' b o L := fun k x hx => ((bcell hB).1 b _ hb).trans (h k x hx)
theorem IntsP.below {w w' : World} {A : Option Addr} {L : List Int} (h : IntsP w A L) (hB : Below w.heap.size w w') : IntsP w' A L := by
  rcases h with h | ⟨b, o, h1, h2, h3⟩
  · exact .inl h
  · exact .inr ⟨b, o, h1, Nat.lt_of_lt_of_le h2 hB.size, h3.below hB h2⟩

end Go.Proofs.Ytmenlaefekkahaa
