/- Plain: how a region that draws its order is walked by hand, in short: a free operation taken first; one operation ready. -/
import Derived.Deep.RegionHeld
import Derived.Deep.RegionHeldLaw
set_option linter.unusedVariables false
set_option linter.unusedSimpArgs false
set_option linter.constructorNameAsVariable false
namespace Go.Proofs.YtpcmcicnciejpaaGreat

theorem uA {α : Type} (l : List α) (i : Nat) (a : α) : (l.toArray).setIfInBounds i a = (l.set i a).toArray := by simp
theorem uZ {α : Type} (x : α) (l : List α) (a : α) : (x :: l).set 0 a = a :: l := rfl
theorem uS {α : Type} (x : α) (l : List α) (i : Nat) (a : α) : (x :: l).set (i + 1) a = x :: l.set i a := rfl
theorem tK {P : Program} {ops : Array Oper} {Q : Exit → Act → World → Prop} {md : Region.Mode} {S : World → Prop} {i : Nat} (j : Nat) {oi : Oper} {v : Value} {fuel : Nat} {listed : Array Bool} {l : List Value} {df : List Deferred} {w : World}
    (hi : ops[i]? = some oi) (hd : oi.dst = some j)
    (hb : (Region.noSelect ops && Region.free md ops listed i && (Region.ready md ops listed).contains i && Region.wanted oi (yielded ops l.toArray)) = true)
    (hy : ∀ w, S w → (execOp (Act.eval { tmps := l.toArray, defers := df }) oi).run P w = .ok (.value v) w) (hS : S w)
    (h : wpAnyH P md ops Q S fuel (listed.setIfInBounds i true) { tmps := (l.set j v).toArray, defers := df } w)
    (hQ : ∀ c a w, Q (.panic c) (a.put oi.dst v) w → Q (.panic c) a w := by exact fun _ _ _ h => h) : wpAnyH P md ops Q S (fuel + 1) listed { tmps := l.toArray, defers := df } w := by
  simp only [Bool.and_eq_true] at hb
  obtain ⟨⟨⟨h1, h2⟩, h3⟩, h4⟩ := hb
  refine wpAnyH_take hi h1 h2 h3 hQ (Or.inl ⟨h4, hy⟩) hS ?_
  rw [hd]
  show wpAnyH P md ops Q S fuel _ { tmps := l.toArray.setIfInBounds j v, defers := df } w
  rw [show l.toArray.setIfInBounds j v = (l.set j v).toArray from uA l j v]
  exact h
end Go.Proofs.YtpcmcicnciejpaaGreat
