/- Fills in memory; the contract of SameFills where both are the same; what a state's surface is. Their conditions: the fills, the hold's tables lie in memory. -/
import Derived.Test.YtemlaaipnhmcoaaGreatR34
import Derived.Test.YtemlaaipnhmcoaaGreatR37
import Derived.Test.YtemlaaipnhmcoaaGreatR08
set_option linter.unusedVariables false
set_option linter.unusedSimpArgs false
set_option linter.constructorNameAsVariable false
namespace Go.Proofs.YtemlaaipnhmcoaaGreat

section
open Go.RowKit

def FillsMem (w : World) (b : Nat) (L : List FillD) : Prop := ∀ k r, L[k]? = some r → w.cell? ⟨b, k * 6, none⟩ = some (.int .i64 r.hold) ∧ w.cell? ⟨b, k * 6 + 1, none⟩ = some (.int .i64 r.st) ∧ w.cell? ⟨b, k * 6 + 2, none⟩ = some (.int .i64 r.x0) ∧ w.cell? ⟨b, k * 6 + 3, none⟩ = some (.int .i64 r.x1) ∧ w.cell? ⟨b, k * 6 + 4, none⟩ = some (.int .i64 r.d0) ∧ w.cell? ⟨b, k * 6 + 5, none⟩ = some (.int .i64 r.d1)
theorem FillsMem.below {w w' : World} {b : Nat} {L : List FillD} (h : FillsMem w b L) (hB : Below w.heap.size w w') (hb : b < w.heap.size) : FillsMem w' b L := fun k r hr => by
  have e := fun i => (bcell hB).1 b i hb
  rw [e, e, e, e, e, e]; exact h k r hr
def SlFills (w : World) (v : Value) (L : List FillD) : Prop := (v = .slice none 0 0 ∧ L = []) ∨ ∃ b c, v = .slice (some ⟨b, 0, none⟩) L.length c ∧ b < w.heap.size ∧ FillsMem w b L
theorem SlFills.below {w w' : World} {v : Value} {L : List FillD} (h : SlFills w v L) (hB : Below w.heap.size w w') : SlFills w' v L := by
  rcases h with h | ⟨b, c, h1, h2, h3⟩
  · exact .inl h
  · exact .inr ⟨b, c, h1, Nat.lt_of_lt_of_le h2 hB.size, h3.below hB h2⟩
theorem neqFillSame (a b c d e f : Int) (w : World) : (binOp .neq 55 (.agg #[.int .i64 a, .int .i64 b, .int .i64 c, .int .i64 d, .int .i64 e, .int .i64 f]) (.agg #[.int .i64 a, .int .i64 b, .int .i64 c, .int .i64 d, .int .i64 e, .int .i64 f])).run Tryz.prog w = .ok (.bool false) w := by
  rw [run_neq_struct, eqFill]; simp
attribute [local go_sem ↓] neqFillSame
def surS (h : HoldD) (f : FillD) : Int × Int := if f.st = 0 then (lastX h.vol, lastX h.vol) else if f.st ≤ 2 then (firstX h.vol, firstX h.vol) else (f.x0, f.x1)
theorem surf_kind (vol mom hei : List P3) (id al ah t0 t1 u0 u1 v0 v1 h0 h1 : Int) (A B C : Option Addr) (n c mm d l ee : Nat) (fh st x0 x1 d0 d1 : Int) (w : World) (hp : TabIn w A n vol) (ht : tabOk vol = true) (q0 : 0 ≤ st) (q5 : st ≤ 5) (su su' : Int) (hs : surS ⟨id, al, ah, vol, mom, hei, t0, t1, u0, u1, v0, v1, h0, h1⟩ ⟨fh, st, x0, x1, d0, d1⟩ = (su, su')) :
    ∃ (j0 j1 j2 j3 k : Nat) (pe de se : Int), mM st = #[fnV j0, fnV j1, fnV j2, fnV j3, fnV k, .int .i64 pe, .int .i64 de, .int .i64 se] ∧ (k = 189 ∨ k = 193 ∨ k = 197) ∧
      (∀ W, Below w.heap.size w W → Calls Tryz.prog k #[.agg #[.int .i64 id, .int .i64 al, .int .i64 ah, .slice A n c, .slice B mm d, .slice C l ee, .int .i64 t0, .int .i64 t1, .int .i64 u0, .int .i64 u1, .int .i64 v0, .int .i64 v1, .int .i64 h0, .int .i64 h1], .agg #[.int .i64 fh, .int .i64 st, .int .i64 x0, .int .i64 x1, .int .i64 d0, .int .i64 d1]] W fun e w' => e = .returned (rv su su') ∧ Below W.heap.size W w') := by
  rcases st_cases q0 q5 with rfl | rfl | rfl | rfl | rfl | rfl
  · have e : (lastX vol, lastX vol) = (su, su') := hs
    injection e with e1 e2
    subst e1 e2
    exact ⟨_, _, _, _, _, _, _, _, rfl, by decide, fun W hW => emptySur_to vol id al ah t0 t1 u0 u1 v0 v1 h0 h1 A B C n c mm d l ee fh 0 x0 x1 d0 d1 W (hp.below hW) ht⟩
  · have e : (firstX vol, firstX vol) = (su, su') := hs
    injection e with e1 e2
    subst e1 e2
    exact ⟨_, _, _, _, _, _, _, _, rfl, by decide, fun W hW => filledSur_to vol id al ah t0 t1 u0 u1 v0 v1 h0 h1 A B C n c mm d l ee fh 1 x0 x1 d0 d1 W (hp.below hW) ht⟩
  · have e : (firstX vol, firstX vol) = (su, su') := hs
    injection e with e1 e2
    subst e1 e2
    exact ⟨_, _, _, _, _, _, _, _, rfl, by decide, fun W hW => filledSur_to vol id al ah t0 t1 u0 u1 v0 v1 h0 h1 A B C n c mm d l ee fh 2 x0 x1 d0 d1 W (hp.below hW) ht⟩
  · have e : (x0, x1) = (su, su') := hs
    injection e with e1 e2
    subst e1 e2
    exact ⟨_, _, _, _, _, _, _, _, rfl, by decide, fun W hW => partlySur_to id al ah t0 t1 u0 u1 v0 v1 h0 h1 A B C n c mm d l ee fh 3 x0 x1 d0 d1 W⟩
  · have e : (x0, x1) = (su, su') := hs
    injection e with e1 e2
    subst e1 e2
    exact ⟨_, _, _, _, _, _, _, _, rfl, by decide, fun W hW => partlySur_to id al ah t0 t1 u0 u1 v0 v1 h0 h1 A B C n c mm d l ee fh 4 x0 x1 d0 d1 W⟩
  · have e : (x0, x1) = (su, su') := hs
    injection e with e1 e2
    subst e1 e2
    exact ⟨_, _, _, _, _, _, _, _, rfl, by decide, fun W hW => partlySur_to id al ah t0 t1 u0 u1 v0 v1 h0 h1 A B C n c mm d l ee fh 5 x0 x1 d0 d1 W⟩
end

end Go.Proofs.YtemlaaipnhmcoaaGreat
