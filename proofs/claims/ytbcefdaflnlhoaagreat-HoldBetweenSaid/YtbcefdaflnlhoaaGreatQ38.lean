/- Fills in memory; the contract of SameFills where both are the same; what a state's surface is. Their conditions: the fills, the hold's tables lie in memory. -/
import Derived.Test.YtbcefdaflnlhoaaGreatQ29
import Derived.Test.YtbcefdaflnlhoaaGreatQ25
import Derived.Test.YtbcefdaflnlhoaaGreatQ06
set_option linter.unusedVariables false
set_option linter.unusedSimpArgs false
set_option linter.constructorNameAsVariable false
namespace Go.Proofs.YtbcefdaflnlhoaaGreat

section
open Go.RowKit

/-- Fills in memory. -/
def FillsMem (w : World) (b : Nat) (L : List FillD) : Prop := ∀ k r, L[k]? = some r → w.cell? ⟨b, k * 6, none⟩ = some (.int .i64 r.hold) ∧ w.cell? ⟨b, k * 6 + 1, none⟩ = some (.int .i64 r.st) ∧ w.cell? ⟨b, k * 6 + 2, none⟩ = some (.int .i64 r.x0) ∧ w.cell? ⟨b, k * 6 + 3, none⟩ = some (.int .i64 r.x1) ∧ w.cell? ⟨b, k * 6 + 4, none⟩ = some (.int .i64 r.d0) ∧ w.cell? ⟨b, k * 6 + 5, none⟩ = some (.int .i64 r.d1)
theorem FillsMem.below {w w' : World} {b : Nat} {L : List FillD} (h : FillsMem w b L) (hB : Below w.heap.size w w') (hb : b < w.heap.size) : FillsMem w' b L := fun k r hr => by
  have e := fun i => (bcell hB).1 b i hb
  rw [e, e, e, e, e, e]; exact h k r hr
/-- A slice of fills. -/
def SlFills (w : World) (v : Value) (L : List FillD) : Prop := (v = .slice none 0 0 ∧ L = []) ∨ ∃ b c, v = .slice (some ⟨b, 0, none⟩) L.length c ∧ b < w.heap.size ∧ FillsMem w b L
theorem SlFills.below {w w' : World} {v : Value} {L : List FillD} (h : SlFills w v L) (hB : Below w.heap.size w w') : SlFills w' v L := by
  rcases h with h | ⟨b, c, h1, h2, h3⟩
  · exact .inl h
  · exact .inr ⟨b, c, h1, Nat.lt_of_lt_of_le h2 hB.size, h3.below hB h2⟩
theorem neqFillSame (a b c d e f : Int) (w : World) : (binOp .neq 47 (.agg #[.int .i64 a, .int .i64 b, .int .i64 c, .int .i64 d, .int .i64 e, .int .i64 f]) (.agg #[.int .i64 a, .int .i64 b, .int .i64 c, .int .i64 d, .int .i64 e, .int .i64 f])).run Tryz.prog w = .ok (.bool false) w := by
  rw [run_neq_struct, eqFill]; simp
attribute [local go_sem ↓] neqFillSame
set_option maxRecDepth 100000 in
set_option maxHeartbeats 4000000 in
theorem sameFills_mem (b b' n c c' : Nat) (L : List FillD) (w : World) (hn : n = L.length) (hm : n ≤ 40) (hb : b < w.heap.size) (hb' : b' < w.heap.size) (h : FillsMem w b L) (h' : FillsMem w b' L) :
    Calls Tryz.prog 33 #[.slice (some ⟨b, 0, none⟩) n c, .slice (some ⟨b', 0, none⟩) n c'] w fun e w' => e = .returned (.bool true) ∧ Below w.heap.size w w' := by
  have HN := Lib.hid hn; clear hn
  have HC := Lib.hid h; have HC' := Lib.hid h'; clear h h'
  go_enter Tryz.func33, Tryz.ntmps33
  go_wp2_with fail
  go_loopw [5] (fun i wr => ∃ k : Nat, k ≤ n ∧ i = .int .i64 k ∧ Below w.heap.size w wr) (fun i _ => n - (intOf i).toNat)
  case atStart => exact ⟨0, by omega, rfl, Below.refl _ _⟩
  case round =>
    obtain ⟨k, hk, rfl, hB⟩ := hrel
    by_cases hlt : k < n
    · have hp : ∃ p, L[k]? = some p := ⟨_, List.getElem?_eq_getElem (show k < L.length by rw [← HN.out]; exact hlt)⟩
      obtain ⟨⟨r1, r2, r3, r4, r5, r6⟩, hp⟩ := hp
      obtain ⟨c0, c1, c2, c3, c4, c5⟩ := HC.out k _ hp
      obtain ⟨d0, d1, d2, d3, d4, d5⟩ := HC'.out k _ hp
      rw [← hB.cell (p := ⟨b, k * 6, none⟩) hb] at c0
      rw [← hB.cell (p := ⟨b, k * 6 + 1, none⟩) hb] at c1
      rw [← hB.cell (p := ⟨b, k * 6 + 2, none⟩) hb] at c2
      rw [← hB.cell (p := ⟨b, k * 6 + 3, none⟩) hb] at c3
      rw [← hB.cell (p := ⟨b, k * 6 + 4, none⟩) hb] at c4
      rw [← hB.cell (p := ⟨b, k * 6 + 5, none⟩) hb] at c5
      rw [← hB.cell (p := ⟨b', k * 6, none⟩) hb'] at d0
      rw [← hB.cell (p := ⟨b', k * 6 + 1, none⟩) hb'] at d1
      rw [← hB.cell (p := ⟨b', k * 6 + 2, none⟩) hb'] at d2
      rw [← hB.cell (p := ⟨b', k * 6 + 3, none⟩) hb'] at d3
      rw [← hB.cell (p := ⟨b', k * 6 + 4, none⟩) hb'] at d4
      rw [← hB.cell (p := ⟨b', k * 6 + 5, none⟩) hb'] at d5
      clear hp
      dsimp only at c0 c1 c2 c3 c4 c5 d0 d1 d2 d3 d4 d5
      go_wp2_with fail
      go_quiet (fail)
      go_wp2
      go_roundw
      case rel => exact ⟨k + 1, by omega, by go_num, below_drewM hB _⟩
      case measure => simp [intOf]; omega
    · go_wp2
      go_ret
      exact ⟨rfl, hB⟩
set_option maxRecDepth 100000 in
theorem sameFills_nil (w : World) : Calls Tryz.prog 33 #[.slice none 0 0, .slice none 0 0] w fun e w' => e = .returned (.bool true) ∧ Below w.heap.size w w' := by
  go_enter Tryz.func33, Tryz.ntmps33
  go_wp2_with fail
  go_loopw [5] (fun i wr => i = .int .i64 0 ∧ Below w.heap.size w wr) (fun i _ => 0)
  case atStart => exact ⟨rfl, Below.refl _ _⟩
  case round =>
    obtain ⟨rfl, hB⟩ := hrel
    go_wp2
    go_ret
    exact ⟨rfl, hB⟩
theorem sameFills_any (x y : Value) (L : List FillD) (w : World) (hm : L.length ≤ 40) (h : SlFills w x L) (h' : SlFills w y L) (hne : L = [] ↔ x = .slice none 0 0) (hne' : L = [] ↔ y = .slice none 0 0) :
    Calls Tryz.prog 33 #[x, y] w fun e w' => e = .returned (.bool true) ∧ Below w.heap.size w w' := by
  rcases h with ⟨rfl, e⟩ | ⟨b, c, rfl, h1, h2⟩
  · have := hne'.1 e
    subst this
    exact sameFills_nil w
  · rcases h' with ⟨rfl, e⟩ | ⟨b', c', rfl, h3, h4⟩
    · have := hne.1 e
      simp at this
    · exact sameFills_mem b b' _ c c' L w rfl hm h1 h3 h2 h4
/-- the ullages of a state -/
def surS (h : HoldD) (f : FillD) : Int × Int := if f.st = 0 then (lastX h.vol, lastX h.vol) else if f.st ≤ 2 then (firstX h.vol, firstX h.vol) else (f.x0, f.x1)
theorem surf_kind (vol mom hei : List P3) (id al ah t0 t1 u0 u1 v0 v1 h0 h1 : Int) (A B C : Option Addr) (n c mm d l ee : Nat) (fh st x0 x1 d0 d1 : Int) (w : World) (hp : TabIn w A n vol) (ht : tabOk vol = true) (q0 : 0 ≤ st) (q5 : st ≤ 5) (su su' : Int) (hs : surS ⟨id, al, ah, vol, mom, hei, t0, t1, u0, u1, v0, v1, h0, h1⟩ ⟨fh, st, x0, x1, d0, d1⟩ = (su, su')) :
    ∃ (j0 j1 j2 j3 k : Nat) (pe de se : Int), mM st = #[fnV j0, fnV j1, fnV j2, fnV j3, fnV k, .int .i64 pe, .int .i64 de, .int .i64 se] ∧ (k = 186 ∨ k = 190 ∨ k = 194) ∧
      (∀ W, Below w.heap.size w W → Calls Tryz.prog k #[.agg #[.int .i64 id, .int .i64 al, .int .i64 ah, .slice A n c, .slice B mm d, .slice C l ee, .int .i64 t0, .int .i64 t1, .int .i64 u0, .int .i64 u1, .int .i64 v0, .int .i64 v1, .int .i64 h0, .int .i64 h1], .agg #[.int .i64 fh, .int .i64 st, .int .i64 x0, .int .i64 x1, .int .i64 d0, .int .i64 d1]] W fun e w' => e = .returned (rv su su') ∧ Below W.heap.size W w') := by
  rcases st_cases q0 q5 with rfl | rfl | rfl | rfl | rfl | rfl
  · have e : (lastX vol, lastX vol) = (su, su') := hs
    injection e with e1 e2
    subst e1 e2
    exact ⟨_, _, _, _, _, _, _, _, rfl, by decide, fun W hW => emptySur_to vol id al ah t0 t1 u0 u1 v0 v1 h0 h1 A B C n c mm d l ee fh 0 x0 x1 d0 d1 W (hp.below hW) ht⟩
  · have e : (firstX vol, firstX vol) = (su, su') := hs
    injection e with e1 e2
    subst e1 e2
    exact ⟨_, _, _, _, _, _, _, _, rfl, by decide, fun W hW => filledSur_to vol id al ah t0 t1 u0 u1 v0 v1 h0 h1 A B C n c mm d l ee fh 1 x0 x1 d0 d1 W (hp.below hW) ht⟩
  · have e : (firstX vol, firstX vol) = (su, su') := hs
    injection e with e1 e2
    subst e1 e2
    exact ⟨_, _, _, _, _, _, _, _, rfl, by decide, fun W hW => filledSur_to vol id al ah t0 t1 u0 u1 v0 v1 h0 h1 A B C n c mm d l ee fh 2 x0 x1 d0 d1 W (hp.below hW) ht⟩
  · have e : (x0, x1) = (su, su') := hs
    injection e with e1 e2
    subst e1 e2
    exact ⟨_, _, _, _, _, _, _, _, rfl, by decide, fun W hW => partlySur_to id al ah t0 t1 u0 u1 v0 v1 h0 h1 A B C n c mm d l ee fh 3 x0 x1 d0 d1 W⟩
  · have e : (x0, x1) = (su, su') := hs
    injection e with e1 e2
    subst e1 e2
    exact ⟨_, _, _, _, _, _, _, _, rfl, by decide, fun W hW => partlySur_to id al ah t0 t1 u0 u1 v0 v1 h0 h1 A B C n c mm d l ee fh 4 x0 x1 d0 d1 W⟩
  · have e : (x0, x1) = (su, su') := hs
    injection e with e1 e2
    subst e1 e2
    exact ⟨_, _, _, _, _, _, _, _, rfl, by decide, fun W hW => partlySur_to id al ah t0 t1 u0 u1 v0 v1 h0 h1 A B C n c mm d l ee fh 5 x0 x1 d0 d1 W⟩
end

end Go.Proofs.YtbcefdaflnlhoaaGreat
