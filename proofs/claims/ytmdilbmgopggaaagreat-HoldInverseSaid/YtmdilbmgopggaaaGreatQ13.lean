/- The contracts of SameRanges and Same (the specification) where both are the same. Their conditions: both lie in memory. -/
import Derived.Test.YtmdilbmgopggaaaGreatQ02
import Derived.Test.YtmdilbmgopggaaaGreatQ12
import Derived.Deep.Slices
import Derived.Deep.Strs
import Derived.Test.YtmdilbmgopggaaaGreatQ00
import Derived.Test.YtmdilbmgopggaaaGreatQ07
set_option linter.unusedVariables false
set_option linter.unusedSimpArgs false
set_option linter.constructorNameAsVariable false
namespace Go.Proofs.YtmdilbmgopggaaaGreat

section
open Go.RowKit

/-- Blocks with their cells. -/
def Boxes (W : World) (L : List (Nat × TypeId × Array Value)) : Prop := ∀ p ∈ L, Blk W p.1 p.2.1 p.2.2
theorem Boxes.on {W W' : World} {L : List (Nat × TypeId × Array Value)} (h : Boxes W L) (hb : Below W.heap.size W W') : Boxes W' L := fun p hp => blkOn (h p hp) hb
theorem Boxes.new {W : World} {L : List (Nat × TypeId × Array Value)} (h : Boxes W L) (t : TypeId) (cs : Array Value) : Boxes (W.alloc (.cells cs t)) ((W.heap.size, t, cs) :: L) := fun p hp => by
  rcases List.mem_cons.1 hp with rfl | hp
  · exact Blk.new W t cs
  · exact (h p hp).alloc _
theorem rt_to {P : Program} {f : FuncId} {args : Array Value} {w : World} {r : Int × Int × Int} {x y z : Int} (h : Calls P f args w fun e w' => e = .returned (rt r) ∧ Below w.heap.size w w') (hr : r = (x, y, z)) :
    Calls P f args w fun e w' => e = .returned (.tuple #[rv x y, .int .i64 z]) ∧ Below w.heap.size w w' := by
  subst hr; exact h
theorem int_to {P : Program} {f : FuncId} {args : Array Value} {w : World} {r x : Int} (h : Calls P f args w fun e w' => e = .returned (.int .i64 r) ∧ Below w.heap.size w w') (hr : r = x) :
    Calls P f args w fun e w' => e = .returned (.int .i64 x) ∧ Below w.heap.size w w' := by
  subst hr; exact h
theorem bool_to {P : Program} {f : FuncId} {args : Array Value} {w : World} {r x : Bool} (h : Calls P f args w fun e w' => e = .returned (.bool r) ∧ Below w.heap.size w w') (hr : r = x) :
    Calls P f args w fun e w' => e = .returned (.bool x) ∧ Below w.heap.size w w' := by
  subst hr; exact h
def IntsP (w : World) (A : Option Addr) (cs : List Int) : Prop := cs = [] ∨ ∃ b o, A = some ⟨b, o, none⟩ ∧ b < w.heap.size ∧ IntsMem w b o cs
theorem IntsMem.below {w w' : World} {b o : Nat} {L : List Int} (h : IntsMem w b o L) (hB : Below w.heap.size w w') (hb : b < w.heap.size) : IntsMem w' b o L := fun k x hx => ((bcell hB).1 b _ hb).trans (h k x hx)
theorem IntsP.below {w w' : World} {A : Option Addr} {L : List Int} (h : IntsP w A L) (hB : Below w.heap.size w w') : IntsP w' A L := by
  rcases h with h | ⟨b, o, h1, h2, h3⟩
  · exact .inl h
  · exact .inr ⟨b, o, h1, Nat.lt_of_lt_of_le h2 hB.size, h3.below hB h2⟩
end

section
open Go.ChangeShapes Go.WideShapes Go.ChangeAt Go.RowKit Go.Joins Go.Deep

theorem Tryz.cellsRange : Tryz.prog.cellsOf 23 = 2 := by kernel_rfl
theorem Tryz.cellsInt : Tryz.prog.cellsOf 3 = 1 := by kernel_rfl
theorem pick_list {α : Type} {Q : Nat → α → Prop} : ∀ n : Nat, (∀ i, i < n → ∃ x, Q i x) → ∃ l : List α, l.length = n ∧ ∀ i x, l[i]? = some x → Q i x
  | 0, _ => ⟨[], rfl, fun i x h => by simp at h⟩
  | n + 1, h => by
    obtain ⟨l, hl, hq⟩ := pick_list n fun i hi => h i (by omega)
    obtain ⟨x, hx⟩ := h n (by omega)
    refine ⟨l ++ [x], by simp [hl], fun i y hy => ?_⟩
    rcases Nat.lt_or_ge i n with c | c
    · rw [List.getElem?_append_left (by omega)] at hy
      exact hq i y hy
    · rw [List.getElem?_append_right (by omega), hl] at hy
      have : i = n := by
        rcases Nat.eq_or_lt_of_le c with e | e
        · exact e.symm
        · rw [List.getElem?_eq_none (by simp; omega)] at hy; cases hy
      subst this
      simp at hy
      subst hy
      exact hx
theorem spot_none {w : World} {a : Addr} {v : Value} (h : w.cell? a = some v) : a = ⟨a.block, a.off, none⟩ ∧ a.block < w.heap.size := by
  obtain ⟨b, o, s⟩ := a
  unfold World.cell? at h
  dsimp only at h ⊢
  split at h
  · rename_i c e f hc
    cases s with
    | none => exact ⟨rfl, (Array.getElem?_eq_some_iff.1 hc).1⟩
    | some k => simp at h
  · cases h
theorem addr_add (b o i : Nat) : (⟨b, o, none⟩ : Addr).add i = ⟨b, o + i, none⟩ := by
  by_cases h : i = 0
  · subst h; simp [Addr.add]
  · simp [Addr.add, h]
theorem Tryz.cellsPoint : Tryz.prog.cellsOf 146 = 3 := by kernel_rfl
theorem Tryz.cellsTable : Tryz.prog.cellsOf 26 = 1 := by kernel_rfl
theorem Tryz.cellsPts : Tryz.prog.cellsOf 24 = 1 := by kernel_rfl

set_option maxRecDepth 100000 in
theorem open_pts {H : Type} {enc : TypeId × Value → H} {W : World} {fuel : Nat} {v : Value} {x : DataW H × List MemPlace} (h : DataW.trod enc Tryz.prog W 0 (fun _ => true) true fuel 24 [v] = some x) :
    ∃ (A : Option Addr) (n c : Nat) (ps : List P3), v = .slice A n c ∧ n = ps.length ∧ n ≤ maxLen ∧ Pts W A ps := by
  rcases open_slice Tryz.underlying24 h with ⟨e, _⟩ | ⟨a, len, cap, m, k, D, Pl, e, _, hl, hm, hmm, _, hi⟩
  · injection e with e _
    exact ⟨none, 0, 0, [], e, rfl, by unfold maxLen; omega, .inl rfl⟩
  · injection e with e _
    have hmc : m = cap := by simpa using hmm
    rw [Tryz.cellsPoint] at hi
    obtain ⟨ps, hps, hq⟩ := pick_list (Q := fun i (p : P3) => W.cell? (a.add (i * 3)) = some (.int .i64 p.1) ∧ W.cell? ((a.add (i * 3)).add 1) = some (.int .i64 p.2.1) ∧ W.cell? ((a.add (i * 3)).add 2) = some (.int .i64 p.2.2)) len (fun i hil => by
      obtain ⟨cs', h1, h2⟩ := hi i (by omega)
      obtain ⟨_, hlen, hat⟩ := World.cells?_some h1
      match cs', hlen with
      | [v0, v1, v2], _ =>
        obtain ⟨y0, y1, y2, k', _, _, i0, i1, i2⟩ := trod_struct3 Tryz.underlying146 h2
        simp only [Tryz.cellsInt] at i0 i1 i2
        obtain ⟨p0, e0, _, _⟩ := DataW.trod_int Tryz.underlying3 i0
        obtain ⟨p1, e1, _, _⟩ := DataW.trod_int Tryz.underlying3 i1
        obtain ⟨p2, e2, _, _⟩ := DataW.trod_int Tryz.underlying3 i2
        simp at e0 e1 e2
        subst e0 e1 e2
        exact ⟨(p0, p1, p2), by simpa [Addr.add] using hat 0 (by omega), by simpa using hat 1 (by omega), by simpa using hat 2 (by omega)⟩)
    refine ⟨some a, len, cap, ps, e, hps.symm, by omega, ?_⟩
    rcases Nat.lt_or_ge 0 len with c | c
    · obtain ⟨q0, _, _⟩ := hq 0 _ (List.getElem?_eq_getElem (show 0 < ps.length by omega))
      obtain ⟨ea, la⟩ := spot_none q0
      obtain ⟨b, o, s⟩ := a
      simp [Addr.add] at ea la
      subst ea
      exact .inr ⟨b, o, rfl, la, fun i p hp => by have h := hq i p hp; simp only [addr_add] at h; exact h⟩
    · exact .inl (List.eq_nil_of_length_eq_zero (by omega))
end

section
open Go.RowKit
attribute [local go_sem ↓] eqlRange neqRange
theorem below_drewM {B : Nat} {a w : World} (h : Below B a w) (n : Nat) : Below B a (w.drewN n) := h.trans ⟨rfl, rfl, rfl, Nat.le_refl _, fun _ _ => rfl⟩
/-- Runs in memory. -/
def RunsMem (w : World) (b o : Nat) (L : List (Int × Int)) : Prop := ∀ k r, L[k]? = some r → w.cell? ⟨b, o + k * 2, none⟩ = some (.int .i64 r.1) ∧ w.cell? ⟨b, o + k * 2 + 1, none⟩ = some (.int .i64 r.2)
theorem RunsMem.keep {w w' : World} {b o : Nat} {L : List (Int × Int)} (h : RunsMem w b o L) (hk : ∀ i, w'.cell? ⟨b, i, none⟩ = w.cell? ⟨b, i, none⟩) : RunsMem w' b o L := fun k p hp => by
  rw [hk, hk]; exact h k p hp
theorem RunsMem.below {w w' : World} {b o : Nat} {L : List (Int × Int)} (h : RunsMem w b o L) (hB : Below w.heap.size w w') (hb : b < w.heap.size) : RunsMem w' b o L := h.keep fun i => (bcell hB).1 b i hb

theorem eqPoint (a b c a' b' c' : Int) (w : World) : (Op.equalIn 10000 146 (.agg #[.int .i64 a, .int .i64 b, .int .i64 c]) (.agg #[.int .i64 a', .int .i64 b', .int .i64 c'])).run Tryz.prog w = .ok (a == a' && b == b' && c == c') w := by
  have u3 := Tryz.underlying3
  have hS : Tryz.prog.underlying 146 = some (.struct (Tryz.prog.fieldsOf 146)) := by kernel_rfl
  have hp : Tryz.prog.stoodInHeld 146 = false := by kernel_rfl
  rw [show (10000 : Nat) = 9999 + 1 from rfl, run_equalIn_agg w 9999 146 _ _ hS hp]
  simp only [Program.fieldsOf, Tryz.underlying146]
  go_simp
  by_cases h1 : a = a' <;> by_cases h2 : b = b' <;> by_cases h3 : c = c' <;> simp [h1, h2, h3]
@[go_sem] theorem eqGuardPoint (op : BinOp) (x y : Operand) (xs ys : Array Value) (w : World) : (eqGuard op 146 x y (.agg xs) (.agg ys)).run Tryz.prog w = .ok () w :=
  run_eqGuard_agg w op 146 x y xs ys (by kernel_rfl)
theorem neqPoint (a b c a' b' c' : Int) (w : World) : (binOp .neq 146 (.agg #[.int .i64 a, .int .i64 b, .int .i64 c]) (.agg #[.int .i64 a', .int .i64 b', .int .i64 c'])).run Tryz.prog w = .ok (.bool (!(a == a' && b == b' && c == c'))) w := by
  rw [run_neq_struct, eqPoint]; rfl
attribute [local go_sem ↓] neqPoint
end

end Go.Proofs.YtmdilbmgopggaaaGreat
