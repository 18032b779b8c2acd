/- The contracts of the closures that Where and Above ask of a place (fix). Their conditions: what they captured lies in memory; the numbers are those of a valid table. -/
import Derived.Test.YtmdilbmgopggaaaGreatQ07
set_option linter.unusedVariables false
set_option linter.unusedSimpArgs false
set_option linter.constructorNameAsVariable false
namespace Go.Proofs.YtmdilbmgopggaaaGreat

section
open Go.RowKit
attribute [local go_sem ↓] eqlRange neqRange
@[go_sem] theorem fieldLo (a b : Int) (w : World) : (Instr.field 23 (.agg #[.int .i64 a, .int .i64 b]) 0).run Tryz.prog w = .ok (.int .i64 a) w := by kernel_rfl
@[go_sem] theorem fieldHi (a b : Int) (w : World) : (Instr.field 23 (.agg #[.int .i64 a, .int .i64 b]) 1).run Tryz.prog w = .ok (.int .i64 b) w := by kernel_rfl

/-- a piece's cells -/
abbrev pCells (p q : P3) : Array Value := #[.int .i64 p.1, .int .i64 p.2.1, .int .i64 p.2.2, .int .i64 q.1, .int .i64 q.2.1, .int .i64 q.2.2]
/-- What such a closure reads. -/
def SixTwo (Bp Br : Nat) (p q : P3) (lo hi : Int) (w : World) : Prop :=
  w.cell? ⟨Bp, 0, none⟩ = some (.int .i64 p.1) ∧ w.cell? ⟨Bp, 1, none⟩ = some (.int .i64 p.2.1) ∧ w.cell? ⟨Bp, 2, none⟩ = some (.int .i64 p.2.2) ∧ w.cell? ⟨Bp, 3, none⟩ = some (.int .i64 q.1) ∧ w.cell? ⟨Bp, 4, none⟩ = some (.int .i64 q.2.1) ∧ w.cell? ⟨Bp, 5, none⟩ = some (.int .i64 q.2.2) ∧
  w.cell? ⟨Br, 0, none⟩ = some (.int .i64 lo) ∧ w.cell? ⟨Br, 1, none⟩ = some (.int .i64 hi)
theorem SixTwo.of {Bp Br : Nat} {p q : P3} {lo hi : Int} {w : World} (h : Blk w Bp 169 (pCells p q)) (h' : Blk w Br 23 #[.int .i64 lo, .int .i64 hi]) : SixTwo Bp Br p q lo hi w :=
  ⟨h.cell 0, h.cell 1, h.cell 2, h.cell 3, h.cell 4, h.cell 5, h'.cell 0, h'.cell 1⟩
theorem SixTwo.below {Bp Br : Nat} {p q : P3} {lo hi : Int} {w w' : World} (h : SixTwo Bp Br p q lo hi w) (hB : Below w.heap.size w w') (h1 : Bp < w.heap.size) (h2 : Br < w.heap.size) : SixTwo Bp Br p q lo hi w' := by
  have k := (bcell hB).1
  obtain ⟨a0, a1, a2, a3, a4, a5, b0, b1⟩ := h
  exact ⟨(k _ _ h1).trans a0, (k _ _ h1).trans a1, (k _ _ h1).trans a2, (k _ _ h1).trans a3, (k _ _ h1).trans a4, (k _ _ h1).trans a5, (k _ _ h2).trans b0, (k _ _ h2).trans b1⟩

set_option maxRecDepth 100000 in
set_option maxHeartbeats 1000000 in
theorem lowAsk (Bp Br : Nat) (p q : P3) (lo hi x : Int) (w : World) (h : Blk w Bp 169 (pCells p q)) (h' : Blk w Br 23 #[.int .i64 lo, .int .i64 hi]) (hp : Okp p) (hq : Okp q) (hx : 0 ≤ x) (hx' : x ≤ 1000000) :
    Calls Tryz.prog 173 #[.int .i64 x, .pointer (some ⟨Bp, 0, none⟩), .pointer (some ⟨Br, 0, none⟩)] w fun e w' => e = .returned (.bool (decide ((pAt p q x).1 ≤ hi))) ∧ Below w.heap.size w w' := by
  have hS := SixTwo.of h h'
  have h1 := h.lt
  have h2 := h'.lt
  have hd1 : Bp < w.drew.heap.size := h1
  have hd2 : Br < w.drew.heap.size := h2
  have HS := Lib.hid hS
  obtain ⟨a0, a1, a2, a3, a4, a5, b0, b1⟩ := hS
  have HP := Lib.hid hp; have HQ := Lib.hid hq
  clear h h' hp hq
  go_enter Tryz.func173, Tryz.ntmps173
  go_wp2_with fail
  go_region_held3 (fun w' => w'.cell? ⟨Bp, 0, none⟩ = some (.int .i64 p.1) ∧ w'.cell? ⟨Bp, 1, none⟩ = some (.int .i64 p.2.1) ∧ w'.cell? ⟨Bp, 2, none⟩ = some (.int .i64 p.2.2) ∧ w'.cell? ⟨Bp, 3, none⟩ = some (.int .i64 q.1) ∧ w'.cell? ⟨Bp, 4, none⟩ = some (.int .i64 q.2.1) ∧ w'.cell? ⟨Bp, 5, none⟩ = some (.int .i64 q.2.2) ∧
  w'.cell? ⟨Br, 0, none⟩ = some (.int .i64 lo) ∧ w'.cell? ⟨Br, 1, none⟩ = some (.int .i64 hi))
    (first | (go_keep; done) | exact SixTwo.below ‹_› hb hd1 hd2)
    (first | (go_at_call 174; refine (pieceAt_any p q x _ HP.out HQ.out hx hx').mono ?_; rintro e w1 ⟨rfl, hb⟩))
  go_wp2
  go_ret
  exact ⟨rfl, below_d hb⟩

set_option maxRecDepth 100000 in
set_option maxHeartbeats 1000000 in
theorem highAsk (Bp Br : Nat) (p q : P3) (lo hi x : Int) (w : World) (h : Blk w Bp 169 (pCells p q)) (h' : Blk w Br 23 #[.int .i64 lo, .int .i64 hi]) (hp : Okp p) (hq : Okp q) (hx : 0 ≤ x) (hx' : x ≤ 1000000) :
    Calls Tryz.prog 175 #[.int .i64 x, .pointer (some ⟨Bp, 0, none⟩), .pointer (some ⟨Br, 0, none⟩)] w fun e w' => e = .returned (.bool (decide (lo ≤ (pAt p q x).2))) ∧ Below w.heap.size w w' := by
  have hS := SixTwo.of h h'
  have h1 := h.lt
  have h2 := h'.lt
  have hd1 : Bp < w.drew.heap.size := h1
  have hd2 : Br < w.drew.heap.size := h2
  have HS := Lib.hid hS
  obtain ⟨a0, a1, a2, a3, a4, a5, b0, b1⟩ := hS
  have HP := Lib.hid hp; have HQ := Lib.hid hq
  clear h h' hp hq
  go_enter Tryz.func175, Tryz.ntmps175
  go_wp2_with fail
  go_region_held3 (fun w' => w'.cell? ⟨Bp, 0, none⟩ = some (.int .i64 p.1) ∧ w'.cell? ⟨Bp, 1, none⟩ = some (.int .i64 p.2.1) ∧ w'.cell? ⟨Bp, 2, none⟩ = some (.int .i64 p.2.2) ∧ w'.cell? ⟨Bp, 3, none⟩ = some (.int .i64 q.1) ∧ w'.cell? ⟨Bp, 4, none⟩ = some (.int .i64 q.2.1) ∧ w'.cell? ⟨Bp, 5, none⟩ = some (.int .i64 q.2.2) ∧
  w'.cell? ⟨Br, 0, none⟩ = some (.int .i64 lo) ∧ w'.cell? ⟨Br, 1, none⟩ = some (.int .i64 hi))
    (first | (go_keep; done) | exact SixTwo.below ‹_› hb hd1 hd2)
    (first | (go_at_call 174; refine (pieceAt_any p q x _ HP.out HQ.out hx hx').mono ?_; rintro e w1 ⟨rfl, hb⟩))
  go_wp2
  go_ret
  exact ⟨rfl, below_d hb⟩
end

end Go.Proofs.YtmdilbmgopggaaaGreat
