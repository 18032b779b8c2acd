/- The contracts of growing.take and Mul (fix and its specification). No conditions but that the numbers are those of ints. -/
import Derived.Test.YtmenlaefekkahaaA5
import Derived.LoopN
import Derived.Laws.AppendOwn
import Derived.Laws.OwnMore
import Derived.Deep.RegionWith
import Derived.Laws.NewBlocks
set_option linter.unusedVariables false
set_option linter.unusedSimpArgs false
set_option linter.constructorNameAsVariable false
namespace Go.Proofs.Ytmenlaefekkahaa
open Go.RowKit
attribute [local go_sem ↓] eqlRange neqRange

def Blk (w : World) (g : Nat) (t : TypeId) (cs : Array Value) : Prop := w.heap[g]? = some (.cells cs t (0, 0))
section
variable {w w' : World} {g : Nat} {t : TypeId} {cs : Array Value}
theorem Blk.lt (h : Blk w g t cs) : g < w.heap.size := by
  rcases Nat.lt_or_ge g w.heap.size with hlt | hge
  · exact hlt
  · unfold Blk at h; rw [Array.getElem?_eq_none hge] at h; cases h
theorem Blk.cell (h : Blk w g t cs) (i : Nat) : w.cell? ⟨g, i, none⟩ = cs[i]? := cell_of_row w g i cs t (0, 0) h
theorem Blk.frozen (h : Blk w g t cs) (i : Nat) : w.frozen? ⟨g, i, none⟩ = false := by
  unfold Blk at h
  simp [World.frozen?, h]
theorem Blk.new (w : World) (t : TypeId) (cs : Array Value) : Blk (w.alloc (.cells cs t)) w.heap.size t cs := heap_alloc_new w _
theorem Blk.drew (h : Blk w g t cs) : Blk w.drew g t cs := h
theorem Blk.drewN (h : Blk w g t cs) (n : Nat) : Blk (w.drewN n) g t cs := h
theorem Blk.alloc (h : Blk w g t cs) (o : Obj) : Blk (w.alloc o) g t cs := (Below.heap_alloc w o g h.lt).trans h
theorem Blk.set_ (h : Blk w g t cs) (i : Nat) (u : Value) : Blk (w.setCell ⟨g, i, none⟩ u) g t (cs.setIfInBounds i u) := by
  unfold Blk at h ⊢
  simp [World.setCell, Array.getElem?_modify, h]
theorem Blk.far (h : Blk w g t cs) {p : Addr} (hp : g ≠ p.block) (u : Value) : Blk (w.setCell p u) g t cs := (Below.heap_setCell w p u g hp).trans h
theorem Blk.below {B : Nat} (h : Blk w g t cs) (hb : Below B w w') (hg : g < B) : Blk w' g t cs := (hb.block g hg).trans h
theorem Blk.grown {row : Option Nat} (h : Blk w g t cs) (hb : w.grownBy w' row) (hg : some g ≠ row) : Blk w' g t cs := (hb.block g h.lt hg).trans h
end

/-- Only block g, and what is new, has turned. -/
def Only (g : Nat) (w w' : World) : Prop := w.grownBy w' (some g)
theorem Only.drew {g : Nat} {a w : World} (h : Only g a w) : Only g a w.drew := ⟨h.os, h.tape, h.output, h.size, h.block⟩
theorem Only.drewN {g : Nat} {a w : World} (h : Only g a w) (n : Nat) : Only g a (w.drewN n) := ⟨h.os, h.tape, h.output, h.size, h.block⟩
theorem Only.refl (g : Nat) (w : World) : Only g w w := World.grownBy.refl w _
theorem Only.of_below {g : Nat} {a w : World} (h : Below a.heap.size a w) : Only g a w := ⟨h.os, h.tape, h.output, h.size, fun i hi _ => h.block i hi⟩
theorem Only.trans {g : Nat} {a b c : World} (h : Only g a b) (k : Only g b c) : Only g a c :=
  ⟨k.os.trans h.os, k.tape.trans h.tape, k.output.trans h.output, Nat.le_trans h.size k.size, fun i hi hne => (k.block i (Nat.lt_of_lt_of_le hi h.size) hne).trans (h.block i hi hne)⟩
theorem Only.setCell {g : Nat} {a w : World} (h : Only g a w) {p : Addr} (hp : p.block = g ∨ a.heap.size ≤ p.block) (u : Value) : Only g a (w.setCell p u) :=
  ⟨h.os, h.tape, h.output, by simpa [World.setCell] using h.size, fun i hi hne => (Below.heap_setCell w p u i (by
    rintro rfl
    rcases hp with hp | hp
    · exact hne (by rw [hp])
    · omega)).trans (h.block i hi hne)⟩
theorem Only.cells {g : Nat} {w w' : World} (h : Only g w w') : (∀ b o, b < w.heap.size → b ≠ g → w'.cell? ⟨b, o, none⟩ = w.cell? ⟨b, o, none⟩) ∧ (∀ b o, b < w.heap.size → b ≠ g → w'.frozen? ⟨b, o, none⟩ = w.frozen? ⟨b, o, none⟩) :=
  ⟨fun b o hb hne => World.cell?_of_block (h.block b hb (fun e => hne (by injection e))), fun b o hb hne => World.frozen?_of_block (h.block b hb (fun e => hne (by injection e)))⟩
/-- A block that is new. -/
theorem Only.below {g : Nat} {a w w' : World} (h : Only g w w') (hb : Below a.heap.size a w) (hg : a.heap.size ≤ g) : Below a.heap.size a w' :=
  hb.trans ⟨h.os, h.tape, h.output, h.size, fun i hi => h.block i (Nat.lt_of_lt_of_le hi hb.size) (fun e => by injection e with e; omega)⟩

/-- what a growing range holds -/
abbrev growCells (lo hi : Int) (some : Bool) : Array Value := #[.int .i64 lo, .int .i64 hi, .bool some]

theorem blk3 {w : World} {g : Nat} {t : TypeId} {lo hi : Int} {s : Bool} (h : Blk w g t (growCells lo hi s)) (a b : Int) :
    Blk (((w.setCell ⟨g, 0, none⟩ (.int .i64 a)).setCell ⟨g, 1, none⟩ (.int .i64 b)).setCell ⟨g, 2, none⟩ (.bool true)) g t (growCells a b true) := by
  have h3 := ((h.set_ 0 (.int .i64 a)).set_ 1 (.int .i64 b)).set_ 2 (.bool true)
  simpa [growCells] using h3
theorem only3 (w : World) (g : Nat) (x y z : Value) : Only g w (((w.setCell ⟨g, 0, none⟩ x).setCell ⟨g, 1, none⟩ y).setCell ⟨g, 2, none⟩ z) :=
  (((Only.refl g w).setCell (p := ⟨g, 0, none⟩) (.inl rfl) x).setCell (p := ⟨g, 1, none⟩) (.inl rfl) y).setCell (p := ⟨g, 2, none⟩) (.inl rfl) z
theorem Only.alloc {g : Nat} {a w : World} (h : Only g a w) (o : Obj) : Only g a (w.alloc o) := h.trans (Only.of_below ((Below.refl _ _).alloc (Nat.le_refl _) _))

theorem take_first (g : Nat) (lo hi a b : Int) (w : World) (h : Blk w g 92 (growCells lo hi false)) :
    Calls Try.prog 80 #[.pointer (some ⟨g, 0, none⟩), rv a b] w fun e w' => e = .returned (.tuple #[]) ∧ Blk w' g 92 (growCells a b true) ∧ Only g w w' := by
  have hg := h.lt
  have c0 := h.cell 0
  have c1 := h.cell 1
  have c2 := h.cell 2
  have f0 := h.frozen 0
  have f1 := h.frozen 1
  have f2 := h.frozen 2
  simp at c0 c1 c2
  have HB := Lib.hid h; clear h
  go_enter Try.func80, Try.ntmps80
  go_wp2
  go_end0
  refine ⟨rfl, ?_, ?_⟩
  · exact (blk3 HB.out a b).alloc _
  · exact (only3 w g _ _ _).alloc _

theorem hull0_to (a b c d x y : Int) (w : World) (hx : min a c = x) (hy : max b d = y) :
    Calls Try.prog 85 #[rv a b, rv c d] w fun e w' => e = .returned (rv x y) ∧ Below w.heap.size w w' := by
  subst hx; subst hy; exact hull0_any a b c d w

theorem take_core (g : Nat) (lo hi a b x y : Int) (w : World) (h : Blk w g 92 (growCells lo hi true)) (hx : min lo a = x) (hy : max hi b = y) :
    Calls Try.prog 80 #[.pointer (some ⟨g, 0, none⟩), rv a b] w fun e w' => e = .returned (.tuple #[]) ∧ Blk w' g 92 (growCells x y true) ∧ Only g w w' := by
  have C := fun W => hull0_to lo hi a b x y W hx hy
  clear hx hy
  have HC := Lib.hid C; clear C
  have hg := h.lt
  have c0 := h.cell 0
  have c1 := h.cell 1
  have c2 := h.cell 2
  have f0 := h.frozen 0
  have f1 := h.frozen 1
  have f2 := h.frozen 2
  simp at c0 c1 c2
  have HB := Lib.hid h; clear h
  go_enter Try.func80, Try.ntmps80
  go_wp2_with fail
  go_region_with (go_at_call 85; refine (HC.out _).mono ?_; rintro e w1 ⟨rfl, hb⟩; obtain ⟨hc, hf⟩ := bcell hb)
  all_goals go_wp2
  all_goals
    go_end0
    have hb' : Below w.heap.size w w1 := below_a1 (below_d hb)
    have hz : w.heap.size < w1.heap.size := by have := hb.size; simp at this; omega
    refine ⟨rfl, ?_, ?_⟩
    · exact blk3 (((HB.out.below hb' hg).far (p := ⟨w.heap.size, 0, none⟩) (by simp; omega) _).far (p := ⟨w.heap.size, 1, none⟩) (by simp; omega) _) x y
    · exact (((Only.of_below hb').setCell (p := ⟨w.heap.size, 0, none⟩) (.inr (Nat.le_refl _)) _).setCell (p := ⟨w.heap.size, 1, none⟩) (.inr (Nat.le_refl _)) _).trans (only3 _ g _ _ _)
theorem take_more (g : Nat) (lo hi a b : Int) (w : World) (h : Blk w g 92 (growCells lo hi true)) :
    Calls Try.prog 80 #[.pointer (some ⟨g, 0, none⟩), rv a b] w fun e w' => e = .returned (.tuple #[]) ∧ Blk w' g 92 (growCells (min lo a) (max hi b) true) ∧ Only g w w' :=
  take_core g lo hi a b _ _ w h rfl rfl
end Go.Proofs.Ytmenlaefekkahaa
