/- The contracts of CheckTable, domain, checkPlaces, rise and at of a piece (fix). Their condition: the table's points lie in memory. -/
import Derived.LoopN
import Derived.Laws.AppendOwn
import Derived.Laws.OwnMore
import Derived.Deep.RegionWith
import Derived.Laws.NewBlocks
import Derived.Test.YtemlaaipnhmcoaaGreatR00
import Derived.StillTailTactics
set_option linter.unusedVariables false
set_option linter.unusedSimpArgs false
set_option linter.constructorNameAsVariable false
namespace Go.Proofs.YtemlaaipnhmcoaaGreat

section
open Go.RowKit
attribute [local go_sem ↓] eqlRange neqRange
def Blk (w : World) (g : Nat) (t : TypeId) (cs : Array Value) : Prop := w.heap[g]? = some (.cells cs t (0, 0))
section
variable {w w' : World} {g : Nat} {t : TypeId} {cs : Array Value}
theorem Blk.lt (h : Blk w g t cs) : g < w.heap.size := by
  rcases Nat.lt_or_ge g w.heap.size with hlt | hge
  · exact hlt
  · unfold Blk at h; rw [Array.getElem?_eq_none hge] at h; cases h
theorem Blk.cell (h : Blk w g t cs) (i : Nat) : w.cell? ⟨g, i, none⟩ = cs[i]? := cell_of_row w g i cs t (0, 0) h
theorem Blk.frozen (h : Blk w g t cs) (i : Nat) : w.frozen? ⟨g, i, none⟩ = false := by
  unfold Blk at h
  simp [World.frozen?, h]
theorem Blk.new (w : World) (t : TypeId) (cs : Array Value) : Blk (w.alloc (.cells cs t)) w.heap.size t cs := heap_alloc_new w _
theorem Blk.drew (h : Blk w g t cs) : Blk w.drew g t cs := h
theorem Blk.drewN (h : Blk w g t cs) (n : Nat) : Blk (w.drewN n) g t cs := h
theorem Blk.alloc (h : Blk w g t cs) (o : Obj) : Blk (w.alloc o) g t cs := (Below.heap_alloc w o g h.lt).trans h
theorem Blk.set_ (h : Blk w g t cs) (i : Nat) (u : Value) : Blk (w.setCell ⟨g, i, none⟩ u) g t (cs.setIfInBounds i u) := by
  unfold Blk at h ⊢
  simp [World.setCell, Array.getElem?_modify, h]
theorem Blk.far (h : Blk w g t cs) {p : Addr} (hp : g ≠ p.block) (u : Value) : Blk (w.setCell p u) g t cs := (Below.heap_setCell w p u g hp).trans h
theorem Blk.below {B : Nat} (h : Blk w g t cs) (hb : Below B w w') (hg : g < B) : Blk w' g t cs := (hb.block g hg).trans h
theorem Blk.grown {row : Option Nat} (h : Blk w g t cs) (hb : w.grownBy w' row) (hg : some g ≠ row) : Blk w' g t cs := (hb.block g h.lt hg).trans h
end

def Only (g : Nat) (w w' : World) : Prop := w.grownBy w' (some g)
theorem Only.drew {g : Nat} {a w : World} (h : Only g a w) : Only g a w.drew := ⟨h.os, h.tape, h.output, h.size, h.block⟩
theorem Only.drewN {g : Nat} {a w : World} (h : Only g a w) (n : Nat) : Only g a (w.drewN n) := ⟨h.os, h.tape, h.output, h.size, h.block⟩
theorem Only.refl (g : Nat) (w : World) : Only g w w := World.grownBy.refl w _
theorem Only.of_below {g : Nat} {a w : World} (h : Below a.heap.size a w) : Only g a w := ⟨h.os, h.tape, h.output, h.size, fun i hi _ => h.block i hi⟩
theorem Only.trans {g : Nat} {a b c : World} (h : Only g a b) (k : Only g b c) : Only g a c :=
  ⟨k.os.trans h.os, k.tape.trans h.tape, k.output.trans h.output, Nat.le_trans h.size k.size, fun i hi hne => (k.block i (Nat.lt_of_lt_of_le hi h.size) hne).trans (h.block i hi hne)⟩
theorem Only.setCell {g : Nat} {a w : World} (h : Only g a w) {p : Addr} (hp : p.block = g ∨ a.heap.size ≤ p.block) (u : Value) : Only g a (w.setCell p u) :=
  ⟨h.os, h.tape, h.output, by simpa [World.setCell] using h.size, fun i hi hne => (Below.heap_setCell w p u i (by
    rintro rfl
    rcases hp with hp | hp
    · exact hne (by rw [hp])
    · omega)).trans (h.block i hi hne)⟩
theorem Only.cells {g : Nat} {w w' : World} (h : Only g w w') : (∀ b o, b < w.heap.size → b ≠ g → w'.cell? ⟨b, o, none⟩ = w.cell? ⟨b, o, none⟩) ∧ (∀ b o, b < w.heap.size → b ≠ g → w'.frozen? ⟨b, o, none⟩ = w.frozen? ⟨b, o, none⟩) :=
  ⟨fun b o hb hne => World.cell?_of_block (h.block b hb (fun e => hne (by injection e))), fun b o hb hne => World.frozen?_of_block (h.block b hb (fun e => hne (by injection e)))⟩
theorem Only.below {g : Nat} {a w w' : World} (h : Only g w w') (hb : Below a.heap.size a w) (hg : a.heap.size ≤ g) : Below a.heap.size a w' :=
  hb.trans ⟨h.os, h.tape, h.output, h.size, fun i hi => h.block i (Nat.lt_of_lt_of_le hi hb.size) (fun e => by injection e with e; omega)⟩

abbrev growCells (lo hi : Int) (some : Bool) : Array Value := #[.int .i64 lo, .int .i64 hi, .bool some]

theorem blk3 {w : World} {g : Nat} {t : TypeId} {lo hi : Int} {s : Bool} (h : Blk w g t (growCells lo hi s)) (a b : Int) :
    Blk (((w.setCell ⟨g, 0, none⟩ (.int .i64 a)).setCell ⟨g, 1, none⟩ (.int .i64 b)).setCell ⟨g, 2, none⟩ (.bool true)) g t (growCells a b true) := by
  have h3 := ((h.set_ 0 (.int .i64 a)).set_ 1 (.int .i64 b)).set_ 2 (.bool true)
  simpa [growCells] using h3
theorem only3 (w : World) (g : Nat) (x y z : Value) : Only g w (((w.setCell ⟨g, 0, none⟩ x).setCell ⟨g, 1, none⟩ y).setCell ⟨g, 2, none⟩ z) :=
  (((Only.refl g w).setCell (p := ⟨g, 0, none⟩) (.inl rfl) x).setCell (p := ⟨g, 1, none⟩) (.inl rfl) y).setCell (p := ⟨g, 2, none⟩) (.inl rfl) z
theorem Only.alloc {g : Nat} {a w : World} (h : Only g a w) (o : Obj) : Only g a (w.alloc o) := h.trans (Only.of_below ((Below.refl _ _).alloc (Nat.le_refl _) _))

theorem take_first (g : Nat) (lo hi a b : Int) (w : World) (h : Blk w g 177 (growCells lo hi false)) :
  Calls Tryz.prog 175 #[.pointer (some ⟨g, 0, none⟩), rv a b] w fun e w' => e = .returned (.tuple #[]) ∧ Blk w' g 177 (growCells a b true) ∧ Only g w w' := by
 have hg := h.lt
 have c0 := h.cell 0
 have c1 := h.cell 1
 have c2 := h.cell 2
 have f0 := h.frozen 0
 have f1 := h.frozen 1
 have f2 := h.frozen 2
 simp at c0 c1 c2
 have HB := Lib.hid h; clear h
 go_enter Tryz.func175, Tryz.ntmps175
 go_wp2
 go_end0
 refine ⟨rfl, ?_, ?_⟩
 ·exact (blk3 HB.out a b).alloc _
 ·exact (only3 w g _ _ _).alloc _

theorem hull0_to (a b c d x y : Int) (w : World) (hx : min a c = x) (hy : max b d = y) :
    Calls Tryz.prog 173 #[rv a b, rv c d] w fun e w' => e = .returned (rv x y) ∧ Below w.heap.size w w' := by
  subst hx; subst hy; exact hull0_any a b c d w

theorem take_core (g : Nat) (lo hi a b x y : Int) (w : World) (h : Blk w g 177 (growCells lo hi true)) (hx : min lo a = x) (hy : max hi b = y) :
  Calls Tryz.prog 175 #[.pointer (some ⟨g, 0, none⟩), rv a b] w fun e w' => e = .returned (.tuple #[]) ∧ Blk w' g 177 (growCells x y true) ∧ Only g w w' := by
 have C := fun W => hull0_to lo hi a b x y W hx hy
 clear hx hy
 have HC := Lib.hid C; clear C
 have hg := h.lt
 have c0 := h.cell 0
 have c1 := h.cell 1
 have c2 := h.cell 2
 have f0 := h.frozen 0
 have f1 := h.frozen 1
 have f2 := h.frozen 2
 simp at c0 c1 c2
 have HB := Lib.hid h; clear h
 go_enter Tryz.func175, Tryz.ntmps175
 go_wp2_with fail
 go_region_with (go_at_call 173; refine (HC.out _).mono ?_; rintro e w1 ⟨rfl, hb⟩; obtain ⟨hc, hf⟩ := bcell hb)
 all_goals go_wp2
 all_goals
  go_end0
  have hb' : Below w.heap.size w w1 := below_a1 (below_d hb)
  have hz : w.heap.size < w1.heap.size := by have := hb.size; simp at this; omega
  refine ⟨rfl, ?_, ?_⟩
  ·exact blk3 (((HB.out.below hb' hg).far (p := ⟨w.heap.size, 0, none⟩) (by simp; omega) _).far (p := ⟨w.heap.size, 1, none⟩) (by simp; omega) _) x y
  ·exact (((Only.of_below hb').setCell (p := ⟨w.heap.size, 0, none⟩) (.inr (Nat.le_refl _)) _).setCell (p := ⟨w.heap.size, 1, none⟩) (.inr (Nat.le_refl _)) _).trans (only3 _ g _ _ _)
theorem take_more (g : Nat) (lo hi a b : Int) (w : World) (h : Blk w g 177 (growCells lo hi true)) :
    Calls Tryz.prog 175 #[.pointer (some ⟨g, 0, none⟩), rv a b] w fun e w' => e = .returned (.tuple #[]) ∧ Blk w' g 177 (growCells (min lo a) (max hi b) true) ∧ Only g w w' :=
  take_core g lo hi a b _ _ w h rfl rfl
end

section
open Go.RowKit
attribute [local go_sem ↓] eqlRange neqRange
abbrev P3 := Int × Int × Int
def Pts (w : World) (A : Option Addr) (ps : List P3) : Prop :=
  ps = [] ∨ ∃ b o, A = some ⟨b, o, none⟩ ∧ b < w.heap.size ∧ ∀ k p, ps[k]? = some p →
    w.cell? ⟨b, o + k * 3, none⟩ = some (.int .i64 p.1) ∧ w.cell? ⟨b, o + k * 3 + 1, none⟩ = some (.int .i64 p.2.1) ∧ w.cell? ⟨b, o + k * 3 + 2, none⟩ = some (.int .i64 p.2.2)
theorem Pts.keep {w w' : World} {A : Option Addr} {ps : List P3} (h : Pts w A ps) (hs : w.heap.size ≤ w'.heap.size) (hk : ∀ b o, b < w.heap.size → w'.cell? ⟨b, o, none⟩ = w.cell? ⟨b, o, none⟩) : Pts w' A ps := by
  rcases h with h | ⟨b, o, hA, hb, hc⟩
  · exact .inl h
  · refine .inr ⟨b, o, hA, by omega, fun k p hp => ?_⟩
    rw [hk _ _ hb, hk _ _ hb, hk _ _ hb]
    exact hc k p hp
theorem Pts.below {w w' : World} {A : Option Addr} {ps : List P3} (h : Pts w A ps) (hb : Below w.heap.size w w') : Pts w' A ps := h.keep hb.size (bcell hb).1

def ptOk (last : Int) (p : P3) : Bool := decide (last < p.1) && (decide (p.1 ≤ 1000000) && inB p.2.1 p.2.2 (-1000000000) 1000000000)
def ptsOk : Int → List P3 → Bool
  | _, [] => true
  | last, p :: ps => ptOk last p && ptsOk p.1 ps
def tabOk (ps : List P3) : Bool := decide (1 ≤ ps.length ∧ ps.length ≤ 40) && ptsOk (-1) ps
abbrev tv (A : Option Addr) (n c : Nat) : Value := .agg #[.slice A n c]

theorem bounds_any (x lo hi : Int) (w : World) :
  Calls Tryz.prog 204 #[.agg #[.int .i64 x, .int .i64 lo, .int .i64 hi]] w fun e w' => e = .returned (rv lo hi) ∧ Below w.heap.size w w' := by
 go_enter Tryz.func204, Tryz.ntmps204
 go_wp2
 refine bodyPost_ret (v := rv lo hi) (by simp [results, Tryz.results204, go_sem]) rfl ⟨rfl, ?_⟩
 exact ((Below.refl _ _).alloc (Nat.le_refl _) _).alloc (by simp) _

theorem ptsOk_at {last : Int} {ps : List P3} {k : Nat} {p : P3} (h : ps[k]? = some p) : ptsOk last (ps.drop k) = (ptOk last p && ptsOk p.1 (ps.drop (k + 1))) := by
  have hk : k < ps.length := (List.getElem?_eq_some_iff.1 h).1
  have e : ps.drop k = p :: ps.drop (k + 1) := by
    rw [List.drop_eq_getElem_cons hk]
    rw [List.getElem?_eq_getElem hk] at h
    injection h with h
    rw [h]
  rw [e]; rfl

theorem checkTable_loop (b o n c : Nat) (ps : List P3) (w : World) (hb : b < w.heap.size) (hn : n = ps.length) (h1 : 1 ≤ n) (h2 : n ≤ 40)
  (hc : ∀ k p, ps[k]? = some p → w.cell? ⟨b, o + k * 3, none⟩ = some (.int .i64 p.1) ∧ w.cell? ⟨b, o + k * 3 + 1, none⟩ = some (.int .i64 p.2.1) ∧ w.cell? ⟨b, o + k * 3 + 2, none⟩ = some (.int .i64 p.2.2)) :
  Calls Tryz.prog 164 #[tv (some ⟨b, o, none⟩) n c] w fun e w' => e = .returned (.int .i64 (if ptsOk (-1) ps = true then 0 else 11)) ∧ Below w.heap.size w w' := by
 have HN := Lib.hid hn; clear hn
 have HC := Lib.hid hc; clear hc
 have t1 : ¬ (n : Int) < 1 := by omega
 have t2 : ¬ (40 : Int) < (n : Int) := by omega
 generalize hr : ptsOk (-1) ps = r
 have HR := Lib.hid hr; clear hr
 go_enter Tryz.func164, Tryz.ntmps164
 go_wp2_with fail
 go_loopw [3, 19] (fun l i wr => ∃ (k : Nat) (last : Int), k ≤ n ∧ i = .int .i64 k ∧ l = .int .i64 last ∧ Below w.heap.size w wr ∧ Hid (ptsOk last (ps.drop k) = r)) (fun _ i _ => n - (intOf i).toNat)
 case atStart => exact ⟨0, -1, by omega, rfl, rfl, (Below.refl _ _).alloc (Nat.le_refl _) _, HR.out⟩
 case round =>
  obtain ⟨k, last, hk, rfl, rfl, hB, HP⟩ := hrel
  by_cases hlt : k < n
  ·have hp : ∃ p, ps[k]? = some p := ⟨_, List.getElem?_eq_getElem (show k < ps.length by rw [← HN.out]; exact hlt)⟩
   obtain ⟨p, hp⟩ := hp
   obtain ⟨c0, c1, c2⟩ := HC.out k p hp
   rw [← hB.cell (p := ⟨b, o + k * 3, none⟩) hb] at c0
   rw [← hB.cell (p := ⟨b, o + k * 3 + 1, none⟩) hb] at c1
   rw [← hB.cell (p := ⟨b, o + k * 3 + 2, none⟩) hb] at c2
   have HA := Lib.hid (ptsOk_at (last := last) hp); clear hp
   obtain ⟨x, lo, hi⟩ := p
   dsimp only at c0 c1 c2
   by_cases hx1 : last < x
   ·by_cases hx2 : x ≤ 1000000
    ·have hin := fun W => within_any lo hi (-1000000000) 1000000000 W
     cases hq : inB lo hi (-1000000000) 1000000000
     ·have hf : r = false := by
       have h1 := HP.out; have h2 := HA.out
       rw [← h1, h2]; simp [ptOk, hq]
      rw [hq] at hin
      have HIN := Lib.hid hin; clear hin hq HP HA HR
      subst hf
      go_wp2_with fail
      refine (bounds_any _ _ _ _).mono ?_
      rintro e w1 ⟨rfl, hb1⟩
      go_wp2_with fail
      refine (around_any 1000000000 _ (by omega) (by omega)).mono ?_
      rintro e w2 ⟨rfl, hb2⟩
      go_wp2_with fail
      refine (HIN.out _).mono ?_
      rintro e w3 ⟨rfl, hb3⟩
      go_wp2
      go_ret
      exact ⟨rfl, hB.trans ((below_a1 (below_then (below_then hb1 hb2) hb3)).mono hB.size)⟩
     ·have hP : ptsOk x (ps.drop (k + 1)) = r := by
       have h1 := HP.out; have h2 := HA.out
       rw [← h1, h2]; simp [ptOk, hq, hx1, hx2]
      rw [hq] at hin
      have HIN := Lib.hid hin; clear hin hq HP HA HR
      have HP := Lib.hid hP; clear hP
      go_wp2_with fail
      refine (bounds_any _ _ _ _).mono ?_
      rintro e w1 ⟨rfl, hb1⟩
      obtain ⟨hc1, hf1⟩ := bcell hb1
      have hz1 : wr.heap.size < w1.heap.size := by have := hb1.size; simp at this; omega
      go_wp2_with fail
      refine (around_any 1000000000 _ (by omega) (by omega)).mono ?_
      rintro e w2 ⟨rfl, hb2⟩
      obtain ⟨hc2, hf2⟩ := bcell hb2
      have hz2 : wr.heap.size < w2.heap.size := by have := hb2.size; omega
      go_wp2_with fail
      refine (HIN.out _).mono ?_
      rintro e w3 ⟨rfl, hb3⟩
      obtain ⟨hc3, hf3⟩ := bcell hb3
      have hB3 := hB.trans ((below_a1 (below_then (below_then hb1 hb2) hb3)).mono hB.size)
      go_wp2
      go_roundw
      case rel => exact ⟨k + 1, x, by omega, by go_num, rfl, hB3, HP⟩
      case measure => simp [intOf]; omega
    ·have hf : r = false := by
      have h1 := HP.out; have h2 := HA.out
      rw [← h1, h2]; simp [ptOk, hx2]
     subst hf
     clear HP HA HR
     go_wp2
     go_ret
     exact ⟨rfl, hB.trans ((below_a1 (Below.refl _ _)).mono hB.size)⟩
   ·have hf : r = false := by
     have h1 := HP.out; have h2 := HA.out
     rw [← h1, h2]; simp [ptOk, hx1]
    subst hf
    clear HP HA HR
    go_wp2
    go_ret
    exact ⟨rfl, hB.trans ((below_a1 (Below.refl _ _)).mono hB.size)⟩
  ·have hf : r = true := by
    have h1 := HP.out
    rw [← h1, List.drop_eq_nil_of_le (by have := HN.out; omega)]; rfl
   subst hf
   clear HP HR
   go_wp2
   go_ret
   exact ⟨rfl, hB⟩
end

section
open Go.RowKit
attribute [local go_sem ↓] eqlRange neqRange
theorem checkTable_any (A : Option Addr) (n c : Nat) (ps : List P3) (w : World) (hn : n = ps.length) (hm : n ≤ maxLen) (hp : Pts w A ps) :
  Calls Tryz.prog 164 #[tv A n c] w fun e w' => e = .returned (.int .i64 (if tabOk ps = true then 0 else 11)) ∧ Below w.heap.size w w' := by
 unfold maxLen at hm
 by_cases h : 1 ≤ n ∧ n ≤ 40
 ·have e : tabOk ps = ptsOk (-1) ps := by unfold tabOk; rw [← hn]; simp [h]
  rw [e]
  rcases hp with hp | ⟨b, o, rfl, hb, hc⟩
  ·exfalso; rw [hp] at hn; simp at hn; omega
  ·exact checkTable_loop b o n c ps w hb hn h.1 h.2 hc
 ·have e : tabOk ps = false := by unfold tabOk; rw [← hn]; simp; omega
  rw [e]
  clear e hn hp
  have h2 : (n : Int) < 1 ∨ (¬ (n : Int) < 1 ∧ (40 : Int) < (n : Int)) := by omega
  clear h
  rcases h2 with h2 | ⟨h2, h3⟩
  all_goals
   go_enter Tryz.func164, Tryz.ntmps164
   go_wp2
   go_ret
   exact ⟨rfl, (Below.refl _ _).alloc (Nat.le_refl _) _⟩

set_option maxRecDepth 100000 in
theorem domain_any (b o m c : Nat) (x xl : Int) (w : World) (hm : (m : Int) ≤ 1000000) (hb : b < w.heap.size) (h0 : w.cell? ⟨b, o, none⟩ = some (.int .i64 x)) (hl : w.cell? ⟨b, o + m * 3, none⟩ = some (.int .i64 xl)) :
  Calls Tryz.prog 219 #[tv (some ⟨b, o, none⟩) (m + 1) c] w fun e w' => e = .returned (rv x xl) ∧ Below w.heap.size w w' := by
 have k1 : (0 : Int) ≤ (m : Int) := by omega
 have k2 : (m : Int) < (m : Int) + 1 := by omega
 have k3 : IntKind.i64.wrap ((m : Int) + 1 - 1) = (m : Int) := by rw [IntWalk.i64_in _ ⟨by omega, by omega⟩]; omega
 go_enter Tryz.func219, Tryz.ntmps219
 go_wp2_with fail
 have z0 : ((w.alloc (.cells #[.slice (some ⟨b, o, none⟩) (m + 1) c] 33)).alloc (.cells #[.int .i64 0, .int .i64 0] 30)).cell? ⟨w.heap.size, 0, none⟩ = some (.slice (some ⟨b, o, none⟩) (m + 1) c) := by simp [go_sem]
 have z1 : ((w.alloc (.cells #[.slice (some ⟨b, o, none⟩) (m + 1) c] 33)).alloc (.cells #[.int .i64 0, .int .i64 0] 30)).cell? ⟨b, o, none⟩ = some (.int .i64 x) := by
  rw [World.cell?_alloc_lt _ _ _ (by simp; omega), World.cell?_alloc_lt _ _ _ hb]; exact h0
 have z2 : ((w.alloc (.cells #[.slice (some ⟨b, o, none⟩) (m + 1) c] 33)).alloc (.cells #[.int .i64 0, .int .i64 0] 30)).cell? ⟨b, o + m * 3, none⟩ = some (.int .i64 xl) := by
  rw [World.cell?_alloc_lt _ _ _ (by simp; omega), World.cell?_alloc_lt _ _ _ hb]; exact hl
 go_region
 go_wp2
 refine bodyPost_ret (v := rv x xl) (by simp [results, Tryz.results219, go_sem]) rfl ⟨rfl, ?_⟩
 exact (((Below.refl _ _).alloc (Nat.le_refl _) _).alloc (by simp) _).drew

theorem mul_between2 (m n A B : Int) (hm : -A ≤ m) (hm' : m ≤ A) (hn : -B ≤ n) (hn' : n ≤ B) : -(A * B) ≤ m * n ∧ m * n ≤ A * B := by
  have h0 := absI_le m A hm hm'
  have h1 := absI_le n B hn hn'
  have hA : 0 ≤ A := Int.le_trans (absI_nn m) h0
  have h2 : absI (m * n) ≤ A * B := by
    rw [absI_mul]
    exact Int.mul_le_mul h0 h1 (absI_nn n) hA
  exact of_absI_le h2

def riseS (x dx dy : Int) : Int := x * dy / max dx 1
theorem rise_any (x dx dy : Int) (w : World) (hx : -1000000 ≤ x) (hx' : x ≤ 1000000) (hd : dx ≤ 1000000) (hy : -2000000000 ≤ dy) (hy' : dy ≤ 2000000000) :
  Calls Tryz.prog 208 #[.int .i64 x, .int .i64 dx, .int .i64 dy] w fun e w' => e = .returned (.int .i64 (riseS x dx dy)) ∧ w = w' := by
 unfold riseS
 obtain ⟨m1, m2⟩ := mul_between2 x dy 1000000 2000000000 hx hx' hy hy'
 have hm : 1 ≤ max dx 1 := by omega
 rcases Int.lt_or_le dx 1 with h | h
 ·have e : max dx 1 = 1 := by omega
  rw [e]
  clear e hm
  go_enter Tryz.func208, Tryz.ntmps208
  go_wp2_with fail
  refine (floor_any _ 1 _ (by omega) (by omega) (by omega)).mono ?_
  rintro e w' ⟨rfl, rfl⟩
  go_wp2
  go_ret
  exact ⟨by simp, rfl⟩
 ·have e : max dx 1 = dx := by omega
  rw [e]
  clear e hm
  go_enter Tryz.func208, Tryz.ntmps208
  go_wp2_with fail
  all_goals
   refine (floor_any _ _ _ (by omega) (by omega) (by omega)).mono ?_
   rintro e w' ⟨rfl, rfl⟩
   go_wp2
   go_ret
   exact ⟨by first | rfl | (congr 3; omega), rfl⟩
theorem riseS_bounds (x dx dy : Int) (hx : -1000000 ≤ x) (hx' : x ≤ 1000000) (hy : -2000000000 ≤ dy) (hy' : dy ≤ 2000000000) : -2000000000000000 ≤ riseS x dx dy ∧ riseS x dx dy ≤ 2000000000000000 := by
  obtain ⟨m1, m2⟩ := mul_between2 x dy 1000000 2000000000 hx hx' hy hy'
  exact ediv_between _ _ 2000000000000000 (by omega) (by omega) (by omega) (by omega)
end

end Go.Proofs.YtemlaaipnhmcoaaGreat
