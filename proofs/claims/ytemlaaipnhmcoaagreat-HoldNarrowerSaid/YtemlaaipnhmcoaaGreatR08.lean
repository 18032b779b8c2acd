/- The contracts of SameRanges and Same (the specification) where both are the same. Their conditions: both lie in memory. -/
import Derived.Deep.AppendLies
import Derived.RangeFuncBox
import Derived.Deep.RegionLaw
import Derived.RangeFuncCalls
import Derived.WalkSmall
import Derived.RegionTactic
import Derived.BigRegion
import Derived.Test.YtemlaaipnhmcoaaGreatR04
import Derived.Test.YtemlaaipnhmcoaaGreatR02
import Derived.Test.YtemlaaipnhmcoaaGreatR05
import Derived.Test.YtemlaaipnhmcoaaGreatR07
import Derived.Deep.Onto
import Derived.Deep.DeepCutAuto
import Derived.Deep.RegionHeld3
import Derived.Test.YtemlaaipnhmcoaaGreatR01
set_option linter.unusedVariables false
set_option linter.unusedSimpArgs false
set_option linter.constructorNameAsVariable false
namespace Go.Proofs.YtemlaaipnhmcoaaGreat

section
open Go.RowKit

theorem Tryz.infoR : (Tryz.prog.info? 30).map (fun i => (i.zero, i.size, i.bytes)) = some (some (.agg #[.int .i64 0, .int .i64 0]), 2, 16) := by kernel_rfl

def runCells (l : List (Int × Int)) : List Value := l.flatMap fun r => [.int .i64 r.1, .int .i64 r.2]
theorem runCells_len (l : List (Int × Int)) : (runCells l).length = l.length * 2 := by
  induction l with
  | nil => rfl
  | cons x l ih => simp [runCells] at ih ⊢; omega
theorem runCells_snoc (l : List (Int × Int)) (r : Int × Int) : runCells (l ++ [r]) = runCells l ++ [.int .i64 r.1, .int .i64 r.2] := by simp [runCells]
def OwnRuns (base : Nat) (w : World) (v : Value) (l : List (Int × Int)) : Prop := w.ownsRow base 30 2 v l.length (runCells l)

def addRun (l : List (Int × Int)) (r : Int × Int) : List (Int × Int) :=
  match l.getLast? with
  | some z => if r.1 = z.2 then l.dropLast ++ [(z.1, r.2)] else l ++ [r]
  | none => [r]

theorem keeps_drewN (w : World) (n : Nat) : KeepsOthers w (w.drewN n) := ⟨Nat.le_refl _, fun _ _ h _ => h⟩
def Most (base g : Nat) (w w' : World) : Prop := w'.os = w.os ∧ w'.tape = w.tape ∧ w'.output = w.output ∧ w.heap.size ≤ w'.heap.size ∧ ∀ i, i < base → i ≠ g → w'.heap[i]? = w.heap[i]?
theorem Most.of_only {base g : Nat} {w w' : World} (h : Only g w w') (hb : base ≤ w.heap.size) : Most base g w w' := ⟨h.os, h.tape, h.output, h.size, fun i hi hne => h.block i (by omega) (fun e => hne (by injection e))⟩
theorem Only.of_grownNone {g : Nat} {w w' : World} (h : w.grownBy w' none) : Only g w w' := ⟨h.os, h.tape, h.output, h.size, fun i hi _ => h.block i hi (by simp)⟩
theorem keeps_grownNone {w w' : World} (h : w.grownBy w' none) : KeepsOthers w w' := KeepsOthers.of_grownBy h (fun _ _ e => by cases e)

def RunsAt (g base : Nat) (w : World) (L : List (Int × Int)) : Prop := ∃ v, Blk w g 195 #[v] ∧ OwnRuns base w v L
def AddsRun (g base : Nat) (w : World) (L : List (Int × Int)) (e : Ending) (w' : World) : Prop := e = .returned (.tuple #[]) ∧ RunsAt g base w' L ∧ Most base g w w' ∧ KeepsOthers w w'

set_option maxRecDepth 100000 in
set_option maxHeartbeats 2000000 in
theorem runsAdd_first (g base : Nat) (a b : Int) (w : World) (h : Blk w g 195 #[.slice none 0 0]) (hbase : base ≤ w.heap.size) :
  Calls Tryz.prog 206 #[.pointer (some ⟨g, 0, none⟩), rv a b] w (AddsRun g base w [(a, b)]) := by
 obtain ⟨i0, hi, hz0, hz1, hz2⟩ := info_parts Tryz.infoR
 have c0 := h.cell 0
 have f0 := h.frozen 0
 have hgl := h.lt
 simp at c0
 have HB := Lib.hid h; clear h
 have hown : OwnRuns base w (.slice none 0 0) [] := World.ownsRow_nil _ _ _ _
 have HOW := Lib.hid (World.ownsRow.alloc (World.ownsRow.alloc hown (.cells #[.int .i64 a, .int .i64 b] 30)) (.cells #[.int .i64 a, .int .i64 b] 30)); clear hown
 have hnb : ∀ k, (((w.alloc (.cells #[.int .i64 a, .int .i64 b] 30)).drewN k).alloc (.cells #[.int .i64 a, .int .i64 b] 30)).heap[w.heap.size + 1]? = some (.cells #[.int .i64 a, .int .i64 b] 30 (0, 0)) := fun k => by
  have h1 := heap_alloc_new ((w.alloc (.cells #[.int .i64 a, .int .i64 b] 30)).drewN k) (.cells #[.int .i64 a, .int .i64 b] 30)
  have h2 : ((w.alloc (.cells #[.int .i64 a, .int .i64 b] 30)).drewN k).heap.size = w.heap.size + 1 := by show (w.alloc _).heap.size = _; simp
  rw [h2] at h1; exact h1
 have HNB := Lib.hid hnb; clear hnb
 go_enter Tryz.func206, Tryz.ntmps206
 go_wp2_with fail
 go_quiet (fail)
 go_wp2_with fail
 go_region_law (refine step_append_lies _ (by rfl) _ _ _ (by rfl) base 30 i0 _ 2 16 Tryz.underlying150 hi hz0 hz1 hz2 rfl (by omega) (.slice none 0 0) 0 [] (by rfl) (by exact HOW.out) ⟨w.heap.size + 1, 0, none⟩ 1 1 [.int .i64 a, .int .i64 b] (by rfl) (by rfl) (World.news_of_block (cs := #[.int .i64 a, .int .i64 b]) (t := 30) (fr := (0, 0)) (by exact HNB.out _)) (by simp [Value.oneCell']) (by omega) (by simp [maxLen]) (by omega) (by simp; omega) (w.heap.size + 1 + 1) (by simp) ?_; intro gg cap w1 hown1 hgrow hat hlt; have hB1 := (((HB.out.alloc (.cells #[.int .i64 a, .int .i64 b] 30)).drewN _).alloc (.cells #[.int .i64 a, .int .i64 b] 30)).grown hgrow (by simp [Value.ownBlock]); have f1 := hB1.frozen 0; have c1 := hB1.cell 0; simp at c1)
 all_goals
  have hO : Only g w (w1.setCell ⟨g, 0, none⟩ (.slice (some ⟨gg, 0, none⟩) 1 cap)) := ((((((Only.refl g w).alloc _).drewN _).alloc _).trans (Only.of_grownNone hgrow)).setCell (p := ⟨g, 0, none⟩) (.inl rfl) _)
  have hK : KeepsOthers w (w1.setCell ⟨g, 0, none⟩ (.slice (some ⟨gg, 0, none⟩) 1 cap)) := (((KeepsOthers.alloc w _).trans ((keeps_drewN _ _).trans (KeepsOthers.alloc _ _))).trans (keeps_grownNone hgrow)).trans (KeepsOthers.setCell _ _ _)
  have hB2 := hB1.set_ 0 (.slice (some ⟨gg, 0, none⟩) 1 cap)
  have hne : (Value.slice (some ⟨gg, 0, none⟩) (0 + 1) cap).ownBlock = none ∨ (Value.slice (some ⟨gg, 0, none⟩) (0 + 1) cap).ownBlock ≠ some g := by
   right
   simp [Value.ownBlock]
   rcases hat with hat | hat
   ·simp [Value.ownBlock] at hat
   ·omega
  have hown2 := World.ownsRow.kept hown1 (grownBy_setCell' w1 g (.slice (some ⟨gg, 0, none⟩) 1 cap)) hne
  go_end0
  refine ⟨rfl, ⟨_, by simpa using hB2, ?_⟩, Most.of_only hO hbase, hK⟩
  exact hown2

theorem ownsRow_drewN {w : World} {base : Nat} {e : TypeId} {size : Nat} {v : Value} {n : Nat} {xs : List Value} (h : w.ownsRow base e size v n xs) (k : Nat) : (w.drewN k).ownsRow base e size v n xs := h
theorem runCells_last (init : List (Int × Int)) (z : Int × Int) : (runCells (init ++ [z]))[init.length * 2 + 1]? = some (.int .i64 z.2) := by
  rw [runCells_snoc, List.getElem?_append_right (by rw [runCells_len]; omega), runCells_len]
  simp
theorem runCells_set (init : List (Int × Int)) (z : Int × Int) (b : Int) : (runCells (init ++ [z])).set (init.length * 2 + 1) (.int .i64 b) = runCells (init ++ [(z.1, b)]) := by
  rw [runCells_snoc, runCells_snoc, List.set_append]
  simp [runCells_len]
  intro h; omega

set_option maxRecDepth 100000 in
set_option maxHeartbeats 2000000 in
theorem runsAdd_merge (g base : Nat) (init : List (Int × Int)) (z : Int × Int) (b : Int) (w : World) (h : RunsAt g base w (init ++ [z])) (hbase : base ≤ w.heap.size) (hm : init.length ≤ 1000000) :
  Calls Tryz.prog 206 #[.pointer (some ⟨g, 0, none⟩), rv z.2 b] w (AddsRun g base w (init ++ [(z.1, b)])) := by
 obtain ⟨v, hb, ho⟩ := h
 have ho' : w.ownsRow base 30 2 v (init.length + 1) (runCells (init ++ [z])) := by unfold OwnRuns at ho; rwa [List.length_append] at ho
 obtain ⟨g2, cap, rfl, hbg, hgl2⟩ := ho'.form (by omega)
 have hz := (ho'.cellAt (init.length * 2 + 1) (by omega)).trans (runCells_last init z)
 have hfz := ho'.frozenAt (init.length * 2 + 1)
 have hst := (ho'.stored (init.length * 2 + 1) (.int .i64 b)).1
 have hgr := (ho'.stored (init.length * 2 + 1) (.int .i64 b)).2
 rw [runCells_set] at hst
 have c0 := hb.cell 0
 have hgl := hb.lt
 simp at c0
 have hne : g ≠ g2 := by
  rcases ho'.2 with ⟨h1, _⟩ | ⟨g3, cap3, cur3, h1, _, h2, _⟩
  ·cases h1
  ·simp only [Value.slice.injEq, Option.some.injEq, Addr.mk.injEq, and_true, true_and] at h1
   obtain ⟨rfl, rfl⟩ := h1
   rintro rfl
   unfold Blk at hb
   rw [hb] at h2
   injection h2 with h2
   injection h2 with _ h2
   exact absurd h2 (by decide)
 have HB := Lib.hid hb; have HO := Lib.hid ho'; clear hb ho ho' hst hgr
 generalize hml : init.length = m at *
 have k1 : (0 : Int) ≤ (m : Int) := by omega
 have k2 : (m : Int) < (m : Int) + 1 := by omega
 have k3 : IntKind.i64.wrap ((m : Int) + 1 - 1) = (m : Int) := by rw [IntWalk.i64_in _ ⟨by omega, by omega⟩]; omega
 have HML := Lib.hid hml; clear hml
 go_enter Tryz.func206, Tryz.ntmps206
 go_wp2_with fail
 go_quiet (fail)
 go_wp2_with fail
 go_region
 go_wp2
 have hX := ownsRow_drewN (HO.out.alloc (.cells #[.int .i64 z.2, .int .i64 b] 30)) (nq + 1)
 have hst := (hX.stored (m * 2 + 1) (.int .i64 b)).1
 rw [← HML.out, runCells_set] at hst
 have hB2 := ((HB.out.alloc (.cells #[.int .i64 z.2, .int .i64 b] 30)).drewN (nq + 1)).far (p := ⟨g2, m * 2 + 1, none⟩) hne (.int .i64 b)
 refine bodyPost_ret (results_none rfl _ _ _) rfl ⟨rfl, ⟨_, hB2, ?_⟩, ⟨rfl, rfl, rfl, ?_, ?_⟩, ?_⟩
 ·unfold OwnRuns
  rw [List.length_append, ← HML.out]
  exact hst
 ·simp [World.setCell]
 ·intro i hi _
  refine (Below.heap_setCell _ _ _ i (by show i ≠ g2; omega)).trans ?_
  exact Below.heap_alloc w _ i (by omega)
 ·exact ((KeepsOthers.alloc w _).trans (keeps_drewN _ _)).trans (KeepsOthers.setCell _ _ _)
end

section
open Go.RowKit

set_option maxRecDepth 100000 in
set_option maxHeartbeats 2000000 in
theorem runsAdd_push (g base : Nat) (init : List (Int × Int)) (z : Int × Int) (a b : Int) (w : World) (h : RunsAt g base w (init ++ [z])) (hbase : base ≤ w.heap.size) (hm : init.length ≤ 1000000) (hne0 : ¬ a = z.2) :
  Calls Tryz.prog 206 #[.pointer (some ⟨g, 0, none⟩), rv a b] w (AddsRun g base w ((init ++ [z]) ++ [(a, b)])) := by
 obtain ⟨i0, hi, hz0, hz1, hz2⟩ := info_parts Tryz.infoR
 obtain ⟨v, hb, ho⟩ := h
 have ho' : w.ownsRow base 30 2 v (init.length + 1) (runCells (init ++ [z])) := by unfold OwnRuns at ho; rwa [List.length_append] at ho
 obtain ⟨g2, cap, rfl, hbg, hgl2⟩ := ho'.form (by omega)
 have hz := (ho'.cellAt (init.length * 2 + 1) (by omega)).trans (runCells_last init z)
 have c0 := hb.cell 0
 have f0 := hb.frozen 0
 have hgl := hb.lt
 simp at c0
 have hne : g ≠ g2 ∧ ∃ cur, w.heap[g2]? = some (.cells cur 30 (0, 0)) := by
  rcases ho'.2 with ⟨h1, _⟩ | ⟨g3, cap3, cur3, h1, _, h2, _⟩
  ·cases h1
  ·simp only [Value.slice.injEq, Option.some.injEq, Addr.mk.injEq, and_true, true_and] at h1
   obtain ⟨rfl, rfl⟩ := h1
   refine ⟨?_, _, h2⟩
   rintro rfl
   unfold Blk at hb
   rw [hb] at h2
   injection h2 with h2
   injection h2 with _ h2
   exact absurd h2 (by decide)
 obtain ⟨hne, cur, hcur⟩ := hne
 have HCU := Lib.hid hcur; clear hcur
 have hrow : ∀ W : World, W.heap[g2]? = w.heap[g2]? → ∀ (j : Nat) (o : Obj), (Value.slice (some ⟨g2, 0, none⟩) (init.length + 1) cap).ownBlock = some j → W.heap[j]? = some o → o.isCells = true := by
  intro W hW j o hj ho
  simp [Value.ownBlock] at hj
  subst hj
  rw [hW, HCU.out] at ho
  injection ho with ho
  rw [← ho]; rfl
 have HROW := Lib.hid hrow; clear hrow
 have HOW := Lib.hid (World.ownsRow.alloc (World.ownsRow.alloc ho' (.cells #[.int .i64 a, .int .i64 b] 30)) (.cells #[.int .i64 a, .int .i64 b] 30))
 have HB := Lib.hid hb; clear hb ho ho'
 have hnb : ∀ k, (((w.alloc (.cells #[.int .i64 a, .int .i64 b] 30)).drewN k).alloc (.cells #[.int .i64 a, .int .i64 b] 30)).heap[w.heap.size + 1]? = some (.cells #[.int .i64 a, .int .i64 b] 30 (0, 0)) := fun k => by
  have h1 := heap_alloc_new ((w.alloc (.cells #[.int .i64 a, .int .i64 b] 30)).drewN k) (.cells #[.int .i64 a, .int .i64 b] 30)
  have h2 : ((w.alloc (.cells #[.int .i64 a, .int .i64 b] 30)).drewN k).heap.size = w.heap.size + 1 := by show (w.alloc _).heap.size = _; simp
  rw [h2] at h1; exact h1
 have HNB := Lib.hid hnb; clear hnb
 have HRC := Lib.hid (runCells_snoc (init ++ [z]) (a, b))
 have hll : (init ++ [z]).length = init.length + 1 := by simp
 generalize runCells (init ++ [z]) = XS at *
 generalize hml : init.length = m at *
 have k1 : (0 : Int) ≤ (m : Int) := by omega
 have k2 : (m : Int) < (m : Int) + 1 := by omega
 have k3 : IntKind.i64.wrap ((m : Int) + 1 - 1) = (m : Int) := by rw [IntWalk.i64_in _ ⟨by omega, by omega⟩]; omega
 have kt : (a == z.2) = false := beq_eq_false_iff_ne.2 hne0
 have HML := Lib.hid hml; clear hml
 have HLL := Lib.hid hll; clear hll hne0
 have hg2s : g2 ≠ w.heap.size := by omega
 go_enter Tryz.func206, Tryz.ntmps206
 go_wp2_with fail
 go_quiet (fail)
 go_wp2_with fail
 go_region_law (refine step_append_lies _ (by rfl) _ _ _ (by rfl) base 30 i0 _ 2 16 Tryz.underlying150 hi hz0 hz1 hz2 rfl (by omega) (.slice (some ⟨g2, 0, none⟩) (m + 1) cap) (m + 1) XS (by rfl) (by exact HOW.out) ⟨w.heap.size + 1, 0, none⟩ 1 1 [.int .i64 a, .int .i64 b] (by rfl) (by rfl) (World.news_of_block (cs := #[.int .i64 a, .int .i64 b]) (t := 30) (fr := (0, 0)) (by exact HNB.out _)) (by simp [Value.oneCell']) (by omega) (by simp [maxLen]; omega) (by omega) (by simp; omega) (w.heap.size + 1 + 1) (by simp) ?_; intro gg cap2 w1 hown1 hgrow hat hlt; have hB1 := (((HB.out.alloc (.cells #[.int .i64 a, .int .i64 b] 30)).drewN _).alloc (.cells #[.int .i64 a, .int .i64 b] 30)).grown hgrow (by simp [Value.ownBlock]; exact hne); have f1 := hB1.frozen 0; have c1 := hB1.cell 0; simp at c1)
 all_goals
  have hsz : w.heap.size ≤ w1.heap.size := by have := hgrow.size; simp at this; omega
  have hB2 := hB1.set_ 0 (.slice (some ⟨gg, 0, none⟩) (m + 1 + 1) cap2)
  have hgg : gg ≠ g := by
   rcases hat with hat | hat
   ·simp [Value.ownBlock] at hat; omega
   ·omega
  have hown2 := World.ownsRow.kept hown1 (grownBy_setCell' w1 g (.slice (some ⟨gg, 0, none⟩) (m + 1 + 1) cap2)) (.inr (by simp [Value.ownBlock]; exact hgg))
  go_end0
  refine ⟨rfl, ⟨_, by simpa using hB2, ?_⟩, ⟨?_, ?_, ?_, ?_, ?_⟩, ?_⟩
  ·unfold OwnRuns
   rw [List.length_append, HLL.out, HRC.out]
   exact hown2
  ·exact hgrow.os
  ·exact hgrow.tape
  ·exact hgrow.output
  ·simp [World.setCell]; exact hsz
  ·intro i hi hng
   refine (Below.heap_setCell _ _ _ i (by exact hng)).trans ?_
   refine (hgrow.block i (by simp; omega) (by simp [Value.ownBlock]; omega)).trans ?_
   refine (Below.heap_alloc _ _ i (by show i < (w.alloc _).heap.size; simp; omega)).trans ?_
   exact Below.heap_alloc w _ i (by omega)
  ·refine ((((KeepsOthers.alloc w _).trans (keeps_drewN _ _)).trans (KeepsOthers.alloc _ _)).trans (KeepsOthers.of_grownBy hgrow (HROW.out _ ?_))).trans (KeepsOthers.setCell _ _ _)
   refine (Below.heap_alloc _ _ g2 (by show g2 < (w.alloc _).heap.size; simp; omega)).trans ?_
   exact Below.heap_alloc w _ g2 (by omega)
end

section
open Go.RowKit Go.Shelf

def RunsN (g base : Nat) (w : World) (L : List (Int × Int)) : Prop := (L = [] ∧ Blk w g 195 #[.slice none 0 0]) ∨ (L ≠ [] ∧ RunsAt g base w L)

theorem addRun_ne (L : List (Int × Int)) (r : Int × Int) : addRun L r ≠ [] := by
  unfold addRun
  cases L.getLast? with
  | none => simp
  | some z => dsimp only; split <;> simp

theorem addRun_len (L : List (Int × Int)) (r : Int × Int) : (addRun L r).length ≤ L.length + 1 := by
  unfold addRun
  cases L.getLast? with
  | none => simp
  | some z => dsimp only; split <;> simp

theorem runsAdd_any (g base : Nat) (L : List (Int × Int)) (a b : Int) (w : World) (h : RunsN g base w L) (hbase : base ≤ w.heap.size) (hm : L.length ≤ 1000000) :
    Calls Tryz.prog 206 #[.pointer (some ⟨g, 0, none⟩), rv a b] w (AddsRun g base w (addRun L (a, b))) := by
  rcases h with ⟨rfl, h⟩ | ⟨hne, h⟩
  · exact runsAdd_first g base a b w h hbase
  · obtain ⟨init, z, rfl⟩ : ∃ init z, L = init ++ [z] := ⟨_, _, (List.dropLast_concat_getLast hne).symm⟩
    have hm' : init.length ≤ 1000000 := by simp at hm; omega
    by_cases he : a = z.2
    · subst he
      have : addRun (init ++ [z]) (z.2, b) = init ++ [(z.1, b)] := by simp [addRun]
      rw [this]
      exact runsAdd_merge g base init z b w h hbase hm'
    · have : addRun (init ++ [z]) (a, b) = init ++ [z] ++ [(a, b)] := by simp [addRun, he]
      rw [this]
      exact runsAdd_push g base init z a b w h hbase hm' he

abbrev Pr := { x : P3 × P3 // Okp x.1 ∧ Okp x.2 ∧ x.1.1 ≤ x.2.1 }

theorem rise_of : ∀ (ps : List P3) (last : Int), ptsOk last ps = true → -1 ≤ last → ∀ x ∈ ps.zip ps.tail, Okp x.1 ∧ Okp x.2 ∧ x.1.1 < x.2.1
  | [], _, _, _, x, hx => by simp at hx
  | [p], _, _, _, x, hx => by simp at hx
  | p :: q :: ps, last, h, hl, x, hx => by
    have h1 := okp_of (p :: q :: ps) last h hl
    have h' : ptsOk p.1 (q :: ps) = true := by
      simp only [ptsOk, Bool.and_eq_true] at h ⊢
      exact h.2
    have hp := h1 p (by simp)
    have hpl : -1 ≤ p.1 := by have := hp.2; omega
    rw [List.tail_cons, List.zip_cons_cons, List.mem_cons] at hx
    rcases hx with rfl | hx
    · exact ⟨hp.1, (h1 q (by simp)).1, (okp_of (q :: ps) p.1 h' hpl q (by simp)).2⟩
    · exact rise_of (q :: ps) p.1 h' hpl x hx

theorem rise_pcs {ps : List P3} (h : tabOk ps = true) : ∀ x ∈ pcs ps, Okp x.1 ∧ Okp x.2 ∧ x.1.1 ≤ x.2.1 := by
  intro x hx
  rcases pcs_cases ps with ⟨p, rfl⟩ | e
  · have hx' : x = (p, p) := by simpa [pcs] using hx
    subst hx'
    have := (okp_of [p] (-1) (tabOk_pts h) (by omega) p (by simp)).1
    exact ⟨this, this, Int.le_refl _⟩
  · rw [e] at hx
    obtain ⟨h1, h2, h3⟩ := rise_of ps (-1) (tabOk_pts h) (by omega) x hx
    exact ⟨h1, h2, Int.le_of_lt h3⟩
theorem rise_list {ps : List P3} (h : tabOk ps = true) : ∃ xs : List Pr, xs.map (·.1) = pcs ps :=
  lift_all _ (rise_pcs h)

theorem rise_stops (xs : List Pr) (m : Nat) (hm : 1 ≤ m) (Bt n₀ b o len cap : Nat) (ps : List P3) (hlen : len = ps.length) (h2 : 1 ≤ len) (h40 : len ≤ 40) (hxs : xs.map (·.1) = pcs ps) (hb : b < n₀) (w : World) (hBt : Bt < w.heap.size) (hn₀ : n₀ ≤ w.heap.size)
    (hcb : w.cell? ⟨Bt, 0, none⟩ = some (.slice (some ⟨b, o, none⟩) len cap)) (hc : PtsAt w b o ps) :
    SeqStopsK Fence.wide m Tryz.prog 220 #[.pointer (some ⟨Bt, 0, none⟩)] (fun x : Pr => #[pv x.1.1 x.1.2]) (Below n₀) (fun ys => ys = xs) (fun pre => pre <+: xs) xs.length w := fun l J Jx W hW hJ _ hY h0 =>
  pieces1_in (fun x : Pr => x.1) xs m hm l Bt n₀ b o len cap ps hlen h2 h40 hxs hb J Jx W.heap.size hJ hY W (Nat.le_trans hn₀ hW.size) ((hW.cell (p := ⟨Bt, 0, none⟩) hBt).trans hcb)
    (fun k p hp => by
      obtain ⟨c0, c1, c2⟩ := hc k p hp
      exact ⟨(hW.cell (p := ⟨b, _, none⟩) (by show b < _; omega)).trans c0, (hW.cell (p := ⟨b, _, none⟩) (by show b < _; omega)).trans c1, (hW.cell (p := ⟨b, _, none⟩) (by show b < _; omega)).trans c2⟩) h0
end

section
open Go.RowKit

theorem Tryz.infoP : (Tryz.prog.info? 110).map (fun i => (i.zero, i.size, i.bytes)) = some (some (.agg #[.int .i64 0, .int .i64 0, .int .i64 0]), 3, 24) := by kernel_rfl
def ptCells (l : List P3) : List Value := l.flatMap fun r => [.int .i64 r.1, .int .i64 r.2.1, .int .i64 r.2.2]
theorem ptCells_snoc (l : List P3) (r : P3) : ptCells (l ++ [r]) = ptCells l ++ [.int .i64 r.1, .int .i64 r.2.1, .int .i64 r.2.2] := by simp [ptCells]
def OwnPts (base : Nat) (w : World) (v : Value) (l : List P3) : Prop := w.ownsRow base 110 3 v l.length (ptCells l)
theorem OwnPts.grown {base : Nat} {X Y : World} {row : Option Nat} {v : Value} {L : List P3} (ho : OwnPts base X v L) (hg : X.grownBy Y row) (hr : ∀ r, row = some r → ∃ o : Obj, X.heap[r]? = some o ∧ o.isCells = false) : OwnPts base Y v L := by
  have ho' : X.ownsRow base 110 3 v L.length (ptCells L) := ho
  refine World.ownsRow.kept ho' hg ?_
  rcases ho'.2 with ⟨h1, _⟩ | ⟨g3, cap3, cur3, h1, _, h2, _⟩
  · left; rw [h1]; rfl
  · right
    rw [h1]
    intro e
    obtain ⟨o, ho2, hc⟩ := hr g3 (by rw [← e]; rfl)
    rw [h2] at ho2
    cases ho2; cases hc
theorem OwnPts.slice {base : Nat} {X : World} {v : Value} {L : List P3} (ho : OwnPts base X v L) : ∃ p n c, v = .slice p n c := by
  rcases (show X.ownsRow base 110 3 v L.length (ptCells L) from ho).2 with ⟨h, _⟩ | ⟨g, c, _, h, _⟩
  · exact ⟨_, _, _, h⟩
  · exact ⟨_, _, _, h⟩
def IntsMem (w : World) (b o : Nat) (L : List Int) : Prop := ∀ k x, L[k]? = some x → w.cell? ⟨b, o + k, none⟩ = some (.int .i64 x)
end

section
open Go.RowKit

theorem below_alloc1 (w : World) (o : Obj) : Below w.heap.size w (w.alloc o) := (Below.refl _ _).alloc (Nat.le_refl _) _
theorem blkOn {w w1 : World} {g : Nat} {t : TypeId} {cs : Array Value} (h : Blk w g t cs) (hb : Below w.heap.size w w1) : Blk w1 g t cs := h.below hb h.lt

theorem OwnInts.below {base : Nat} {X Y : World} {v : Value} {L : List Int} (ho : OwnInts base X v L) (hb : Below X.heap.size X Y) : OwnInts base Y v L :=
  World.ownsRow.kept (show X.ownsRow base 3 1 v _ _ from ho) (below_grownNone hb) (by
    rcases (show X.ownsRow base 3 1 v _ _ from ho).2 with ⟨h1, _⟩ | ⟨g3, cap3, cur3, h1, _⟩
    · left; rw [h1]; rfl
    · right; rw [h1]; simp [Value.ownBlock])
end

section
open Go.RowKit
end

section
open Go.RowKit

def Boxes (W : World) (L : List (Nat × TypeId × Array Value)) : Prop := ∀ p ∈ L, Blk W p.1 p.2.1 p.2.2
theorem Boxes.on {W W' : World} {L : List (Nat × TypeId × Array Value)} (h : Boxes W L) (hb : Below W.heap.size W W') : Boxes W' L := fun p hp => blkOn (h p hp) hb
theorem Boxes.new {W : World} {L : List (Nat × TypeId × Array Value)} (h : Boxes W L) (t : TypeId) (cs : Array Value) : Boxes (W.alloc (.cells cs t)) ((W.heap.size, t, cs) :: L) := fun p hp => by
  rcases List.mem_cons.1 hp with rfl | hp
  · exact Blk.new W t cs
  · exact (h p hp).alloc _
theorem rt_to {P : Program} {f : FuncId} {args : Array Value} {w : World} {r : Int × Int × Int} {x y z : Int} (h : Calls P f args w fun e w' => e = .returned (rt r) ∧ Below w.heap.size w w') (hr : r = (x, y, z)) :
    Calls P f args w fun e w' => e = .returned (.tuple #[rv x y, .int .i64 z]) ∧ Below w.heap.size w w' := by
  subst hr; exact h
theorem int_to {P : Program} {f : FuncId} {args : Array Value} {w : World} {r x : Int} (h : Calls P f args w fun e w' => e = .returned (.int .i64 r) ∧ Below w.heap.size w w') (hr : r = x) :
    Calls P f args w fun e w' => e = .returned (.int .i64 x) ∧ Below w.heap.size w w' := by
  subst hr; exact h
theorem bool_to {P : Program} {f : FuncId} {args : Array Value} {w : World} {r x : Bool} (h : Calls P f args w fun e w' => e = .returned (.bool r) ∧ Below w.heap.size w w') (hr : r = x) :
    Calls P f args w fun e w' => e = .returned (.bool x) ∧ Below w.heap.size w w' := by
  subst hr; exact h
def I64 (x : Int) : Prop := -9223372036854775808 ≤ x ∧ x ≤ 9223372036854775807
def IntsP (w : World) (A : Option Addr) (cs : List Int) : Prop := cs = [] ∨ ∃ b o, A = some ⟨b, o, none⟩ ∧ b < w.heap.size ∧ IntsMem w b o cs
theorem IntsMem.below {w w' : World} {b o : Nat} {L : List Int} (h : IntsMem w b o L) (hB : Below w.heap.size w w') (hb : b < w.heap.size) : IntsMem w' b o L := fun k x hx => ((bcell hB).1 b _ hb).trans (h k x hx)
theorem IntsP.below {w w' : World} {A : Option Addr} {L : List Int} (h : IntsP w A L) (hB : Below w.heap.size w w') : IntsP w' A L := by
  rcases h with h | ⟨b, o, h1, h2, h3⟩
  · exact .inl h
  · exact .inr ⟨b, o, h1, Nat.lt_of_lt_of_le h2 hB.size, h3.below hB h2⟩
end

section
open Go.RowKit
attribute [local go_sem ↓] eqlRange neqRange
theorem below_drewM {B : Nat} {a w : World} (h : Below B a w) (n : Nat) : Below B a (w.drewN n) := h.trans ⟨rfl, rfl, rfl, Nat.le_refl _, fun _ _ => rfl⟩
def RunsMem (w : World) (b o : Nat) (L : List (Int × Int)) : Prop := ∀ k r, L[k]? = some r → w.cell? ⟨b, o + k * 2, none⟩ = some (.int .i64 r.1) ∧ w.cell? ⟨b, o + k * 2 + 1, none⟩ = some (.int .i64 r.2)
theorem RunsMem.keep {w w' : World} {b o : Nat} {L : List (Int × Int)} (h : RunsMem w b o L) (hk : ∀ i, w'.cell? ⟨b, i, none⟩ = w.cell? ⟨b, i, none⟩) : RunsMem w' b o L := fun k p hp => by
  rw [hk, hk]; exact h k p hp
theorem RunsMem.below {w w' : World} {b o : Nat} {L : List (Int × Int)} (h : RunsMem w b o L) (hB : Below w.heap.size w w') (hb : b < w.heap.size) : RunsMem w' b o L := h.keep fun i => (bcell hB).1 b i hb

theorem eqPoint (a b c a' b' c' : Int) (w : World) : (Op.equalIn 10000 110 (.agg #[.int .i64 a, .int .i64 b, .int .i64 c]) (.agg #[.int .i64 a', .int .i64 b', .int .i64 c'])).run Tryz.prog w = .ok (a == a' && b == b' && c == c') w := by
  have u3 := Tryz.underlying3
  have hS : Tryz.prog.underlying 110 = some (.struct (Tryz.prog.fieldsOf 110)) := by kernel_rfl
  have hp : Tryz.prog.stoodInHeld 110 = false := by kernel_rfl
  rw [show (10000 : Nat) = 9999 + 1 from rfl, run_equalIn_agg w 9999 110 _ _ hS hp]
  simp only [Program.fieldsOf, Tryz.underlying110]
  go_simp
  by_cases h1 : a = a' <;> by_cases h2 : b = b' <;> by_cases h3 : c = c' <;> simp [h1, h2, h3]
@[go_sem] theorem eqGuardPoint (op : BinOp) (x y : Operand) (xs ys : Array Value) (w : World) : (eqGuard op 110 x y (.agg xs) (.agg ys)).run Tryz.prog w = .ok () w :=
  run_eqGuard_agg w op 110 x y xs ys (by kernel_rfl)
theorem neqPoint (a b c a' b' c' : Int) (w : World) : (binOp .neq 110 (.agg #[.int .i64 a, .int .i64 b, .int .i64 c]) (.agg #[.int .i64 a', .int .i64 b', .int .i64 c'])).run Tryz.prog w = .ok (.bool (!(a == a' && b == b' && c == c'))) w := by
  rw [run_neq_struct, eqPoint]; rfl
attribute [local go_sem ↓] neqPoint
end

end Go.Proofs.YtemlaaipnhmcoaaGreat
