/- The contract of add of runs (fix). Its conditions: the list of the runs lies in the call's own memory. The contract of add of runs (fix) for whatever list and run. Its conditions: the list of the runs lies in the call's own memory, and is not too long. Runs.add in one theorem; the pieces of a valid table with places that rise. -/
import Derived.Test.YtmenlaefekkahaaD1
import Derived.Test.YtmenlaefekkahaaB6
import Derived.Deep.AppendLies
import Derived.RangeFuncBox
import Derived.Deep.RegionLaw
import Derived.RangeFuncCalls
import Derived.Test.YtmenlaefekkahaaC3
import Derived.Test.YtmenlaefekkahaaD4
set_option linter.unusedVariables false
set_option linter.unusedSimpArgs false
set_option linter.constructorNameAsVariable false
namespace Go.Proofs.Ytmenlaefekkahaa
open Go.RowKit

theorem Try.infoR : (Try.prog.info? 23).map (fun i => (i.zero, i.size, i.bytes)) = some (some (.agg #[.int .i64 0, .int .i64 0]), 2, 16) := by kernel_rfl

/-- runs as cells -/
def runCells (l : List (Int × Int)) : List Value := l.flatMap fun r => [.int .i64 r.1, .int .i64 r.2]
theorem runCells_len (l : List (Int × Int)) : (runCells l).length = l.length * 2 := by
  induction l with
  | nil => rfl
  | cons x l ih => simp [runCells] at ih ⊢; omega
theorem runCells_snoc (l : List (Int × Int)) (r : Int × Int) : runCells (l ++ [r]) = runCells l ++ [.int .i64 r.1, .int .i64 r.2] := by simp [runCells]
/-- A row of runs of the call's own. -/
def OwnRuns (base : Nat) (w : World) (v : Value) (l : List (Int × Int)) : Prop := w.ownsRow base 23 2 v l.length (runCells l)

/-- A run behind the others. -/
def addRun (l : List (Int × Int)) (r : Int × Int) : List (Int × Int) :=
  match l.getLast? with
  | some z => if r.1 = z.2 then l.dropLast ++ [(z.1, r.2)] else l ++ [r]
  | none => [r]

theorem keeps_drewN (w : World) (n : Nat) : KeepsOthers w (w.drewN n) := ⟨Nat.le_refl _, fun _ _ h _ => h⟩
/-- Below base only block g has turned. -/
def Most (base g : Nat) (w w' : World) : Prop := w'.os = w.os ∧ w'.tape = w.tape ∧ w'.output = w.output ∧ w.heap.size ≤ w'.heap.size ∧ ∀ i, i < base → i ≠ g → w'.heap[i]? = w.heap[i]?
theorem Most.of_only {base g : Nat} {w w' : World} (h : Only g w w') (hb : base ≤ w.heap.size) : Most base g w w' := ⟨h.os, h.tape, h.output, h.size, fun i hi hne => h.block i (by omega) (fun e => hne (by injection e))⟩
theorem Only.of_grownNone {g : Nat} {w w' : World} (h : w.grownBy w' none) : Only g w w' := ⟨h.os, h.tape, h.output, h.size, fun i hi _ => h.block i hi (by simp)⟩
theorem keeps_grownNone {w w' : World} (h : w.grownBy w' none) : KeepsOthers w w' := KeepsOthers.of_grownBy h (fun _ _ e => by cases e)

/-- A list of runs in memory: its one-cell block and its row. -/
def RunsAt (g base : Nat) (w : World) (L : List (Int × Int)) : Prop := ∃ v, Blk w g 137 #[v] ∧ OwnRuns base w v L
/-- What add does. -/
def AddsRun (g base : Nat) (w : World) (L : List (Int × Int)) (e : Ending) (w' : World) : Prop := e = .returned (.tuple #[]) ∧ RunsAt g base w' L ∧ Most base g w w' ∧ KeepsOthers w w'

set_option maxRecDepth 100000 in
set_option maxHeartbeats 2000000 in
theorem runsAdd_first (g base : Nat) (a b : Int) (w : World) (h : Blk w g 137 #[.slice none 0 0]) (hbase : base ≤ w.heap.size) :
    Calls Try.prog 126 #[.pointer (some ⟨g, 0, none⟩), rv a b] w (AddsRun g base w [(a, b)]) := by
  obtain ⟨i0, hi, hz0, hz1, hz2⟩ := info_parts Try.infoR
  have c0 := h.cell 0
  have f0 := h.frozen 0
  have hgl := h.lt
  simp at c0
  have HB := Lib.hid h; clear h
  have hown : OwnRuns base w (.slice none 0 0) [] := World.ownsRow_nil _ _ _ _
  have HOW := Lib.hid (World.ownsRow.alloc (World.ownsRow.alloc hown (.cells #[.int .i64 a, .int .i64 b] 23)) (.cells #[.int .i64 a, .int .i64 b] 23)); clear hown
  have hnb : ∀ k, (((w.alloc (.cells #[.int .i64 a, .int .i64 b] 23)).drewN k).alloc (.cells #[.int .i64 a, .int .i64 b] 23)).heap[w.heap.size + 1]? = some (.cells #[.int .i64 a, .int .i64 b] 23 (0, 0)) := fun k => by
    have h1 := heap_alloc_new ((w.alloc (.cells #[.int .i64 a, .int .i64 b] 23)).drewN k) (.cells #[.int .i64 a, .int .i64 b] 23)
    have h2 : ((w.alloc (.cells #[.int .i64 a, .int .i64 b] 23)).drewN k).heap.size = w.heap.size + 1 := by show (w.alloc _).heap.size = _; simp
    rw [h2] at h1; exact h1
  have HNB := Lib.hid hnb; clear hnb
  go_enter Try.func126, Try.ntmps126
  go_wp2_with fail
  go_quiet (fail)
  go_wp2_with fail
  go_region_law (refine step_append_lies _ (by rfl) _ _ _ (by rfl) base 23 i0 _ 2 16 Try.underlying55 hi hz0 hz1 hz2 rfl (by omega) (.slice none 0 0) 0 [] (by rfl) (by exact HOW.out) ⟨w.heap.size + 1, 0, none⟩ 1 1 [.int .i64 a, .int .i64 b] (by rfl) (by rfl) (World.news_of_block (cs := #[.int .i64 a, .int .i64 b]) (t := 23) (fr := (0, 0)) (by exact HNB.out _)) (by simp [Value.oneCell']) (by omega) (by simp [maxLen]) (by omega) (by simp; omega) (w.heap.size + 1 + 1) (by simp) ?_; intro gg cap w1 hown1 hgrow hat hlt; have hB1 := (((HB.out.alloc (.cells #[.int .i64 a, .int .i64 b] 23)).drewN _).alloc (.cells #[.int .i64 a, .int .i64 b] 23)).grown hgrow (by simp [Value.ownBlock]); have f1 := hB1.frozen 0; have c1 := hB1.cell 0; simp at c1)
  all_goals
    have hO : Only g w (w1.setCell ⟨g, 0, none⟩ (.slice (some ⟨gg, 0, none⟩) 1 cap)) := ((((((Only.refl g w).alloc _).drewN _).alloc _).trans (Only.of_grownNone hgrow)).setCell (p := ⟨g, 0, none⟩) (.inl rfl) _)
    have hK : KeepsOthers w (w1.setCell ⟨g, 0, none⟩ (.slice (some ⟨gg, 0, none⟩) 1 cap)) := (((KeepsOthers.alloc w _).trans ((keeps_drewN _ _).trans (KeepsOthers.alloc _ _))).trans (keeps_grownNone hgrow)).trans (KeepsOthers.setCell _ _ _)
    have hB2 := hB1.set_ 0 (.slice (some ⟨gg, 0, none⟩) 1 cap)
    have hne : (Value.slice (some ⟨gg, 0, none⟩) (0 + 1) cap).ownBlock = none ∨ (Value.slice (some ⟨gg, 0, none⟩) (0 + 1) cap).ownBlock ≠ some g := by
      right
      simp [Value.ownBlock]
      rcases hat with hat | hat
      · simp [Value.ownBlock] at hat
      · omega
    have hown2 := World.ownsRow.kept hown1 (grownBy_setCell' w1 g (.slice (some ⟨gg, 0, none⟩) 1 cap)) hne
    go_end0
    refine ⟨rfl, ⟨_, by simpa using hB2, ?_⟩, Most.of_only hO hbase, hK⟩
    exact hown2

theorem ownsRow_drewN {w : World} {base : Nat} {e : TypeId} {size : Nat} {v : Value} {n : Nat} {xs : List Value} (h : w.ownsRow base e size v n xs) (k : Nat) : (w.drewN k).ownsRow base e size v n xs := h
theorem runCells_last (init : List (Int × Int)) (z : Int × Int) : (runCells (init ++ [z]))[init.length * 2 + 1]? = some (.int .i64 z.2) := by
  rw [runCells_snoc, List.getElem?_append_right (by rw [runCells_len]; omega), runCells_len]
  simp
theorem runCells_set (init : List (Int × Int)) (z : Int × Int) (b : Int) : (runCells (init ++ [z])).set (init.length * 2 + 1) (.int .i64 b) = runCells (init ++ [(z.1, b)]) := by
  rw [runCells_snoc, runCells_snoc, List.set_append]
  simp [runCells_len]
  intro h; omega

set_option maxRecDepth 100000 in
set_option maxHeartbeats 2000000 in
theorem runsAdd_merge (g base : Nat) (init : List (Int × Int)) (z : Int × Int) (b : Int) (w : World) (h : RunsAt g base w (init ++ [z])) (hbase : base ≤ w.heap.size) (hm : init.length ≤ 1000000) :
    Calls Try.prog 126 #[.pointer (some ⟨g, 0, none⟩), rv z.2 b] w (AddsRun g base w (init ++ [(z.1, b)])) := by
  obtain ⟨v, hb, ho⟩ := h
  have ho' : w.ownsRow base 23 2 v (init.length + 1) (runCells (init ++ [z])) := by unfold OwnRuns at ho; rwa [List.length_append] at ho
  obtain ⟨g2, cap, rfl, hbg, hgl2⟩ := ho'.form (by omega)
  have hz := (ho'.cellAt (init.length * 2 + 1) (by omega)).trans (runCells_last init z)
  have hfz := ho'.frozenAt (init.length * 2 + 1)
  have hst := (ho'.stored (init.length * 2 + 1) (.int .i64 b)).1
  have hgr := (ho'.stored (init.length * 2 + 1) (.int .i64 b)).2
  rw [runCells_set] at hst
  have c0 := hb.cell 0
  have hgl := hb.lt
  simp at c0
  have hne : g ≠ g2 := by
    rcases ho'.2 with ⟨h1, _⟩ | ⟨g3, cap3, cur3, h1, _, h2, _⟩
    · cases h1
    · simp only [Value.slice.injEq, Option.some.injEq, Addr.mk.injEq, and_true, true_and] at h1
      obtain ⟨rfl, rfl⟩ := h1
      rintro rfl
      unfold Blk at hb
      rw [hb] at h2
      injection h2 with h2
      injection h2 with _ h2
      exact absurd h2 (by decide)
  have HB := Lib.hid hb; have HO := Lib.hid ho'; clear hb ho ho' hst hgr
  generalize hml : init.length = m at *
  have k1 : (0 : Int) ≤ (m : Int) := by omega
  have k2 : (m : Int) < (m : Int) + 1 := by omega
  have k3 : IntKind.i64.wrap ((m : Int) + 1 - 1) = (m : Int) := by rw [IntWalk.i64_in _ ⟨by omega, by omega⟩]; omega
  have HML := Lib.hid hml; clear hml
  go_enter Try.func126, Try.ntmps126
  go_wp2_with fail
  go_quiet (fail)
  go_wp2_with fail
  go_region
  go_wp2
  have hX := ownsRow_drewN (HO.out.alloc (.cells #[.int .i64 z.2, .int .i64 b] 23)) (nq + 1)
  have hst := (hX.stored (m * 2 + 1) (.int .i64 b)).1
  rw [← HML.out, runCells_set] at hst
  have hB2 := ((HB.out.alloc (.cells #[.int .i64 z.2, .int .i64 b] 23)).drewN (nq + 1)).far (p := ⟨g2, m * 2 + 1, none⟩) hne (.int .i64 b)
  refine bodyPost_ret (results_none rfl _ _ _) rfl ⟨rfl, ⟨_, hB2, ?_⟩, ⟨rfl, rfl, rfl, ?_, ?_⟩, ?_⟩
  · unfold OwnRuns
    rw [List.length_append, ← HML.out]
    exact hst
  · simp [World.setCell]
  · intro i hi _
    refine (Below.heap_setCell _ _ _ i (by show i ≠ g2; omega)).trans ?_
    exact Below.heap_alloc w _ i (by omega)
  · exact ((KeepsOthers.alloc w _).trans (keeps_drewN _ _)).trans (KeepsOthers.setCell _ _ _)
end Go.Proofs.Ytmenlaefekkahaa
namespace Go.Proofs.Ytmenlaefekkahaa
open Go.RowKit

set_option maxRecDepth 100000 in
set_option maxHeartbeats 2000000 in
theorem runsAdd_push (g base : Nat) (init : List (Int × Int)) (z : Int × Int) (a b : Int) (w : World) (h : RunsAt g base w (init ++ [z])) (hbase : base ≤ w.heap.size) (hm : init.length ≤ 1000000) (hne0 : ¬ a = z.2) :
    Calls Try.prog 126 #[.pointer (some ⟨g, 0, none⟩), rv a b] w (AddsRun g base w ((init ++ [z]) ++ [(a, b)])) := by
  obtain ⟨i0, hi, hz0, hz1, hz2⟩ := info_parts Try.infoR
  obtain ⟨v, hb, ho⟩ := h
  have ho' : w.ownsRow base 23 2 v (init.length + 1) (runCells (init ++ [z])) := by unfold OwnRuns at ho; rwa [List.length_append] at ho
  obtain ⟨g2, cap, rfl, hbg, hgl2⟩ := ho'.form (by omega)
  have hz := (ho'.cellAt (init.length * 2 + 1) (by omega)).trans (runCells_last init z)
  have c0 := hb.cell 0
  have f0 := hb.frozen 0
  have hgl := hb.lt
  simp at c0
  have hne : g ≠ g2 ∧ ∃ cur, w.heap[g2]? = some (.cells cur 23 (0, 0)) := by
    rcases ho'.2 with ⟨h1, _⟩ | ⟨g3, cap3, cur3, h1, _, h2, _⟩
    · cases h1
    · simp only [Value.slice.injEq, Option.some.injEq, Addr.mk.injEq, and_true, true_and] at h1
      obtain ⟨rfl, rfl⟩ := h1
      refine ⟨?_, _, h2⟩
      rintro rfl
      unfold Blk at hb
      rw [hb] at h2
      injection h2 with h2
      injection h2 with _ h2
      exact absurd h2 (by decide)
  obtain ⟨hne, cur, hcur⟩ := hne
  have HCU := Lib.hid hcur; clear hcur
  have hrow : ∀ W : World, W.heap[g2]? = w.heap[g2]? → ∀ (j : Nat) (o : Obj), (Value.slice (some ⟨g2, 0, none⟩) (init.length + 1) cap).ownBlock = some j → W.heap[j]? = some o → o.isCells = true := by
    intro W hW j o hj ho
    simp [Value.ownBlock] at hj
    subst hj
    rw [hW, HCU.out] at ho
    injection ho with ho
    rw [← ho]; rfl
  have HROW := Lib.hid hrow; clear hrow
  have HOW := Lib.hid (World.ownsRow.alloc (World.ownsRow.alloc ho' (.cells #[.int .i64 a, .int .i64 b] 23)) (.cells #[.int .i64 a, .int .i64 b] 23))
  have HB := Lib.hid hb; clear hb ho ho'
  have hnb : ∀ k, (((w.alloc (.cells #[.int .i64 a, .int .i64 b] 23)).drewN k).alloc (.cells #[.int .i64 a, .int .i64 b] 23)).heap[w.heap.size + 1]? = some (.cells #[.int .i64 a, .int .i64 b] 23 (0, 0)) := fun k => by
    have h1 := heap_alloc_new ((w.alloc (.cells #[.int .i64 a, .int .i64 b] 23)).drewN k) (.cells #[.int .i64 a, .int .i64 b] 23)
    have h2 : ((w.alloc (.cells #[.int .i64 a, .int .i64 b] 23)).drewN k).heap.size = w.heap.size + 1 := by show (w.alloc _).heap.size = _; simp
    rw [h2] at h1; exact h1
  have HNB := Lib.hid hnb; clear hnb
  have HRC := Lib.hid (runCells_snoc (init ++ [z]) (a, b))
  have hll : (init ++ [z]).length = init.length + 1 := by simp
  generalize runCells (init ++ [z]) = XS at *
  generalize hml : init.length = m at *
  have k1 : (0 : Int) ≤ (m : Int) := by omega
  have k2 : (m : Int) < (m : Int) + 1 := by omega
  have k3 : IntKind.i64.wrap ((m : Int) + 1 - 1) = (m : Int) := by rw [IntWalk.i64_in _ ⟨by omega, by omega⟩]; omega
  have kt : (a == z.2) = false := beq_eq_false_iff_ne.2 hne0
  have HML := Lib.hid hml; clear hml
  have HLL := Lib.hid hll; clear hll hne0
  have hg2s : g2 ≠ w.heap.size := by omega
  go_enter Try.func126, Try.ntmps126
  go_wp2_with fail
  go_quiet (fail)
  go_wp2_with fail
  go_region_law (refine step_append_lies _ (by rfl) _ _ _ (by rfl) base 23 i0 _ 2 16 Try.underlying55 hi hz0 hz1 hz2 rfl (by omega) (.slice (some ⟨g2, 0, none⟩) (m + 1) cap) (m + 1) XS (by rfl) (by exact HOW.out) ⟨w.heap.size + 1, 0, none⟩ 1 1 [.int .i64 a, .int .i64 b] (by rfl) (by rfl) (World.news_of_block (cs := #[.int .i64 a, .int .i64 b]) (t := 23) (fr := (0, 0)) (by exact HNB.out _)) (by simp [Value.oneCell']) (by omega) (by simp [maxLen]; omega) (by omega) (by simp; omega) (w.heap.size + 1 + 1) (by simp) ?_; intro gg cap2 w1 hown1 hgrow hat hlt; have hB1 := (((HB.out.alloc (.cells #[.int .i64 a, .int .i64 b] 23)).drewN _).alloc (.cells #[.int .i64 a, .int .i64 b] 23)).grown hgrow (by simp [Value.ownBlock]; exact hne); have f1 := hB1.frozen 0; have c1 := hB1.cell 0; simp at c1)
  all_goals
    have hsz : w.heap.size ≤ w1.heap.size := by have := hgrow.size; simp at this; omega
    have hB2 := hB1.set_ 0 (.slice (some ⟨gg, 0, none⟩) (m + 1 + 1) cap2)
    have hgg : gg ≠ g := by
      rcases hat with hat | hat
      · simp [Value.ownBlock] at hat; omega
      · omega
    have hown2 := World.ownsRow.kept hown1 (grownBy_setCell' w1 g (.slice (some ⟨gg, 0, none⟩) (m + 1 + 1) cap2)) (.inr (by simp [Value.ownBlock]; exact hgg))
    go_end0
    refine ⟨rfl, ⟨_, by simpa using hB2, ?_⟩, ⟨?_, ?_, ?_, ?_, ?_⟩, ?_⟩
    · unfold OwnRuns
      rw [List.length_append, HLL.out, HRC.out]
      exact hown2
    · exact hgrow.os
    · exact hgrow.tape
    · exact hgrow.output
    · simp [World.setCell]; exact hsz
    · intro i hi hng
      refine (Below.heap_setCell _ _ _ i (by exact hng)).trans ?_
      refine (hgrow.block i (by simp; omega) (by simp [Value.ownBlock]; omega)).trans ?_
      refine (Below.heap_alloc _ _ i (by show i < (w.alloc _).heap.size; simp; omega)).trans ?_
      exact Below.heap_alloc w _ i (by omega)
    · refine ((((KeepsOthers.alloc w _).trans (keeps_drewN _ _)).trans (KeepsOthers.alloc _ _)).trans (KeepsOthers.of_grownBy hgrow (HROW.out _ ?_))).trans (KeepsOthers.setCell _ _ _)
      refine (Below.heap_alloc _ _ g2 (by show g2 < (w.alloc _).heap.size; simp; omega)).trans ?_
      exact Below.heap_alloc w _ g2 (by omega)
end Go.Proofs.Ytmenlaefekkahaa
namespace Go.Proofs.Ytmenlaefekkahaa
open Go.RowKit Go.Shelf

/-- The list of runs, or nothing yet. -/
def RunsN (g base : Nat) (w : World) (L : List (Int × Int)) : Prop := (L = [] ∧ Blk w g 137 #[.slice none 0 0]) ∨ (L ≠ [] ∧ RunsAt g base w L)

theorem addRun_ne (L : List (Int × Int)) (r : Int × Int) : addRun L r ≠ [] := by
  unfold addRun
  cases L.getLast? with
  | none => simp
  | some z => dsimp only; split <;> simp

theorem addRun_len (L : List (Int × Int)) (r : Int × Int) : (addRun L r).length ≤ L.length + 1 := by
  unfold addRun
  cases L.getLast? with
  | none => simp
  | some z => dsimp only; split <;> simp

theorem runsAdd_any (g base : Nat) (L : List (Int × Int)) (a b : Int) (w : World) (h : RunsN g base w L) (hbase : base ≤ w.heap.size) (hm : L.length ≤ 1000000) :
    Calls Try.prog 126 #[.pointer (some ⟨g, 0, none⟩), rv a b] w (AddsRun g base w (addRun L (a, b))) := by
  rcases h with ⟨rfl, h⟩ | ⟨hne, h⟩
  · exact runsAdd_first g base a b w h hbase
  · obtain ⟨init, z, rfl⟩ : ∃ init z, L = init ++ [z] := ⟨_, _, (List.dropLast_concat_getLast hne).symm⟩
    have hm' : init.length ≤ 1000000 := by simp at hm; omega
    by_cases he : a = z.2
    · subst he
      have : addRun (init ++ [z]) (z.2, b) = init ++ [(z.1, b)] := by simp [addRun]
      rw [this]
      exact runsAdd_merge g base init z b w h hbase hm'
    · have : addRun (init ++ [z]) (a, b) = init ++ [z] ++ [(a, b)] := by simp [addRun, he]
      rw [this]
      exact runsAdd_push g base init z a b w h hbase hm' he

/-- A piece of a valid table: its places rise. -/
abbrev Pr := { x : P3 × P3 // Okp x.1 ∧ Okp x.2 ∧ x.1.1 ≤ x.2.1 }

theorem rise_of : ∀ (ps : List P3) (last : Int), ptsOk last ps = true → -1 ≤ last → ∀ x ∈ ps.zip ps.tail, Okp x.1 ∧ Okp x.2 ∧ x.1.1 < x.2.1
  | [], _, _, _, x, hx => by simp at hx
  | [p], _, _, _, x, hx => by simp at hx
  | p :: q :: ps, last, h, hl, x, hx => by
    have h1 := okp_of (p :: q :: ps) last h hl
    have h' : ptsOk p.1 (q :: ps) = true := by
      simp only [ptsOk, Bool.and_eq_true] at h ⊢
      exact h.2
    have hp := h1 p (by simp)
    have hpl : -1 ≤ p.1 := by have := hp.2; omega
    rw [List.tail_cons, List.zip_cons_cons, List.mem_cons] at hx
    rcases hx with rfl | hx
    · exact ⟨hp.1, (h1 q (by simp)).1, (okp_of (q :: ps) p.1 h' hpl q (by simp)).2⟩
    · exact rise_of (q :: ps) p.1 h' hpl x hx

theorem rise_pcs {ps : List P3} (h : tabOk ps = true) : ∀ x ∈ pcs ps, Okp x.1 ∧ Okp x.2 ∧ x.1.1 ≤ x.2.1 := by
  intro x hx
  rcases pcs_cases ps with ⟨p, rfl⟩ | e
  · have hx' : x = (p, p) := by simpa [pcs] using hx
    subst hx'
    have := (okp_of [p] (-1) (tabOk_pts h) (by omega) p (by simp)).1
    exact ⟨this, this, Int.le_refl _⟩
  · rw [e] at hx
    obtain ⟨h1, h2, h3⟩ := rise_of ps (-1) (tabOk_pts h) (by omega) x hx
    exact ⟨h1, h2, Int.le_of_lt h3⟩
theorem rise_list {ps : List P3} (h : tabOk ps = true) : ∃ xs : List Pr, xs.map (·.1) = pcs ps :=
  lift_all _ (rise_pcs h)

theorem rise_stops (xs : List Pr) (m : Nat) (hm : 1 ≤ m) (Bt n₀ b o len cap : Nat) (ps : List P3) (hlen : len = ps.length) (h2 : 1 ≤ len) (h40 : len ≤ 40) (hxs : xs.map (·.1) = pcs ps) (hb : b < n₀) (w : World) (hBt : Bt < w.heap.size) (hn₀ : n₀ ≤ w.heap.size)
    (hcb : w.cell? ⟨Bt, 0, none⟩ = some (.slice (some ⟨b, o, none⟩) len cap)) (hc : PtsAt w b o ps) :
    SeqStopsK Fence.wide m Try.prog 132 #[.pointer (some ⟨Bt, 0, none⟩)] (fun x : Pr => #[pv x.1.1 x.1.2]) (Below n₀) (fun ys => ys = xs) (fun pre => pre <+: xs) xs.length w := fun l J Jx W hW hJ _ hY h0 =>
  pieces1_in (fun x : Pr => x.1) xs m hm l Bt n₀ b o len cap ps hlen h2 h40 hxs hb J Jx W.heap.size hJ hY W (Nat.le_trans hn₀ hW.size) ((hW.cell (p := ⟨Bt, 0, none⟩) hBt).trans hcb)
    (fun k p hp => by
      obtain ⟨c0, c1, c2⟩ := hc k p hp
      exact ⟨(hW.cell (p := ⟨b, _, none⟩) (by show b < _; omega)).trans c0, (hW.cell (p := ⟨b, _, none⟩) (by show b < _; omega)).trans c1, (hW.cell (p := ⟨b, _, none⟩) (by show b < _; omega)).trans c2⟩) h0
end Go.Proofs.Ytmenlaefekkahaa
