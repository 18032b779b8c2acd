/- The contract of add of runs (fix) for whatever list and run. Its conditions: the list of the runs lies in the call's own memory, and is not too long. -/
import Derived.Test.YthhcejcpopgkiaaE1
set_option linter.unusedVariables false
set_option linter.unusedSimpArgs false
set_option linter.constructorNameAsVariable false
namespace Go.Proofs.Ythhcejcpopgkiaa
open Go.RowKit

set_option maxRecDepth 100000 in
set_option maxHeartbeats 2000000 in
theorem runsAdd_push (g base : Nat) (init : List (Int × Int)) (z : Int × Int) (a b : Int) (w : World) (h : RunsAt g base w (init ++ [z])) (hbase : base ≤ w.heap.size) (hm : init.length ≤ 1000000) (hne0 : ¬ a = z.2) :
    Calls Try.prog 126 #[.pointer (some ⟨g, 0, none⟩), rv a b] w (AddsRun g base w ((init ++ [z]) ++ [(a, b)])) := by
  obtain ⟨i0, hi, hz0, hz1, hz2⟩ := info_parts Try.infoR
  obtain ⟨v, hb, ho⟩ := h
  have ho' : w.ownsRow base 23 2 v (init.length + 1) (runCells (init ++ [z])) := by unfold OwnRuns at ho; rwa [List.length_append] at ho
  obtain ⟨g2, cap, rfl, hbg, hgl2⟩ := ho'.form (by omega)
  have hz := (ho'.cellAt (init.length * 2 + 1) (by omega)).trans (runCells_last init z)
  have c0 := hb.cell 0
  have f0 := hb.frozen 0
  have hgl := hb.lt
  simp at c0
  have hne : g ≠ g2 ∧ ∃ cur, w.heap[g2]? = some (.cells cur 23 (0, 0)) := by
    rcases ho'.2 with ⟨h1, _⟩ | ⟨g3, cap3, cur3, h1, _, h2, _⟩
    · cases h1
    · simp only [Value.slice.injEq, Option.some.injEq, Addr.mk.injEq, and_true, true_and] at h1
      obtain ⟨rfl, rfl⟩ := h1
      refine ⟨?_, _, h2⟩
      rintro rfl
      unfold Blk at hb
      rw [hb] at h2
      injection h2 with h2
      injection h2 with _ h2
      exact absurd h2 (by decide)
  obtain ⟨hne, cur, hcur⟩ := hne
  have HCU := Lib.hid hcur; clear hcur
  have hrow : ∀ W : World, W.heap[g2]? = w.heap[g2]? → ∀ (j : Nat) (o : Obj), (Value.slice (some ⟨g2, 0, none⟩) (init.length + 1) cap).ownBlock = some j → W.heap[j]? = some o → o.isCells = true := by
    intro W hW j o hj ho
    simp [Value.ownBlock] at hj
    subst hj
    rw [hW, HCU.out] at ho
    injection ho with ho
    rw [← ho]; rfl
  have HROW := Lib.hid hrow; clear hrow
  have HOW := Lib.hid (World.ownsRow.alloc (World.ownsRow.alloc ho' (.cells #[.int .i64 a, .int .i64 b] 23)) (.cells #[.int .i64 a, .int .i64 b] 23))
  have HB := Lib.hid hb; clear hb ho ho'
  have hnb : ∀ k, (((w.alloc (.cells #[.int .i64 a, .int .i64 b] 23)).drewN k).alloc (.cells #[.int .i64 a, .int .i64 b] 23)).heap[w.heap.size + 1]? = some (.cells #[.int .i64 a, .int .i64 b] 23 (0, 0)) := fun k => by
    have h1 := heap_alloc_new ((w.alloc (.cells #[.int .i64 a, .int .i64 b] 23)).drewN k) (.cells #[.int .i64 a, .int .i64 b] 23)
    have h2 : ((w.alloc (.cells #[.int .i64 a, .int .i64 b] 23)).drewN k).heap.size = w.heap.size + 1 := by show (w.alloc _).heap.size = _; simp
    rw [h2] at h1; exact h1
  have HNB := Lib.hid hnb; clear hnb
  have HRC := Lib.hid (runCells_snoc (init ++ [z]) (a, b))
  have hll : (init ++ [z]).length = init.length + 1 := by simp
  generalize runCells (init ++ [z]) = XS at *
  generalize hml : init.length = m at *
  have k1 : (0 : Int) ≤ (m : Int) := by omega
  have k2 : (m : Int) < (m : Int) + 1 := by omega
  have k3 : IntKind.i64.wrap ((m : Int) + 1 - 1) = (m : Int) := by rw [IntWalk.i64_in _ ⟨by omega, by omega⟩]; omega
  have kt : (a == z.2) = false := beq_eq_false_iff_ne.2 hne0
  have HML := Lib.hid hml; clear hml
  have HLL := Lib.hid hll; clear hll hne0
  have hg2s : g2 ≠ w.heap.size := by omega
  go_enter Try.func126, Try.ntmps126
  go_wp2_with fail
  go_quiet (fail)
  go_wp2_with fail
  go_region_law (refine step_append_lies _ (by rfl) _ _ _ (by rfl) base 23 i0 _ 2 16 Try.underlying55 hi hz0 hz1 hz2 rfl (by omega) (.slice (some ⟨g2, 0, none⟩) (m + 1) cap) (m + 1) XS (by rfl) (by exact HOW.out) ⟨w.heap.size + 1, 0, none⟩ 1 1 [.int .i64 a, .int .i64 b] (by rfl) (by rfl) (World.news_of_block (cs := #[.int .i64 a, .int .i64 b]) (t := 23) (fr := (0, 0)) (by exact HNB.out _)) (by simp [Value.oneCell']) (by omega) (by simp [maxLen]; omega) (by omega) (by simp; omega) (w.heap.size + 1 + 1) (by simp) ?_; intro gg cap2 w1 hown1 hgrow hat hlt; have hB1 := (((HB.out.alloc (.cells #[.int .i64 a, .int .i64 b] 23)).drewN _).alloc (.cells #[.int .i64 a, .int .i64 b] 23)).grown hgrow (by simp [Value.ownBlock]; exact hne); have f1 := hB1.frozen 0; have c1 := hB1.cell 0; simp at c1)
  all_goals
    have hsz : w.heap.size ≤ w1.heap.size := by have := hgrow.size; simp at this; omega
    have hB2 := hB1.set_ 0 (.slice (some ⟨gg, 0, none⟩) (m + 1 + 1) cap2)
    have hgg : gg ≠ g := by
      rcases hat with hat | hat
      · simp [Value.ownBlock] at hat; omega
      · omega
    have hown2 := World.ownsRow.kept hown1 (grownBy_setCell' w1 g (.slice (some ⟨gg, 0, none⟩) (m + 1 + 1) cap2)) (.inr (by simp [Value.ownBlock]; exact hgg))
    go_end0
    refine ⟨rfl, ⟨_, by simpa using hB2, ?_⟩, ⟨?_, ?_, ?_, ?_, ?_⟩, ?_⟩
    · unfold OwnRuns
      rw [List.length_append, HLL.out, HRC.out]
      exact hown2
    · exact hgrow.os
    · exact hgrow.tape
    · exact hgrow.output
    · simp [World.setCell]; exact hsz
    · intro i hi hng
      refine (Below.heap_setCell _ _ _ i (by exact hng)).trans ?_
      refine (hgrow.block i (by simp; omega) (by simp [Value.ownBlock]; omega)).trans ?_
      refine (Below.heap_alloc _ _ i (by show i < (w.alloc _).heap.size; simp; omega)).trans ?_
      exact Below.heap_alloc w _ i (by omega)
    · refine ((((KeepsOthers.alloc w _).trans (keeps_drewN _ _)).trans (KeepsOthers.alloc _ _)).trans (KeepsOthers.of_grownBy hgrow (HROW.out _ ?_))).trans (KeepsOthers.setCell _ _ _)
      refine (Below.heap_alloc _ _ g2 (by show g2 < (w.alloc _).heap.size; simp; omega)).trans ?_
      exact Below.heap_alloc w _ g2 (by omega)
end Go.Proofs.Ythhcejcpopgkiaa
