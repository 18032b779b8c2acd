/- The contract of Where (fix) where it tells runs. Its conditions: the table's points lie in memory, it is valid; the range is valid. -/
import Derived.Test.YtmenlaefekkahaaE4
set_option linter.unusedVariables false
set_option linter.unusedSimpArgs false
set_option linter.constructorNameAsVariable false
namespace Go.Proofs.Ytmenlaefekkahaa
open Go.RowKit Go.Shelf

/-- A row of runs of the call's own, given back with a word beside it. -/
def GivesRunsOk (w : World) (L : List (Int × Int)) (e : Ending) (w' : World) : Prop := ∃ v, e = .returned (.tuple #[v, .int .i64 0]) ∧ OwnRuns w.heap.size w' v L ∧ Below w.heap.size w w'

set_option maxRecDepth 100000 in
set_option maxHeartbeats 2000000 in
theorem where_good (b0 o n c : Nat) (ps : List P3) (xs : List Pr) (lo hi : Int) (w : World) (hn : n = ps.length) (h2 : 1 ≤ n) (hb : b0 < w.heap.size) (ht : tabOk ps = true) (hr : vR lo hi = true) (hxs : xs.map (·.1) = pcs ps) (hc : PtsAt w b0 o ps) :
    Calls Try.prog 50 #[tv (some ⟨b0, o, none⟩) n c, rv lo hi] w (GivesRunsOk w (runsF (whereS lo hi) xs)) := by
  have h40 := (tabOk_len ht).2
  have hml : n ≤ maxLen := by unfold maxLen; omega
  have HN := Lib.hid hn; clear hn
  have HT := Lib.hid ht; clear ht
  have HR := Lib.hid hr; clear hr
  have HX := Lib.hid hxs; clear hxs
  have hB0 : Below w.heap.size w ((w.alloc (.cells #[.slice (some ⟨b0, o, none⟩) n c] 43)).alloc (.cells #[.int .i64 lo, .int .i64 hi] 23)) := below_a2 (Below.refl _ _)
  have HC := Lib.hid (hc.below hB0 hb); clear hc
  have hb0 : b0 < ((w.alloc (.cells #[.slice (some ⟨b0, o, none⟩) n c] 43)).alloc (.cells #[.int .i64 lo, .int .i64 hi] 23)).heap.size := by simp; omega
  have bT := (Blk.new w 43 #[.slice (some ⟨b0, o, none⟩) n c]).alloc (.cells #[.int .i64 lo, .int .i64 hi] 23)
  have bR := Blk.new (w.alloc (.cells #[.slice (some ⟨b0, o, none⟩) n c] 43)) 23 #[.int .i64 lo, .int .i64 hi]
  simp only [World.size_alloc] at bR
  have HB := Lib.hid hb0; have HBT := Lib.hid bT; have HBR := Lib.hid bR; have HB0 := Lib.hid hB0
  clear hb0 bT bR hB0
  go_enter Try.func50, Try.ntmps50
  go_wp2_with fail
  refine (checkTable_to _ n c ps _ _ _ HN.out hml (HC.out.pts HB.out) HT.out rfl).mono ?_
  rintro e w1 ⟨rfl, hb1⟩
  have bT1 := HBT.out.below hb1 HBT.out.lt
  have bR1 := HBR.out.below hb1 HBR.out.lt
  have P1 := HC.out.below hb1 HB.out
  have hB1 := below_then HB0.out hb1
  have hz1 : w.heap.size + 1 < w1.heap.size := by have := hb1.size; simp at this; omega
  have r0 := bR1.cell 0
  have r1 := bR1.cell 1
  simp at r0 r1
  have HBT1 := Lib.hid bT1; have HBR1 := Lib.hid bR1; have HP1 := Lib.hid P1; have HB1 := Lib.hid hB1
  clear bT1 bR1 P1 hB1 hb1
  have hza : w.heap.size < w1.heap.size := by omega
  go_wp2_with fail
  refine (checkRange_ok lo hi _ HR.out).mono ?_
  rintro e w2 ⟨rfl, hb2⟩
  have bT2 := HBT1.out.below hb2 HBT1.out.lt
  have bR2 := HBR1.out.below hb2 HBR1.out.lt
  have P2 := HP1.out.below hb2 (by omega)
  have hB2 := below_then HB1.out hb2
  have hz2 : w.heap.size + 1 < w2.heap.size := by have := hb2.size; omega
  have t0 := bT2.cell 0
  simp at t0
  have hzc : w.heap.size < w2.heap.size := by omega
  have HBR2 := Lib.hid bR2; have HP2 := Lib.hid P2; have HB2 := Lib.hid hB2
  clear bT2 bR2 P2 hB2 hb2 r0 r1
  go_wp2_with fail
  refine (collect_where b0 o n c (w.heap.size + 1) ps xs lo hi w2 HN.out h2 (by omega) HT.out HX.out HP2.out HBR2.out).mono ?_
  rintro e w3 ⟨v, rfl, ho, hb3⟩
  have hB3 := below_then HB2.out hb3
  have HO := Lib.hid ho; have HB3 := Lib.hid hB3
  clear ho hB3 hb3
  go_wp2
  refine bodyPost_ret (v := .tuple #[v, .int .i64 0]) (by simp [results, Try.results50, go_sem]) rfl ⟨v, rfl, HO.out.mono (by omega), HB3.out⟩
end Go.Proofs.Ytmenlaefekkahaa
