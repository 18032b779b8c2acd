/- The contracts of Mul, Over, Plus, Area and Where at the chapter's examples. Their conditions: the tables lie in memory. The contract of sane (the law package): the chapter's examples are so. No conditions. -/
import Derived.Test.YtemlaaipnhmcoaaGreatR16
import Derived.Deep.DeepCutAuto
import Derived.Test.YtemlaaipnhmcoaaGreatR08
import Derived.Test.YtemlaaipnhmcoaaGreatR05
set_option linter.unusedVariables false
set_option linter.unusedSimpArgs false
set_option linter.constructorNameAsVariable false
namespace Go.Proofs.YtemlaaipnhmcoaaGreat

section
open Go.RowKit Go.Shelf

def GivesRunsOk (w : World) (L : List (Int × Int)) (e : Ending) (w' : World) : Prop := ∃ v, e = .returned (.tuple #[v, .int .i64 0]) ∧ OwnRuns w.heap.size w' v L ∧ Below w.heap.size w w'

set_option maxRecDepth 100000 in
set_option maxHeartbeats 2000000 in
theorem where_good (b0 o n c : Nat) (ps : List P3) (xs : List Pr) (lo hi : Int) (w : World) (hn : n = ps.length) (h2 : 1 ≤ n) (hb : b0 < w.heap.size) (ht : tabOk ps = true) (hr : vR lo hi = true) (hxs : xs.map (·.1) = pcs ps) (hc : PtsAt w b0 o ps) :
  Calls Tryz.prog 125 #[tv (some ⟨b0, o, none⟩) n c, rv lo hi] w (GivesRunsOk w (runsF (whereS lo hi) xs)) := by
 have h40 := (tabOk_len ht).2
 have hml : n ≤ maxLen := by unfold maxLen; omega
 have HN := Lib.hid hn; clear hn
 have HT := Lib.hid ht; clear ht
 have HR := Lib.hid hr; clear hr
 have HX := Lib.hid hxs; clear hxs
 have hB0 : Below w.heap.size w ((w.alloc (.cells #[.slice (some ⟨b0, o, none⟩) n c] 33)).alloc (.cells #[.int .i64 lo, .int .i64 hi] 30)) := below_a2 (Below.refl _ _)
 have HC := Lib.hid (hc.below hB0 hb); clear hc
 have hb0 : b0 < ((w.alloc (.cells #[.slice (some ⟨b0, o, none⟩) n c] 33)).alloc (.cells #[.int .i64 lo, .int .i64 hi] 30)).heap.size := by simp; omega
 have bT := (Blk.new w 33 #[.slice (some ⟨b0, o, none⟩) n c]).alloc (.cells #[.int .i64 lo, .int .i64 hi] 30)
 have bR := Blk.new (w.alloc (.cells #[.slice (some ⟨b0, o, none⟩) n c] 33)) 30 #[.int .i64 lo, .int .i64 hi]
 simp only [World.size_alloc] at bR
 have HB := Lib.hid hb0; have HBT := Lib.hid bT; have HBR := Lib.hid bR; have HB0 := Lib.hid hB0
 clear hb0 bT bR hB0
 go_enter Tryz.func125, Tryz.ntmps125
 go_wp2_with fail
 refine (checkTable_to _ n c ps _ _ _ HN.out hml (HC.out.pts HB.out) HT.out rfl).mono ?_
 rintro e w1 ⟨rfl, hb1⟩
 have bT1 := HBT.out.below hb1 HBT.out.lt
 have bR1 := HBR.out.below hb1 HBR.out.lt
 have P1 := HC.out.below hb1 HB.out
 have hB1 := below_then HB0.out hb1
 have hz1 : w.heap.size + 1 < w1.heap.size := by have := hb1.size; simp at this; omega
 have r0 := bR1.cell 0
 have r1 := bR1.cell 1
 simp at r0 r1
 have HBT1 := Lib.hid bT1; have HBR1 := Lib.hid bR1; have HP1 := Lib.hid P1; have HB1 := Lib.hid hB1
 clear bT1 bR1 P1 hB1 hb1
 have hza : w.heap.size < w1.heap.size := by omega
 go_wp2_with fail
 refine (checkRange_ok lo hi _ HR.out).mono ?_
 rintro e w2 ⟨rfl, hb2⟩
 have bT2 := HBT1.out.below hb2 HBT1.out.lt
 have bR2 := HBR1.out.below hb2 HBR1.out.lt
 have P2 := HP1.out.below hb2 (by omega)
 have hB2 := below_then HB1.out hb2
 have hz2 : w.heap.size + 1 < w2.heap.size := by have := hb2.size; omega
 have t0 := bT2.cell 0
 simp at t0
 have hzc : w.heap.size < w2.heap.size := by omega
 have HBR2 := Lib.hid bR2; have HP2 := Lib.hid P2; have HB2 := Lib.hid hB2
 clear bT2 bR2 P2 hB2 hb2 r0 r1
 go_wp2_with fail
 refine (collect_where b0 o n c (w.heap.size + 1) ps xs lo hi w2 HN.out h2 (by omega) HT.out HX.out HP2.out HBR2.out).mono ?_
 rintro e w3 ⟨v, rfl, ho, hb3⟩
 have hB3 := below_then HB2.out hb3
 have HO := Lib.hid ho; have HB3 := Lib.hid hB3
 clear ho hB3 hb3
 go_wp2
 refine bodyPost_ret (v := .tuple #[v, .int .i64 0]) (by simp [results, Tryz.results125, go_sem]) rfl ⟨v, rfl, HO.out.mono (by omega), HB3.out⟩
end

section
open Go.RowKit

theorem OwnPts.pts {base : Nat} {w : World} {v : Value} {L : List P3} (ho : OwnPts base w v L) (hne : 0 < L.length) :
    ∃ g cap, v = .slice (some ⟨g, 0, none⟩) L.length cap ∧ base ≤ g ∧ g < w.heap.size ∧ PtsAt w g 0 L := by
  have ho' : w.ownsRow base 110 3 v L.length (ptCells L) := ho
  obtain ⟨g, cap, rfl, h1, h2⟩ := ho'.form hne
  refine ⟨g, cap, rfl, h1, h2, fun k p hp => ?_⟩
  have hk : k < L.length := (List.getElem?_eq_some_iff.1 hp).1
  have hcell : ∀ i, i < 3 → (ptCells L)[k * 3 + i]? = [Value.int .i64 p.1, .int .i64 p.2.1, .int .i64 p.2.2][i]? := by
    intro i hi
    clear ho ho' h1 h2 hne
    induction L generalizing k with
    | nil => cases hp
    | cons q L ih =>
      cases k with
      | zero =>
        simp at hp; subst hp
        have : i = 0 ∨ i = 1 ∨ i = 2 := by omega
        rcases this with rfl | rfl | rfl <;> simp [ptCells]
      | succ k =>
        have e : ptCells (q :: L) = [Value.int .i64 q.1, .int .i64 q.2.1, .int .i64 q.2.2] ++ ptCells L := by simp [ptCells]
        rw [e, List.getElem?_append_right (by simp; omega)]
        have := ih k (by simpa using hp) (by simpa using hk)
        rw [← this]
        congr 1
        simp; omega
  have c := fun i (hi : i < 3) => (ho'.cellAt (k * 3 + i) (by omega)).trans (hcell i hi)
  refine ⟨?_, ?_, ?_⟩
  · rw [Nat.zero_add]; exact c 0 (by omega)
  · rw [Nat.zero_add]; exact c 1 (by omega)
  · rw [Nat.zero_add]; exact c 2 (by omega)
theorem OwnRuns.mem {base : Nat} {w : World} {v : Value} {r : Int × Int} (ho : OwnRuns base w v [r]) :
    ∃ g cap, v = .slice (some ⟨g, 0, none⟩) 1 cap ∧ g < w.heap.size ∧ RunsMem w g 0 [r] := by
  have ho' : w.ownsRow base 30 2 v 1 (runCells [r]) := ho
  obtain ⟨g, cap, rfl, _, h2⟩ := ho'.form (by omega)
  refine ⟨g, cap, rfl, h2, fun k p hp => ?_⟩
  have c0 := ho'.cellAt 0 (by omega)
  have c1 := ho'.cellAt 1 (by omega)
  cases k with
  | zero => simp at hp; subst hp; exact ⟨c0, c1⟩
  | succ k => simp at hp
end

section
open Go.RowKit
attribute [local go_sem ↓] eqlRange neqRange
end

end Go.Proofs.YtemlaaipnhmcoaaGreat
