/- The contract of Cut (fix) on a valid table and places within. The contract of Cut (fix) where it gives an error. -/
import Derived.Test.YtmenlaefekkahaaG3
import Derived.Test.YtmenlaefekkahaaG4
import Derived.Test.YtmenlaefekkahaaM1
set_option linter.unusedVariables false
set_option linter.unusedSimpArgs false
set_option linter.constructorNameAsVariable false
namespace Go.Proofs.Ytmenlaefekkahaa
open Go.RowKit

theorem corners_le {ps : List P3} {a b : Int} (hl : 1 ≤ ps.length) (h1 : firstX ps ≤ a) (h2 : b ≤ lastX ps) : (cornersS ps a b).length ≤ ps.length := by
  unfold cornersS
  by_cases hab : a < b
  · rw [if_pos hab]
    match ps, hl with
    | p :: t, _ =>
      have f1 : p.1 ≤ a := h1
      rcases List.eq_nil_or_concat t with rfl | ⟨m, q, rfl⟩
      · have : b ≤ p.1 := h2
        omega
      · have f2 : b ≤ q.1 := by
          unfold lastX at h2
          rw [List.concat_eq_append, ← List.cons_append, List.getLast?_concat] at h2
          exact h2
        have c1 : (decide (a < p.1) && decide (p.1 < b)) = false := by simp; omega
        have c2 : (decide (a < q.1) && decide (q.1 < b)) = false := by simp; omega
        have h3 := List.length_filter_le (fun p : P3 => decide (a < p.1) && decide (p.1 < b)) m
        rw [List.filter_cons, c1, List.concat_eq_append, List.filter_append, List.filter_cons, c2]
        simp at h3 ⊢
        omega
  · rw [if_neg hab]
    have h3 : ps.filter (fun p : P3 => decide (a < p.1) && decide (p.1 < b)) = [] := by
      rw [List.filter_eq_nil_iff]; intro p _; simp; omega
    rw [h3]; simp; omega

set_option maxRecDepth 100000 in
set_option maxHeartbeats 2000000 in
theorem cut_good (b o n c : Nat) (ps : List P3) (x y : Int) (w : World) (hn : n = ps.length) (hb : b < w.heap.size) (hpl : placesS ps x y = 0) (hc : PtsAt w b o ps) :
    Calls Try.prog 37 #[tv (some ⟨b, o, none⟩) n c, .int .i64 x, .int .i64 y] w (GivesTab0 w (built (cutAt ps) (cornersS ps x y))) := by
  obtain ⟨ht, hxy, hf, hl⟩ := places_ok hpl
  have h1 := (tabOk_len ht).1
  have h40 := (tabOk_len ht).2
  have h2 : 1 ≤ n := by omega
  have hn40 : n ≤ 40 := by omega
  have hml : n ≤ maxLen := by unfold maxLen; omega
  have hle := corners_le h1 hf hl
  obtain ⟨pl1, pl2⟩ := places_in ht
  have hin : ∀ z ∈ cornersS ps x y, x ≤ z ∧ z ≤ y ∧ 0 ≤ z ∧ z ≤ 1000000 := fun z hz => by
    rcases corners_mem hz with h | h <;> omega
  have hok : ∀ z ∈ cornersS ps x y, (cutAt ps z).2.2 = 0 ∧ inB (cutAt ps z).1 (cutAt ps z).2.1 (-1000000000) 1000000000 = true := fun z hz => by
    have := hin z hz
    exact ⟨rfl, atS_in ht (by omega) (by omega)⟩
  have hE : Below w.heap.size w ((w.alloc (.cells #[.slice (some ⟨b, o, none⟩) n c] 43)).alloc (.cells #[.slice none 0 0] 43)) := below_a2 (Below.refl _ _)
  have hJ : Blk ((w.alloc (.cells #[.slice (some ⟨b, o, none⟩) n c] 43)).alloc (.cells #[.slice none 0 0] 43)) w.heap.size 43 #[.slice (some ⟨b, o, none⟩) n c] := (Blk.new w 43 _).alloc _
  have hT := Blk.new (w.alloc (.cells #[.slice (some ⟨b, o, none⟩) n c] 43)) 43 #[.slice none 0 0]
  simp only [World.size_alloc] at hT
  have hP := hc.below hE hb
  have hb2 : b < ((w.alloc (.cells #[.slice (some ⟨b, o, none⟩) n c] 43)).alloc (.cells #[.slice none 0 0] 43)).heap.size := Nat.lt_of_lt_of_le hb hE.size
  have HE := Lib.hid hE; have HJ := Lib.hid hJ; have HT := Lib.hid hT; have HP := Lib.hid hP; have HB := Lib.hid hb2
  have HN := Lib.hid (And.intro hn ht); have HPL := Lib.hid hpl; have HOK := Lib.hid hok; have HIN := Lib.hid hin; have HLE := Lib.hid hle
  clear hE hJ hT hP hb2 hn ht hpl hok hin hle hc hf hl hxy
  go_enter Try.func37, Try.ntmps37
  go_wp2_with fail
  obtain ⟨W0, hW0⟩ : ∃ W0, (w.alloc (.cells #[.slice (some ⟨b, o, none⟩) n c] 43)).alloc (.cells #[.slice none 0 0] 43) = W0 := ⟨_, rfl⟩
  rw [hW0] at HE HJ HT HP HB ⊢
  clear hW0
  refine (checkPlaces_to _ n c ps x y _ _ HN.out.1 hml (HP.out.pts HB.out) HPL.out).mono ?_
  rintro e w1 ⟨rfl, hb1⟩
  have HE1 := Lib.hid (below_then HE.out hb1); have HJ1 := Lib.hid (blkOn HJ.out hb1); have HT1 := Lib.hid (blkOn HT.out hb1)
  have HP1 := Lib.hid (HP.out.below hb1 HB.out); have HB1 := Lib.hid (Nat.lt_of_lt_of_le HB.out hb1.size)
  clear hb1
  have c0 := HJ1.out.cell 0
  simp at c0
  go_wp2_with fail
  refine (corners_any b o n c ps x y _ HN.out.1 h2 hn40 HB1.out HP1.out).mono ?_
  intro e w2 hgi
  obtain ⟨pg, cap, rfl, hpg1, hpg2, hpc, hb2⟩ := gives_form hgi (corners_ne ps x y)
  have HE2 := Lib.hid (below_then HE1.out hb2); have HJ2 := Lib.hid (blkOn HJ1.out hb2); have HT2 := Lib.hid (blkOn HT1.out hb2)
  have HP2 := Lib.hid (HP1.out.below hb2 HB1.out); have HB2 := Lib.hid (Nat.lt_of_lt_of_le HB1.out hb2.size)
  have HPC := Lib.hid hpc
  clear hb2 hgi hpc c0
  have c0 := HJ2.out.cell 0
  simp at c0
  go_wp2_with fail
  refine (build_cut pg 0 (cornersS ps x y).length cap w.heap.size (cornersS ps x y) (cutAt ps) w2 rfl (Nat.le_trans HLE.out h40) hpg2 (fun k z hz => by rw [Nat.zero_add]; exact HPC.out k z hz)
    (fun z hz W hW => cutAsk w.heap.size b o n c ps z W ⟨HJ2.out.below hW HJ2.out.lt, HP2.out.below hW HB2.out, Nat.lt_of_lt_of_le HB2.out hW.size⟩ HN.out.1 h2 HN.out.2 (by have := HIN.out z hz; omega) (by have := HIN.out z hz; omega)) HOK.out).mono ?_
  rintro e w3 ⟨v, rfl, ho, hb3⟩
  obtain ⟨sp, sn, sc, rfl⟩ := ho.slice
  have hT3 := blkOn HT2.out hb3
  have r0 := hT3.cell 0
  have f0 := hT3.frozen 0
  have lT := hT3.lt
  simp at r0
  have HO := Lib.hid ho; have HE3 := Lib.hid (below_then HE2.out hb3)
  have HLe := Lib.hid HE2.out.size
  have lT0 := HT2.out.lt
  clear ho hb3 hT3
  go_wp2
  have hB5 := HE3.out.setCell (p := ⟨w.heap.size + 1, 0, none⟩) (by show w.heap.size ≤ w.heap.size + 1; omega) (.slice sp sn sc)
  refine bodyPost_ret (v := .tuple #[.agg #[.slice sp sn sc], .int .i64 0]) (by simp [results, Try.results37, go_sem, r0, lT]) rfl ⟨_, rfl, ?_, hB5⟩
  refine World.ownsRow.kept (World.ownsRow.mono (show w3.ownsRow _ 87 3 _ _ _ from HO.out) HLe.out) (grownBy_setCell' w3 _ _) (.inr ?_)
  intro e
  have := (World.ownsRow.lt (show w3.ownsRow _ 87 3 _ _ _ from HO.out) _ e).1
  omega
end Go.Proofs.Ytmenlaefekkahaa
namespace Go.Proofs.Ytmenlaefekkahaa
open Go.RowKit

set_option maxRecDepth 100000 in
set_option maxHeartbeats 2000000 in
theorem cut_bad (A : Option Addr) (n c : Nat) (ps : List P3) (x y E : Int) (w : World) (hn : n = ps.length) (hm : n ≤ maxLen) (hp : Pts w A ps) (hpl : placesS ps x y = E) (h0 : E ≠ 0) :
    Calls Try.prog 37 #[tv A n c, .int .i64 x, .int .i64 y] w fun e w' => e = .returned (.tuple #[.agg #[.slice none 0 0], .int .i64 E]) ∧ Below w.heap.size w w' := by
  have hE : Below w.heap.size w ((w.alloc (.cells #[.slice A n c] 43)).alloc (.cells #[.slice none 0 0] 43)) := below_a2 (Below.refl _ _)
  have hT := Blk.new (w.alloc (.cells #[.slice A n c] 43)) 43 #[.slice none 0 0]
  simp only [World.size_alloc] at hT
  have HP := Lib.hid (hp.below hE); have HE := Lib.hid hE; have HT := Lib.hid hT; have HN := Lib.hid hn; have HPL := Lib.hid hpl
  clear hE hT hp hn hpl
  go_enter Try.func37, Try.ntmps37
  go_wp2_with fail
  obtain ⟨W0, hW0⟩ : ∃ W0, (w.alloc (.cells #[.slice A n c] 43)).alloc (.cells #[.slice none 0 0] 43) = W0 := ⟨_, rfl⟩
  rw [hW0] at HE HT HP ⊢
  clear hW0
  refine (checkPlaces_to _ n c ps x y E _ HN.out hm HP.out HPL.out).mono ?_
  rintro e w1 ⟨rfl, hb1⟩
  have hT1 := blkOn HT.out hb1
  have HE1 := Lib.hid (below_then HE.out hb1)
  have r0 := hT1.cell 0
  have f0 := hT1.frozen 0
  have lT := hT1.lt
  simp at r0
  clear hb1
  go_wp2
  refine bodyPost_ret (v := .tuple #[.agg #[.slice none 0 0], .int .i64 E]) (by simp [results, Try.results37, go_sem, r0, lT]) rfl ⟨rfl, ?_⟩
  exact HE1.out.setCell (p := ⟨w.heap.size + 1, 0, none⟩) (by show w.heap.size ≤ w.heap.size + 1; omega) _
end Go.Proofs.Ytmenlaefekkahaa
