/- The contract of Lines (the specification). Its condition: the table's points lie in memory, 40 of them at most. -/
import Derived.Test.YtpcmcicnciejpaaGreatR00
import Derived.Laws.Small
import Derived.Test.YtpcmcicnciejpaaGreatR01
import Derived.RegionTactic
import Derived.Deep.AppendLies
import Derived.RangeFuncBox
import Derived.Deep.RegionLaw
import Derived.RangeFuncCalls
import Derived.WalkSmall
import Derived.BigRegion
import Derived.Deep.Onto
set_option linter.unusedVariables false
set_option linter.unusedSimpArgs false
set_option linter.constructorNameAsVariable false
namespace Go.Proofs.YtpcmcicnciejpaaGreat

section
open Go.RowKit
attribute [local go_sem ↓] eqlRange neqRange
def mulS (a b c d : Int) : Int × Int × Int :=
  twoS a b c d (bigS (min (min (min (a * c) (a * d)) (b * c)) (b * d)) (max (max (max (a * c) (a * d)) (b * c)) (b * d)))

theorem idx0 (x y : Int) (w : World) : (Instr.index 149 (.agg #[.int .i64 x, .int .i64 y]) (.int .i64 0)).run Tryz.prog w = .ok (.int .i64 x) w := by kernel_rfl
theorem idx1 (x y : Int) (w : World) : (Instr.index 149 (.agg #[.int .i64 x, .int .i64 y]) (.int .i64 1)).run Tryz.prog w = .ok (.int .i64 y) w := by kernel_rfl

theorem mul_cells {w w1 v0 v : World} {a b c d : Int} (hl : Below w1.heap.size w1 v0) (ho : Only w1.heap.size v0 v) (hb : Below (((w.alloc (.cells #[.int .i64 a, .int .i64 b] 35)).alloc (.cells #[.int .i64 c, .int .i64 d] 35)).alloc (.cells #[.int .i64 0, .int .i64 0] 35)).heap.size
      (((w.alloc (.cells #[.int .i64 a, .int .i64 b] 35)).alloc (.cells #[.int .i64 c, .int .i64 d] 35)).alloc (.cells #[.int .i64 0, .int .i64 0] 35)) w1) (hz : w.heap.size + 1 + 1 < w1.heap.size) :
    (v.cell? ⟨w.heap.size + 1, 0, none⟩ = some (.int .i64 c) ∧ v.cell? ⟨w.heap.size + 1, 1, none⟩ = some (.int .i64 d) ∧ v.cell? ⟨w.heap.size + 1 + 1, 0, none⟩ = some (.int .i64 0) ∧ v.cell? ⟨w.heap.size + 1 + 1, 1, none⟩ = some (.int .i64 0)) ∧
    (v.frozen? ⟨w.heap.size + 1 + 1, 0, none⟩ = false ∧ v.frozen? ⟨w.heap.size + 1 + 1, 1, none⟩ = false) := by
  have hs := hl.size
  obtain ⟨p, q⟩ := ho.cells
  obtain ⟨p1, q1⟩ := bcell hb
  have p2 : ∀ b o, b < w1.heap.size → v0.cell? ⟨b, o, none⟩ = w1.cell? ⟨b, o, none⟩ := fun b o h => hl.cell (p := ⟨b, o, none⟩) h
  have q2 : ∀ b o, b < w1.heap.size → v0.frozen? ⟨b, o, none⟩ = w1.frozen? ⟨b, o, none⟩ := fun b o h => hl.frozen (p := ⟨b, o, none⟩) h
  refine ⟨⟨?_, ?_, ?_, ?_⟩, ?_, ?_⟩
  · rw [p _ _ (by omega) (by omega), p2 _ _ (by omega), p1 _ _ (by simp <;> omega)]; simp [go_sem]
  · rw [p _ _ (by omega) (by omega), p2 _ _ (by omega), p1 _ _ (by simp <;> omega)]; simp [go_sem]
  · rw [p _ _ (by omega) (by omega), p2 _ _ (by omega), p1 _ _ (by simp)]; simp [go_sem]
  · rw [p _ _ (by omega) (by omega), p2 _ _ (by omega), p1 _ _ (by simp)]; simp [go_sem]
  · rw [q _ _ (by omega) (by omega), q2 _ _ (by omega), q1 _ _ (by simp)] <;> simp [go_sem]
  · rw [q _ _ (by omega) (by omega), q2 _ _ (by omega), q1 _ _ (by simp)] <;> simp [go_sem]

theorem mul_yes (a b c d : Int) (w : World) (h : (vR a b && vR c d) = true) (h1 : prodOk a c) (h2 : prodOk a d) (h3 : prodOk b c) (h4 : prodOk b d) :
  Calls Tryz.prog 70 #[rv a b, rv c d] w fun e w' => e = .returned (rt (bigS (min (min (min (a * c) (a * d)) (b * c)) (b * d)) (max (max (max (a * c) (a * d)) (b * c)) (b * d)))) ∧ Below w.heap.size w w' := by
 obtain ⟨⟨a1, a2, a3⟩, ⟨c1, c2, c3⟩⟩ := both_iff h
 have H := Lib.hid h; clear h
 have H1 := Lib.hid h1; clear h1
 have H2 := Lib.hid h2; clear h2
 have H3 := Lib.hid h3; clear h3
 have H4 := Lib.hid h4; clear h4
 have i0 := idx0 a b
 have i1 := idx1 a b
 have j0 := idx0 c d
 have j1 := idx1 c d
 go_enter Tryz.func70, Tryz.ntmps70
 go_wp2_with fail
 refine (bothValid_to a b c d _ _ H.out).mono ?_
 rintro e w1 ⟨rfl, hb⟩
 obtain ⟨hc, hf⟩ := bcell hb
 have hz0 : w.heap.size + 1 + 1 < w1.heap.size := by have := hb.size; simp at this; omega
 have hza : w.heap.size < w1.heap.size := by omega
 have hzb : w.heap.size + 1 < w1.heap.size := by omega
 go_wp2_with fail
 have hB1 := Blk.new w1 148 (growCells 0 0 false)
 have ho1 := Only.refl w1.heap.size (w1.alloc (.cells (growCells 0 0 false) 148))
 have hl1 := below_a1 (Below.refl _ (w1.alloc (.cells (growCells 0 0 false) 148)))
 have HB1 := Lib.hid hB1; clear hB1
 have HO1 := Lib.hid ho1; clear ho1
 have HL1 := Lib.hid hl1; clear hl1
 refine wp_loop_rounds 3 ?_
 rw [rounds_succ]
 go_wp2_with fail
 refine wp_loop_rounds 3 ?_
 rw [rounds_succ]
 go_wp2_with fail
 refine (product_yes a c _ (by omega) (by omega) (by omega) (by omega) H1.out).mono ?_
 rintro e w' ⟨rfl, rfl⟩
 go_wp2_with fail
 refine (take_first _ _ _ _ _ _ HB1.out).mono ?_
 rintro e v2 ⟨rfl, hB2, ho⟩
 obtain ⟨⟨ga2, gb2, gc2, gd2⟩, fa2, fb2⟩ := mul_cells HL1.out (HO1.out.trans ho) hb hz0
 have gq2 : w1.heap.size < v2.heap.size := hB2.lt
 have gz2 : w.heap.size + 1 + 1 < v2.heap.size := by omega
 have HB2 := Lib.hid hB2; clear hB2
 have HO2 := Lib.hid (HO1.out.trans ho); clear ho
 go_wp2_with fail
 rw [rounds_succ]
 go_wp2_with fail
 refine (product_yes a d _ (by omega) (by omega) (by omega) (by omega) H2.out).mono ?_
 rintro e w' ⟨rfl, rfl⟩
 go_wp2_with fail
 refine (take_more _ _ _ _ _ _ HB2.out).mono ?_
 rintro e v3 ⟨rfl, hB3, ho⟩
 clear ga2 gb2 gc2 gd2 fa2 fb2 gz2 gq2
 obtain ⟨⟨ga3, gb3, gc3, gd3⟩, fa3, fb3⟩ := mul_cells HL1.out (HO2.out.trans ho) hb hz0
 have gq3 : w1.heap.size < v3.heap.size := hB3.lt
 have gz3 : w.heap.size + 1 + 1 < v3.heap.size := by omega
 have HB3 := Lib.hid hB3; clear hB3
 have HO3 := Lib.hid (HO2.out.trans ho); clear ho
 go_wp2_with fail
 rw [rounds_succ]
 go_wp2_with fail
 rw [rounds_succ]
 go_wp2_with fail
 refine wp_loop_rounds 3 ?_
 rw [rounds_succ]
 go_wp2_with fail
 refine (product_yes b c _ (by omega) (by omega) (by omega) (by omega) H3.out).mono ?_
 rintro e w' ⟨rfl, rfl⟩
 go_wp2_with fail
 refine (take_more _ _ _ _ _ _ HB3.out).mono ?_
 rintro e v4 ⟨rfl, hB4, ho⟩
 clear ga3 gb3 gc3 gd3 fa3 fb3 gz3 gq3
 obtain ⟨⟨ga4, gb4, gc4, gd4⟩, fa4, fb4⟩ := mul_cells HL1.out (HO3.out.trans ho) hb hz0
 have gq4 : w1.heap.size < v4.heap.size := hB4.lt
 have gz4 : w.heap.size + 1 + 1 < v4.heap.size := by omega
 have HB4 := Lib.hid hB4; clear hB4
 have HO4 := Lib.hid (HO3.out.trans ho); clear ho
 go_wp2_with fail
 rw [rounds_succ]
 go_wp2_with fail
 refine (product_yes b d _ (by omega) (by omega) (by omega) (by omega) H4.out).mono ?_
 rintro e w' ⟨rfl, rfl⟩
 go_wp2_with fail
 refine (take_more _ _ _ _ _ _ HB4.out).mono ?_
 rintro e v5 ⟨rfl, hB5, ho⟩
 clear ga4 gb4 gc4 gd4 fa4 fb4 gz4 gq4
 obtain ⟨⟨ga5, gb5, gc5, gd5⟩, fa5, fb5⟩ := mul_cells HL1.out (HO4.out.trans ho) hb hz0
 have gq5 : w1.heap.size < v5.heap.size := hB5.lt
 have gz5 : w.heap.size + 1 + 1 < v5.heap.size := by omega
 have HB5 := Lib.hid hB5; clear hB5
 have HO5 := Lib.hid (HO4.out.trans ho); clear ho
 go_wp2_with fail
 rw [rounds_succ]
 go_wp2_with fail
 rw [rounds_succ]
 have k0 := HB5.out.cell 0
 have k1 := HB5.out.cell 1
 simp at k0 k1
 go_wp2_with fail
 refine (unlessBig_any _ _ _).mono ?_
 rintro e v6 ⟨rfl, hb6⟩
 obtain ⟨hc6, hf6⟩ := bcell hb6
 have hb5 : Below w.heap.size w v5 := (HO5.out.below (below_then (below_a3 hb) HL1.out) (by omega))
 go_wp2
 exact bodyPost_ret (v := rt (bigS (min (min (min (a * c) (a * d)) (b * c)) (b * d)) (max (max (max (a * c) (a * d)) (b * c)) (b * d)))) (by simp [results, Tryz.results70, go_sem, hc6, gz5, gc5, gd5]) rfl ⟨rfl, ((below_then hb5 hb6).setCell (by simp; omega) _).setCell (by simp; omega) _⟩

theorem mul_no1 (a b c d : Int) (w : World) (h : (vR a b && vR c d) = true) (h1 : ¬ prodOk a c) :
  Calls Tryz.prog 70 #[rv a b, rv c d] w fun e w' => e = .returned (rt (0, 0, 5)) ∧ Below w.heap.size w w' := by
 obtain ⟨⟨a1, a2, a3⟩, ⟨c1, c2, c3⟩⟩ := both_iff h
 have H := Lib.hid h; clear h
 have H1 := Lib.hid h1; clear h1
 have i0 := idx0 a b
 have i1 := idx1 a b
 have j0 := idx0 c d
 have j1 := idx1 c d
 go_enter Tryz.func70, Tryz.ntmps70
 go_wp2_with fail
 refine (bothValid_to a b c d _ _ H.out).mono ?_
 rintro e w1 ⟨rfl, hb⟩
 obtain ⟨hc, hf⟩ := bcell hb
 have hz0 : w.heap.size + 1 + 1 < w1.heap.size := by have := hb.size; simp at this; omega
 have hza : w.heap.size < w1.heap.size := by omega
 have hzb : w.heap.size + 1 < w1.heap.size := by omega
 go_wp2_with fail
 have hB1 := Blk.new w1 148 (growCells 0 0 false)
 have ho1 := Only.refl w1.heap.size (w1.alloc (.cells (growCells 0 0 false) 148))
 have hl1 := below_a1 (Below.refl _ (w1.alloc (.cells (growCells 0 0 false) 148)))
 have HB1 := Lib.hid hB1; clear hB1
 have HO1 := Lib.hid ho1; clear ho1
 have HL1 := Lib.hid hl1; clear hl1
 refine wp_loop_rounds 3 ?_
 rw [rounds_succ]
 go_wp2_with fail
 refine wp_loop_rounds 3 ?_
 rw [rounds_succ]
 go_wp2_with fail
 refine (product_no a c _ (by omega) (by omega) (by omega) (by omega) H1.out).mono ?_
 rintro e w' ⟨rfl, rfl⟩
 go_wp2
 exact bodyPost_ret (v := rt (0, 0, 5)) (by simp [results, Tryz.results70, go_sem, hc, hz0]) rfl ⟨rfl, ((((below_a3 hb)).setCell (by simp; omega) _).setCell (by simp; omega) _).alloc (by simp; omega) _⟩

theorem mul_no2 (a b c d : Int) (w : World) (h : (vR a b && vR c d) = true) (h1 : prodOk a c) (h2 : ¬ prodOk a d) :
  Calls Tryz.prog 70 #[rv a b, rv c d] w fun e w' => e = .returned (rt (0, 0, 5)) ∧ Below w.heap.size w w' := by
 obtain ⟨⟨a1, a2, a3⟩, ⟨c1, c2, c3⟩⟩ := both_iff h
 have H := Lib.hid h; clear h
 have H1 := Lib.hid h1; clear h1
 have H2 := Lib.hid h2; clear h2
 have i0 := idx0 a b
 have i1 := idx1 a b
 have j0 := idx0 c d
 have j1 := idx1 c d
 go_enter Tryz.func70, Tryz.ntmps70
 go_wp2_with fail
 refine (bothValid_to a b c d _ _ H.out).mono ?_
 rintro e w1 ⟨rfl, hb⟩
 obtain ⟨hc, hf⟩ := bcell hb
 have hz0 : w.heap.size + 1 + 1 < w1.heap.size := by have := hb.size; simp at this; omega
 have hza : w.heap.size < w1.heap.size := by omega
 have hzb : w.heap.size + 1 < w1.heap.size := by omega
 go_wp2_with fail
 have hB1 := Blk.new w1 148 (growCells 0 0 false)
 have ho1 := Only.refl w1.heap.size (w1.alloc (.cells (growCells 0 0 false) 148))
 have hl1 := below_a1 (Below.refl _ (w1.alloc (.cells (growCells 0 0 false) 148)))
 have HB1 := Lib.hid hB1; clear hB1
 have HO1 := Lib.hid ho1; clear ho1
 have HL1 := Lib.hid hl1; clear hl1
 refine wp_loop_rounds 3 ?_
 rw [rounds_succ]
 go_wp2_with fail
 refine wp_loop_rounds 3 ?_
 rw [rounds_succ]
 go_wp2_with fail
 refine (product_yes a c _ (by omega) (by omega) (by omega) (by omega) H1.out).mono ?_
 rintro e w' ⟨rfl, rfl⟩
 go_wp2_with fail
 refine (take_first _ _ _ _ _ _ HB1.out).mono ?_
 rintro e v2 ⟨rfl, hB2, ho⟩
 obtain ⟨⟨ga2, gb2, gc2, gd2⟩, fa2, fb2⟩ := mul_cells HL1.out (HO1.out.trans ho) hb hz0
 have gq2 : w1.heap.size < v2.heap.size := hB2.lt
 have gz2 : w.heap.size + 1 + 1 < v2.heap.size := by omega
 have HB2 := Lib.hid hB2; clear hB2
 have HO2 := Lib.hid (HO1.out.trans ho); clear ho
 go_wp2_with fail
 rw [rounds_succ]
 go_wp2_with fail
 refine (product_no a d _ (by omega) (by omega) (by omega) (by omega) H2.out).mono ?_
 rintro e w' ⟨rfl, rfl⟩
 go_wp2
 have hb5 : Below w.heap.size w v2 := (HO2.out.below (below_then (below_a3 hb) HL1.out) (by omega))
 exact bodyPost_ret (v := rt (0, 0, 5)) (by simp [results, Tryz.results70, go_sem, gz2, gc2, gd2]) rfl ⟨rfl, (hb5.setCell (by simp; omega) _).setCell (by simp; omega) _⟩

theorem mul_no3 (a b c d : Int) (w : World) (h : (vR a b && vR c d) = true) (h1 : prodOk a c) (h2 : prodOk a d) (h3 : ¬ prodOk b c) :
  Calls Tryz.prog 70 #[rv a b, rv c d] w fun e w' => e = .returned (rt (0, 0, 5)) ∧ Below w.heap.size w w' := by
 obtain ⟨⟨a1, a2, a3⟩, ⟨c1, c2, c3⟩⟩ := both_iff h
 have H := Lib.hid h; clear h
 have H1 := Lib.hid h1; clear h1
 have H2 := Lib.hid h2; clear h2
 have H3 := Lib.hid h3; clear h3
 have i0 := idx0 a b
 have i1 := idx1 a b
 have j0 := idx0 c d
 have j1 := idx1 c d
 go_enter Tryz.func70, Tryz.ntmps70
 go_wp2_with fail
 refine (bothValid_to a b c d _ _ H.out).mono ?_
 rintro e w1 ⟨rfl, hb⟩
 obtain ⟨hc, hf⟩ := bcell hb
 have hz0 : w.heap.size + 1 + 1 < w1.heap.size := by have := hb.size; simp at this; omega
 have hza : w.heap.size < w1.heap.size := by omega
 have hzb : w.heap.size + 1 < w1.heap.size := by omega
 go_wp2_with fail
 have hB1 := Blk.new w1 148 (growCells 0 0 false)
 have ho1 := Only.refl w1.heap.size (w1.alloc (.cells (growCells 0 0 false) 148))
 have hl1 := below_a1 (Below.refl _ (w1.alloc (.cells (growCells 0 0 false) 148)))
 have HB1 := Lib.hid hB1; clear hB1
 have HO1 := Lib.hid ho1; clear ho1
 have HL1 := Lib.hid hl1; clear hl1
 refine wp_loop_rounds 3 ?_
 rw [rounds_succ]
 go_wp2_with fail
 refine wp_loop_rounds 3 ?_
 rw [rounds_succ]
 go_wp2_with fail
 refine (product_yes a c _ (by omega) (by omega) (by omega) (by omega) H1.out).mono ?_
 rintro e w' ⟨rfl, rfl⟩
 go_wp2_with fail
 refine (take_first _ _ _ _ _ _ HB1.out).mono ?_
 rintro e v2 ⟨rfl, hB2, ho⟩
 obtain ⟨⟨ga2, gb2, gc2, gd2⟩, fa2, fb2⟩ := mul_cells HL1.out (HO1.out.trans ho) hb hz0
 have gq2 : w1.heap.size < v2.heap.size := hB2.lt
 have gz2 : w.heap.size + 1 + 1 < v2.heap.size := by omega
 have HB2 := Lib.hid hB2; clear hB2
 have HO2 := Lib.hid (HO1.out.trans ho); clear ho
 go_wp2_with fail
 rw [rounds_succ]
 go_wp2_with fail
 refine (product_yes a d _ (by omega) (by omega) (by omega) (by omega) H2.out).mono ?_
 rintro e w' ⟨rfl, rfl⟩
 go_wp2_with fail
 refine (take_more _ _ _ _ _ _ HB2.out).mono ?_
 rintro e v3 ⟨rfl, hB3, ho⟩
 clear ga2 gb2 gc2 gd2 fa2 fb2 gz2 gq2
 obtain ⟨⟨ga3, gb3, gc3, gd3⟩, fa3, fb3⟩ := mul_cells HL1.out (HO2.out.trans ho) hb hz0
 have gq3 : w1.heap.size < v3.heap.size := hB3.lt
 have gz3 : w.heap.size + 1 + 1 < v3.heap.size := by omega
 have HB3 := Lib.hid hB3; clear hB3
 have HO3 := Lib.hid (HO2.out.trans ho); clear ho
 go_wp2_with fail
 rw [rounds_succ]
 go_wp2_with fail
 rw [rounds_succ]
 go_wp2_with fail
 refine wp_loop_rounds 3 ?_
 rw [rounds_succ]
 go_wp2_with fail
 refine (product_no b c _ (by omega) (by omega) (by omega) (by omega) H3.out).mono ?_
 rintro e w' ⟨rfl, rfl⟩
 go_wp2
 have hb5 : Below w.heap.size w v3 := (HO3.out.below (below_then (below_a3 hb) HL1.out) (by omega))
 exact bodyPost_ret (v := rt (0, 0, 5)) (by simp [results, Tryz.results70, go_sem, gz3, gc3, gd3]) rfl ⟨rfl, (hb5.setCell (by simp; omega) _).setCell (by simp; omega) _⟩

theorem mul_no4 (a b c d : Int) (w : World) (h : (vR a b && vR c d) = true) (h1 : prodOk a c) (h2 : prodOk a d) (h3 : prodOk b c) (h4 : ¬ prodOk b d) :
  Calls Tryz.prog 70 #[rv a b, rv c d] w fun e w' => e = .returned (rt (0, 0, 5)) ∧ Below w.heap.size w w' := by
 obtain ⟨⟨a1, a2, a3⟩, ⟨c1, c2, c3⟩⟩ := both_iff h
 have H := Lib.hid h; clear h
 have H1 := Lib.hid h1; clear h1
 have H2 := Lib.hid h2; clear h2
 have H3 := Lib.hid h3; clear h3
 have H4 := Lib.hid h4; clear h4
 have i0 := idx0 a b
 have i1 := idx1 a b
 have j0 := idx0 c d
 have j1 := idx1 c d
 go_enter Tryz.func70, Tryz.ntmps70
 go_wp2_with fail
 refine (bothValid_to a b c d _ _ H.out).mono ?_
 rintro e w1 ⟨rfl, hb⟩
 obtain ⟨hc, hf⟩ := bcell hb
 have hz0 : w.heap.size + 1 + 1 < w1.heap.size := by have := hb.size; simp at this; omega
 have hza : w.heap.size < w1.heap.size := by omega
 have hzb : w.heap.size + 1 < w1.heap.size := by omega
 go_wp2_with fail
 have hB1 := Blk.new w1 148 (growCells 0 0 false)
 have ho1 := Only.refl w1.heap.size (w1.alloc (.cells (growCells 0 0 false) 148))
 have hl1 := below_a1 (Below.refl _ (w1.alloc (.cells (growCells 0 0 false) 148)))
 have HB1 := Lib.hid hB1; clear hB1
 have HO1 := Lib.hid ho1; clear ho1
 have HL1 := Lib.hid hl1; clear hl1
 refine wp_loop_rounds 3 ?_
 rw [rounds_succ]
 go_wp2_with fail
 refine wp_loop_rounds 3 ?_
 rw [rounds_succ]
 go_wp2_with fail
 refine (product_yes a c _ (by omega) (by omega) (by omega) (by omega) H1.out).mono ?_
 rintro e w' ⟨rfl, rfl⟩
 go_wp2_with fail
 refine (take_first _ _ _ _ _ _ HB1.out).mono ?_
 rintro e v2 ⟨rfl, hB2, ho⟩
 obtain ⟨⟨ga2, gb2, gc2, gd2⟩, fa2, fb2⟩ := mul_cells HL1.out (HO1.out.trans ho) hb hz0
 have gq2 : w1.heap.size < v2.heap.size := hB2.lt
 have gz2 : w.heap.size + 1 + 1 < v2.heap.size := by omega
 have HB2 := Lib.hid hB2; clear hB2
 have HO2 := Lib.hid (HO1.out.trans ho); clear ho
 go_wp2_with fail
 rw [rounds_succ]
 go_wp2_with fail
 refine (product_yes a d _ (by omega) (by omega) (by omega) (by omega) H2.out).mono ?_
 rintro e w' ⟨rfl, rfl⟩
 go_wp2_with fail
 refine (take_more _ _ _ _ _ _ HB2.out).mono ?_
 rintro e v3 ⟨rfl, hB3, ho⟩
 clear ga2 gb2 gc2 gd2 fa2 fb2 gz2 gq2
 obtain ⟨⟨ga3, gb3, gc3, gd3⟩, fa3, fb3⟩ := mul_cells HL1.out (HO2.out.trans ho) hb hz0
 have gq3 : w1.heap.size < v3.heap.size := hB3.lt
 have gz3 : w.heap.size + 1 + 1 < v3.heap.size := by omega
 have HB3 := Lib.hid hB3; clear hB3
 have HO3 := Lib.hid (HO2.out.trans ho); clear ho
 go_wp2_with fail
 rw [rounds_succ]
 go_wp2_with fail
 rw [rounds_succ]
 go_wp2_with fail
 refine wp_loop_rounds 3 ?_
 rw [rounds_succ]
 go_wp2_with fail
 refine (product_yes b c _ (by omega) (by omega) (by omega) (by omega) H3.out).mono ?_
 rintro e w' ⟨rfl, rfl⟩
 go_wp2_with fail
 refine (take_more _ _ _ _ _ _ HB3.out).mono ?_
 rintro e v4 ⟨rfl, hB4, ho⟩
 clear ga3 gb3 gc3 gd3 fa3 fb3 gz3 gq3
 obtain ⟨⟨ga4, gb4, gc4, gd4⟩, fa4, fb4⟩ := mul_cells HL1.out (HO3.out.trans ho) hb hz0
 have gq4 : w1.heap.size < v4.heap.size := hB4.lt
 have gz4 : w.heap.size + 1 + 1 < v4.heap.size := by omega
 have HB4 := Lib.hid hB4; clear hB4
 have HO4 := Lib.hid (HO3.out.trans ho); clear ho
 go_wp2_with fail
 rw [rounds_succ]
 go_wp2_with fail
 refine (product_no b d _ (by omega) (by omega) (by omega) (by omega) H4.out).mono ?_
 rintro e w' ⟨rfl, rfl⟩
 go_wp2
 have hb5 : Below w.heap.size w v4 := (HO4.out.below (below_then (below_a3 hb) HL1.out) (by omega))
 exact bodyPost_ret (v := rt (0, 0, 5)) (by simp [results, Tryz.results70, go_sem, gz4, gc4, gd4]) rfl ⟨rfl, (hb5.setCell (by simp; omega) _).setCell (by simp; omega) _⟩

theorem mul_invalid (a b c d : Int) (w : World) (h : (vR a b && vR c d) = false) :
  Calls Tryz.prog 70 #[rv a b, rv c d] w fun e w' => e = .returned (rt (0, 0, 10)) ∧ Below w.heap.size w w' := by
 have H := Lib.hid h; clear h
 go_enter Tryz.func70, Tryz.ntmps70
 go_wp2_with fail
 refine (bothValid_to a b c d _ _ H.out).mono ?_
 rintro e w1 ⟨rfl, hb⟩
 obtain ⟨hc, hf⟩ := bcell hb
 go_wp2
 exact bodyPost_ret (v := rt (0, 0, 10)) (by simp [results, Tryz.results70, go_sem, hc]) rfl ⟨rfl, ((below_a3 hb).setCell (by simp; omega) _).setCell (by simp; omega) _⟩

theorem bigS_no (lo hi : Int) (h : ¬ (lo ≤ hi ∧ -1000000000000000 ≤ lo ∧ hi ≤ 1000000000000000)) : bigS lo hi = (0, 0, 5) := by
  unfold bigS; rw [vR_no lo hi h]; rfl
theorem far_of_notOk {a b : Int} (h : ¬ prodOk a b) : a * b < -2000000000000000 ∨ 2000000000000000 < a * b := by
  have h1 : ¬ absI (a * b) ≤ 2000000000000000 := fun k => h ((prodOk_iff _ _).2 k)
  unfold absI at h1; split at h1 <;> omega

theorem mul_any (a b c d : Int) (w : World) :
    Calls Tryz.prog 70 #[rv a b, rv c d] w fun e w' => e = .returned (rt (mulS a b c d)) ∧ Below w.heap.size w w' := by
  unfold mulS
  cases h : (vR a b && vR c d)
  · rw [twoS_no h]; exact mul_invalid a b c d w h
  · rw [twoS_yes h]
    by_cases h1 : prodOk a c
    · by_cases h2 : prodOk a d
      · by_cases h3 : prodOk b c
        · by_cases h4 : prodOk b d
          · exact mul_yes a b c d w h h1 h2 h3 h4
          · rw [bigS_no _ _ (by have := far_of_notOk h4; omega)]; exact mul_no4 a b c d w h h1 h2 h3 h4
        · rw [bigS_no _ _ (by have := far_of_notOk h3; omega)]; exact mul_no3 a b c d w h h1 h2 h3
      · rw [bigS_no _ _ (by have := far_of_notOk h2; omega)]; exact mul_no2 a b c d w h h1 h2
    · rw [bigS_no _ _ (by have := far_of_notOk h1; omega)]; exact mul_no1 a b c d w h h1
end

section
open Go.RowKit
attribute [local go_sem ↓] eqlRange neqRange
theorem run_minI {P : Program} (ts : Array TypeId) (t : TypeId) (x y : Int) (w : World) : (Builtin.min_ ts t #[.int .i64 x, .int .i64 y]).run P w = .ok (.int .i64 (min x y)) w := by
  rw [run_min_int2]
  have e : (if y < x then y else x) = min x y := by split <;> omega
  rw [e]
theorem run_maxI {P : Program} (ts : Array TypeId) (t : TypeId) (x y : Int) (w : World) : (Builtin.max_ ts t #[.int .i64 x, .int .i64 y]).run P w = .ok (.int .i64 (max x y)) w := by
  rw [run_max_int2]
  have e : (if x < y then y else x) = max x y := by split <;> omega
  rw [e]
attribute [local go_sem ↓] run_minI run_maxI
end

section
open Go.RowKit

def bs (f : Int → Bool) : Nat → Int → Int → Int
  | 0, i, _ => i
  | k + 1, i, j => if i < j then (if f ((i + j) / 2) = true then bs f k i ((i + j) / 2) else bs f k ((i + j) / 2 + 1) j) else i
theorem bs_done (f : Int → Bool) (k : Nat) (i j : Int) (h : ¬ i < j) : bs f k i j = i := by
  cases k with
  | zero => rfl
  | succ k => rw [bs, if_neg h]
theorem bs_yes (f : Int → Bool) (k : Nat) (i j : Int) (h : i < j) (hf : f ((i + j) / 2) = true) : bs f (k + 1) i j = bs f k i ((i + j) / 2) := by rw [bs, if_pos h, if_pos hf]
theorem bs_no (f : Int → Bool) (k : Nat) (i j : Int) (h : i < j) (hf : f ((i + j) / 2) = false) : bs f (k + 1) i j = bs f k ((i + j) / 2 + 1) j := by rw [bs, if_pos h, hf]; simp

def Asked (w : World) (Bp Br : Nat) (p q : P3) (lo hi : Int) : Prop := Blk w Bp 138 (pCells p q) ∧ Blk w Br 35 #[.int .i64 lo, .int .i64 hi] ∧ Okp p ∧ Okp q
theorem Asked.below {w w' : World} {Bp Br : Nat} {p q : P3} {lo hi : Int} (h : Asked w Bp Br p q lo hi) (hB : Below w.heap.size w w') : Asked w' Bp Br p q lo hi :=
  ⟨h.1.below hB h.1.lt, h.2.1.below hB h.2.1.lt, h.2.2⟩
theorem Asked.drew {w : World} {Bp Br : Nat} {p q : P3} {lo hi : Int} (h : Asked w Bp Br p q lo hi) : Asked w.drew Bp Br p q lo hi := h

def lowSo (p q : P3) (lo hi x : Int) : Bool := decide ((pAt p q x).1 ≤ hi)
def highSo (p q : P3) (lo hi x : Int) : Bool := decide (lo ≤ (pAt p q x).2)

theorem low_asked (Bp Br : Nat) (p q : P3) (lo hi x : Int) (w : World) (h : Asked w Bp Br p q lo hi) (hx : 0 ≤ x) (hx' : x ≤ 1000000) :
    Calls Tryz.prog 91 #[.int .i64 x, .pointer (some ⟨Bp, 0, none⟩), .pointer (some ⟨Br, 0, none⟩)] w fun e w' => e = .returned (.bool (lowSo p q lo hi x)) ∧ Below w.heap.size w w' :=
  lowAsk Bp Br p q lo hi x w h.1 h.2.1 h.2.2.1 h.2.2.2 hx hx'

abbrev lowFn (Bp Br : Nat) : Value := .func (.func 91) #[] #[.pointer (some ⟨Bp, 0, none⟩), .pointer (some ⟨Br, 0, none⟩)]
def lowTurn (w : World) (B3 B5 B7 Bp Br : Nat) (p q : P3) (lo hi a : Int) (first : Bool) : Prop :=
  Blk w B3 68 #[lowFn Bp Br] ∧ Blk w B5 3 #[.int .i64 a] ∧ Blk w B7 4 #[.bool first] ∧ Asked w Bp Br p q lo hi
theorem lowTurn.below {w w' : World} {B3 B5 B7 Bp Br : Nat} {p q : P3} {lo hi a : Int} {first : Bool} (h : lowTurn w B3 B5 B7 Bp Br p q lo hi a first) (hB : Below w.heap.size w w') : lowTurn w' B3 B5 B7 Bp Br p q lo hi a first :=
  ⟨h.1.below hB h.1.lt, h.2.1.below hB h.2.1.lt, h.2.2.1.below hB h.2.2.1.lt, h.2.2.2.below hB⟩

set_option maxRecDepth 100000 in
set_option maxHeartbeats 1000000 in
theorem low_turn (B3 B5 B7 Bp Br : Nat) (p q : P3) (lo hi a i : Int) (first : Bool) (w : World) (h : lowTurn w B3 B5 B7 Bp Br p q lo hi a first) (hx : 0 ≤ a + i) (hx' : a + i ≤ 1000000) :
  Calls Tryz.prog 125 #[.int .i64 i, .pointer (some ⟨B3, 0, none⟩), .pointer (some ⟨B5, 0, none⟩), .pointer (some ⟨B7, 0, none⟩)] w fun e w' => e = .returned (.bool (!(lowSo p q lo hi (a + i) == first))) ∧ Below w.heap.size w w' := by
 have a0 := h.1.cell 0
 have a1 := h.2.1.cell 0
 have a2 := h.2.2.1.cell 0
 have l3 := h.1.lt
 have l5 := h.2.1.lt
 have l7 := h.2.2.1.lt
 simp at a0 a1 a2
 have hd3 : B3 < w.drew.heap.size := l3
 have hd5 : B5 < w.drew.heap.size := l5
 have hd7 : B7 < w.drew.heap.size := l7
 have w1 : IntKind.i64.wrap (a + i) = a + i := IntWalk.i64_in _ ⟨by omega, by omega⟩
 have HA := Lib.hid h.2.2.2
 clear h
 generalize hso : lowSo p q lo hi (a + i) = so
 have HC := Lib.hid (fun V (hV : Asked V Bp Br p q lo hi) => (hso ▸ low_asked Bp Br p q lo hi (a + i) V hV hx hx'))
 clear hso
 go_enter Tryz.func125, Tryz.ntmps125
 go_wp2_with fail
 go_region_held3 (fun w' => w'.cell? ⟨B3, 0, none⟩ = some (lowFn Bp Br) ∧ w'.cell? ⟨B5, 0, none⟩ = some (.int .i64 a) ∧ w'.cell? ⟨B7, 0, none⟩ = some (.bool first))
  (first | (go_keep; done) | exact ⟨((bcell hb).1 _ _ hd3).trans (‹_ ∧ _ ∧ _›).1, ((bcell hb).1 _ _ hd5).trans (‹_ ∧ _ ∧ _›).2.1, ((bcell hb).1 _ _ hd7).trans (‹_ ∧ _ ∧ _›).2.2⟩)
  (first | (go_at_call 91; refine (HC.out w.drew HA.out).mono ?_; rintro e w1 ⟨rfl, hb⟩))
 go_wp2
 go_ret
 exact ⟨rfl, below_d hb⟩

theorem high_asked (Bp Br : Nat) (p q : P3) (lo hi x : Int) (w : World) (h : Asked w Bp Br p q lo hi) (hx : 0 ≤ x) (hx' : x ≤ 1000000) :
    Calls Tryz.prog 93 #[.int .i64 x, .pointer (some ⟨Bp, 0, none⟩), .pointer (some ⟨Br, 0, none⟩)] w fun e w' => e = .returned (.bool (highSo p q lo hi x)) ∧ Below w.heap.size w w' :=
  highAsk Bp Br p q lo hi x w h.1 h.2.1 h.2.2.1 h.2.2.2 hx hx'

abbrev highFn (Bp Br : Nat) : Value := .func (.func 93) #[] #[.pointer (some ⟨Bp, 0, none⟩), .pointer (some ⟨Br, 0, none⟩)]
def highTurn (w : World) (B3 B5 B7 Bp Br : Nat) (p q : P3) (lo hi a : Int) (first : Bool) : Prop :=
  Blk w B3 68 #[highFn Bp Br] ∧ Blk w B5 3 #[.int .i64 a] ∧ Blk w B7 4 #[.bool first] ∧ Asked w Bp Br p q lo hi
theorem highTurn.below {w w' : World} {B3 B5 B7 Bp Br : Nat} {p q : P3} {lo hi a : Int} {first : Bool} (h : highTurn w B3 B5 B7 Bp Br p q lo hi a first) (hB : Below w.heap.size w w') : highTurn w' B3 B5 B7 Bp Br p q lo hi a first :=
  ⟨h.1.below hB h.1.lt, h.2.1.below hB h.2.1.lt, h.2.2.1.below hB h.2.2.1.lt, h.2.2.2.below hB⟩

set_option maxRecDepth 100000 in
set_option maxHeartbeats 1000000 in
theorem high_turn (B3 B5 B7 Bp Br : Nat) (p q : P3) (lo hi a i : Int) (first : Bool) (w : World) (h : highTurn w B3 B5 B7 Bp Br p q lo hi a first) (hx : 0 ≤ a + i) (hx' : a + i ≤ 1000000) :
  Calls Tryz.prog 125 #[.int .i64 i, .pointer (some ⟨B3, 0, none⟩), .pointer (some ⟨B5, 0, none⟩), .pointer (some ⟨B7, 0, none⟩)] w fun e w' => e = .returned (.bool (!(highSo p q lo hi (a + i) == first))) ∧ Below w.heap.size w w' := by
 have a0 := h.1.cell 0
 have a1 := h.2.1.cell 0
 have a2 := h.2.2.1.cell 0
 have l3 := h.1.lt
 have l5 := h.2.1.lt
 have l7 := h.2.2.1.lt
 simp at a0 a1 a2
 have hd3 : B3 < w.drew.heap.size := l3
 have hd5 : B5 < w.drew.heap.size := l5
 have hd7 : B7 < w.drew.heap.size := l7
 have w1 : IntKind.i64.wrap (a + i) = a + i := IntWalk.i64_in _ ⟨by omega, by omega⟩
 have HA := Lib.hid h.2.2.2
 clear h
 generalize hso : highSo p q lo hi (a + i) = so
 have HC := Lib.hid (fun V (hV : Asked V Bp Br p q lo hi) => (hso ▸ high_asked Bp Br p q lo hi (a + i) V hV hx hx'))
 clear hso
 go_enter Tryz.func125, Tryz.ntmps125
 go_wp2_with fail
 go_region_held3 (fun w' => w'.cell? ⟨B3, 0, none⟩ = some (highFn Bp Br) ∧ w'.cell? ⟨B5, 0, none⟩ = some (.int .i64 a) ∧ w'.cell? ⟨B7, 0, none⟩ = some (.bool first))
  (first | (go_keep; done) | exact ⟨((bcell hb).1 _ _ hd3).trans (‹_ ∧ _ ∧ _›).1, ((bcell hb).1 _ _ hd5).trans (‹_ ∧ _ ∧ _›).2.1, ((bcell hb).1 _ _ hd7).trans (‹_ ∧ _ ∧ _›).2.2⟩)
  (first | (go_at_call 93; refine (HC.out w.drew HA.out).mono ?_; rintro e w1 ⟨rfl, hb⟩))
 go_wp2
 go_ret
 exact ⟨rfl, below_d hb⟩

abbrev lowTurnFn (B3 B5 B7 : Nat) : Value := .func (.func 125) #[] #[.pointer (some ⟨B3, 0, none⟩), .pointer (some ⟨B5, 0, none⟩), .pointer (some ⟨B7, 0, none⟩)]
theorem low_turn_to (B3 B5 B7 Bp Br : Nat) (p q : P3) (lo hi a i : Int) (first t : Bool) (w : World) (h : lowTurn w B3 B5 B7 Bp Br p q lo hi a first) (hx : 0 ≤ a + i) (hx' : a + i ≤ 1000000) (ht : (!(lowSo p q lo hi (a + i) == first)) = t) :
    Calls Tryz.prog 125 #[.int .i64 i, .pointer (some ⟨B3, 0, none⟩), .pointer (some ⟨B5, 0, none⟩), .pointer (some ⟨B7, 0, none⟩)] w fun e w' => e = .returned (.bool t) ∧ Below w.heap.size w w' := by
  subst ht; exact low_turn B3 B5 B7 Bp Br p q lo hi a i first w h hx hx'

set_option maxRecDepth 100000 in
set_option maxHeartbeats 2000000 in
theorem low_search (B3 B5 B7 Bp Br : Nat) (p q : P3) (lo hi a : Int) (n : Nat) (first : Bool) (w : World) (h : lowTurn w B3 B5 B7 Bp Br p q lo hi a first) (ha : 0 ≤ a) (han : a + n ≤ 1000000) :
  Calls Tryz.prog 124 #[.int .i64 n, lowTurnFn B3 B5 B7] w fun e w' => e = .returned (.int .i64 (bs (fun i => !(lowSo p q lo hi (a + i) == first)) n 0 n)) ∧ Below w.heap.size w w' := by
 generalize hR : bs (fun i => !(lowSo p q lo hi (a + i) == first)) n 0 n = R
 have HR := Lib.hid hR; clear hR
 have HT := Lib.hid h; clear h
 go_enter Tryz.func124, Tryz.ntmps124
 go_wp2_with fail
 go_loopw [5, 6] (fun vi vj wr => ∃ (i j k : Nat), i ≤ j ∧ j ≤ n ∧ j - i ≤ k ∧ vi = .int .i64 i ∧ vj = .int .i64 j ∧ Below w.heap.size w wr ∧ Hid (bs (fun i => !(lowSo p q lo hi (a + i) == first)) k i j = R)) (fun vi vj _ => (intOf vj).toNat - (intOf vi).toNat)
 case atStart => exact ⟨0, n, n, by omega, by omega, by omega, rfl, rfl, Below.refl _ _, HR.out⟩
 case round =>
  obtain ⟨i, j, k, hij, hjn, hk, rfl, rfl, hB, HP⟩ := hrel
  by_cases hlt : i < j
  ·have hlt' : (i : Int) < (j : Int) := by omega
   obtain ⟨k', rfl⟩ : ∃ k', k = k' + 1 := ⟨k - 1, by omega⟩
   obtain ⟨m, hm⟩ : ∃ m : Nat, (i + j) / 2 = m := ⟨_, rfl⟩
   have hmi : ((i : Int) + (j : Int)) / 2 = (m : Int) := by omega
   have m1 : i ≤ m := by omega
   have m2 : m < j := by omega
   have HM := Lib.hid hmi; clear hmi hm
   cases ht : (!(lowSo p q lo hi (a + m) == first))
   ·have hnext : bs (fun i => !(lowSo p q lo hi (a + i) == first)) k' ((m : Int) + 1) j = R := by
     rw [← HP.out, bs_no _ _ _ _ hlt' (by rw [HM.out]; exact ht), HM.out]
    have HNX := Lib.hid hnext; clear hnext HP HR
    have HTT := Lib.hid ht; clear ht
    go_wp2_with fail
    rw [HM.out]
    refine (low_turn_to B3 B5 B7 Bp Br p q lo hi a m first _ wr (HT.out.below hB) (by omega) (by omega) HTT.out).mono ?_
    rintro e w1 ⟨rfl, hb1⟩
    have hB1 := below_then hB hb1
    go_wp2
    go_roundw
    case rel => exact ⟨m + 1, j, k', by omega, by omega, by omega, by rw [Int.natCast_add]; rfl, rfl, hB1, by rw [Int.natCast_add]; exact HNX.out⟩
    case measure => simp [intOf]; omega
   ·have hnext : bs (fun i => !(lowSo p q lo hi (a + i) == first)) k' (i : Int) m = R := by
     rw [← HP.out, bs_yes _ _ _ _ hlt' (by rw [HM.out]; exact ht), HM.out]
    have HNX := Lib.hid hnext; clear hnext HP HR
    have HTT := Lib.hid ht; clear ht
    go_wp2_with fail
    rw [HM.out]
    refine (low_turn_to B3 B5 B7 Bp Br p q lo hi a m first _ wr (HT.out.below hB) (by omega) (by omega) HTT.out).mono ?_
    rintro e w1 ⟨rfl, hb1⟩
    have hB1 := below_then hB hb1
    go_wp2
    go_roundw
    case rel => exact ⟨i, m, k', by omega, by omega, by omega, rfl, rfl, hB1, HNX.out⟩
    case measure => simp [intOf]; omega
  ·have hf : R = (i : Int) := by rw [← HP.out]; exact bs_done _ _ _ _ (by omega)
   subst hf
   clear HP HR
   go_wp2
   go_ret
   exact ⟨rfl, hB⟩

abbrev highTurnFn (B3 B5 B7 : Nat) : Value := .func (.func 125) #[] #[.pointer (some ⟨B3, 0, none⟩), .pointer (some ⟨B5, 0, none⟩), .pointer (some ⟨B7, 0, none⟩)]
theorem high_turn_to (B3 B5 B7 Bp Br : Nat) (p q : P3) (lo hi a i : Int) (first t : Bool) (w : World) (h : highTurn w B3 B5 B7 Bp Br p q lo hi a first) (hx : 0 ≤ a + i) (hx' : a + i ≤ 1000000) (ht : (!(highSo p q lo hi (a + i) == first)) = t) :
    Calls Tryz.prog 125 #[.int .i64 i, .pointer (some ⟨B3, 0, none⟩), .pointer (some ⟨B5, 0, none⟩), .pointer (some ⟨B7, 0, none⟩)] w fun e w' => e = .returned (.bool t) ∧ Below w.heap.size w w' := by
  subst ht; exact high_turn B3 B5 B7 Bp Br p q lo hi a i first w h hx hx'

set_option maxRecDepth 100000 in
set_option maxHeartbeats 2000000 in
theorem high_search (B3 B5 B7 Bp Br : Nat) (p q : P3) (lo hi a : Int) (n : Nat) (first : Bool) (w : World) (h : highTurn w B3 B5 B7 Bp Br p q lo hi a first) (ha : 0 ≤ a) (han : a + n ≤ 1000000) :
  Calls Tryz.prog 124 #[.int .i64 n, highTurnFn B3 B5 B7] w fun e w' => e = .returned (.int .i64 (bs (fun i => !(highSo p q lo hi (a + i) == first)) n 0 n)) ∧ Below w.heap.size w w' := by
 generalize hR : bs (fun i => !(highSo p q lo hi (a + i) == first)) n 0 n = R
 have HR := Lib.hid hR; clear hR
 have HT := Lib.hid h; clear h
 go_enter Tryz.func124, Tryz.ntmps124
 go_wp2_with fail
 go_loopw [5, 6] (fun vi vj wr => ∃ (i j k : Nat), i ≤ j ∧ j ≤ n ∧ j - i ≤ k ∧ vi = .int .i64 i ∧ vj = .int .i64 j ∧ Below w.heap.size w wr ∧ Hid (bs (fun i => !(highSo p q lo hi (a + i) == first)) k i j = R)) (fun vi vj _ => (intOf vj).toNat - (intOf vi).toNat)
 case atStart => exact ⟨0, n, n, by omega, by omega, by omega, rfl, rfl, Below.refl _ _, HR.out⟩
 case round =>
  obtain ⟨i, j, k, hij, hjn, hk, rfl, rfl, hB, HP⟩ := hrel
  by_cases hlt : i < j
  ·have hlt' : (i : Int) < (j : Int) := by omega
   obtain ⟨k', rfl⟩ : ∃ k', k = k' + 1 := ⟨k - 1, by omega⟩
   obtain ⟨m, hm⟩ : ∃ m : Nat, (i + j) / 2 = m := ⟨_, rfl⟩
   have hmi : ((i : Int) + (j : Int)) / 2 = (m : Int) := by omega
   have m1 : i ≤ m := by omega
   have m2 : m < j := by omega
   have HM := Lib.hid hmi; clear hmi hm
   cases ht : (!(highSo p q lo hi (a + m) == first))
   ·have hnext : bs (fun i => !(highSo p q lo hi (a + i) == first)) k' ((m : Int) + 1) j = R := by
     rw [← HP.out, bs_no _ _ _ _ hlt' (by rw [HM.out]; exact ht), HM.out]
    have HNX := Lib.hid hnext; clear hnext HP HR
    have HTT := Lib.hid ht; clear ht
    go_wp2_with fail
    rw [HM.out]
    refine (high_turn_to B3 B5 B7 Bp Br p q lo hi a m first _ wr (HT.out.below hB) (by omega) (by omega) HTT.out).mono ?_
    rintro e w1 ⟨rfl, hb1⟩
    have hB1 := below_then hB hb1
    go_wp2
    go_roundw
    case rel => exact ⟨m + 1, j, k', by omega, by omega, by omega, by rw [Int.natCast_add]; rfl, rfl, hB1, by rw [Int.natCast_add]; exact HNX.out⟩
    case measure => simp [intOf]; omega
   ·have hnext : bs (fun i => !(highSo p q lo hi (a + i) == first)) k' (i : Int) m = R := by
     rw [← HP.out, bs_yes _ _ _ _ hlt' (by rw [HM.out]; exact ht), HM.out]
    have HNX := Lib.hid hnext; clear hnext HP HR
    have HTT := Lib.hid ht; clear ht
    go_wp2_with fail
    rw [HM.out]
    refine (high_turn_to B3 B5 B7 Bp Br p q lo hi a m first _ wr (HT.out.below hB) (by omega) (by omega) HTT.out).mono ?_
    rintro e w1 ⟨rfl, hb1⟩
    have hB1 := below_then hB hb1
    go_wp2
    go_roundw
    case rel => exact ⟨i, m, k', by omega, by omega, by omega, rfl, rfl, hB1, HNX.out⟩
    case measure => simp [intOf]; omega
  ·have hf : R = (i : Int) := by rw [← HP.out]; exact bs_done _ _ _ _ (by omega)
   subst hf
   clear HP HR
   go_wp2
   go_ret
   exact ⟨rfl, hB⟩
end

section
open Go.RowKit

def stretchS (so : Int → Bool) (a b : Int) : Int × Int :=
  if so a = so b then (if so a = true then (a, b) else (b + 1, b))
  else (if so a = true then (a, a + bs (fun i => !(so (a + i) == so a)) (b - a).toNat 0 (b - a) - 1) else (a + bs (fun i => !(so (a + i) == so a)) (b - a).toNat 0 (b - a), b))
theorem bs_range (f : Int → Bool) : ∀ (k : Nat) (i j : Int), i ≤ j → i ≤ bs f k i j ∧ bs f k i j ≤ j
  | 0, i, j, h => ⟨Int.le_refl _, h⟩
  | k + 1, i, j, h => by
    by_cases hlt : i < j
    · cases hf : f ((i + j) / 2)
      · rw [bs_no f k i j hlt hf]
        have := bs_range f k ((i + j) / 2 + 1) j (by omega)
        omega
      · rw [bs_yes f k i j hlt hf]
        have := bs_range f k i ((i + j) / 2) (by omega)
        omega
    · rw [bs_done f (k + 1) i j hlt]; omega

theorem low_asked_to (Bp Br : Nat) (p q : P3) (lo hi x : Int) (t : Bool) (w : World) (h : Asked w Bp Br p q lo hi) (hx : 0 ≤ x) (hx' : x ≤ 1000000) (ht : lowSo p q lo hi x = t) :
    Calls Tryz.prog 91 #[.int .i64 x, .pointer (some ⟨Bp, 0, none⟩), .pointer (some ⟨Br, 0, none⟩)] w fun e w' => e = .returned (.bool t) ∧ Below w.heap.size w w' := by
  subst ht; exact low_asked Bp Br p q lo hi x w h hx hx'

theorem low_search_int (B3 B5 B7 Bp Br : Nat) (p q : P3) (lo hi a d : Int) (first : Bool) (w : World) (h : lowTurn w B3 B5 B7 Bp Br p q lo hi a first) (ha : 0 ≤ a) (hd : 0 ≤ d) (had : a + d ≤ 1000000) :
    Calls Tryz.prog 124 #[.int .i64 d, lowTurnFn B3 B5 B7] w fun e w' => e = .returned (.int .i64 (bs (fun i => !(lowSo p q lo hi (a + i) == first)) d.toNat 0 d)) ∧ Below w.heap.size w w' := by
  obtain ⟨n, rfl⟩ := Int.eq_ofNat_of_zero_le hd
  exact low_search B3 B5 B7 Bp Br p q lo hi a n first w h ha had

set_option maxRecDepth 100000 in
set_option maxHeartbeats 2000000 in
theorem low_stretch (Bp Br : Nat) (p q : P3) (lo hi : Int) (w : World) (h : Asked w Bp Br p q lo hi) (hab : p.1 ≤ q.1) :
  Calls Tryz.prog 90 #[pv p q, lowFn Bp Br] w fun e w' => e = .returned (rv (stretchS (lowSo p q lo hi) p.1 q.1).1 (stretchS (lowSo p q lo hi) p.1 q.1).2) ∧ Below w.heap.size w w' := by
 obtain ⟨o1, o2, _, _, _, _⟩ := h.2.2.1
 obtain ⟨o3, o4, _, _, _, _⟩ := h.2.2.2
 have HA := Lib.hid h; clear h
 generalize hf : lowSo p q lo hi p.1 = f
 generalize hs : lowSo p q lo hi q.1 = s
 generalize hR : stretchS (lowSo p q lo hi) p.1 q.1 = R
 have HF := Lib.hid hf; have HS := Lib.hid hs; have HR := Lib.hid hR; clear hf hs hR
 go_enter Tryz.func90, Tryz.ntmps90
 go_wp2_with fail
 go_region
 go_wp2_with fail
 have b3 := ((Blk.new (w.alloc (.cells (pCells p q) 138)) 68 #[lowFn Bp Br]).alloc (.cells #[.int .i64 0, .int .i64 0] 35)).alloc (.cells #[.int .i64 p.1] 3)
 have b4 := (Blk.new ((w.alloc (.cells (pCells p q) 138)).alloc (.cells #[lowFn Bp Br] 68)) 35 #[.int .i64 0, .int .i64 0]).alloc (.cells #[.int .i64 p.1] 3)
 have b5 := Blk.new (((w.alloc (.cells (pCells p q) 138)).alloc (.cells #[lowFn Bp Br] 68)).alloc (.cells #[.int .i64 0, .int .i64 0] 35)) 3 #[.int .i64 p.1]
 have hE : Below w.heap.size w ((((w.alloc (.cells (pCells p q) 138)).alloc (.cells #[lowFn Bp Br] 68)).alloc (.cells #[.int .i64 0, .int .i64 0] 35)).alloc (.cells #[.int .i64 p.1] 3)) := below_a2 (below_a2 (Below.refl _ _))
 have hsz : ((((w.alloc (.cells (pCells p q) 138)).alloc (.cells #[lowFn Bp Br] 68)).alloc (.cells #[.int .i64 0, .int .i64 0] 35)).alloc (.cells #[.int .i64 p.1] 3)).drew.heap.size = w.heap.size + 4 := by show _ = _; simp [World.drew]
 have b3 := b3.drew
 have b4 := b4.drew
 have b5 := b5.drew
 have hE := hE.drew
 simp only [World.size_alloc] at b3 b4 b5
 obtain ⟨W4, hW4⟩ : ∃ W4, ((((w.alloc (.cells (pCells p q) 138)).alloc (.cells #[lowFn Bp Br] 68)).alloc (.cells #[.int .i64 0, .int .i64 0] 35)).alloc (.cells #[.int .i64 p.1] 3)).drew = W4 := ⟨_, rfl⟩
 rw [hW4] at b3 b4 b5 hE hsz ⊢
 clear hW4
 have hA4 := HA.out.below hE
 refine (low_asked_to Bp Br p q lo hi p.1 f W4 hA4 o1 o2 HF.out).mono ?_
 rintro e W5 ⟨rfl, hb5⟩
 have c3 := b3.below hb5 b3.lt
 have c4 := b4.below hb5 b4.lt
 have c5 := b5.below hb5 b5.lt
 have hA5 := hA4.below hb5
 have hE5 := below_then hE hb5
 have hz5 : w.heap.size + 1 + 1 + 1 < W5.heap.size := by have := hb5.size; omega
 clear b3 b4 b5 hA4 hE hb5 hsz
 have d3 := c3.alloc (.cells #[.bool f] 4)
 have d4 := c4.alloc (.cells #[.bool f] 4)
 have d5 := c5.alloc (.cells #[.bool f] 4)
 have d7 := Blk.new W5 4 #[.bool f]
 have hA6 := hA5.below ((Below.refl _ _).alloc (Nat.le_refl _) (.cells #[.bool f] 4))
 have hE6 := below_then hE5 ((Below.refl _ _).alloc (Nat.le_refl _) (.cells #[.bool f] 4))
 have x3 := c3.cell 0
 have x5 := c5.cell 0
 simp at x3 x5
 have C3 := Lib.hid d3; have C4 := Lib.hid d4; have C5 := Lib.hid d5; have C7 := Lib.hid d7; have A6 := Lib.hid hA6; have E6 := Lib.hid hE6
 clear c3 c4 c5 d3 d4 d5 d7 hA5 hA6 hE5 hE6
 go_wp2_with fail
 obtain ⟨W6, hW6⟩ : ∃ W6, W5.alloc (.cells #[.bool f] 4) = W6 := ⟨_, rfl⟩
 rw [hW6] at C3 C4 C5 C7 A6 E6 ⊢
 clear hW6 x3 x5
 have e3 := C3.out.cell 0
 have e5 := C5.out.cell 0
 have e7 := C7.out.cell 0
 have l3 := C3.out.lt
 have l5 := C5.out.lt
 have l7 := C7.out.lt
 simp at e3 e5 e7
 have hd3 : w.heap.size + 1 < W6.drew.heap.size := l3
 have hd5 : w.heap.size + 1 + 1 + 1 < W6.drew.heap.size := l5
 have hd7 : W5.heap.size < W6.drew.heap.size := l7
 go_region_held3 (fun w' => w'.cell? ⟨w.heap.size + 1, 0, none⟩ = some (lowFn Bp Br) ∧ w'.cell? ⟨W5.heap.size, 0, none⟩ = some (.bool f))
  (first | (go_keep; done) | exact ⟨((bcell hb7).1 _ _ hd3).trans (‹_ ∧ _›).1, ((bcell hb7).1 _ _ hd7).trans (‹_ ∧ _›).2⟩)
  (first | (go_at_call 91; refine (low_asked_to Bp Br p q lo hi q.1 s W6.drew A6.out.drew o3 o4 HS.out).mono ?_; rintro e W7 ⟨rfl, hb7⟩))
 have D3 := C3.out.drew.below hb7 hd3
 have D4 := C4.out.drew.below hb7 (show w.heap.size + 1 + 1 < W6.drew.heap.size from C4.out.lt)
 have D5 := C5.out.drew.below hb7 hd5
 have D7 := C7.out.drew.below hb7 hd7
 have A7 := A6.out.drew.below hb7
 have E7 := below_then E6.out (below_d hb7)
 have y5 := D5.cell 0
 have y7 := D7.cell 0
 have r0 := D4.cell 0
 have r1 := D4.cell 1
 have f0 := D4.frozen 0
 have f1 := D4.frozen 1
 simp at y5 y7 r0 r1
 have m5 := D5.lt
 have m7 := D7.lt
 have HT := Lib.hid (show lowTurn W7 (w.heap.size + 1) (w.heap.size + 1 + 1 + 1) W5.heap.size Bp Br p q lo hi p.1 f from ⟨D3, D5, D7, A7⟩)
 have H4 := Lib.hid D4
 have H7 := Lib.hid E7
 clear C3 C4 C5 C7 A6 E6 D3 D4 D5 D7 A7 E7 hb7 hd3 hd5 hd7 e3 e5 e7 l3 l5 l7
 have w1 : IntKind.i64.wrap (q.1 - p.1) = q.1 - p.1 := IntWalk.i64_in _ ⟨by omega, by omega⟩
 have hbr := bs_range (fun i => !(lowSo p q lo hi (p.1 + i) == f)) (q.1 - p.1).toNat 0 (q.1 - p.1) (by omega)
 have hsize : w.heap.size ≤ W7.heap.size := by omega
 cases f <;> cases s
 ·have hr : R = (q.1 + 1, q.1) := by rw [← HR.out]; unfold stretchS; rw [HF.out, HS.out]; simp
  have HRR := Lib.hid hr; clear HR HF HS hr hbr HT
  go_wp2
  refine bodyPost_ret (v := rv (q.1 + 1) q.1) (by simp [results, Tryz.results90, go_sem, r0, r1]) rfl ⟨by rw [HRR.out], ?_⟩
  exact (H7.out.setCell (p := ⟨w.heap.size + 1 + 1, 0, none⟩) (by simp; omega) _).setCell (p := ⟨w.heap.size + 1 + 1, 1, none⟩) (by simp; omega) _
 ·have hr : R = (p.1 + bs (fun i => !(lowSo p q lo hi (p.1 + i) == false)) (q.1 - p.1).toNat 0 (q.1 - p.1), q.1) := by rw [← HR.out]; unfold stretchS; rw [HF.out, HS.out]; simp
  have HRR := Lib.hid hr; clear HR HF HS hr
  have HS8 := Lib.hid (low_search_int (w.heap.size + 1) (w.heap.size + 1 + 1 + 1) W5.heap.size Bp Br p q lo hi p.1 (q.1 - p.1) false W7.drew HT.out o1 (by omega) (by omega))
  generalize hB : bs (fun i => !(lowSo p q lo hi (p.1 + i) == false)) (q.1 - p.1).toNat 0 (q.1 - p.1) = T at *
  have w2 : IntKind.i64.wrap (p.1 + T) = p.1 + T := IntWalk.i64_in _ ⟨by omega, by omega⟩
  clear hB HT
  go_wp2_with fail
  go_region_held3 (fun w' => w'.cell? ⟨w.heap.size + 1 + 1 + 1, 0, none⟩ = some (.int .i64 p.1) ∧ w'.cell? ⟨W5.heap.size, 0, none⟩ = some (.bool false))
   (first | (go_keep; done) | exact ⟨((bcell hb8).1 _ _ (show w.heap.size + 1 + 1 + 1 < W7.drew.heap.size from m5)).trans (‹_ ∧ _›).1, ((bcell hb8).1 _ _ (show W5.heap.size < W7.drew.heap.size from m7)).trans (‹_ ∧ _›).2⟩)
   (first | (go_at_call 124; refine (HS8.out).mono ?_; rintro e W8 ⟨rfl, hb8⟩))
  have J4 := H4.out.drew.below hb8 (show w.heap.size + 1 + 1 < W7.drew.heap.size from H4.out.lt)
  have z7 := ((bcell hb8).1 W5.heap.size 0 (show W5.heap.size < W7.drew.heap.size from m7)).trans y7
  have z5 := ((bcell hb8).1 (w.heap.size + 1 + 1 + 1) 0 (show w.heap.size + 1 + 1 + 1 < W7.drew.heap.size from m5)).trans y5
  have q0 := J4.cell 0
  have q1 := J4.cell 1
  have g0 := J4.frozen 0
  have g1 := J4.frozen 1
  simp at q0 q1
  have H8 := Lib.hid (below_then H7.out (below_d hb8))
  clear hb8 J4 y5 y7 r0 r1 f0 f1
  go_wp2
  refine bodyPost_ret (v := rv (p.1 + T) q.1) (by simp [results, Tryz.results90, go_sem, q0, q1]) rfl ⟨by rw [HRR.out], ?_⟩
  exact (H8.out.setCell (p := ⟨w.heap.size + 1 + 1, 0, none⟩) (by simp; omega) _).setCell (p := ⟨w.heap.size + 1 + 1, 1, none⟩) (by simp; omega) _
 ·have hr : R = (p.1, p.1 + bs (fun i => !(lowSo p q lo hi (p.1 + i) == true)) (q.1 - p.1).toNat 0 (q.1 - p.1) - 1) := by rw [← HR.out]; unfold stretchS; rw [HF.out, HS.out]; simp
  have HRR := Lib.hid hr; clear HR HF HS hr
  have HS8 := Lib.hid (low_search_int (w.heap.size + 1) (w.heap.size + 1 + 1 + 1) W5.heap.size Bp Br p q lo hi p.1 (q.1 - p.1) true W7.drew HT.out o1 (by omega) (by omega))
  generalize hB : bs (fun i => !(lowSo p q lo hi (p.1 + i) == true)) (q.1 - p.1).toNat 0 (q.1 - p.1) = T at *
  have w2 : IntKind.i64.wrap (p.1 + T) = p.1 + T := IntWalk.i64_in _ ⟨by omega, by omega⟩
  clear hB HT
  go_wp2_with fail
  go_region_held3 (fun w' => w'.cell? ⟨w.heap.size + 1 + 1 + 1, 0, none⟩ = some (.int .i64 p.1) ∧ w'.cell? ⟨W5.heap.size, 0, none⟩ = some (.bool true))
   (first | (go_keep; done) | exact ⟨((bcell hb8).1 _ _ (show w.heap.size + 1 + 1 + 1 < W7.drew.heap.size from m5)).trans (‹_ ∧ _›).1, ((bcell hb8).1 _ _ (show W5.heap.size < W7.drew.heap.size from m7)).trans (‹_ ∧ _›).2⟩)
   (first | (go_at_call 124; refine (HS8.out).mono ?_; rintro e W8 ⟨rfl, hb8⟩))
  have J4 := H4.out.drew.below hb8 (show w.heap.size + 1 + 1 < W7.drew.heap.size from H4.out.lt)
  have z7 := ((bcell hb8).1 W5.heap.size 0 (show W5.heap.size < W7.drew.heap.size from m7)).trans y7
  have z5 := ((bcell hb8).1 (w.heap.size + 1 + 1 + 1) 0 (show w.heap.size + 1 + 1 + 1 < W7.drew.heap.size from m5)).trans y5
  have q0 := J4.cell 0
  have q1 := J4.cell 1
  have g0 := J4.frozen 0
  have g1 := J4.frozen 1
  simp at q0 q1
  have H8 := Lib.hid (below_then H7.out (below_d hb8))
  clear hb8 J4 y5 y7 r0 r1 f0 f1
  go_wp2
  refine bodyPost_ret (v := rv p.1 (p.1 + T - 1)) (by simp [results, Tryz.results90, go_sem, q0, q1]) rfl ⟨by rw [HRR.out], ?_⟩
  exact (H8.out.setCell (p := ⟨w.heap.size + 1 + 1, 0, none⟩) (by simp; omega) _).setCell (p := ⟨w.heap.size + 1 + 1, 1, none⟩) (by simp; omega) _
 ·have hr : R = (p.1, q.1) := by rw [← HR.out]; unfold stretchS; rw [HF.out, HS.out]; simp
  have HRR := Lib.hid hr; clear HR HF HS hr hbr HT
  go_wp2
  refine bodyPost_ret (v := rv p.1 q.1) (by simp [results, Tryz.results90, go_sem, r0, r1]) rfl ⟨by rw [HRR.out], ?_⟩
  exact (H7.out.setCell (p := ⟨w.heap.size + 1 + 1, 0, none⟩) (by simp; omega) _).setCell (p := ⟨w.heap.size + 1 + 1, 1, none⟩) (by simp; omega) _

theorem high_asked_to (Bp Br : Nat) (p q : P3) (lo hi x : Int) (t : Bool) (w : World) (h : Asked w Bp Br p q lo hi) (hx : 0 ≤ x) (hx' : x ≤ 1000000) (ht : highSo p q lo hi x = t) :
    Calls Tryz.prog 93 #[.int .i64 x, .pointer (some ⟨Bp, 0, none⟩), .pointer (some ⟨Br, 0, none⟩)] w fun e w' => e = .returned (.bool t) ∧ Below w.heap.size w w' := by
  subst ht; exact high_asked Bp Br p q lo hi x w h hx hx'

theorem high_search_int (B3 B5 B7 Bp Br : Nat) (p q : P3) (lo hi a d : Int) (first : Bool) (w : World) (h : highTurn w B3 B5 B7 Bp Br p q lo hi a first) (ha : 0 ≤ a) (hd : 0 ≤ d) (had : a + d ≤ 1000000) :
    Calls Tryz.prog 124 #[.int .i64 d, highTurnFn B3 B5 B7] w fun e w' => e = .returned (.int .i64 (bs (fun i => !(highSo p q lo hi (a + i) == first)) d.toNat 0 d)) ∧ Below w.heap.size w w' := by
  obtain ⟨n, rfl⟩ := Int.eq_ofNat_of_zero_le hd
  exact high_search B3 B5 B7 Bp Br p q lo hi a n first w h ha had

set_option maxRecDepth 100000 in
set_option maxHeartbeats 2000000 in
theorem high_stretch (Bp Br : Nat) (p q : P3) (lo hi : Int) (w : World) (h : Asked w Bp Br p q lo hi) (hab : p.1 ≤ q.1) :
  Calls Tryz.prog 90 #[pv p q, highFn Bp Br] w fun e w' => e = .returned (rv (stretchS (highSo p q lo hi) p.1 q.1).1 (stretchS (highSo p q lo hi) p.1 q.1).2) ∧ Below w.heap.size w w' := by
 obtain ⟨o1, o2, _, _, _, _⟩ := h.2.2.1
 obtain ⟨o3, o4, _, _, _, _⟩ := h.2.2.2
 have HA := Lib.hid h; clear h
 generalize hf : highSo p q lo hi p.1 = f
 generalize hs : highSo p q lo hi q.1 = s
 generalize hR : stretchS (highSo p q lo hi) p.1 q.1 = R
 have HF := Lib.hid hf; have HS := Lib.hid hs; have HR := Lib.hid hR; clear hf hs hR
 go_enter Tryz.func90, Tryz.ntmps90
 go_wp2_with fail
 go_region
 go_wp2_with fail
 have b3 := ((Blk.new (w.alloc (.cells (pCells p q) 138)) 68 #[highFn Bp Br]).alloc (.cells #[.int .i64 0, .int .i64 0] 35)).alloc (.cells #[.int .i64 p.1] 3)
 have b4 := (Blk.new ((w.alloc (.cells (pCells p q) 138)).alloc (.cells #[highFn Bp Br] 68)) 35 #[.int .i64 0, .int .i64 0]).alloc (.cells #[.int .i64 p.1] 3)
 have b5 := Blk.new (((w.alloc (.cells (pCells p q) 138)).alloc (.cells #[highFn Bp Br] 68)).alloc (.cells #[.int .i64 0, .int .i64 0] 35)) 3 #[.int .i64 p.1]
 have hE : Below w.heap.size w ((((w.alloc (.cells (pCells p q) 138)).alloc (.cells #[highFn Bp Br] 68)).alloc (.cells #[.int .i64 0, .int .i64 0] 35)).alloc (.cells #[.int .i64 p.1] 3)) := below_a2 (below_a2 (Below.refl _ _))
 have hsz : ((((w.alloc (.cells (pCells p q) 138)).alloc (.cells #[highFn Bp Br] 68)).alloc (.cells #[.int .i64 0, .int .i64 0] 35)).alloc (.cells #[.int .i64 p.1] 3)).drew.heap.size = w.heap.size + 4 := by show _ = _; simp [World.drew]
 have b3 := b3.drew
 have b4 := b4.drew
 have b5 := b5.drew
 have hE := hE.drew
 simp only [World.size_alloc] at b3 b4 b5
 obtain ⟨W4, hW4⟩ : ∃ W4, ((((w.alloc (.cells (pCells p q) 138)).alloc (.cells #[highFn Bp Br] 68)).alloc (.cells #[.int .i64 0, .int .i64 0] 35)).alloc (.cells #[.int .i64 p.1] 3)).drew = W4 := ⟨_, rfl⟩
 rw [hW4] at b3 b4 b5 hE hsz ⊢
 clear hW4
 have hA4 := HA.out.below hE
 refine (high_asked_to Bp Br p q lo hi p.1 f W4 hA4 o1 o2 HF.out).mono ?_
 rintro e W5 ⟨rfl, hb5⟩
 have c3 := b3.below hb5 b3.lt
 have c4 := b4.below hb5 b4.lt
 have c5 := b5.below hb5 b5.lt
 have hA5 := hA4.below hb5
 have hE5 := below_then hE hb5
 have hz5 : w.heap.size + 1 + 1 + 1 < W5.heap.size := by have := hb5.size; omega
 clear b3 b4 b5 hA4 hE hb5 hsz
 have d3 := c3.alloc (.cells #[.bool f] 4)
 have d4 := c4.alloc (.cells #[.bool f] 4)
 have d5 := c5.alloc (.cells #[.bool f] 4)
 have d7 := Blk.new W5 4 #[.bool f]
 have hA6 := hA5.below ((Below.refl _ _).alloc (Nat.le_refl _) (.cells #[.bool f] 4))
 have hE6 := below_then hE5 ((Below.refl _ _).alloc (Nat.le_refl _) (.cells #[.bool f] 4))
 have x3 := c3.cell 0
 have x5 := c5.cell 0
 simp at x3 x5
 have C3 := Lib.hid d3; have C4 := Lib.hid d4; have C5 := Lib.hid d5; have C7 := Lib.hid d7; have A6 := Lib.hid hA6; have E6 := Lib.hid hE6
 clear c3 c4 c5 d3 d4 d5 d7 hA5 hA6 hE5 hE6
 go_wp2_with fail
 obtain ⟨W6, hW6⟩ : ∃ W6, W5.alloc (.cells #[.bool f] 4) = W6 := ⟨_, rfl⟩
 rw [hW6] at C3 C4 C5 C7 A6 E6 ⊢
 clear hW6 x3 x5
 have e3 := C3.out.cell 0
 have e5 := C5.out.cell 0
 have e7 := C7.out.cell 0
 have l3 := C3.out.lt
 have l5 := C5.out.lt
 have l7 := C7.out.lt
 simp at e3 e5 e7
 have hd3 : w.heap.size + 1 < W6.drew.heap.size := l3
 have hd5 : w.heap.size + 1 + 1 + 1 < W6.drew.heap.size := l5
 have hd7 : W5.heap.size < W6.drew.heap.size := l7
 go_region_held3 (fun w' => w'.cell? ⟨w.heap.size + 1, 0, none⟩ = some (highFn Bp Br) ∧ w'.cell? ⟨W5.heap.size, 0, none⟩ = some (.bool f))
  (first | (go_keep; done) | exact ⟨((bcell hb7).1 _ _ hd3).trans (‹_ ∧ _›).1, ((bcell hb7).1 _ _ hd7).trans (‹_ ∧ _›).2⟩)
  (first | (go_at_call 93; refine (high_asked_to Bp Br p q lo hi q.1 s W6.drew A6.out.drew o3 o4 HS.out).mono ?_; rintro e W7 ⟨rfl, hb7⟩))
 have D3 := C3.out.drew.below hb7 hd3
 have D4 := C4.out.drew.below hb7 (show w.heap.size + 1 + 1 < W6.drew.heap.size from C4.out.lt)
 have D5 := C5.out.drew.below hb7 hd5
 have D7 := C7.out.drew.below hb7 hd7
 have A7 := A6.out.drew.below hb7
 have E7 := below_then E6.out (below_d hb7)
 have y5 := D5.cell 0
 have y7 := D7.cell 0
 have r0 := D4.cell 0
 have r1 := D4.cell 1
 have f0 := D4.frozen 0
 have f1 := D4.frozen 1
 simp at y5 y7 r0 r1
 have m5 := D5.lt
 have m7 := D7.lt
 have HT := Lib.hid (show highTurn W7 (w.heap.size + 1) (w.heap.size + 1 + 1 + 1) W5.heap.size Bp Br p q lo hi p.1 f from ⟨D3, D5, D7, A7⟩)
 have H4 := Lib.hid D4
 have H7 := Lib.hid E7
 clear C3 C4 C5 C7 A6 E6 D3 D4 D5 D7 A7 E7 hb7 hd3 hd5 hd7 e3 e5 e7 l3 l5 l7
 have w1 : IntKind.i64.wrap (q.1 - p.1) = q.1 - p.1 := IntWalk.i64_in _ ⟨by omega, by omega⟩
 have hbr := bs_range (fun i => !(highSo p q lo hi (p.1 + i) == f)) (q.1 - p.1).toNat 0 (q.1 - p.1) (by omega)
 have hsize : w.heap.size ≤ W7.heap.size := by omega
 cases f <;> cases s
 ·have hr : R = (q.1 + 1, q.1) := by rw [← HR.out]; unfold stretchS; rw [HF.out, HS.out]; simp
  have HRR := Lib.hid hr; clear HR HF HS hr hbr HT
  go_wp2
  refine bodyPost_ret (v := rv (q.1 + 1) q.1) (by simp [results, Tryz.results90, go_sem, r0, r1]) rfl ⟨by rw [HRR.out], ?_⟩
  exact (H7.out.setCell (p := ⟨w.heap.size + 1 + 1, 0, none⟩) (by simp; omega) _).setCell (p := ⟨w.heap.size + 1 + 1, 1, none⟩) (by simp; omega) _
 ·have hr : R = (p.1 + bs (fun i => !(highSo p q lo hi (p.1 + i) == false)) (q.1 - p.1).toNat 0 (q.1 - p.1), q.1) := by rw [← HR.out]; unfold stretchS; rw [HF.out, HS.out]; simp
  have HRR := Lib.hid hr; clear HR HF HS hr
  have HS8 := Lib.hid (high_search_int (w.heap.size + 1) (w.heap.size + 1 + 1 + 1) W5.heap.size Bp Br p q lo hi p.1 (q.1 - p.1) false W7.drew HT.out o1 (by omega) (by omega))
  generalize hB : bs (fun i => !(highSo p q lo hi (p.1 + i) == false)) (q.1 - p.1).toNat 0 (q.1 - p.1) = T at *
  have w2 : IntKind.i64.wrap (p.1 + T) = p.1 + T := IntWalk.i64_in _ ⟨by omega, by omega⟩
  clear hB HT
  go_wp2_with fail
  go_region_held3 (fun w' => w'.cell? ⟨w.heap.size + 1 + 1 + 1, 0, none⟩ = some (.int .i64 p.1) ∧ w'.cell? ⟨W5.heap.size, 0, none⟩ = some (.bool false))
   (first | (go_keep; done) | exact ⟨((bcell hb8).1 _ _ (show w.heap.size + 1 + 1 + 1 < W7.drew.heap.size from m5)).trans (‹_ ∧ _›).1, ((bcell hb8).1 _ _ (show W5.heap.size < W7.drew.heap.size from m7)).trans (‹_ ∧ _›).2⟩)
   (first | (go_at_call 124; refine (HS8.out).mono ?_; rintro e W8 ⟨rfl, hb8⟩))
  have J4 := H4.out.drew.below hb8 (show w.heap.size + 1 + 1 < W7.drew.heap.size from H4.out.lt)
  have z7 := ((bcell hb8).1 W5.heap.size 0 (show W5.heap.size < W7.drew.heap.size from m7)).trans y7
  have z5 := ((bcell hb8).1 (w.heap.size + 1 + 1 + 1) 0 (show w.heap.size + 1 + 1 + 1 < W7.drew.heap.size from m5)).trans y5
  have q0 := J4.cell 0
  have q1 := J4.cell 1
  have g0 := J4.frozen 0
  have g1 := J4.frozen 1
  simp at q0 q1
  have H8 := Lib.hid (below_then H7.out (below_d hb8))
  clear hb8 J4 y5 y7 r0 r1 f0 f1
  go_wp2
  refine bodyPost_ret (v := rv (p.1 + T) q.1) (by simp [results, Tryz.results90, go_sem, q0, q1]) rfl ⟨by rw [HRR.out], ?_⟩
  exact (H8.out.setCell (p := ⟨w.heap.size + 1 + 1, 0, none⟩) (by simp; omega) _).setCell (p := ⟨w.heap.size + 1 + 1, 1, none⟩) (by simp; omega) _
 ·have hr : R = (p.1, p.1 + bs (fun i => !(highSo p q lo hi (p.1 + i) == true)) (q.1 - p.1).toNat 0 (q.1 - p.1) - 1) := by rw [← HR.out]; unfold stretchS; rw [HF.out, HS.out]; simp
  have HRR := Lib.hid hr; clear HR HF HS hr
  have HS8 := Lib.hid (high_search_int (w.heap.size + 1) (w.heap.size + 1 + 1 + 1) W5.heap.size Bp Br p q lo hi p.1 (q.1 - p.1) true W7.drew HT.out o1 (by omega) (by omega))
  generalize hB : bs (fun i => !(highSo p q lo hi (p.1 + i) == true)) (q.1 - p.1).toNat 0 (q.1 - p.1) = T at *
  have w2 : IntKind.i64.wrap (p.1 + T) = p.1 + T := IntWalk.i64_in _ ⟨by omega, by omega⟩
  clear hB HT
  go_wp2_with fail
  go_region_held3 (fun w' => w'.cell? ⟨w.heap.size + 1 + 1 + 1, 0, none⟩ = some (.int .i64 p.1) ∧ w'.cell? ⟨W5.heap.size, 0, none⟩ = some (.bool true))
   (first | (go_keep; done) | exact ⟨((bcell hb8).1 _ _ (show w.heap.size + 1 + 1 + 1 < W7.drew.heap.size from m5)).trans (‹_ ∧ _›).1, ((bcell hb8).1 _ _ (show W5.heap.size < W7.drew.heap.size from m7)).trans (‹_ ∧ _›).2⟩)
   (first | (go_at_call 124; refine (HS8.out).mono ?_; rintro e W8 ⟨rfl, hb8⟩))
  have J4 := H4.out.drew.below hb8 (show w.heap.size + 1 + 1 < W7.drew.heap.size from H4.out.lt)
  have z7 := ((bcell hb8).1 W5.heap.size 0 (show W5.heap.size < W7.drew.heap.size from m7)).trans y7
  have z5 := ((bcell hb8).1 (w.heap.size + 1 + 1 + 1) 0 (show w.heap.size + 1 + 1 + 1 < W7.drew.heap.size from m5)).trans y5
  have q0 := J4.cell 0
  have q1 := J4.cell 1
  have g0 := J4.frozen 0
  have g1 := J4.frozen 1
  simp at q0 q1
  have H8 := Lib.hid (below_then H7.out (below_d hb8))
  clear hb8 J4 y5 y7 r0 r1 f0 f1
  go_wp2
  refine bodyPost_ret (v := rv p.1 (p.1 + T - 1)) (by simp [results, Tryz.results90, go_sem, q0, q1]) rfl ⟨by rw [HRR.out], ?_⟩
  exact (H8.out.setCell (p := ⟨w.heap.size + 1 + 1, 0, none⟩) (by simp; omega) _).setCell (p := ⟨w.heap.size + 1 + 1, 1, none⟩) (by simp; omega) _
 ·have hr : R = (p.1, q.1) := by rw [← HR.out]; unfold stretchS; rw [HF.out, HS.out]; simp
  have HRR := Lib.hid hr; clear HR HF HS hr hbr HT
  go_wp2
  refine bodyPost_ret (v := rv p.1 q.1) (by simp [results, Tryz.results90, go_sem, r0, r1]) rfl ⟨by rw [HRR.out], ?_⟩
  exact (H7.out.setCell (p := ⟨w.heap.size + 1 + 1, 0, none⟩) (by simp; omega) _).setCell (p := ⟨w.heap.size + 1 + 1, 1, none⟩) (by simp; omega) _
end

section
open Go.RowKit

def whereS (lo hi : Int) (p q : P3) : Int × Int :=
  (max (stretchS (lowSo p q lo hi) p.1 q.1).1 (stretchS (highSo p q lo hi) p.1 q.1).1, min (stretchS (lowSo p q lo hi) p.1 q.1).2 (stretchS (highSo p q lo hi) p.1 q.1).2)

set_option maxRecDepth 100000 in
set_option maxHeartbeats 2000000 in
theorem whereAsk (Br : Nat) (p q : P3) (lo hi : Int) (w : World) (h : Blk w Br 35 #[.int .i64 lo, .int .i64 hi]) (hp : Okp p) (hq : Okp q) (hab : p.1 ≤ q.1) :
  Calls Tryz.prog 89 #[pv p q, .pointer (some ⟨Br, 0, none⟩)] w fun e w' => e = .returned (rv (whereS lo hi p q).1 (whereS lo hi p q).2) ∧ Below w.heap.size w w' := by
 have hbr := h.lt
 have bp := (Blk.new w 138 (pCells p q)).alloc (.cells #[.int .i64 0, .int .i64 0] 35)
 have br := (Blk.new (w.alloc (.cells (pCells p q) 138)) 35 #[.int .i64 0, .int .i64 0])
 have bb := (h.alloc (.cells (pCells p q) 138)).alloc (.cells #[.int .i64 0, .int .i64 0] 35)
 have hE : Below w.heap.size w ((w.alloc (.cells (pCells p q) 138)).alloc (.cells #[.int .i64 0, .int .i64 0] 35)) := below_a2 (Below.refl _ _)
 simp only [World.size_alloc] at br
 have HP := Lib.hid bp; have HR := Lib.hid br; have HB := Lib.hid bb; have HE := Lib.hid hE
 have HO := Lib.hid (And.intro hp (And.intro hq hab))
 clear bp br bb hE h hp hq
 generalize hS1 : stretchS (lowSo p q lo hi) p.1 q.1 = s1
 generalize hS2 : stretchS (highSo p q lo hi) p.1 q.1 = s2
 have hW : whereS lo hi p q = (max s1.1 s2.1, min s1.2 s2.2) := by unfold whereS; rw [hS1, hS2]
 have HW := Lib.hid hW; have H1 := Lib.hid hS1; have H2 := Lib.hid hS2
 clear hW hS1 hS2
 go_enter Tryz.func89, Tryz.ntmps89
 go_wp2_with fail
 have hz : w.heap.size + 2 = ((w.alloc (.cells (pCells p q) 138)).alloc (.cells #[.int .i64 0, .int .i64 0] 35)).heap.size := by simp
 obtain ⟨W1, hW1⟩ : ∃ W1, ((w.alloc (.cells (pCells p q) 138)).alloc (.cells #[.int .i64 0, .int .i64 0] 35)) = W1 := ⟨_, rfl⟩
 rw [hW1] at HP HR HB HE hz ⊢
 clear hW1
 have hA1 : Asked W1 w.heap.size Br p q lo hi := ⟨HP.out, HB.out, HO.out.1, HO.out.2.1⟩
 have C1 := low_stretch w.heap.size Br p q lo hi W1 hA1 HO.out.2.2
 rw [H1.out] at C1
 refine C1.mono ?_
 rintro e W2 ⟨rfl, hb2⟩
 have p2 := HP.out.below hb2 HP.out.lt
 have r2 := HR.out.below hb2 HR.out.lt
 have b2 := HB.out.below hb2 HB.out.lt
 have e2 := below_then HE.out hb2
 have hz2 : w.heap.size + 1 < W2.heap.size := by have := hb2.size; omega
 have x0 := p2.cell 0
 have x1 := p2.cell 1
 have x2 := p2.cell 2
 have x3 := p2.cell 3
 have x4 := p2.cell 4
 have x5 := p2.cell 5
 simp at x0 x1 x2 x3 x4 x5
 have p3 := p2.alloc (.cells #[.int .i64 s1.1, .int .i64 s1.2] 35)
 have r3 := r2.alloc (.cells #[.int .i64 s1.1, .int .i64 s1.2] 35)
 have b3 := b2.alloc (.cells #[.int .i64 s1.1, .int .i64 s1.2] 35)
 have s3 := Blk.new W2 35 #[.int .i64 s1.1, .int .i64 s1.2]
 have e3 := below_then e2 ((Below.refl _ _).alloc (Nat.le_refl _) (.cells #[.int .i64 s1.1, .int .i64 s1.2] 35))
 have P3 := Lib.hid p3; have R3 := Lib.hid r3; have B3 := Lib.hid b3; have S3 := Lib.hid s3; have E3 := Lib.hid e3
 clear C1 hA1 p2 r2 b2 e2 p3 r3 b3 s3 e3 hb2
 have hza : w.heap.size < W2.heap.size := by omega
 go_wp2_with fail
 obtain ⟨W3, hW3⟩ : ∃ W3, W2.alloc (.cells #[.int .i64 s1.1, .int .i64 s1.2] 35) = W3 := ⟨_, rfl⟩
 rw [hW3] at P3 R3 B3 S3 E3 ⊢
 have hz3 : W2.heap.size < W3.heap.size := S3.out.lt
 clear hW3 x0 x1 x2 x3 x4 x5
 have hA3 : Asked W3 w.heap.size Br p q lo hi := ⟨P3.out, B3.out, HO.out.1, HO.out.2.1⟩
 have C3 := high_stretch w.heap.size Br p q lo hi W3 hA3 HO.out.2.2
 rw [H2.out] at C3
 refine C3.mono ?_
 rintro e W4 ⟨rfl, hb4⟩
 have r4 := R3.out.below hb4 R3.out.lt
 have s4 := S3.out.below hb4 S3.out.lt
 have e4 := below_then E3.out hb4
 have y0 := s4.cell 0
 have y1 := s4.cell 1
 have q0 := r4.cell 0
 have q1 := r4.cell 1
 have f0 := r4.frozen 0
 have f1 := r4.frozen 1
 simp at y0 y1 q0 q1
 have hz4 : W2.heap.size < W4.heap.size := by have := hb4.size; omega
 have hz5 : w.heap.size + 1 < W4.heap.size := by omega
 have E4 := Lib.hid e4
 clear C3 hA3 hb4 e4
 go_wp2_with fail
 refine (common_any _ _ _ _ _).mono ?_
 rintro e W5 ⟨rfl, hb5⟩
 obtain ⟨hc5, hf5⟩ := bcell hb5
 have hz6 : w.heap.size + 1 < W4.heap.size + 1 := by omega
 have hs5 : w.heap.size ≤ W5.heap.size := by have := hb5.size; simp at this; omega
 go_wp2
 refine bodyPost_ret (v := rv (max s1.1 s2.1) (min s1.2 s2.2)) (by simp [results, Tryz.results89, go_sem, hc5, hz6, hz5, q0, q1]) rfl ⟨by rw [HW.out], ?_⟩
 exact (((below_then E4.out (below_a1 hb5)).setCell (p := ⟨w.heap.size + 1, 0, none⟩) (by simp) _).setCell (p := ⟨w.heap.size + 1, 1, none⟩) (by simp) _)
end

section
open Go.RowKit

theorem Tryz.infoR : (Tryz.prog.info? 35).map (fun i => (i.zero, i.size, i.bytes)) = some (some (.agg #[.int .i64 0, .int .i64 0]), 2, 16) := by kernel_rfl

def runCells (l : List (Int × Int)) : List Value := l.flatMap fun r => [.int .i64 r.1, .int .i64 r.2]
theorem runCells_len (l : List (Int × Int)) : (runCells l).length = l.length * 2 := by
  induction l with
  | nil => rfl
  | cons x l ih => simp [runCells] at ih ⊢; omega
theorem runCells_snoc (l : List (Int × Int)) (r : Int × Int) : runCells (l ++ [r]) = runCells l ++ [.int .i64 r.1, .int .i64 r.2] := by simp [runCells]
def OwnRuns (base : Nat) (w : World) (v : Value) (l : List (Int × Int)) : Prop := w.ownsRow base 35 2 v l.length (runCells l)

def addRun (l : List (Int × Int)) (r : Int × Int) : List (Int × Int) :=
  match l.getLast? with
  | some z => if r.1 = z.2 then l.dropLast ++ [(z.1, r.2)] else l ++ [r]
  | none => [r]

theorem keeps_drewN (w : World) (n : Nat) : KeepsOthers w (w.drewN n) := ⟨Nat.le_refl _, fun _ _ h _ => h⟩
def Most (base g : Nat) (w w' : World) : Prop := w'.os = w.os ∧ w'.tape = w.tape ∧ w'.output = w.output ∧ w.heap.size ≤ w'.heap.size ∧ ∀ i, i < base → i ≠ g → w'.heap[i]? = w.heap[i]?
theorem Most.of_only {base g : Nat} {w w' : World} (h : Only g w w') (hb : base ≤ w.heap.size) : Most base g w w' := ⟨h.os, h.tape, h.output, h.size, fun i hi hne => h.block i (by omega) (fun e => hne (by injection e))⟩
theorem Only.of_grownNone {g : Nat} {w w' : World} (h : w.grownBy w' none) : Only g w w' := ⟨h.os, h.tape, h.output, h.size, fun i hi _ => h.block i hi (by simp)⟩
theorem keeps_grownNone {w w' : World} (h : w.grownBy w' none) : KeepsOthers w w' := KeepsOthers.of_grownBy h (fun _ _ e => by cases e)

def RunsAt (g base : Nat) (w : World) (L : List (Int × Int)) : Prop := ∃ v, Blk w g 166 #[v] ∧ OwnRuns base w v L
def AddsRun (g base : Nat) (w : World) (L : List (Int × Int)) (e : Ending) (w' : World) : Prop := e = .returned (.tuple #[]) ∧ RunsAt g base w' L ∧ Most base g w w' ∧ KeepsOthers w w'

set_option maxRecDepth 100000 in
set_option maxHeartbeats 2000000 in
theorem runsAdd_first (g base : Nat) (a b : Int) (w : World) (h : Blk w g 166 #[.slice none 0 0]) (hbase : base ≤ w.heap.size) :
  Calls Tryz.prog 123 #[.pointer (some ⟨g, 0, none⟩), rv a b] w (AddsRun g base w [(a, b)]) := by
 obtain ⟨i0, hi, hz0, hz1, hz2⟩ := info_parts Tryz.infoR
 have c0 := h.cell 0
 have f0 := h.frozen 0
 have hgl := h.lt
 simp at c0
 have HB := Lib.hid h; clear h
 have hown : OwnRuns base w (.slice none 0 0) [] := World.ownsRow_nil _ _ _ _
 have HOW := Lib.hid (World.ownsRow.alloc (World.ownsRow.alloc hown (.cells #[.int .i64 a, .int .i64 b] 35)) (.cells #[.int .i64 a, .int .i64 b] 35)); clear hown
 have hnb : ∀ k, (((w.alloc (.cells #[.int .i64 a, .int .i64 b] 35)).drewN k).alloc (.cells #[.int .i64 a, .int .i64 b] 35)).heap[w.heap.size + 1]? = some (.cells #[.int .i64 a, .int .i64 b] 35 (0, 0)) := fun k => by
  have h1 := heap_alloc_new ((w.alloc (.cells #[.int .i64 a, .int .i64 b] 35)).drewN k) (.cells #[.int .i64 a, .int .i64 b] 35)
  have h2 : ((w.alloc (.cells #[.int .i64 a, .int .i64 b] 35)).drewN k).heap.size = w.heap.size + 1 := by show (w.alloc _).heap.size = _; simp
  rw [h2] at h1; exact h1
 have HNB := Lib.hid hnb; clear hnb
 go_enter Tryz.func123, Tryz.ntmps123
 go_wp2_with fail
 go_quiet (fail)
 go_wp2_with fail
 go_region_law (refine step_append_lies _ (by rfl) _ _ _ (by rfl) base 35 i0 _ 2 16 Tryz.underlying113 hi hz0 hz1 hz2 rfl (by omega) (.slice none 0 0) 0 [] (by rfl) (by exact HOW.out) ⟨w.heap.size + 1, 0, none⟩ 1 1 [.int .i64 a, .int .i64 b] (by rfl) (by rfl) (World.news_of_block (cs := #[.int .i64 a, .int .i64 b]) (t := 35) (fr := (0, 0)) (by exact HNB.out _)) (by simp [Value.oneCell']) (by omega) (by simp [maxLen]) (by omega) (by simp; omega) (w.heap.size + 1 + 1) (by simp) ?_; intro gg cap w1 hown1 hgrow hat hlt; have hB1 := (((HB.out.alloc (.cells #[.int .i64 a, .int .i64 b] 35)).drewN _).alloc (.cells #[.int .i64 a, .int .i64 b] 35)).grown hgrow (by simp [Value.ownBlock]); have f1 := hB1.frozen 0; have c1 := hB1.cell 0; simp at c1)
 all_goals
  have hO : Only g w (w1.setCell ⟨g, 0, none⟩ (.slice (some ⟨gg, 0, none⟩) 1 cap)) := ((((((Only.refl g w).alloc _).drewN _).alloc _).trans (Only.of_grownNone hgrow)).setCell (p := ⟨g, 0, none⟩) (.inl rfl) _)
  have hK : KeepsOthers w (w1.setCell ⟨g, 0, none⟩ (.slice (some ⟨gg, 0, none⟩) 1 cap)) := (((KeepsOthers.alloc w _).trans ((keeps_drewN _ _).trans (KeepsOthers.alloc _ _))).trans (keeps_grownNone hgrow)).trans (KeepsOthers.setCell _ _ _)
  have hB2 := hB1.set_ 0 (.slice (some ⟨gg, 0, none⟩) 1 cap)
  have hne : (Value.slice (some ⟨gg, 0, none⟩) (0 + 1) cap).ownBlock = none ∨ (Value.slice (some ⟨gg, 0, none⟩) (0 + 1) cap).ownBlock ≠ some g := by
   right
   simp [Value.ownBlock]
   rcases hat with hat | hat
   ·simp [Value.ownBlock] at hat
   ·omega
  have hown2 := World.ownsRow.kept hown1 (grownBy_setCell' w1 g (.slice (some ⟨gg, 0, none⟩) 1 cap)) hne
  go_end0
  refine ⟨rfl, ⟨_, by simpa using hB2, ?_⟩, Most.of_only hO hbase, hK⟩
  exact hown2

theorem ownsRow_drewN {w : World} {base : Nat} {e : TypeId} {size : Nat} {v : Value} {n : Nat} {xs : List Value} (h : w.ownsRow base e size v n xs) (k : Nat) : (w.drewN k).ownsRow base e size v n xs := h
theorem runCells_last (init : List (Int × Int)) (z : Int × Int) : (runCells (init ++ [z]))[init.length * 2 + 1]? = some (.int .i64 z.2) := by
  rw [runCells_snoc, List.getElem?_append_right (by rw [runCells_len]; omega), runCells_len]
  simp
theorem runCells_set (init : List (Int × Int)) (z : Int × Int) (b : Int) : (runCells (init ++ [z])).set (init.length * 2 + 1) (.int .i64 b) = runCells (init ++ [(z.1, b)]) := by
  rw [runCells_snoc, runCells_snoc, List.set_append]
  simp [runCells_len]
  intro h; omega

set_option maxRecDepth 100000 in
set_option maxHeartbeats 2000000 in
theorem runsAdd_merge (g base : Nat) (init : List (Int × Int)) (z : Int × Int) (b : Int) (w : World) (h : RunsAt g base w (init ++ [z])) (hbase : base ≤ w.heap.size) (hm : init.length ≤ 1000000) :
  Calls Tryz.prog 123 #[.pointer (some ⟨g, 0, none⟩), rv z.2 b] w (AddsRun g base w (init ++ [(z.1, b)])) := by
 obtain ⟨v, hb, ho⟩ := h
 have ho' : w.ownsRow base 35 2 v (init.length + 1) (runCells (init ++ [z])) := by unfold OwnRuns at ho; rwa [List.length_append] at ho
 obtain ⟨g2, cap, rfl, hbg, hgl2⟩ := ho'.form (by omega)
 have hz := (ho'.cellAt (init.length * 2 + 1) (by omega)).trans (runCells_last init z)
 have hfz := ho'.frozenAt (init.length * 2 + 1)
 have hst := (ho'.stored (init.length * 2 + 1) (.int .i64 b)).1
 have hgr := (ho'.stored (init.length * 2 + 1) (.int .i64 b)).2
 rw [runCells_set] at hst
 have c0 := hb.cell 0
 have hgl := hb.lt
 simp at c0
 have hne : g ≠ g2 := by
  rcases ho'.2 with ⟨h1, _⟩ | ⟨g3, cap3, cur3, h1, _, h2, _⟩
  ·cases h1
  ·simp only [Value.slice.injEq, Option.some.injEq, Addr.mk.injEq, and_true, true_and] at h1
   obtain ⟨rfl, rfl⟩ := h1
   rintro rfl
   unfold Blk at hb
   rw [hb] at h2
   injection h2 with h2
   injection h2 with _ h2
   exact absurd h2 (by decide)
 have HB := Lib.hid hb; have HO := Lib.hid ho'; clear hb ho ho' hst hgr
 generalize hml : init.length = m at *
 have k1 : (0 : Int) ≤ (m : Int) := by omega
 have k2 : (m : Int) < (m : Int) + 1 := by omega
 have k3 : IntKind.i64.wrap ((m : Int) + 1 - 1) = (m : Int) := by rw [IntWalk.i64_in _ ⟨by omega, by omega⟩]; omega
 have HML := Lib.hid hml; clear hml
 go_enter Tryz.func123, Tryz.ntmps123
 go_wp2_with fail
 go_quiet (fail)
 go_wp2_with fail
 go_region
 go_wp2
 have hX := ownsRow_drewN (HO.out.alloc (.cells #[.int .i64 z.2, .int .i64 b] 35)) (nq + 1)
 have hst := (hX.stored (m * 2 + 1) (.int .i64 b)).1
 rw [← HML.out, runCells_set] at hst
 have hB2 := ((HB.out.alloc (.cells #[.int .i64 z.2, .int .i64 b] 35)).drewN (nq + 1)).far (p := ⟨g2, m * 2 + 1, none⟩) hne (.int .i64 b)
 refine bodyPost_ret (results_none rfl _ _ _) rfl ⟨rfl, ⟨_, hB2, ?_⟩, ⟨rfl, rfl, rfl, ?_, ?_⟩, ?_⟩
 ·unfold OwnRuns
  rw [List.length_append, ← HML.out]
  exact hst
 ·simp [World.setCell]
 ·intro i hi _
  refine (Below.heap_setCell _ _ _ i (by show i ≠ g2; omega)).trans ?_
  exact Below.heap_alloc w _ i (by omega)
 ·exact ((KeepsOthers.alloc w _).trans (keeps_drewN _ _)).trans (KeepsOthers.setCell _ _ _)
end

section
open Go.RowKit

set_option maxRecDepth 100000 in
set_option maxHeartbeats 2000000 in
theorem runsAdd_push (g base : Nat) (init : List (Int × Int)) (z : Int × Int) (a b : Int) (w : World) (h : RunsAt g base w (init ++ [z])) (hbase : base ≤ w.heap.size) (hm : init.length ≤ 1000000) (hne0 : ¬ a = z.2) :
  Calls Tryz.prog 123 #[.pointer (some ⟨g, 0, none⟩), rv a b] w (AddsRun g base w ((init ++ [z]) ++ [(a, b)])) := by
 obtain ⟨i0, hi, hz0, hz1, hz2⟩ := info_parts Tryz.infoR
 obtain ⟨v, hb, ho⟩ := h
 have ho' : w.ownsRow base 35 2 v (init.length + 1) (runCells (init ++ [z])) := by unfold OwnRuns at ho; rwa [List.length_append] at ho
 obtain ⟨g2, cap, rfl, hbg, hgl2⟩ := ho'.form (by omega)
 have hz := (ho'.cellAt (init.length * 2 + 1) (by omega)).trans (runCells_last init z)
 have c0 := hb.cell 0
 have f0 := hb.frozen 0
 have hgl := hb.lt
 simp at c0
 have hne : g ≠ g2 ∧ ∃ cur, w.heap[g2]? = some (.cells cur 35 (0, 0)) := by
  rcases ho'.2 with ⟨h1, _⟩ | ⟨g3, cap3, cur3, h1, _, h2, _⟩
  ·cases h1
  ·simp only [Value.slice.injEq, Option.some.injEq, Addr.mk.injEq, and_true, true_and] at h1
   obtain ⟨rfl, rfl⟩ := h1
   refine ⟨?_, _, h2⟩
   rintro rfl
   unfold Blk at hb
   rw [hb] at h2
   injection h2 with h2
   injection h2 with _ h2
   exact absurd h2 (by decide)
 obtain ⟨hne, cur, hcur⟩ := hne
 have HCU := Lib.hid hcur; clear hcur
 have hrow : ∀ W : World, W.heap[g2]? = w.heap[g2]? → ∀ (j : Nat) (o : Obj), (Value.slice (some ⟨g2, 0, none⟩) (init.length + 1) cap).ownBlock = some j → W.heap[j]? = some o → o.isCells = true := by
  intro W hW j o hj ho
  simp [Value.ownBlock] at hj
  subst hj
  rw [hW, HCU.out] at ho
  injection ho with ho
  rw [← ho]; rfl
 have HROW := Lib.hid hrow; clear hrow
 have HOW := Lib.hid (World.ownsRow.alloc (World.ownsRow.alloc ho' (.cells #[.int .i64 a, .int .i64 b] 35)) (.cells #[.int .i64 a, .int .i64 b] 35))
 have HB := Lib.hid hb; clear hb ho ho'
 have hnb : ∀ k, (((w.alloc (.cells #[.int .i64 a, .int .i64 b] 35)).drewN k).alloc (.cells #[.int .i64 a, .int .i64 b] 35)).heap[w.heap.size + 1]? = some (.cells #[.int .i64 a, .int .i64 b] 35 (0, 0)) := fun k => by
  have h1 := heap_alloc_new ((w.alloc (.cells #[.int .i64 a, .int .i64 b] 35)).drewN k) (.cells #[.int .i64 a, .int .i64 b] 35)
  have h2 : ((w.alloc (.cells #[.int .i64 a, .int .i64 b] 35)).drewN k).heap.size = w.heap.size + 1 := by show (w.alloc _).heap.size = _; simp
  rw [h2] at h1; exact h1
 have HNB := Lib.hid hnb; clear hnb
 have HRC := Lib.hid (runCells_snoc (init ++ [z]) (a, b))
 have hll : (init ++ [z]).length = init.length + 1 := by simp
 generalize runCells (init ++ [z]) = XS at *
 generalize hml : init.length = m at *
 have k1 : (0 : Int) ≤ (m : Int) := by omega
 have k2 : (m : Int) < (m : Int) + 1 := by omega
 have k3 : IntKind.i64.wrap ((m : Int) + 1 - 1) = (m : Int) := by rw [IntWalk.i64_in _ ⟨by omega, by omega⟩]; omega
 have kt : (a == z.2) = false := beq_eq_false_iff_ne.2 hne0
 have HML := Lib.hid hml; clear hml
 have HLL := Lib.hid hll; clear hll hne0
 have hg2s : g2 ≠ w.heap.size := by omega
 go_enter Tryz.func123, Tryz.ntmps123
 go_wp2_with fail
 go_quiet (fail)
 go_wp2_with fail
 go_region_law (refine step_append_lies _ (by rfl) _ _ _ (by rfl) base 35 i0 _ 2 16 Tryz.underlying113 hi hz0 hz1 hz2 rfl (by omega) (.slice (some ⟨g2, 0, none⟩) (m + 1) cap) (m + 1) XS (by rfl) (by exact HOW.out) ⟨w.heap.size + 1, 0, none⟩ 1 1 [.int .i64 a, .int .i64 b] (by rfl) (by rfl) (World.news_of_block (cs := #[.int .i64 a, .int .i64 b]) (t := 35) (fr := (0, 0)) (by exact HNB.out _)) (by simp [Value.oneCell']) (by omega) (by simp [maxLen]; omega) (by omega) (by simp; omega) (w.heap.size + 1 + 1) (by simp) ?_; intro gg cap2 w1 hown1 hgrow hat hlt; have hB1 := (((HB.out.alloc (.cells #[.int .i64 a, .int .i64 b] 35)).drewN _).alloc (.cells #[.int .i64 a, .int .i64 b] 35)).grown hgrow (by simp [Value.ownBlock]; exact hne); have f1 := hB1.frozen 0; have c1 := hB1.cell 0; simp at c1)
 all_goals
  have hsz : w.heap.size ≤ w1.heap.size := by have := hgrow.size; simp at this; omega
  have hB2 := hB1.set_ 0 (.slice (some ⟨gg, 0, none⟩) (m + 1 + 1) cap2)
  have hgg : gg ≠ g := by
   rcases hat with hat | hat
   ·simp [Value.ownBlock] at hat; omega
   ·omega
  have hown2 := World.ownsRow.kept hown1 (grownBy_setCell' w1 g (.slice (some ⟨gg, 0, none⟩) (m + 1 + 1) cap2)) (.inr (by simp [Value.ownBlock]; exact hgg))
  go_end0
  refine ⟨rfl, ⟨_, by simpa using hB2, ?_⟩, ⟨?_, ?_, ?_, ?_, ?_⟩, ?_⟩
  ·unfold OwnRuns
   rw [List.length_append, HLL.out, HRC.out]
   exact hown2
  ·exact hgrow.os
  ·exact hgrow.tape
  ·exact hgrow.output
  ·simp [World.setCell]; exact hsz
  ·intro i hi hng
   refine (Below.heap_setCell _ _ _ i (by exact hng)).trans ?_
   refine (hgrow.block i (by simp; omega) (by simp [Value.ownBlock]; omega)).trans ?_
   refine (Below.heap_alloc _ _ i (by show i < (w.alloc _).heap.size; simp; omega)).trans ?_
   exact Below.heap_alloc w _ i (by omega)
  ·refine ((((KeepsOthers.alloc w _).trans (keeps_drewN _ _)).trans (KeepsOthers.alloc _ _)).trans (KeepsOthers.of_grownBy hgrow (HROW.out _ ?_))).trans (KeepsOthers.setCell _ _ _)
   refine (Below.heap_alloc _ _ g2 (by show g2 < (w.alloc _).heap.size; simp; omega)).trans ?_
   exact Below.heap_alloc w _ g2 (by omega)
end

section
open Go.RowKit Go.Shelf

def RunsN (g base : Nat) (w : World) (L : List (Int × Int)) : Prop := (L = [] ∧ Blk w g 166 #[.slice none 0 0]) ∨ (L ≠ [] ∧ RunsAt g base w L)

theorem addRun_ne (L : List (Int × Int)) (r : Int × Int) : addRun L r ≠ [] := by
  unfold addRun
  cases L.getLast? with
  | none => simp
  | some z => dsimp only; split <;> simp

theorem addRun_len (L : List (Int × Int)) (r : Int × Int) : (addRun L r).length ≤ L.length + 1 := by
  unfold addRun
  cases L.getLast? with
  | none => simp
  | some z => dsimp only; split <;> simp

theorem runsAdd_any (g base : Nat) (L : List (Int × Int)) (a b : Int) (w : World) (h : RunsN g base w L) (hbase : base ≤ w.heap.size) (hm : L.length ≤ 1000000) :
    Calls Tryz.prog 123 #[.pointer (some ⟨g, 0, none⟩), rv a b] w (AddsRun g base w (addRun L (a, b))) := by
  rcases h with ⟨rfl, h⟩ | ⟨hne, h⟩
  · exact runsAdd_first g base a b w h hbase
  · obtain ⟨init, z, rfl⟩ : ∃ init z, L = init ++ [z] := ⟨_, _, (List.dropLast_concat_getLast hne).symm⟩
    have hm' : init.length ≤ 1000000 := by simp at hm; omega
    by_cases he : a = z.2
    · subst he
      have : addRun (init ++ [z]) (z.2, b) = init ++ [(z.1, b)] := by simp [addRun]
      rw [this]
      exact runsAdd_merge g base init z b w h hbase hm'
    · have : addRun (init ++ [z]) (a, b) = init ++ [z] ++ [(a, b)] := by simp [addRun, he]
      rw [this]
      exact runsAdd_push g base init z a b w h hbase hm' he

abbrev Pr := { x : P3 × P3 // Okp x.1 ∧ Okp x.2 ∧ x.1.1 ≤ x.2.1 }

theorem rise_of : ∀ (ps : List P3) (last : Int), ptsOk last ps = true → -1 ≤ last → ∀ x ∈ ps.zip ps.tail, Okp x.1 ∧ Okp x.2 ∧ x.1.1 < x.2.1
  | [], _, _, _, x, hx => by simp at hx
  | [p], _, _, _, x, hx => by simp at hx
  | p :: q :: ps, last, h, hl, x, hx => by
    have h1 := okp_of (p :: q :: ps) last h hl
    have h' : ptsOk p.1 (q :: ps) = true := by
      simp only [ptsOk, Bool.and_eq_true] at h ⊢
      exact h.2
    have hp := h1 p (by simp)
    have hpl : -1 ≤ p.1 := by have := hp.2; omega
    rw [List.tail_cons, List.zip_cons_cons, List.mem_cons] at hx
    rcases hx with rfl | hx
    · exact ⟨hp.1, (h1 q (by simp)).1, (okp_of (q :: ps) p.1 h' hpl q (by simp)).2⟩
    · exact rise_of (q :: ps) p.1 h' hpl x hx

theorem rise_pcs {ps : List P3} (h : tabOk ps = true) : ∀ x ∈ pcs ps, Okp x.1 ∧ Okp x.2 ∧ x.1.1 ≤ x.2.1 := by
  intro x hx
  rcases pcs_cases ps with ⟨p, rfl⟩ | e
  · have hx' : x = (p, p) := by simpa [pcs] using hx
    subst hx'
    have := (okp_of [p] (-1) (tabOk_pts h) (by omega) p (by simp)).1
    exact ⟨this, this, Int.le_refl _⟩
  · rw [e] at hx
    obtain ⟨h1, h2, h3⟩ := rise_of ps (-1) (tabOk_pts h) (by omega) x hx
    exact ⟨h1, h2, Int.le_of_lt h3⟩
theorem rise_list {ps : List P3} (h : tabOk ps = true) : ∃ xs : List Pr, xs.map (·.1) = pcs ps :=
  lift_all _ (rise_pcs h)

theorem rise_stops (xs : List Pr) (m : Nat) (hm : 1 ≤ m) (Bt n₀ b o len cap : Nat) (ps : List P3) (hlen : len = ps.length) (h2 : 1 ≤ len) (h40 : len ≤ 40) (hxs : xs.map (·.1) = pcs ps) (hb : b < n₀) (w : World) (hBt : Bt < w.heap.size) (hn₀ : n₀ ≤ w.heap.size)
    (hcb : w.cell? ⟨Bt, 0, none⟩ = some (.slice (some ⟨b, o, none⟩) len cap)) (hc : PtsAt w b o ps) :
    SeqStopsK Fence.wide m Tryz.prog 144 #[.pointer (some ⟨Bt, 0, none⟩)] (fun x : Pr => #[pv x.1.1 x.1.2]) (Below n₀) (fun ys => ys = xs) (fun pre => pre <+: xs) xs.length w := fun l J Jx W hW hJ _ hY h0 =>
  pieces1_in (fun x : Pr => x.1) xs m hm l Bt n₀ b o len cap ps hlen h2 h40 hxs hb J Jx W.heap.size hJ hY W (Nat.le_trans hn₀ hW.size) ((hW.cell (p := ⟨Bt, 0, none⟩) hBt).trans hcb)
    (fun k p hp => by
      obtain ⟨c0, c1, c2⟩ := hc k p hp
      exact ⟨(hW.cell (p := ⟨b, _, none⟩) (by show b < _; omega)).trans c0, (hW.cell (p := ⟨b, _, none⟩) (by show b < _; omega)).trans c1, (hW.cell (p := ⟨b, _, none⟩) (by show b < _; omega)).trans c2⟩) h0
end

section
open Go.RowKit

theorem Tryz.infoP : (Tryz.prog.info? 66).map (fun i => (i.zero, i.size, i.bytes)) = some (some (.agg #[.int .i64 0, .int .i64 0, .int .i64 0]), 3, 24) := by kernel_rfl
def ptCells (l : List P3) : List Value := l.flatMap fun r => [.int .i64 r.1, .int .i64 r.2.1, .int .i64 r.2.2]
theorem ptCells_snoc (l : List P3) (r : P3) : ptCells (l ++ [r]) = ptCells l ++ [.int .i64 r.1, .int .i64 r.2.1, .int .i64 r.2.2] := by simp [ptCells]
def OwnPts (base : Nat) (w : World) (v : Value) (l : List P3) : Prop := w.ownsRow base 66 3 v l.length (ptCells l)
theorem OwnPts.grown {base : Nat} {X Y : World} {row : Option Nat} {v : Value} {L : List P3} (ho : OwnPts base X v L) (hg : X.grownBy Y row) (hr : ∀ r, row = some r → ∃ o : Obj, X.heap[r]? = some o ∧ o.isCells = false) : OwnPts base Y v L := by
  have ho' : X.ownsRow base 66 3 v L.length (ptCells L) := ho
  refine World.ownsRow.kept ho' hg ?_
  rcases ho'.2 with ⟨h1, _⟩ | ⟨g3, cap3, cur3, h1, _, h2, _⟩
  · left; rw [h1]; rfl
  · right
    rw [h1]
    intro e
    obtain ⟨o, ho2, hc⟩ := hr g3 (by rw [← e]; rfl)
    rw [h2] at ho2
    cases ho2; cases hc
theorem OwnPts.slice {base : Nat} {X : World} {v : Value} {L : List P3} (ho : OwnPts base X v L) : ∃ p n c, v = .slice p n c := by
  rcases (show X.ownsRow base 66 3 v L.length (ptCells L) from ho).2 with ⟨h, _⟩ | ⟨g, c, _, h, _⟩
  · exact ⟨_, _, _, h⟩
  · exact ⟨_, _, _, h⟩
def IntsMem (w : World) (b o : Nat) (L : List Int) : Prop := ∀ k x, L[k]? = some x → w.cell? ⟨b, o + k, none⟩ = some (.int .i64 x)
end

section
open Go.RowKit

def Apart (v v' : Value) : Prop := ∀ g, v.ownBlock = some g → v'.ownBlock = some g → False
theorem Apart.symm {v v' : Value} (h : Apart v v') : Apart v' v := fun g a b => h g b a
def LinesAt (base : Nat) (W : World) (v1 v2 v3 : Value) (L : List P3) : Prop :=
  OwnInts base W v1 (L.map (·.1)) ∧ OwnInts base W v2 (L.map (·.2.1)) ∧ OwnInts base W v3 (L.map (·.2.2)) ∧ Apart v1 v2 ∧ Apart v1 v3 ∧ Apart v2 v3
theorem LinesAt.alloc {base : Nat} {W : World} {v1 v2 v3 : Value} {L : List P3} (h : LinesAt base W v1 v2 v3 L) (o : Obj) : LinesAt base (W.alloc o) v1 v2 v3 L :=
  ⟨h.1.alloc o, h.2.1.alloc o, h.2.2.1.alloc o, h.2.2.2⟩
end

end Go.Proofs.YtpcmcicnciejpaaGreat
