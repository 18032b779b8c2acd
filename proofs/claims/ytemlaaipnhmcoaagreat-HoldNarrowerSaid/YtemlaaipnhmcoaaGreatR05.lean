/- The contract of the specification's Mul. No conditions but that the numbers are those of ints. -/
import Derived.Test.YtemlaaipnhmcoaaGreatR01
set_option linter.unusedVariables false
set_option linter.unusedSimpArgs false
set_option linter.constructorNameAsVariable false
namespace Go.Proofs.YtemlaaipnhmcoaaGreat

section
open Go.RowKit
attribute [local go_sem ↓] eqlRange neqRange
def mulS (a b c d : Int) : Int × Int × Int :=
  twoS a b c d (bigS (min (min (min (a * c) (a * d)) (b * c)) (b * d)) (max (max (max (a * c) (a * d)) (b * c)) (b * d)))

theorem idx0 (x y : Int) (w : World) : (Instr.index 28 (.agg #[.int .i64 x, .int .i64 y]) (.int .i64 0)).run Tryz.prog w = .ok (.int .i64 x) w := by kernel_rfl
theorem idx1 (x y : Int) (w : World) : (Instr.index 28 (.agg #[.int .i64 x, .int .i64 y]) (.int .i64 1)).run Tryz.prog w = .ok (.int .i64 y) w := by kernel_rfl

theorem mul_cells {w w1 v0 v : World} {a b c d : Int} (hl : Below w1.heap.size w1 v0) (ho : Only w1.heap.size v0 v) (hb : Below (((w.alloc (.cells #[.int .i64 a, .int .i64 b] 30)).alloc (.cells #[.int .i64 c, .int .i64 d] 30)).alloc (.cells #[.int .i64 0, .int .i64 0] 30)).heap.size
      (((w.alloc (.cells #[.int .i64 a, .int .i64 b] 30)).alloc (.cells #[.int .i64 c, .int .i64 d] 30)).alloc (.cells #[.int .i64 0, .int .i64 0] 30)) w1) (hz : w.heap.size + 1 + 1 < w1.heap.size) :
    (v.cell? ⟨w.heap.size + 1, 0, none⟩ = some (.int .i64 c) ∧ v.cell? ⟨w.heap.size + 1, 1, none⟩ = some (.int .i64 d) ∧ v.cell? ⟨w.heap.size + 1 + 1, 0, none⟩ = some (.int .i64 0) ∧ v.cell? ⟨w.heap.size + 1 + 1, 1, none⟩ = some (.int .i64 0)) ∧
    (v.frozen? ⟨w.heap.size + 1 + 1, 0, none⟩ = false ∧ v.frozen? ⟨w.heap.size + 1 + 1, 1, none⟩ = false) := by
  have hs := hl.size
  obtain ⟨p, q⟩ := ho.cells
  obtain ⟨p1, q1⟩ := bcell hb
  have p2 : ∀ b o, b < w1.heap.size → v0.cell? ⟨b, o, none⟩ = w1.cell? ⟨b, o, none⟩ := fun b o h => hl.cell (p := ⟨b, o, none⟩) h
  have q2 : ∀ b o, b < w1.heap.size → v0.frozen? ⟨b, o, none⟩ = w1.frozen? ⟨b, o, none⟩ := fun b o h => hl.frozen (p := ⟨b, o, none⟩) h
  refine ⟨⟨?_, ?_, ?_, ?_⟩, ?_, ?_⟩
  · rw [p _ _ (by omega) (by omega), p2 _ _ (by omega), p1 _ _ (by simp <;> omega)]; simp [go_sem]
  · rw [p _ _ (by omega) (by omega), p2 _ _ (by omega), p1 _ _ (by simp <;> omega)]; simp [go_sem]
  · rw [p _ _ (by omega) (by omega), p2 _ _ (by omega), p1 _ _ (by simp)]; simp [go_sem]
  · rw [p _ _ (by omega) (by omega), p2 _ _ (by omega), p1 _ _ (by simp)]; simp [go_sem]
  · rw [q _ _ (by omega) (by omega), q2 _ _ (by omega), q1 _ _ (by simp)] <;> simp [go_sem]
  · rw [q _ _ (by omega) (by omega), q2 _ _ (by omega), q1 _ _ (by simp)] <;> simp [go_sem]

theorem mul_yes (a b c d : Int) (w : World) (h : (vR a b && vR c d) = true) (h1 : prodOk a c) (h2 : prodOk a d) (h3 : prodOk b c) (h4 : prodOk b d) :
  Calls Tryz.prog 134 #[rv a b, rv c d] w fun e w' => e = .returned (rt (bigS (min (min (min (a * c) (a * d)) (b * c)) (b * d)) (max (max (max (a * c) (a * d)) (b * c)) (b * d)))) ∧ Below w.heap.size w w' := by
 obtain ⟨⟨a1, a2, a3⟩, ⟨c1, c2, c3⟩⟩ := both_iff h
 have H := Lib.hid h; clear h
 have H1 := Lib.hid h1; clear h1
 have H2 := Lib.hid h2; clear h2
 have H3 := Lib.hid h3; clear h3
 have H4 := Lib.hid h4; clear h4
 have i0 := idx0 a b
 have i1 := idx1 a b
 have j0 := idx0 c d
 have j1 := idx1 c d
 go_enter Tryz.func134, Tryz.ntmps134
 go_wp2_with fail
 refine (bothValid_to a b c d _ _ H.out).mono ?_
 rintro e w1 ⟨rfl, hb⟩
 obtain ⟨hc, hf⟩ := bcell hb
 have hz0 : w.heap.size + 1 + 1 < w1.heap.size := by have := hb.size; simp at this; omega
 have hza : w.heap.size < w1.heap.size := by omega
 have hzb : w.heap.size + 1 < w1.heap.size := by omega
 go_wp2_with fail
 have hB1 := Blk.new w1 177 (growCells 0 0 false)
 have ho1 := Only.refl w1.heap.size (w1.alloc (.cells (growCells 0 0 false) 177))
 have hl1 := below_a1 (Below.refl _ (w1.alloc (.cells (growCells 0 0 false) 177)))
 have HB1 := Lib.hid hB1; clear hB1
 have HO1 := Lib.hid ho1; clear ho1
 have HL1 := Lib.hid hl1; clear hl1
 refine wp_loop_rounds 3 ?_
 rw [rounds_succ]
 go_wp2_with fail
 refine wp_loop_rounds 3 ?_
 rw [rounds_succ]
 go_wp2_with fail
 refine (product_yes a c _ (by omega) (by omega) (by omega) (by omega) H1.out).mono ?_
 rintro e w' ⟨rfl, rfl⟩
 go_wp2_with fail
 refine (take_first _ _ _ _ _ _ HB1.out).mono ?_
 rintro e v2 ⟨rfl, hB2, ho⟩
 obtain ⟨⟨ga2, gb2, gc2, gd2⟩, fa2, fb2⟩ := mul_cells HL1.out (HO1.out.trans ho) hb hz0
 have gq2 : w1.heap.size < v2.heap.size := hB2.lt
 have gz2 : w.heap.size + 1 + 1 < v2.heap.size := by omega
 have HB2 := Lib.hid hB2; clear hB2
 have HO2 := Lib.hid (HO1.out.trans ho); clear ho
 go_wp2_with fail
 rw [rounds_succ]
 go_wp2_with fail
 refine (product_yes a d _ (by omega) (by omega) (by omega) (by omega) H2.out).mono ?_
 rintro e w' ⟨rfl, rfl⟩
 go_wp2_with fail
 refine (take_more _ _ _ _ _ _ HB2.out).mono ?_
 rintro e v3 ⟨rfl, hB3, ho⟩
 clear ga2 gb2 gc2 gd2 fa2 fb2 gz2 gq2
 obtain ⟨⟨ga3, gb3, gc3, gd3⟩, fa3, fb3⟩ := mul_cells HL1.out (HO2.out.trans ho) hb hz0
 have gq3 : w1.heap.size < v3.heap.size := hB3.lt
 have gz3 : w.heap.size + 1 + 1 < v3.heap.size := by omega
 have HB3 := Lib.hid hB3; clear hB3
 have HO3 := Lib.hid (HO2.out.trans ho); clear ho
 go_wp2_with fail
 rw [rounds_succ]
 go_wp2_with fail
 rw [rounds_succ]
 go_wp2_with fail
 refine wp_loop_rounds 3 ?_
 rw [rounds_succ]
 go_wp2_with fail
 refine (product_yes b c _ (by omega) (by omega) (by omega) (by omega) H3.out).mono ?_
 rintro e w' ⟨rfl, rfl⟩
 go_wp2_with fail
 refine (take_more _ _ _ _ _ _ HB3.out).mono ?_
 rintro e v4 ⟨rfl, hB4, ho⟩
 clear ga3 gb3 gc3 gd3 fa3 fb3 gz3 gq3
 obtain ⟨⟨ga4, gb4, gc4, gd4⟩, fa4, fb4⟩ := mul_cells HL1.out (HO3.out.trans ho) hb hz0
 have gq4 : w1.heap.size < v4.heap.size := hB4.lt
 have gz4 : w.heap.size + 1 + 1 < v4.heap.size := by omega
 have HB4 := Lib.hid hB4; clear hB4
 have HO4 := Lib.hid (HO3.out.trans ho); clear ho
 go_wp2_with fail
 rw [rounds_succ]
 go_wp2_with fail
 refine (product_yes b d _ (by omega) (by omega) (by omega) (by omega) H4.out).mono ?_
 rintro e w' ⟨rfl, rfl⟩
 go_wp2_with fail
 refine (take_more _ _ _ _ _ _ HB4.out).mono ?_
 rintro e v5 ⟨rfl, hB5, ho⟩
 clear ga4 gb4 gc4 gd4 fa4 fb4 gz4 gq4
 obtain ⟨⟨ga5, gb5, gc5, gd5⟩, fa5, fb5⟩ := mul_cells HL1.out (HO4.out.trans ho) hb hz0
 have gq5 : w1.heap.size < v5.heap.size := hB5.lt
 have gz5 : w.heap.size + 1 + 1 < v5.heap.size := by omega
 have HB5 := Lib.hid hB5; clear hB5
 have HO5 := Lib.hid (HO4.out.trans ho); clear ho
 go_wp2_with fail
 rw [rounds_succ]
 go_wp2_with fail
 rw [rounds_succ]
 have k0 := HB5.out.cell 0
 have k1 := HB5.out.cell 1
 simp at k0 k1
 go_wp2_with fail
 refine (unlessBig_any _ _ _).mono ?_
 rintro e v6 ⟨rfl, hb6⟩
 obtain ⟨hc6, hf6⟩ := bcell hb6
 have hb5 : Below w.heap.size w v5 := (HO5.out.below (below_then (below_a3 hb) HL1.out) (by omega))
 go_wp2
 exact bodyPost_ret (v := rt (bigS (min (min (min (a * c) (a * d)) (b * c)) (b * d)) (max (max (max (a * c) (a * d)) (b * c)) (b * d)))) (by simp [results, Tryz.results134, go_sem, hc6, gz5, gc5, gd5]) rfl ⟨rfl, ((below_then hb5 hb6).setCell (by simp; omega) _).setCell (by simp; omega) _⟩

theorem mul_no1 (a b c d : Int) (w : World) (h : (vR a b && vR c d) = true) (h1 : ¬ prodOk a c) :
  Calls Tryz.prog 134 #[rv a b, rv c d] w fun e w' => e = .returned (rt (0, 0, 5)) ∧ Below w.heap.size w w' := by
 obtain ⟨⟨a1, a2, a3⟩, ⟨c1, c2, c3⟩⟩ := both_iff h
 have H := Lib.hid h; clear h
 have H1 := Lib.hid h1; clear h1
 have i0 := idx0 a b
 have i1 := idx1 a b
 have j0 := idx0 c d
 have j1 := idx1 c d
 go_enter Tryz.func134, Tryz.ntmps134
 go_wp2_with fail
 refine (bothValid_to a b c d _ _ H.out).mono ?_
 rintro e w1 ⟨rfl, hb⟩
 obtain ⟨hc, hf⟩ := bcell hb
 have hz0 : w.heap.size + 1 + 1 < w1.heap.size := by have := hb.size; simp at this; omega
 have hza : w.heap.size < w1.heap.size := by omega
 have hzb : w.heap.size + 1 < w1.heap.size := by omega
 go_wp2_with fail
 have hB1 := Blk.new w1 177 (growCells 0 0 false)
 have ho1 := Only.refl w1.heap.size (w1.alloc (.cells (growCells 0 0 false) 177))
 have hl1 := below_a1 (Below.refl _ (w1.alloc (.cells (growCells 0 0 false) 177)))
 have HB1 := Lib.hid hB1; clear hB1
 have HO1 := Lib.hid ho1; clear ho1
 have HL1 := Lib.hid hl1; clear hl1
 refine wp_loop_rounds 3 ?_
 rw [rounds_succ]
 go_wp2_with fail
 refine wp_loop_rounds 3 ?_
 rw [rounds_succ]
 go_wp2_with fail
 refine (product_no a c _ (by omega) (by omega) (by omega) (by omega) H1.out).mono ?_
 rintro e w' ⟨rfl, rfl⟩
 go_wp2
 exact bodyPost_ret (v := rt (0, 0, 5)) (by simp [results, Tryz.results134, go_sem, hc, hz0]) rfl ⟨rfl, ((((below_a3 hb)).setCell (by simp; omega) _).setCell (by simp; omega) _).alloc (by simp; omega) _⟩

theorem mul_no2 (a b c d : Int) (w : World) (h : (vR a b && vR c d) = true) (h1 : prodOk a c) (h2 : ¬ prodOk a d) :
  Calls Tryz.prog 134 #[rv a b, rv c d] w fun e w' => e = .returned (rt (0, 0, 5)) ∧ Below w.heap.size w w' := by
 obtain ⟨⟨a1, a2, a3⟩, ⟨c1, c2, c3⟩⟩ := both_iff h
 have H := Lib.hid h; clear h
 have H1 := Lib.hid h1; clear h1
 have H2 := Lib.hid h2; clear h2
 have i0 := idx0 a b
 have i1 := idx1 a b
 have j0 := idx0 c d
 have j1 := idx1 c d
 go_enter Tryz.func134, Tryz.ntmps134
 go_wp2_with fail
 refine (bothValid_to a b c d _ _ H.out).mono ?_
 rintro e w1 ⟨rfl, hb⟩
 obtain ⟨hc, hf⟩ := bcell hb
 have hz0 : w.heap.size + 1 + 1 < w1.heap.size := by have := hb.size; simp at this; omega
 have hza : w.heap.size < w1.heap.size := by omega
 have hzb : w.heap.size + 1 < w1.heap.size := by omega
 go_wp2_with fail
 have hB1 := Blk.new w1 177 (growCells 0 0 false)
 have ho1 := Only.refl w1.heap.size (w1.alloc (.cells (growCells 0 0 false) 177))
 have hl1 := below_a1 (Below.refl _ (w1.alloc (.cells (growCells 0 0 false) 177)))
 have HB1 := Lib.hid hB1; clear hB1
 have HO1 := Lib.hid ho1; clear ho1
 have HL1 := Lib.hid hl1; clear hl1
 refine wp_loop_rounds 3 ?_
 rw [rounds_succ]
 go_wp2_with fail
 refine wp_loop_rounds 3 ?_
 rw [rounds_succ]
 go_wp2_with fail
 refine (product_yes a c _ (by omega) (by omega) (by omega) (by omega) H1.out).mono ?_
 rintro e w' ⟨rfl, rfl⟩
 go_wp2_with fail
 refine (take_first _ _ _ _ _ _ HB1.out).mono ?_
 rintro e v2 ⟨rfl, hB2, ho⟩
 obtain ⟨⟨ga2, gb2, gc2, gd2⟩, fa2, fb2⟩ := mul_cells HL1.out (HO1.out.trans ho) hb hz0
 have gq2 : w1.heap.size < v2.heap.size := hB2.lt
 have gz2 : w.heap.size + 1 + 1 < v2.heap.size := by omega
 have HB2 := Lib.hid hB2; clear hB2
 have HO2 := Lib.hid (HO1.out.trans ho); clear ho
 go_wp2_with fail
 rw [rounds_succ]
 go_wp2_with fail
 refine (product_no a d _ (by omega) (by omega) (by omega) (by omega) H2.out).mono ?_
 rintro e w' ⟨rfl, rfl⟩
 go_wp2
 have hb5 : Below w.heap.size w v2 := (HO2.out.below (below_then (below_a3 hb) HL1.out) (by omega))
 exact bodyPost_ret (v := rt (0, 0, 5)) (by simp [results, Tryz.results134, go_sem, gz2, gc2, gd2]) rfl ⟨rfl, (hb5.setCell (by simp; omega) _).setCell (by simp; omega) _⟩

theorem mul_no3 (a b c d : Int) (w : World) (h : (vR a b && vR c d) = true) (h1 : prodOk a c) (h2 : prodOk a d) (h3 : ¬ prodOk b c) :
  Calls Tryz.prog 134 #[rv a b, rv c d] w fun e w' => e = .returned (rt (0, 0, 5)) ∧ Below w.heap.size w w' := by
 obtain ⟨⟨a1, a2, a3⟩, ⟨c1, c2, c3⟩⟩ := both_iff h
 have H := Lib.hid h; clear h
 have H1 := Lib.hid h1; clear h1
 have H2 := Lib.hid h2; clear h2
 have H3 := Lib.hid h3; clear h3
 have i0 := idx0 a b
 have i1 := idx1 a b
 have j0 := idx0 c d
 have j1 := idx1 c d
 go_enter Tryz.func134, Tryz.ntmps134
 go_wp2_with fail
 refine (bothValid_to a b c d _ _ H.out).mono ?_
 rintro e w1 ⟨rfl, hb⟩
 obtain ⟨hc, hf⟩ := bcell hb
 have hz0 : w.heap.size + 1 + 1 < w1.heap.size := by have := hb.size; simp at this; omega
 have hza : w.heap.size < w1.heap.size := by omega
 have hzb : w.heap.size + 1 < w1.heap.size := by omega
 go_wp2_with fail
 have hB1 := Blk.new w1 177 (growCells 0 0 false)
 have ho1 := Only.refl w1.heap.size (w1.alloc (.cells (growCells 0 0 false) 177))
 have hl1 := below_a1 (Below.refl _ (w1.alloc (.cells (growCells 0 0 false) 177)))
 have HB1 := Lib.hid hB1; clear hB1
 have HO1 := Lib.hid ho1; clear ho1
 have HL1 := Lib.hid hl1; clear hl1
 refine wp_loop_rounds 3 ?_
 rw [rounds_succ]
 go_wp2_with fail
 refine wp_loop_rounds 3 ?_
 rw [rounds_succ]
 go_wp2_with fail
 refine (product_yes a c _ (by omega) (by omega) (by omega) (by omega) H1.out).mono ?_
 rintro e w' ⟨rfl, rfl⟩
 go_wp2_with fail
 refine (take_first _ _ _ _ _ _ HB1.out).mono ?_
 rintro e v2 ⟨rfl, hB2, ho⟩
 obtain ⟨⟨ga2, gb2, gc2, gd2⟩, fa2, fb2⟩ := mul_cells HL1.out (HO1.out.trans ho) hb hz0
 have gq2 : w1.heap.size < v2.heap.size := hB2.lt
 have gz2 : w.heap.size + 1 + 1 < v2.heap.size := by omega
 have HB2 := Lib.hid hB2; clear hB2
 have HO2 := Lib.hid (HO1.out.trans ho); clear ho
 go_wp2_with fail
 rw [rounds_succ]
 go_wp2_with fail
 refine (product_yes a d _ (by omega) (by omega) (by omega) (by omega) H2.out).mono ?_
 rintro e w' ⟨rfl, rfl⟩
 go_wp2_with fail
 refine (take_more _ _ _ _ _ _ HB2.out).mono ?_
 rintro e v3 ⟨rfl, hB3, ho⟩
 clear ga2 gb2 gc2 gd2 fa2 fb2 gz2 gq2
 obtain ⟨⟨ga3, gb3, gc3, gd3⟩, fa3, fb3⟩ := mul_cells HL1.out (HO2.out.trans ho) hb hz0
 have gq3 : w1.heap.size < v3.heap.size := hB3.lt
 have gz3 : w.heap.size + 1 + 1 < v3.heap.size := by omega
 have HB3 := Lib.hid hB3; clear hB3
 have HO3 := Lib.hid (HO2.out.trans ho); clear ho
 go_wp2_with fail
 rw [rounds_succ]
 go_wp2_with fail
 rw [rounds_succ]
 go_wp2_with fail
 refine wp_loop_rounds 3 ?_
 rw [rounds_succ]
 go_wp2_with fail
 refine (product_no b c _ (by omega) (by omega) (by omega) (by omega) H3.out).mono ?_
 rintro e w' ⟨rfl, rfl⟩
 go_wp2
 have hb5 : Below w.heap.size w v3 := (HO3.out.below (below_then (below_a3 hb) HL1.out) (by omega))
 exact bodyPost_ret (v := rt (0, 0, 5)) (by simp [results, Tryz.results134, go_sem, gz3, gc3, gd3]) rfl ⟨rfl, (hb5.setCell (by simp; omega) _).setCell (by simp; omega) _⟩

theorem mul_no4 (a b c d : Int) (w : World) (h : (vR a b && vR c d) = true) (h1 : prodOk a c) (h2 : prodOk a d) (h3 : prodOk b c) (h4 : ¬ prodOk b d) :
  Calls Tryz.prog 134 #[rv a b, rv c d] w fun e w' => e = .returned (rt (0, 0, 5)) ∧ Below w.heap.size w w' := by
 obtain ⟨⟨a1, a2, a3⟩, ⟨c1, c2, c3⟩⟩ := both_iff h
 have H := Lib.hid h; clear h
 have H1 := Lib.hid h1; clear h1
 have H2 := Lib.hid h2; clear h2
 have H3 := Lib.hid h3; clear h3
 have H4 := Lib.hid h4; clear h4
 have i0 := idx0 a b
 have i1 := idx1 a b
 have j0 := idx0 c d
 have j1 := idx1 c d
 go_enter Tryz.func134, Tryz.ntmps134
 go_wp2_with fail
 refine (bothValid_to a b c d _ _ H.out).mono ?_
 rintro e w1 ⟨rfl, hb⟩
 obtain ⟨hc, hf⟩ := bcell hb
 have hz0 : w.heap.size + 1 + 1 < w1.heap.size := by have := hb.size; simp at this; omega
 have hza : w.heap.size < w1.heap.size := by omega
 have hzb : w.heap.size + 1 < w1.heap.size := by omega
 go_wp2_with fail
 have hB1 := Blk.new w1 177 (growCells 0 0 false)
 have ho1 := Only.refl w1.heap.size (w1.alloc (.cells (growCells 0 0 false) 177))
 have hl1 := below_a1 (Below.refl _ (w1.alloc (.cells (growCells 0 0 false) 177)))
 have HB1 := Lib.hid hB1; clear hB1
 have HO1 := Lib.hid ho1; clear ho1
 have HL1 := Lib.hid hl1; clear hl1
 refine wp_loop_rounds 3 ?_
 rw [rounds_succ]
 go_wp2_with fail
 refine wp_loop_rounds 3 ?_
 rw [rounds_succ]
 go_wp2_with fail
 refine (product_yes a c _ (by omega) (by omega) (by omega) (by omega) H1.out).mono ?_
 rintro e w' ⟨rfl, rfl⟩
 go_wp2_with fail
 refine (take_first _ _ _ _ _ _ HB1.out).mono ?_
 rintro e v2 ⟨rfl, hB2, ho⟩
 obtain ⟨⟨ga2, gb2, gc2, gd2⟩, fa2, fb2⟩ := mul_cells HL1.out (HO1.out.trans ho) hb hz0
 have gq2 : w1.heap.size < v2.heap.size := hB2.lt
 have gz2 : w.heap.size + 1 + 1 < v2.heap.size := by omega
 have HB2 := Lib.hid hB2; clear hB2
 have HO2 := Lib.hid (HO1.out.trans ho); clear ho
 go_wp2_with fail
 rw [rounds_succ]
 go_wp2_with fail
 refine (product_yes a d _ (by omega) (by omega) (by omega) (by omega) H2.out).mono ?_
 rintro e w' ⟨rfl, rfl⟩
 go_wp2_with fail
 refine (take_more _ _ _ _ _ _ HB2.out).mono ?_
 rintro e v3 ⟨rfl, hB3, ho⟩
 clear ga2 gb2 gc2 gd2 fa2 fb2 gz2 gq2
 obtain ⟨⟨ga3, gb3, gc3, gd3⟩, fa3, fb3⟩ := mul_cells HL1.out (HO2.out.trans ho) hb hz0
 have gq3 : w1.heap.size < v3.heap.size := hB3.lt
 have gz3 : w.heap.size + 1 + 1 < v3.heap.size := by omega
 have HB3 := Lib.hid hB3; clear hB3
 have HO3 := Lib.hid (HO2.out.trans ho); clear ho
 go_wp2_with fail
 rw [rounds_succ]
 go_wp2_with fail
 rw [rounds_succ]
 go_wp2_with fail
 refine wp_loop_rounds 3 ?_
 rw [rounds_succ]
 go_wp2_with fail
 refine (product_yes b c _ (by omega) (by omega) (by omega) (by omega) H3.out).mono ?_
 rintro e w' ⟨rfl, rfl⟩
 go_wp2_with fail
 refine (take_more _ _ _ _ _ _ HB3.out).mono ?_
 rintro e v4 ⟨rfl, hB4, ho⟩
 clear ga3 gb3 gc3 gd3 fa3 fb3 gz3 gq3
 obtain ⟨⟨ga4, gb4, gc4, gd4⟩, fa4, fb4⟩ := mul_cells HL1.out (HO3.out.trans ho) hb hz0
 have gq4 : w1.heap.size < v4.heap.size := hB4.lt
 have gz4 : w.heap.size + 1 + 1 < v4.heap.size := by omega
 have HB4 := Lib.hid hB4; clear hB4
 have HO4 := Lib.hid (HO3.out.trans ho); clear ho
 go_wp2_with fail
 rw [rounds_succ]
 go_wp2_with fail
 refine (product_no b d _ (by omega) (by omega) (by omega) (by omega) H4.out).mono ?_
 rintro e w' ⟨rfl, rfl⟩
 go_wp2
 have hb5 : Below w.heap.size w v4 := (HO4.out.below (below_then (below_a3 hb) HL1.out) (by omega))
 exact bodyPost_ret (v := rt (0, 0, 5)) (by simp [results, Tryz.results134, go_sem, gz4, gc4, gd4]) rfl ⟨rfl, (hb5.setCell (by simp; omega) _).setCell (by simp; omega) _⟩

theorem mul_invalid (a b c d : Int) (w : World) (h : (vR a b && vR c d) = false) :
  Calls Tryz.prog 134 #[rv a b, rv c d] w fun e w' => e = .returned (rt (0, 0, 10)) ∧ Below w.heap.size w w' := by
 have H := Lib.hid h; clear h
 go_enter Tryz.func134, Tryz.ntmps134
 go_wp2_with fail
 refine (bothValid_to a b c d _ _ H.out).mono ?_
 rintro e w1 ⟨rfl, hb⟩
 obtain ⟨hc, hf⟩ := bcell hb
 go_wp2
 exact bodyPost_ret (v := rt (0, 0, 10)) (by simp [results, Tryz.results134, go_sem, hc]) rfl ⟨rfl, ((below_a3 hb).setCell (by simp; omega) _).setCell (by simp; omega) _⟩

theorem bigS_no (lo hi : Int) (h : ¬ (lo ≤ hi ∧ -1000000000000000 ≤ lo ∧ hi ≤ 1000000000000000)) : bigS lo hi = (0, 0, 5) := by
  unfold bigS; rw [vR_no lo hi h]; rfl
theorem far_of_notOk {a b : Int} (h : ¬ prodOk a b) : a * b < -2000000000000000 ∨ 2000000000000000 < a * b := by
  have h1 : ¬ absI (a * b) ≤ 2000000000000000 := fun k => h ((prodOk_iff _ _).2 k)
  unfold absI at h1; split at h1 <;> omega

theorem mul_any (a b c d : Int) (w : World) :
    Calls Tryz.prog 134 #[rv a b, rv c d] w fun e w' => e = .returned (rt (mulS a b c d)) ∧ Below w.heap.size w w' := by
  unfold mulS
  cases h : (vR a b && vR c d)
  · rw [twoS_no h]; exact mul_invalid a b c d w h
  · rw [twoS_yes h]
    by_cases h1 : prodOk a c
    · by_cases h2 : prodOk a d
      · by_cases h3 : prodOk b c
        · by_cases h4 : prodOk b d
          · exact mul_yes a b c d w h h1 h2 h3 h4
          · rw [bigS_no _ _ (by have := far_of_notOk h4; omega)]; exact mul_no4 a b c d w h h1 h2 h3 h4
        · rw [bigS_no _ _ (by have := far_of_notOk h3; omega)]; exact mul_no3 a b c d w h h1 h2 h3
      · rw [bigS_no _ _ (by have := far_of_notOk h2; omega)]; exact mul_no2 a b c d w h h1 h2
    · rw [bigS_no _ _ (by have := far_of_notOk h1; omega)]; exact mul_no1 a b c d w h h1
end

section
open Go.RowKit
attribute [local go_sem ↓] eqlRange neqRange
theorem run_minI {P : Program} (ts : Array TypeId) (t : TypeId) (x y : Int) (w : World) : (Builtin.min_ ts t #[.int .i64 x, .int .i64 y]).run P w = .ok (.int .i64 (min x y)) w := by
  rw [run_min_int2]
  have e : (if y < x then y else x) = min x y := by split <;> omega
  rw [e]
theorem run_maxI {P : Program} (ts : Array TypeId) (t : TypeId) (x y : Int) (w : World) : (Builtin.max_ ts t #[.int .i64 x, .int .i64 y]).run P w = .ok (.int .i64 (max x y)) w := by
  rw [run_max_int2]
  have e : (if x < y then y else x) = max x y := by split <;> omega
  rw [e]
attribute [local go_sem ↓] run_minI run_maxI
end

end Go.Proofs.YtemlaaipnhmcoaaGreat
