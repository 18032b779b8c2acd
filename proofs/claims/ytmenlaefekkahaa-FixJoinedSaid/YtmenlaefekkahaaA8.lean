/- The contract of the specification's Mul. No conditions but that the numbers are those of ints. -/
import Derived.Test.YtmenlaefekkahaaA7
set_option linter.unusedVariables false
set_option linter.unusedSimpArgs false
set_option linter.constructorNameAsVariable false
namespace Go.Proofs.Ytmenlaefekkahaa
open Go.RowKit
attribute [local go_sem ↓] eqlRange neqRange

theorem run_minI {P : Program} (ts : Array TypeId) (t : TypeId) (x y : Int) (w : World) : (Builtin.min_ ts t #[.int .i64 x, .int .i64 y]).run P w = .ok (.int .i64 (min x y)) w := by
  rw [run_min_int2]
  have e : (if y < x then y else x) = min x y := by split <;> omega
  rw [e]
theorem run_maxI {P : Program} (ts : Array TypeId) (t : TypeId) (x y : Int) (w : World) : (Builtin.max_ ts t #[.int .i64 x, .int .i64 y]).run P w = .ok (.int .i64 (max x y)) w := by
  rw [run_max_int2]
  have e : (if x < y then y else x) = max x y := by split <;> omega
  rw [e]
attribute [local go_sem ↓] run_minI run_maxI


theorem rMul_yes (a b c d : Int) (w : World) (h : vR a b = true) (h' : vR c d = true) (h1 : absI (a * c) ≤ 1000000000000000) (h2 : absI (a * d) ≤ 1000000000000000) (h3 : absI (b * c) ≤ 1000000000000000) (h4 : absI (b * d) ≤ 1000000000000000) :
    Calls Try.prog 19 #[rv a b, rv c d] w fun e w' => e = .returned (rt (min 1000000000000000 (min (a * c) (min (a * d) (min (b * c) (b * d)))), max (-1000000000000000) (max (a * c) (max (a * d) (max (b * c) (b * d)))), 0)) ∧ Below w.heap.size w w' := by
  obtain ⟨a1, a2, a3⟩ := (vR_iff _ _).1 h
  obtain ⟨c1, c2, c3⟩ := (vR_iff _ _).1 h'
  have H := Lib.hid h; clear h
  have H' := Lib.hid h'; clear h'
  have H1 := Lib.hid h1; clear h1
  have H2 := Lib.hid h2; clear h2
  have H3 := Lib.hid h3; clear h3
  have H4 := Lib.hid h4; clear h4
  go_enter Try.func19, Try.ntmps19
  go_wp2_with fail
  refine (rValid_to a b _ _ H.out).mono ?_
  rintro e w1 ⟨rfl, hb⟩
  obtain ⟨hc, hf⟩ := bcell hb
  have hz0 : w.heap.size + 1 + 1 < w1.heap.size := by have := hb.size; simp at this; omega
  have hza : w.heap.size < w1.heap.size := by omega
  have hzb : w.heap.size + 1 < w1.heap.size := by omega
  go_wp2_with fail
  refine (rValid_to c d _ _ H'.out).mono ?_
  rintro e w2 ⟨rfl, hb2⟩
  obtain ⟨hc2, hf2⟩ := bcell hb2
  have hz2 : w.heap.size + 1 + 1 < w2.heap.size := by have := hb2.size; omega
  have hzc : w.heap.size < w2.heap.size := by omega
  have hzd : w.heap.size + 1 < w2.heap.size := by omega
  have hze : w.heap.size < w.heap.size + 1 + 1 + 1 := by omega
  have hB2 := below_then (below_a3 hb) hb2
  have hy1 : w.heap.size + 1 + 1 < w2.heap.size + 1 := by omega
  have hy2 : w.heap.size + 1 + 1 < w2.heap.size + 1 + 1 := by omega
  have hy3 : w.heap.size + 1 + 1 < w2.heap.size + 1 + 1 + 1 := by omega
  go_wp2_with fail
  refine wp_loop_rounds 3 ?_
  rw [rounds_succ]
  go_wp2_with fail
  refine wp_loop_rounds 3 ?_
  rw [rounds_succ]
  go_wp2_with fail
  refine (rProduct_yes a c _ (by omega) (by omega) (by omega) (by omega) H1.out).mono ?_
  rintro e w' ⟨rfl, rfl⟩
  go_wp2_with fail
  rw [rounds_succ]
  go_wp2_with fail
  refine (rProduct_yes a d _ (by omega) (by omega) (by omega) (by omega) H2.out).mono ?_
  rintro e w' ⟨rfl, rfl⟩
  go_wp2_with fail
  rw [rounds_succ]
  go_wp2_with fail
  rw [rounds_succ]
  go_wp2_with fail
  refine wp_loop_rounds 3 ?_
  rw [rounds_succ]
  go_wp2_with fail
  refine (rProduct_yes b c _ (by omega) (by omega) (by omega) (by omega) H3.out).mono ?_
  rintro e w' ⟨rfl, rfl⟩
  go_wp2_with fail
  rw [rounds_succ]
  go_wp2_with fail
  refine (rProduct_yes b d _ (by omega) (by omega) (by omega) (by omega) H4.out).mono ?_
  rintro e w' ⟨rfl, rfl⟩
  go_wp2_with fail
  rw [rounds_succ]
  go_wp2_with fail
  rw [rounds_succ]
  go_wp2_with fail
  refine bodyPost_ret (v := rt (min 1000000000000000 (min (a * c) (min (a * d) (min (b * c) (b * d)))), max (-1000000000000000) (max (a * c) (max (a * d) (max (b * c) (b * d)))), 0)) (by simp [results, Try.results19, go_sem, hc2, hc, hz0, hz2, hy1, hy2, hy3]) rfl ⟨rfl, ?_⟩
  repeat (first | exact hB2 | refine Below.setCell ?_ (by simp <;> omega) _ | refine Below.alloc ?_ (by simp <;> omega) _)

theorem rMul_no1 (a b c d : Int) (w : World) (h : vR a b = true) (h' : vR c d = true) (h1 : ¬ absI (a * c) ≤ 1000000000000000) :
    Calls Try.prog 19 #[rv a b, rv c d] w fun e w' => e = .returned (rt (0, 0, 5)) ∧ Below w.heap.size w w' := by
  obtain ⟨a1, a2, a3⟩ := (vR_iff _ _).1 h
  obtain ⟨c1, c2, c3⟩ := (vR_iff _ _).1 h'
  have H := Lib.hid h; clear h
  have H' := Lib.hid h'; clear h'
  have H1 := Lib.hid h1; clear h1
  go_enter Try.func19, Try.ntmps19
  go_wp2_with fail
  refine (rValid_to a b _ _ H.out).mono ?_
  rintro e w1 ⟨rfl, hb⟩
  obtain ⟨hc, hf⟩ := bcell hb
  have hz0 : w.heap.size + 1 + 1 < w1.heap.size := by have := hb.size; simp at this; omega
  have hza : w.heap.size < w1.heap.size := by omega
  have hzb : w.heap.size + 1 < w1.heap.size := by omega
  go_wp2_with fail
  refine (rValid_to c d _ _ H'.out).mono ?_
  rintro e w2 ⟨rfl, hb2⟩
  obtain ⟨hc2, hf2⟩ := bcell hb2
  have hz2 : w.heap.size + 1 + 1 < w2.heap.size := by have := hb2.size; omega
  have hzc : w.heap.size < w2.heap.size := by omega
  have hzd : w.heap.size + 1 < w2.heap.size := by omega
  have hze : w.heap.size < w.heap.size + 1 + 1 + 1 := by omega
  have hB2 := below_then (below_a3 hb) hb2
  have hy1 : w.heap.size + 1 + 1 < w2.heap.size + 1 := by omega
  have hy2 : w.heap.size + 1 + 1 < w2.heap.size + 1 + 1 := by omega
  have hy3 : w.heap.size + 1 + 1 < w2.heap.size + 1 + 1 + 1 := by omega
  go_wp2_with fail
  refine wp_loop_rounds 3 ?_
  rw [rounds_succ]
  go_wp2_with fail
  refine wp_loop_rounds 3 ?_
  rw [rounds_succ]
  go_wp2_with fail
  refine (rProduct_no a c _ (by omega) (by omega) (by omega) (by omega) (by have := H1.out; omega)).mono ?_
  rintro e w' ⟨rfl, rfl⟩
  go_wp2
  refine bodyPost_ret (v := rt (0, 0, 5)) (by simp [results, Try.results19, go_sem, hc2, hc, hz0, hz2, hy1, hy2, hy3]) rfl ⟨rfl, ?_⟩
  repeat (first | exact hB2 | refine Below.setCell ?_ (by simp <;> omega) _ | refine Below.alloc ?_ (by simp <;> omega) _)

theorem rMul_no2 (a b c d : Int) (w : World) (h : vR a b = true) (h' : vR c d = true) (h1 : absI (a * c) ≤ 1000000000000000) (h2 : ¬ absI (a * d) ≤ 1000000000000000) :
    Calls Try.prog 19 #[rv a b, rv c d] w fun e w' => e = .returned (rt (0, 0, 5)) ∧ Below w.heap.size w w' := by
  obtain ⟨a1, a2, a3⟩ := (vR_iff _ _).1 h
  obtain ⟨c1, c2, c3⟩ := (vR_iff _ _).1 h'
  have H := Lib.hid h; clear h
  have H' := Lib.hid h'; clear h'
  have H1 := Lib.hid h1; clear h1
  have H2 := Lib.hid h2; clear h2
  go_enter Try.func19, Try.ntmps19
  go_wp2_with fail
  refine (rValid_to a b _ _ H.out).mono ?_
  rintro e w1 ⟨rfl, hb⟩
  obtain ⟨hc, hf⟩ := bcell hb
  have hz0 : w.heap.size + 1 + 1 < w1.heap.size := by have := hb.size; simp at this; omega
  have hza : w.heap.size < w1.heap.size := by omega
  have hzb : w.heap.size + 1 < w1.heap.size := by omega
  go_wp2_with fail
  refine (rValid_to c d _ _ H'.out).mono ?_
  rintro e w2 ⟨rfl, hb2⟩
  obtain ⟨hc2, hf2⟩ := bcell hb2
  have hz2 : w.heap.size + 1 + 1 < w2.heap.size := by have := hb2.size; omega
  have hzc : w.heap.size < w2.heap.size := by omega
  have hzd : w.heap.size + 1 < w2.heap.size := by omega
  have hze : w.heap.size < w.heap.size + 1 + 1 + 1 := by omega
  have hB2 := below_then (below_a3 hb) hb2
  have hy1 : w.heap.size + 1 + 1 < w2.heap.size + 1 := by omega
  have hy2 : w.heap.size + 1 + 1 < w2.heap.size + 1 + 1 := by omega
  have hy3 : w.heap.size + 1 + 1 < w2.heap.size + 1 + 1 + 1 := by omega
  go_wp2_with fail
  refine wp_loop_rounds 3 ?_
  rw [rounds_succ]
  go_wp2_with fail
  refine wp_loop_rounds 3 ?_
  rw [rounds_succ]
  go_wp2_with fail
  refine (rProduct_yes a c _ (by omega) (by omega) (by omega) (by omega) H1.out).mono ?_
  rintro e w' ⟨rfl, rfl⟩
  go_wp2_with fail
  rw [rounds_succ]
  go_wp2_with fail
  refine (rProduct_no a d _ (by omega) (by omega) (by omega) (by omega) (by have := H2.out; omega)).mono ?_
  rintro e w' ⟨rfl, rfl⟩
  go_wp2
  refine bodyPost_ret (v := rt (0, 0, 5)) (by simp [results, Try.results19, go_sem, hc2, hc, hz0, hz2, hy1, hy2, hy3]) rfl ⟨rfl, ?_⟩
  repeat (first | exact hB2 | refine Below.setCell ?_ (by simp <;> omega) _ | refine Below.alloc ?_ (by simp <;> omega) _)

theorem rMul_no3 (a b c d : Int) (w : World) (h : vR a b = true) (h' : vR c d = true) (h1 : absI (a * c) ≤ 1000000000000000) (h2 : absI (a * d) ≤ 1000000000000000) (h3 : ¬ absI (b * c) ≤ 1000000000000000) :
    Calls Try.prog 19 #[rv a b, rv c d] w fun e w' => e = .returned (rt (0, 0, 5)) ∧ Below w.heap.size w w' := by
  obtain ⟨a1, a2, a3⟩ := (vR_iff _ _).1 h
  obtain ⟨c1, c2, c3⟩ := (vR_iff _ _).1 h'
  have H := Lib.hid h; clear h
  have H' := Lib.hid h'; clear h'
  have H1 := Lib.hid h1; clear h1
  have H2 := Lib.hid h2; clear h2
  have H3 := Lib.hid h3; clear h3
  go_enter Try.func19, Try.ntmps19
  go_wp2_with fail
  refine (rValid_to a b _ _ H.out).mono ?_
  rintro e w1 ⟨rfl, hb⟩
  obtain ⟨hc, hf⟩ := bcell hb
  have hz0 : w.heap.size + 1 + 1 < w1.heap.size := by have := hb.size; simp at this; omega
  have hza : w.heap.size < w1.heap.size := by omega
  have hzb : w.heap.size + 1 < w1.heap.size := by omega
  go_wp2_with fail
  refine (rValid_to c d _ _ H'.out).mono ?_
  rintro e w2 ⟨rfl, hb2⟩
  obtain ⟨hc2, hf2⟩ := bcell hb2
  have hz2 : w.heap.size + 1 + 1 < w2.heap.size := by have := hb2.size; omega
  have hzc : w.heap.size < w2.heap.size := by omega
  have hzd : w.heap.size + 1 < w2.heap.size := by omega
  have hze : w.heap.size < w.heap.size + 1 + 1 + 1 := by omega
  have hB2 := below_then (below_a3 hb) hb2
  have hy1 : w.heap.size + 1 + 1 < w2.heap.size + 1 := by omega
  have hy2 : w.heap.size + 1 + 1 < w2.heap.size + 1 + 1 := by omega
  have hy3 : w.heap.size + 1 + 1 < w2.heap.size + 1 + 1 + 1 := by omega
  go_wp2_with fail
  refine wp_loop_rounds 3 ?_
  rw [rounds_succ]
  go_wp2_with fail
  refine wp_loop_rounds 3 ?_
  rw [rounds_succ]
  go_wp2_with fail
  refine (rProduct_yes a c _ (by omega) (by omega) (by omega) (by omega) H1.out).mono ?_
  rintro e w' ⟨rfl, rfl⟩
  go_wp2_with fail
  rw [rounds_succ]
  go_wp2_with fail
  refine (rProduct_yes a d _ (by omega) (by omega) (by omega) (by omega) H2.out).mono ?_
  rintro e w' ⟨rfl, rfl⟩
  go_wp2_with fail
  rw [rounds_succ]
  go_wp2_with fail
  rw [rounds_succ]
  go_wp2_with fail
  refine wp_loop_rounds 3 ?_
  rw [rounds_succ]
  go_wp2_with fail
  refine (rProduct_no b c _ (by omega) (by omega) (by omega) (by omega) (by have := H3.out; omega)).mono ?_
  rintro e w' ⟨rfl, rfl⟩
  go_wp2
  refine bodyPost_ret (v := rt (0, 0, 5)) (by simp [results, Try.results19, go_sem, hc2, hc, hz0, hz2, hy1, hy2, hy3]) rfl ⟨rfl, ?_⟩
  repeat (first | exact hB2 | refine Below.setCell ?_ (by simp <;> omega) _ | refine Below.alloc ?_ (by simp <;> omega) _)

theorem rMul_no4 (a b c d : Int) (w : World) (h : vR a b = true) (h' : vR c d = true) (h1 : absI (a * c) ≤ 1000000000000000) (h2 : absI (a * d) ≤ 1000000000000000) (h3 : absI (b * c) ≤ 1000000000000000) (h4 : ¬ absI (b * d) ≤ 1000000000000000) :
    Calls Try.prog 19 #[rv a b, rv c d] w fun e w' => e = .returned (rt (0, 0, 5)) ∧ Below w.heap.size w w' := by
  obtain ⟨a1, a2, a3⟩ := (vR_iff _ _).1 h
  obtain ⟨c1, c2, c3⟩ := (vR_iff _ _).1 h'
  have H := Lib.hid h; clear h
  have H' := Lib.hid h'; clear h'
  have H1 := Lib.hid h1; clear h1
  have H2 := Lib.hid h2; clear h2
  have H3 := Lib.hid h3; clear h3
  have H4 := Lib.hid h4; clear h4
  go_enter Try.func19, Try.ntmps19
  go_wp2_with fail
  refine (rValid_to a b _ _ H.out).mono ?_
  rintro e w1 ⟨rfl, hb⟩
  obtain ⟨hc, hf⟩ := bcell hb
  have hz0 : w.heap.size + 1 + 1 < w1.heap.size := by have := hb.size; simp at this; omega
  have hza : w.heap.size < w1.heap.size := by omega
  have hzb : w.heap.size + 1 < w1.heap.size := by omega
  go_wp2_with fail
  refine (rValid_to c d _ _ H'.out).mono ?_
  rintro e w2 ⟨rfl, hb2⟩
  obtain ⟨hc2, hf2⟩ := bcell hb2
  have hz2 : w.heap.size + 1 + 1 < w2.heap.size := by have := hb2.size; omega
  have hzc : w.heap.size < w2.heap.size := by omega
  have hzd : w.heap.size + 1 < w2.heap.size := by omega
  have hze : w.heap.size < w.heap.size + 1 + 1 + 1 := by omega
  have hB2 := below_then (below_a3 hb) hb2
  have hy1 : w.heap.size + 1 + 1 < w2.heap.size + 1 := by omega
  have hy2 : w.heap.size + 1 + 1 < w2.heap.size + 1 + 1 := by omega
  have hy3 : w.heap.size + 1 + 1 < w2.heap.size + 1 + 1 + 1 := by omega
  go_wp2_with fail
  refine wp_loop_rounds 3 ?_
  rw [rounds_succ]
  go_wp2_with fail
  refine wp_loop_rounds 3 ?_
  rw [rounds_succ]
  go_wp2_with fail
  refine (rProduct_yes a c _ (by omega) (by omega) (by omega) (by omega) H1.out).mono ?_
  rintro e w' ⟨rfl, rfl⟩
  go_wp2_with fail
  rw [rounds_succ]
  go_wp2_with fail
  refine (rProduct_yes a d _ (by omega) (by omega) (by omega) (by omega) H2.out).mono ?_
  rintro e w' ⟨rfl, rfl⟩
  go_wp2_with fail
  rw [rounds_succ]
  go_wp2_with fail
  rw [rounds_succ]
  go_wp2_with fail
  refine wp_loop_rounds 3 ?_
  rw [rounds_succ]
  go_wp2_with fail
  refine (rProduct_yes b c _ (by omega) (by omega) (by omega) (by omega) H3.out).mono ?_
  rintro e w' ⟨rfl, rfl⟩
  go_wp2_with fail
  rw [rounds_succ]
  go_wp2_with fail
  refine (rProduct_no b d _ (by omega) (by omega) (by omega) (by omega) (by have := H4.out; omega)).mono ?_
  rintro e w' ⟨rfl, rfl⟩
  go_wp2
  refine bodyPost_ret (v := rt (0, 0, 5)) (by simp [results, Try.results19, go_sem, hc2, hc, hz0, hz2, hy1, hy2, hy3]) rfl ⟨rfl, ?_⟩
  repeat (first | exact hB2 | refine Below.setCell ?_ (by simp <;> omega) _ | refine Below.alloc ?_ (by simp <;> omega) _)

theorem rMul_invalid (a b c d : Int) (w : World) (h : (vR a b && vR c d) = false) :
    Calls Try.prog 19 #[rv a b, rv c d] w fun e w' => e = .returned (rt (0, 0, 10)) ∧ Below w.heap.size w w' := by
  cases h1 : vR a b
  · have H := Lib.hid h1; clear h h1
    go_enter Try.func19, Try.ntmps19
    go_wp2_with fail
    refine (rValid_to a b _ _ H.out).mono ?_
    rintro e w1 ⟨rfl, hb⟩
    obtain ⟨hc, hf⟩ := bcell hb
    go_wp2
    exact bodyPost_ret (v := rt (0, 0, 10)) (by simp [results, Try.results19, go_sem, hc]) rfl ⟨rfl, ((below_a3 hb).setCell (by simp; omega) _).setCell (by simp; omega) _⟩
  · have h2 : vR c d = false := by rw [h1] at h; exact h
    have H := Lib.hid h1; have H' := Lib.hid h2; clear h h1 h2
    go_enter Try.func19, Try.ntmps19
    go_wp2_with fail
    refine (rValid_to a b _ _ H.out).mono ?_
    rintro e w1 ⟨rfl, hb⟩
    obtain ⟨hc, hf⟩ := bcell hb
    have hz0 : w.heap.size + 1 + 1 < w1.heap.size := by have := hb.size; simp at this; omega
    go_wp2_with fail
    refine (rValid_to c d _ _ H'.out).mono ?_
    rintro e w2 ⟨rfl, hb2⟩
    obtain ⟨hc2, hf2⟩ := bcell hb2
    go_wp2
    exact bodyPost_ret (v := rt (0, 0, 10)) (by simp [results, Try.results19, go_sem, hc2, hc, hz0]) rfl ⟨rfl, ((below_then (below_a3 hb) hb2).setCell (by simp; omega) _).setCell (by simp; omega) _⟩

theorem far_of_not {n : Int} (h : ¬ absI n ≤ 1000000000000000) : n < -1000000000000000 ∨ 1000000000000000 < n := by
  unfold absI at h; split at h <;> omega

theorem rMul_any (a b c d : Int) (w : World) :
    Calls Try.prog 19 #[rv a b, rv c d] w fun e w' => e = .returned (rt (mulS a b c d)) ∧ Below w.heap.size w w' := by
  unfold mulS
  cases h : (vR a b && vR c d)
  · rw [twoS_no h]; exact rMul_invalid a b c d w h
  · rw [twoS_yes h]
    have g : vR a b = true := by rw [Bool.and_eq_true] at h; exact h.1
    have g' : vR c d = true := by rw [Bool.and_eq_true] at h; exact h.2
    by_cases h1 : absI (a * c) ≤ 1000000000000000
    · by_cases h2 : absI (a * d) ≤ 1000000000000000
      · by_cases h3 : absI (b * c) ≤ 1000000000000000
        · by_cases h4 : absI (b * d) ≤ 1000000000000000
          · have e : bigS (min (min (min (a * c) (a * d)) (b * c)) (b * d)) (max (max (max (a * c) (a * d)) (b * c)) (b * d)) = (min 1000000000000000 (min (a * c) (min (a * d) (min (b * c) (b * d)))), max (-1000000000000000) (max (a * c) (max (a * d) (max (b * c) (b * d)))), 0) := by
              obtain ⟨p1, q1⟩ := of_absI_le h1
              obtain ⟨p2, q2⟩ := of_absI_le h2
              obtain ⟨p3, q3⟩ := of_absI_le h3
              obtain ⟨p4, q4⟩ := of_absI_le h4
              unfold bigS
              rw [(vR_iff _ _).2 (by omega), if_pos rfl]
              refine Prod.ext ?_ (Prod.ext ?_ rfl)
              · show min (min (min (a * c) (a * d)) (b * c)) (b * d) = min 1000000000000000 (min (a * c) (min (a * d) (min (b * c) (b * d))))
                omega
              · show max (max (max (a * c) (a * d)) (b * c)) (b * d) = max (-1000000000000000) (max (a * c) (max (a * d) (max (b * c) (b * d))))
                omega
            rw [e]
            exact rMul_yes a b c d w g g' h1 h2 h3 h4
          · rw [bigS_no _ _ (by have := far_of_not h4; omega)]; exact rMul_no4 a b c d w g g' h1 h2 h3 h4
        · rw [bigS_no _ _ (by have := far_of_not h3; omega)]; exact rMul_no3 a b c d w g g' h1 h2 h3
      · rw [bigS_no _ _ (by have := far_of_not h2; omega)]; exact rMul_no2 a b c d w g g' h1 h2
    · rw [bigS_no _ _ (by have := far_of_not h1; omega)]; exact rMul_no1 a b c d w g g' h1
end Go.Proofs.Ytmenlaefekkahaa
