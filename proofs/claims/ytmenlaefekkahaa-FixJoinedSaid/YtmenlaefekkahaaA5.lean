/- The contracts of Valid, CheckRange, Has, Before, made, Add, Sub, Neg, Hull and Meet of the specification of layer 1. No conditions but that the numbers are those of ints. -/
import Derived.Test.YtmenlaefekkahaaA4
set_option linter.unusedVariables false
set_option linter.unusedSimpArgs false
set_option linter.constructorNameAsVariable false
namespace Go.Proofs.Ytmenlaefekkahaa
open Go.RowKit
attribute [local go_sem ↓] eqlRange neqRange

theorem rValid_any (a b : Int) (w : World) :
    Calls Try.prog 70 #[rv a b] w fun e w' => e = .returned (.bool (vR a b)) ∧ Below w.heap.size w w' := by
  by_cases h1 : -1000000000000000 ≤ a
  · by_cases h2 : a ≤ b
    · by_cases h3 : b ≤ 1000000000000000
      · rw [(vR_iff a b).2 ⟨h2, h1, h3⟩]
        go_enter Try.func70, Try.ntmps70
        go_wp2
        go_ret
        exact ⟨by simp [h1, h2, h3], (Below.refl _ _).alloc (Nat.le_refl _) _⟩
      · rw [vR_no a b (by omega)]
        go_enter Try.func70, Try.ntmps70
        go_wp2
        go_ret
        exact ⟨by simp [h1, h2, h3], (Below.refl _ _).alloc (Nat.le_refl _) _⟩
    · rw [vR_no a b (by omega)]
      go_enter Try.func70, Try.ntmps70
      go_wp2
      go_ret
      exact ⟨by simp [h1, h2], (Below.refl _ _).alloc (Nat.le_refl _) _⟩
  · rw [vR_no a b (by omega)]
    go_enter Try.func70, Try.ntmps70
    go_wp2
    go_ret
    exact ⟨by simp [h1], (Below.refl _ _).alloc (Nat.le_refl _) _⟩
theorem rValid_to (a b : Int) (t : Bool) (w : World) (h : vR a b = t) :
    Calls Try.prog 70 #[rv a b] w fun e w' => e = .returned (.bool t) ∧ Below w.heap.size w w' := by
  subst h; exact rValid_any a b w

theorem rCheckRange_any (a b : Int) (w : World) :
    Calls Try.prog 27 #[rv a b] w fun e w' => e = .returned (.int .i64 (errR a b)) ∧ Below w.heap.size w w' := by
  unfold errR
  cases h : vR a b
  all_goals
    have H := Lib.hid h; clear h
    go_enter Try.func27, Try.ntmps27
    go_wp2_with fail
    refine (rValid_to a b _ _ H.out).mono ?_
    rintro e w1 ⟨rfl, hb⟩
    go_wp2
    go_ret
    exact ⟨rfl, below_a1 hb⟩

theorem rHas_any (a b n : Int) (w : World) :
    Calls Try.prog 29 #[rv a b, .int .i64 n] w fun e w' => e = .returned (.bool (hasS a b n)) ∧ Below w.heap.size w w' := by
  cases h : vR a b
  · have hs : hasS a b n = false := by simp [hasS, h]
    rw [hs]; clear hs
    have H := Lib.hid h; clear h
    go_enter Try.func29, Try.ntmps29
    go_wp2_with fail
    refine (rValid_to a b _ _ H.out).mono ?_
    rintro e w1 ⟨rfl, hb⟩
    go_wp2
    go_ret
    exact ⟨rfl, below_a1 hb⟩
  · have hs : hasS a b n = (decide (a ≤ n) && decide (n ≤ b)) := by simp [hasS, h]
    rw [hs]; clear hs
    have H := Lib.hid h; clear h
    by_cases h1 : a ≤ n <;> by_cases h2 : n ≤ b
    all_goals
      go_enter Try.func29, Try.ntmps29
      go_wp2_with fail
      refine (rValid_to a b _ _ H.out).mono ?_
      rintro e w1 ⟨rfl, hb⟩
      obtain ⟨hc, hf⟩ := bcell hb
      go_wp2
      go_ret
      exact ⟨by simp [h1, h2], below_a1 hb⟩

theorem rBefore_any (a b c d : Int) (w : World) :
    Calls Try.prog 31 #[rv a b, rv c d] w fun e w' => e = .returned (.bool (beforeS a b c d)) ∧ Below w.heap.size w w' := by
  unfold beforeS
  cases h : vR a b
  · have H := Lib.hid h; clear h
    go_enter Try.func31, Try.ntmps31
    go_wp2_with fail
    refine (rValid_to a b _ _ H.out).mono ?_
    rintro e w1 ⟨rfl, hb⟩
    go_wp2
    go_ret
    exact ⟨rfl, below_a2 hb⟩
  · have H := Lib.hid h; clear h
    cases h' : vR c d
    · have H' := Lib.hid h'; clear h'
      go_enter Try.func31, Try.ntmps31
      go_wp2_with fail
      refine (rValid_to a b _ _ H.out).mono ?_
      rintro e w1 ⟨rfl, hb⟩
      obtain ⟨hc, hf⟩ := bcell hb
      go_wp2_with fail
      refine (rValid_to c d _ _ H'.out).mono ?_
      rintro e w2 ⟨rfl, hb2⟩
      go_wp2
      go_ret
      exact ⟨rfl, below_then (below_a2 hb) hb2⟩
    · have H' := Lib.hid h'; clear h'
      by_cases h1 : b < c
      all_goals
        go_enter Try.func31, Try.ntmps31
        go_wp2_with fail
        refine (rValid_to a b _ _ H.out).mono ?_
        rintro e w1 ⟨rfl, hb⟩
        obtain ⟨hc, hf⟩ := bcell hb
        have hz0 : w.heap.size + 1 < w1.heap.size := by have := hb.size; simp at this; omega
        have hz1 : w.heap.size < w1.heap.size := by omega
        go_wp2_with fail
        refine (rValid_to c d _ _ H'.out).mono ?_
        rintro e w2 ⟨rfl, hb2⟩
        obtain ⟨hc2, hf2⟩ := bcell hb2
        go_wp2
        go_ret
        exact ⟨by simp [h1], below_then (below_a2 hb) hb2⟩

theorem made_any (a b : Int) (w : World) :
    Calls Try.prog 78 #[.int .i64 a, .int .i64 b] w fun e w' => e = .returned (rt (bigS a b)) ∧ Below w.heap.size w w' := by
  cases h : vR a b
  · have hs : bigS a b = (0, 0, 5) := by simp [bigS, h]
    rw [hs]; clear hs
    have H := Lib.hid h; clear h
    go_enter Try.func78, Try.ntmps78
    go_wp2_with fail
    refine (rValid_to a b _ _ H.out).mono ?_
    rintro e w1 ⟨rfl, hb⟩
    obtain ⟨hc, hf⟩ := bcell hb
    have hz9 : w.heap.size < w.heap.size + 1 + 1 := by omega
    go_wp2
    exact bodyPost_ret (v := rt (0, 0, 5)) (by simp [results, Try.results78, go_sem, hc, hz9]) rfl ⟨rfl, ((below_a2 hb).setCell (by simp) _).setCell (by simp) _⟩
  · have hs : bigS a b = (a, b, 0) := by simp [bigS, h]
    rw [hs]; clear hs
    have H := Lib.hid h; clear h
    go_enter Try.func78, Try.ntmps78
    go_wp2_with fail
    refine (rValid_to a b _ _ H.out).mono ?_
    rintro e w1 ⟨rfl, hb⟩
    obtain ⟨hc, hf⟩ := bcell hb
    have hz9 : w.heap.size < w.heap.size + 1 + 1 := by omega
    go_wp2
    exact bodyPost_ret (v := rt (a, b, 0)) (by simp [results, Try.results78, go_sem, hc, hz9]) rfl ⟨rfl, ((below_a2 hb).setCell (by simp) _).setCell (by simp) _⟩

theorem rNeg_any (a b : Int) (w : World) :
    Calls Try.prog 17 #[rv a b] w fun e w' => e = .returned (rt (negS a b)) ∧ Below w.heap.size w w' := by
  cases h : vR a b
  · have hs : negS a b = (0, 0, 10) := by simp [negS, h]
    rw [hs]; clear hs
    have H := Lib.hid h; clear h
    go_enter Try.func17, Try.ntmps17
    go_wp2_with fail
    refine (rValid_to a b _ _ H.out).mono ?_
    rintro e w1 ⟨rfl, hb⟩
    obtain ⟨hc, hf⟩ := bcell hb
    go_wp2
    exact bodyPost_ret (v := rt (0, 0, 10)) (by simp [results, Try.results17, go_sem, hc]) rfl ⟨rfl, ((below_a2 hb).setCell (by simp) _).setCell (by simp) _⟩
  · have hs : negS a b = (-b, -a, 0) := by simp [negS, h]
    obtain ⟨a1, a2, a3⟩ := (vR_iff _ _).1 h
    rw [hs]; clear hs
    have H := Lib.hid h; clear h
    go_enter Try.func17, Try.ntmps17
    go_wp2_with fail
    refine (rValid_to a b _ _ H.out).mono ?_
    rintro e w1 ⟨rfl, hb⟩
    obtain ⟨hc, hf⟩ := bcell hb
    go_wp2
    exact bodyPost_ret (v := rt (-b, -a, 0)) (by simp [results, Try.results17, go_sem, hc]) rfl ⟨rfl, ((below_a2 hb).setCell (by simp) _).setCell (by simp) _⟩

theorem rAdd_any (a b c d : Int) (w : World) :
    Calls Try.prog 13 #[rv a b, rv c d] w fun e w' => e = .returned (rt (addS a b c d)) ∧ Below w.heap.size w w' := by
  unfold addS
  cases h : vR a b
  · rw [twoS_no (by rw [h]; rfl)]
    have H := Lib.hid h; clear h
    go_enter Try.func13, Try.ntmps13
    go_wp2_with fail
    refine (rValid_to a b _ _ H.out).mono ?_
    rintro e w1 ⟨rfl, hb⟩
    obtain ⟨hc, hf⟩ := bcell hb
    go_wp2
    exact bodyPost_ret (v := rt (0, 0, 10)) (by simp [results, Try.results13, go_sem, hc]) rfl ⟨rfl, ((below_a3 hb).setCell (by simp; omega) _).setCell (by simp; omega) _⟩
  · cases h' : vR c d
    · rw [twoS_no (by rw [h, h']; rfl)]
      have H := Lib.hid h; clear h
      have H' := Lib.hid h'; clear h'
      go_enter Try.func13, Try.ntmps13
      go_wp2_with fail
      refine (rValid_to a b _ _ H.out).mono ?_
      rintro e w1 ⟨rfl, hb⟩
      obtain ⟨hc, hf⟩ := bcell hb
      have hz0 : w.heap.size + 1 + 1 < w1.heap.size := by have := hb.size; simp at this; omega
      go_wp2_with fail
      refine (rValid_to c d _ _ H'.out).mono ?_
      rintro e w2 ⟨rfl, hb2⟩
      obtain ⟨hc2, hf2⟩ := bcell hb2
      go_wp2
      exact bodyPost_ret (v := rt (0, 0, 10)) (by simp [results, Try.results13, go_sem, hc2, hc, hz0]) rfl ⟨rfl, ((below_then (below_a3 hb) hb2).setCell (by simp; omega) _).setCell (by simp; omega) _⟩
    · obtain ⟨a1, a2, a3⟩ := (vR_iff _ _).1 h
      obtain ⟨c1, c2, c3⟩ := (vR_iff _ _).1 h'
      rw [twoS_yes (by rw [h, h']; rfl)]
      have H := Lib.hid h; clear h
      have H' := Lib.hid h'; clear h'
      go_enter Try.func13, Try.ntmps13
      go_wp2_with fail
      refine (rValid_to a b _ _ H.out).mono ?_
      rintro e w1 ⟨rfl, hb⟩
      obtain ⟨hc, hf⟩ := bcell hb
      have hz0 : w.heap.size + 1 + 1 < w1.heap.size := by have := hb.size; simp at this; omega
      go_wp2_with fail
      refine (rValid_to c d _ _ H'.out).mono ?_
      rintro e w2 ⟨rfl, hb2⟩
      obtain ⟨hc2, hf2⟩ := bcell hb2
      have hz2 : w.heap.size + 1 + 1 < w2.heap.size := by have := hb2.size; omega
      have hza : w.heap.size < w1.heap.size := by omega
      have hzb : w.heap.size + 1 < w1.heap.size := by omega
      have hzc : w.heap.size < w2.heap.size := by omega
      have hzd : w.heap.size + 1 < w2.heap.size := by omega
      have hze : w.heap.size < w.heap.size + 1 + 1 + 1 := by omega
      go_wp2_with fail
      refine (made_any _ _ _).mono ?_
      rintro e w3 ⟨rfl, hb3⟩
      obtain ⟨hc3, hf3⟩ := bcell hb3
      go_wp2
      exact bodyPost_ret (v := rt (bigS (a + c) (b + d))) (by simp [results, Try.results13, go_sem, hc3, hc2, hc, hz0, hz2]) rfl ⟨rfl, ((below_then (below_then (below_a3 hb) hb2) hb3).setCell (by simp; omega) _).setCell (by simp; omega) _⟩

theorem rSub_any (a b c d : Int) (w : World) :
    Calls Try.prog 15 #[rv a b, rv c d] w fun e w' => e = .returned (rt (subS a b c d)) ∧ Below w.heap.size w w' := by
  unfold subS
  cases h : vR a b
  · rw [twoS_no (by rw [h]; rfl)]
    have H := Lib.hid h; clear h
    go_enter Try.func15, Try.ntmps15
    go_wp2_with fail
    refine (rValid_to a b _ _ H.out).mono ?_
    rintro e w1 ⟨rfl, hb⟩
    obtain ⟨hc, hf⟩ := bcell hb
    go_wp2
    exact bodyPost_ret (v := rt (0, 0, 10)) (by simp [results, Try.results15, go_sem, hc]) rfl ⟨rfl, ((below_a3 hb).setCell (by simp; omega) _).setCell (by simp; omega) _⟩
  · cases h' : vR c d
    · rw [twoS_no (by rw [h, h']; rfl)]
      have H := Lib.hid h; clear h
      have H' := Lib.hid h'; clear h'
      go_enter Try.func15, Try.ntmps15
      go_wp2_with fail
      refine (rValid_to a b _ _ H.out).mono ?_
      rintro e w1 ⟨rfl, hb⟩
      obtain ⟨hc, hf⟩ := bcell hb
      have hz0 : w.heap.size + 1 + 1 < w1.heap.size := by have := hb.size; simp at this; omega
      go_wp2_with fail
      refine (rValid_to c d _ _ H'.out).mono ?_
      rintro e w2 ⟨rfl, hb2⟩
      obtain ⟨hc2, hf2⟩ := bcell hb2
      go_wp2
      exact bodyPost_ret (v := rt (0, 0, 10)) (by simp [results, Try.results15, go_sem, hc2, hc, hz0]) rfl ⟨rfl, ((below_then (below_a3 hb) hb2).setCell (by simp; omega) _).setCell (by simp; omega) _⟩
    · obtain ⟨a1, a2, a3⟩ := (vR_iff _ _).1 h
      obtain ⟨c1, c2, c3⟩ := (vR_iff _ _).1 h'
      rw [twoS_yes (by rw [h, h']; rfl)]
      have H := Lib.hid h; clear h
      have H' := Lib.hid h'; clear h'
      go_enter Try.func15, Try.ntmps15
      go_wp2_with fail
      refine (rValid_to a b _ _ H.out).mono ?_
      rintro e w1 ⟨rfl, hb⟩
      obtain ⟨hc, hf⟩ := bcell hb
      have hz0 : w.heap.size + 1 + 1 < w1.heap.size := by have := hb.size; simp at this; omega
      go_wp2_with fail
      refine (rValid_to c d _ _ H'.out).mono ?_
      rintro e w2 ⟨rfl, hb2⟩
      obtain ⟨hc2, hf2⟩ := bcell hb2
      have hz2 : w.heap.size + 1 + 1 < w2.heap.size := by have := hb2.size; omega
      have hza : w.heap.size < w1.heap.size := by omega
      have hzb : w.heap.size + 1 < w1.heap.size := by omega
      have hzc : w.heap.size < w2.heap.size := by omega
      have hzd : w.heap.size + 1 < w2.heap.size := by omega
      have hze : w.heap.size < w.heap.size + 1 + 1 + 1 := by omega
      go_wp2_with fail
      refine (made_any _ _ _).mono ?_
      rintro e w3 ⟨rfl, hb3⟩
      obtain ⟨hc3, hf3⟩ := bcell hb3
      go_wp2
      exact bodyPost_ret (v := rt (bigS (a - d) (b - c))) (by simp [results, Try.results15, go_sem, hc3, hc2, hc, hz0, hz2]) rfl ⟨rfl, ((below_then (below_then (below_a3 hb) hb2) hb3).setCell (by simp; omega) _).setCell (by simp; omega) _⟩

theorem rHull_any (a b c d : Int) (w : World) :
    Calls Try.prog 23 #[rv a b, rv c d] w fun e w' => e = .returned (rt (hullS a b c d)) ∧ Below w.heap.size w w' := by
  unfold hullS
  cases h : vR a b
  · rw [twoS_no (by rw [h]; rfl)]
    have H := Lib.hid h; clear h
    go_enter Try.func23, Try.ntmps23
    go_wp2_with fail
    refine (rValid_to a b _ _ H.out).mono ?_
    rintro e w1 ⟨rfl, hb⟩
    obtain ⟨hc, hf⟩ := bcell hb
    go_wp2
    exact bodyPost_ret (v := rt (0, 0, 10)) (by simp [results, Try.results23, go_sem, hc]) rfl ⟨rfl, ((below_a3 hb).setCell (by simp; omega) _).setCell (by simp; omega) _⟩
  · cases h' : vR c d
    · rw [twoS_no (by rw [h, h']; rfl)]
      have H := Lib.hid h; clear h
      have H' := Lib.hid h'; clear h'
      go_enter Try.func23, Try.ntmps23
      go_wp2_with fail
      refine (rValid_to a b _ _ H.out).mono ?_
      rintro e w1 ⟨rfl, hb⟩
      obtain ⟨hc, hf⟩ := bcell hb
      have hz0 : w.heap.size + 1 + 1 < w1.heap.size := by have := hb.size; simp at this; omega
      go_wp2_with fail
      refine (rValid_to c d _ _ H'.out).mono ?_
      rintro e w2 ⟨rfl, hb2⟩
      obtain ⟨hc2, hf2⟩ := bcell hb2
      go_wp2
      exact bodyPost_ret (v := rt (0, 0, 10)) (by simp [results, Try.results23, go_sem, hc2, hc, hz0]) rfl ⟨rfl, ((below_then (below_a3 hb) hb2).setCell (by simp; omega) _).setCell (by simp; omega) _⟩
    · obtain ⟨a1, a2, a3⟩ := (vR_iff _ _).1 h
      obtain ⟨c1, c2, c3⟩ := (vR_iff _ _).1 h'
      rw [twoS_yes (by rw [h, h']; rfl)]
      have H := Lib.hid h; clear h
      have H' := Lib.hid h'; clear h'
      go_enter Try.func23, Try.ntmps23
      go_wp2_with fail
      refine (rValid_to a b _ _ H.out).mono ?_
      rintro e w1 ⟨rfl, hb⟩
      obtain ⟨hc, hf⟩ := bcell hb
      have hz0 : w.heap.size + 1 + 1 < w1.heap.size := by have := hb.size; simp at this; omega
      go_wp2_with fail
      refine (rValid_to c d _ _ H'.out).mono ?_
      rintro e w2 ⟨rfl, hb2⟩
      obtain ⟨hc2, hf2⟩ := bcell hb2
      have hz2 : w.heap.size + 1 + 1 < w2.heap.size := by have := hb2.size; omega
      have hza : w.heap.size < w1.heap.size := by omega
      have hzb : w.heap.size + 1 < w1.heap.size := by omega
      have hzc : w.heap.size < w2.heap.size := by omega
      have hzd : w.heap.size + 1 < w2.heap.size := by omega
      have hze : w.heap.size < w.heap.size + 1 + 1 + 1 := by omega
      go_wp2
      all_goals exact bodyPost_ret (v := rt (min a c, max b d, 0)) (by simp [results, Try.results23, go_sem, hc2, hc, hz0, hz2]; omega) rfl ⟨rfl, ((below_then (below_a3 hb) hb2).setCell (by simp; omega) _).setCell (by simp; omega) _⟩

theorem rMeet_any (a b c d : Int) (w : World) :
    Calls Try.prog 25 #[rv a b, rv c d] w fun e w' => e = .returned (rt (meetS a b c d)) ∧ Below w.heap.size w w' := by
  unfold meetS
  cases h : vR a b
  · rw [twoS_no (by rw [h]; rfl)]
    have H := Lib.hid h; clear h
    go_enter Try.func25, Try.ntmps25
    go_wp2_with fail
    refine (rValid_to a b _ _ H.out).mono ?_
    rintro e w1 ⟨rfl, hb⟩
    obtain ⟨hc, hf⟩ := bcell hb
    go_wp2
    exact bodyPost_ret (v := rt (0, 0, 10)) (by simp [results, Try.results25, go_sem, hc]) rfl ⟨rfl, ((below_a3 hb).setCell (by simp; omega) _).setCell (by simp; omega) _⟩
  · cases h' : vR c d
    · rw [twoS_no (by rw [h, h']; rfl)]
      have H := Lib.hid h; clear h
      have H' := Lib.hid h'; clear h'
      go_enter Try.func25, Try.ntmps25
      go_wp2_with fail
      refine (rValid_to a b _ _ H.out).mono ?_
      rintro e w1 ⟨rfl, hb⟩
      obtain ⟨hc, hf⟩ := bcell hb
      have hz0 : w.heap.size + 1 + 1 < w1.heap.size := by have := hb.size; simp at this; omega
      go_wp2_with fail
      refine (rValid_to c d _ _ H'.out).mono ?_
      rintro e w2 ⟨rfl, hb2⟩
      obtain ⟨hc2, hf2⟩ := bcell hb2
      go_wp2
      exact bodyPost_ret (v := rt (0, 0, 10)) (by simp [results, Try.results25, go_sem, hc2, hc, hz0]) rfl ⟨rfl, ((below_then (below_a3 hb) hb2).setCell (by simp; omega) _).setCell (by simp; omega) _⟩
    · obtain ⟨a1, a2, a3⟩ := (vR_iff _ _).1 h
      obtain ⟨c1, c2, c3⟩ := (vR_iff _ _).1 h'
      rw [twoS_yes (by rw [h, h']; rfl)]
      have H := Lib.hid h; clear h
      have H' := Lib.hid h'; clear h'
      by_cases hxy : max a c ≤ min b d
      · rw [if_pos hxy]
        go_enter Try.func25, Try.ntmps25
        go_wp2_with fail
        refine (rValid_to a b _ _ H.out).mono ?_
        rintro e w1 ⟨rfl, hb⟩
        obtain ⟨hc, hf⟩ := bcell hb
        have hz0 : w.heap.size + 1 + 1 < w1.heap.size := by have := hb.size; simp at this; omega
        go_wp2_with fail
        refine (rValid_to c d _ _ H'.out).mono ?_
        rintro e w2 ⟨rfl, hb2⟩
        obtain ⟨hc2, hf2⟩ := bcell hb2
        have hz2 : w.heap.size + 1 + 1 < w2.heap.size := by have := hb2.size; omega
        have hza : w.heap.size < w1.heap.size := by omega
        have hzb : w.heap.size + 1 < w1.heap.size := by omega
        have hzc : w.heap.size < w2.heap.size := by omega
        have hzd : w.heap.size + 1 < w2.heap.size := by omega
        have hze : w.heap.size < w.heap.size + 1 + 1 + 1 := by omega
        have hy1 : a ≤ b := by omega
        have hy2 : a ≤ d := by omega
        have hy3 : c ≤ b := by omega
        have hy4 : c ≤ d := by omega
        clear hxy
        go_wp2
        all_goals exact bodyPost_ret (v := rt (max a c, min b d, 0)) (by simp [results, Try.results25, go_sem, hc2, hc, hz0, hz2]; omega) rfl ⟨rfl, (((below_then (below_a3 hb) hb2).setCell (by simp; omega) _).setCell (by simp; omega) _).alloc (by simp; omega) _⟩
      · rw [if_neg hxy]
        go_enter Try.func25, Try.ntmps25
        go_wp2_with fail
        refine (rValid_to a b _ _ H.out).mono ?_
        rintro e w1 ⟨rfl, hb⟩
        obtain ⟨hc, hf⟩ := bcell hb
        have hz0 : w.heap.size + 1 + 1 < w1.heap.size := by have := hb.size; simp at this; omega
        go_wp2_with fail
        refine (rValid_to c d _ _ H'.out).mono ?_
        rintro e w2 ⟨rfl, hb2⟩
        obtain ⟨hc2, hf2⟩ := bcell hb2
        have hz2 : w.heap.size + 1 + 1 < w2.heap.size := by have := hb2.size; omega
        have hza : w.heap.size < w1.heap.size := by omega
        have hzb : w.heap.size + 1 < w1.heap.size := by omega
        have hzc : w.heap.size < w2.heap.size := by omega
        have hzd : w.heap.size + 1 < w2.heap.size := by omega
        have hze : w.heap.size < w.heap.size + 1 + 1 + 1 := by omega
        have hy : b < a ∨ d < a ∨ b < c ∨ d < c := by omega
        clear hxy
        go_wp2
        all_goals first | (exfalso; omega) | exact bodyPost_ret (v := rt (0, 0, 3)) (by simp [results, Try.results25, go_sem, hc2, hc, hz0, hz2]) rfl ⟨rfl, (((below_then (below_a3 hb) hb2).setCell (by simp; omega) _).setCell (by simp; omega) _).alloc (by simp; omega) _⟩
end Go.Proofs.Ytmenlaefekkahaa
