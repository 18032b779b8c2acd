/- The contracts of Add, Sub, Neg, Has, Before, Hull and Meet (fix and its specification). No conditions but that the numbers are those of ints. -/
import Derived.Test.YtmenlaefekkahaaA3
set_option linter.unusedVariables false
set_option linter.unusedSimpArgs false
set_option linter.constructorNameAsVariable false
namespace Go.Proofs.Ytmenlaefekkahaa
open Go.RowKit
attribute [local go_sem ↓] eqlRange neqRange

/-- a range and an error as values -/
abbrev rt (r : Int × Int × Int) : Value := .tuple #[rv r.1 r.2.1, .int .i64 r.2.2]
/-- a range, or ErrBig -/
def bigS (lo hi : Int) : Int × Int × Int := if vR lo hi = true then (lo, hi, 0) else (0, 0, 5)

theorem checkRange_ok (a b : Int) (w : World) (h : vR a b = true) :
    Calls Try.prog 26 #[rv a b] w fun e w' => e = .returned (.int .i64 0) ∧ Below w.heap.size w w' :=
  checkRange_bool a b true _ w h rfl
theorem checkRange_bad (a b : Int) (w : World) (h : vR a b = false) :
    Calls Try.prog 26 #[rv a b] w fun e w' => e = .returned (.int .i64 10) ∧ Below w.heap.size w w' :=
  checkRange_bool a b false _ w h rfl

theorem unlessBig_any (a b : Int) (w : World) :
    Calls Try.prog 77 #[rv a b] w fun e w' => e = .returned (rt (bigS a b)) ∧ Below w.heap.size w w' := by
  cases h : vR a b
  · have hs : bigS a b = (0, 0, 5) := by simp [bigS, h]
    rw [hs]; clear hs
    have H := Lib.hid h; clear h
    go_enter Try.func77, Try.ntmps77
    go_wp2_with fail
    refine (checkRange_bad a b _ H.out).mono ?_
    rintro e w1 ⟨rfl, hb⟩
    obtain ⟨hc, hf⟩ := bcell hb
    have hz := hb.size
    go_wp2
    exact bodyPost_ret (v := rt (0, 0, 5)) (by simp [results, Try.results77, go_sem, hc]) rfl ⟨rfl, ((below_a2 hb).setCell (by simp) _).setCell (by simp) _⟩
  · have hs : bigS a b = (a, b, 0) := by simp [bigS, h]
    rw [hs]; clear hs
    have H := Lib.hid h; clear h
    go_enter Try.func77, Try.ntmps77
    go_wp2_with fail
    refine (checkRange_ok a b _ H.out).mono ?_
    rintro e w1 ⟨rfl, hb⟩
    obtain ⟨hc, hf⟩ := bcell hb
    have hz := hb.size
    go_wp2
    exact bodyPost_ret (v := rt (a, b, 0)) (by simp [results, Try.results77, go_sem, hc]) rfl ⟨rfl, ((below_a2 hb).setCell (by simp) _).setCell (by simp) _⟩

theorem bothValid_any (a b c d : Int) (w : World) :
    Calls Try.prog 76 #[rv a b, rv c d] w fun e w' => e = .returned (.bool (vR a b && vR c d)) ∧ Below w.heap.size w w' := by
  cases h : vR a b
  · have H := Lib.hid h; clear h
    go_enter Try.func76, Try.ntmps76
    go_wp2_with fail
    refine (checkRange_bad a b _ H.out).mono ?_
    rintro e w1 ⟨rfl, hb⟩
    go_wp2
    go_ret
    exact ⟨rfl, below_a2 hb⟩
  · have H := Lib.hid h; clear h
    cases h' : vR c d
    all_goals
      have H' := Lib.hid h'; clear h'
      go_enter Try.func76, Try.ntmps76
      go_wp2_with fail
      refine (checkRange_ok a b _ H.out).mono ?_
      rintro e w1 ⟨rfl, hb⟩
      obtain ⟨hc, hf⟩ := bcell hb
      go_wp2_with fail
      first | refine (checkRange_bad c d _ H'.out).mono ?_ | refine (checkRange_ok c d _ H'.out).mono ?_
      rintro e w2 ⟨rfl, hb2⟩
      go_wp2
      go_ret
      exact ⟨rfl, below_then (below_a2 hb) hb2⟩

/-- Two ranges and an operation: ErrRange if one is not valid. -/
def twoS (a b c d : Int) (r : Int × Int × Int) : Int × Int × Int := if (vR a b && vR c d) = true then r else (0, 0, 10)
def addS (a b c d : Int) : Int × Int × Int := twoS a b c d (bigS (a + c) (b + d))
def subS (a b c d : Int) : Int × Int × Int := twoS a b c d (bigS (a - d) (b - c))
theorem twoS_no {a b c d : Int} {r : Int × Int × Int} (h : (vR a b && vR c d) = false) : twoS a b c d r = (0, 0, 10) := by simp [twoS, h]
theorem twoS_yes {a b c d : Int} {r : Int × Int × Int} (h : (vR a b && vR c d) = true) : twoS a b c d r = r := by rw [twoS, if_pos h]
theorem both_iff {a b c d : Int} (h : (vR a b && vR c d) = true) : (a ≤ b ∧ -1000000000000000 ≤ a ∧ b ≤ 1000000000000000) ∧ (c ≤ d ∧ -1000000000000000 ≤ c ∧ d ≤ 1000000000000000) := by
  rw [Bool.and_eq_true] at h
  exact ⟨(vR_iff _ _).1 h.1, (vR_iff _ _).1 h.2⟩
theorem bothValid_to (a b c d : Int) (t : Bool) (w : World) (h : (vR a b && vR c d) = t) :
    Calls Try.prog 76 #[rv a b, rv c d] w fun e w' => e = .returned (.bool t) ∧ Below w.heap.size w w' := by
  subst h; exact bothValid_any a b c d w

theorem add_any (a b c d : Int) (w : World) :
    Calls Try.prog 12 #[rv a b, rv c d] w fun e w' => e = .returned (rt (addS a b c d)) ∧ Below w.heap.size w w' := by
  unfold addS
  cases h : (vR a b && vR c d)
  · rw [twoS_no h]
    have H := Lib.hid h; clear h
    go_enter Try.func12, Try.ntmps12
    go_wp2_with fail
    refine (bothValid_to a b c d _ _ H.out).mono ?_
    rintro e w1 ⟨rfl, hb⟩
    obtain ⟨hc, hf⟩ := bcell hb
    go_wp2
    exact bodyPost_ret (v := rt (0, 0, 10)) (by simp [results, Try.results12, go_sem, hc]) rfl ⟨rfl, ((below_a3 hb).setCell (by simp; omega) _).setCell (by simp; omega) _⟩
  · obtain ⟨⟨a1, a2, a3⟩, ⟨c1, c2, c3⟩⟩ := both_iff h
    rw [twoS_yes h]
    have H := Lib.hid h; clear h
    go_enter Try.func12, Try.ntmps12
    go_wp2_with fail
    refine (bothValid_to a b c d _ _ H.out).mono ?_
    rintro e w1 ⟨rfl, hb⟩
    obtain ⟨hc, hf⟩ := bcell hb
    have hz0 : w.heap.size + 1 + 1 < w1.heap.size := by have := hb.size; simp at this; omega
    go_wp2_with fail
    refine (unlessBig_any _ _ _).mono ?_
    rintro e w2 ⟨rfl, hb2⟩
    obtain ⟨hc2, hf2⟩ := bcell hb2
    go_wp2
    exact bodyPost_ret (v := rt (bigS (a + c) (b + d))) (by simp [results, Try.results12, go_sem, hc2, hc, hz0]) rfl ⟨rfl, ((below_then (below_a3 hb) hb2).setCell (by simp; omega) _).setCell (by simp; omega) _⟩

theorem sub_any (a b c d : Int) (w : World) :
    Calls Try.prog 14 #[rv a b, rv c d] w fun e w' => e = .returned (rt (subS a b c d)) ∧ Below w.heap.size w w' := by
  unfold subS
  cases h : (vR a b && vR c d)
  · rw [twoS_no h]
    have H := Lib.hid h; clear h
    go_enter Try.func14, Try.ntmps14
    go_wp2_with fail
    refine (bothValid_to a b c d _ _ H.out).mono ?_
    rintro e w1 ⟨rfl, hb⟩
    obtain ⟨hc, hf⟩ := bcell hb
    go_wp2
    exact bodyPost_ret (v := rt (0, 0, 10)) (by simp [results, Try.results14, go_sem, hc]) rfl ⟨rfl, ((below_a3 hb).setCell (by simp; omega) _).setCell (by simp; omega) _⟩
  · obtain ⟨⟨a1, a2, a3⟩, ⟨c1, c2, c3⟩⟩ := both_iff h
    rw [twoS_yes h]
    have H := Lib.hid h; clear h
    go_enter Try.func14, Try.ntmps14
    go_wp2_with fail
    refine (bothValid_to a b c d _ _ H.out).mono ?_
    rintro e w1 ⟨rfl, hb⟩
    obtain ⟨hc, hf⟩ := bcell hb
    have hz0 : w.heap.size + 1 + 1 < w1.heap.size := by have := hb.size; simp at this; omega
    go_wp2_with fail
    refine (unlessBig_any _ _ _).mono ?_
    rintro e w2 ⟨rfl, hb2⟩
    obtain ⟨hc2, hf2⟩ := bcell hb2
    go_wp2
    exact bodyPost_ret (v := rt (bigS (a - d) (b - c))) (by simp [results, Try.results14, go_sem, hc2, hc, hz0]) rfl ⟨rfl, ((below_then (below_a3 hb) hb2).setCell (by simp; omega) _).setCell (by simp; omega) _⟩

theorem hull0_any (a b c d : Int) (w : World) :
    Calls Try.prog 85 #[rv a b, rv c d] w fun e w' => e = .returned (rv (min a c) (max b d)) ∧ Below w.heap.size w w' := by
  go_enter Try.func85, Try.ntmps85
  go_wp2
  all_goals
    refine bodyPost_ret (v := rv (min a c) (max b d)) ?_ rfl ⟨rfl, ?_⟩
    · simp [results, Try.results85, go_sem]
      omega
    · exact (((Below.refl _ _).alloc (Nat.le_refl _) _).alloc (by simp) _).alloc (by simp; omega) _

def hullS (a b c d : Int) : Int × Int × Int := twoS a b c d (min a c, max b d, 0)
def meetS (a b c d : Int) : Int × Int × Int := twoS a b c d (if max a c ≤ min b d then (max a c, min b d, 0) else (0, 0, 3))

theorem hull_any (a b c d : Int) (w : World) :
    Calls Try.prog 22 #[rv a b, rv c d] w fun e w' => e = .returned (rt (hullS a b c d)) ∧ Below w.heap.size w w' := by
  unfold hullS
  cases h : (vR a b && vR c d)
  · rw [twoS_no h]
    have H := Lib.hid h; clear h
    go_enter Try.func22, Try.ntmps22
    go_wp2_with fail
    refine (bothValid_to a b c d _ _ H.out).mono ?_
    rintro e w1 ⟨rfl, hb⟩
    obtain ⟨hc, hf⟩ := bcell hb
    go_wp2
    exact bodyPost_ret (v := rt (0, 0, 10)) (by simp [results, Try.results22, go_sem, hc]) rfl ⟨rfl, ((below_a3 hb).setCell (by simp; omega) _).setCell (by simp; omega) _⟩
  · obtain ⟨⟨a1, a2, a3⟩, ⟨c1, c2, c3⟩⟩ := both_iff h
    rw [twoS_yes h]
    have H := Lib.hid h; clear h
    go_enter Try.func22, Try.ntmps22
    go_wp2_with fail
    refine (bothValid_to a b c d _ _ H.out).mono ?_
    rintro e w1 ⟨rfl, hb⟩
    obtain ⟨hc, hf⟩ := bcell hb
    have hz0 : w.heap.size + 1 + 1 < w1.heap.size := by have := hb.size; simp at this; omega
    go_wp2_with fail
    refine (hull0_any _ _ _ _ _).mono ?_
    rintro e w2 ⟨rfl, hb2⟩
    obtain ⟨hc2, hf2⟩ := bcell hb2
    go_wp2
    exact bodyPost_ret (v := rt (min a c, max b d, 0)) (by simp [results, Try.results22, go_sem, hc2, hc, hz0]) rfl ⟨rfl, ((below_then (below_a3 hb) hb2).setCell (by simp; omega) _).setCell (by simp; omega) _⟩

theorem meet_any (a b c d : Int) (w : World) :
    Calls Try.prog 24 #[rv a b, rv c d] w fun e w' => e = .returned (rt (meetS a b c d)) ∧ Below w.heap.size w w' := by
  unfold meetS
  cases h : (vR a b && vR c d)
  · rw [twoS_no h]
    have H := Lib.hid h; clear h
    go_enter Try.func24, Try.ntmps24
    go_wp2_with fail
    refine (bothValid_to a b c d _ _ H.out).mono ?_
    rintro e w1 ⟨rfl, hb⟩
    obtain ⟨hc, hf⟩ := bcell hb
    go_wp2
    exact bodyPost_ret (v := rt (0, 0, 10)) (by simp [results, Try.results24, go_sem, hc]) rfl ⟨rfl, ((below_a3 hb).setCell (by simp; omega) _).setCell (by simp; omega) _⟩
  · rw [twoS_yes h]
    have H := Lib.hid h; clear h
    have C := fun W => common_to a b c d _ _ W rfl rfl
    by_cases hxy : max a c ≤ min b d
    · rw [if_pos hxy]
      generalize max a c = x at *
      generalize min b d = y at *
      have HC := Lib.hid C; clear C
      go_enter Try.func24, Try.ntmps24
      go_wp2_with fail
      refine (bothValid_to a b c d _ _ H.out).mono ?_
      rintro e w1 ⟨rfl, hb⟩
      obtain ⟨hc, hf⟩ := bcell hb
      have hz0 : w.heap.size + 1 + 1 < w1.heap.size := by have := hb.size; simp at this; omega
      go_wp2_with fail
      refine (HC.out _).mono ?_
      rintro e w2 ⟨rfl, hb2⟩
      obtain ⟨hc2, hf2⟩ := bcell hb2
      have hz2 : w.heap.size + 1 + 1 < w2.heap.size := by have := hb2.size; omega
      go_wp2
      exact bodyPost_ret (v := rt (x, y, 0)) (by simp [results, Try.results24, go_sem, hc2, hc, hz0, hz2]) rfl ⟨rfl, (((below_then (below_a3 hb) hb2).setCell (by simp; omega) _).setCell (by simp; omega) _).alloc (by simp; omega) _⟩
    · rw [if_neg hxy]
      generalize max a c = x at *
      generalize min b d = y at *
      have HC := Lib.hid C; clear C
      go_enter Try.func24, Try.ntmps24
      go_wp2_with fail
      refine (bothValid_to a b c d _ _ H.out).mono ?_
      rintro e w1 ⟨rfl, hb⟩
      obtain ⟨hc, hf⟩ := bcell hb
      have hz0 : w.heap.size + 1 + 1 < w1.heap.size := by have := hb.size; simp at this; omega
      go_wp2_with fail
      refine (HC.out _).mono ?_
      rintro e w2 ⟨rfl, hb2⟩
      obtain ⟨hc2, hf2⟩ := bcell hb2
      have hz2 : w.heap.size + 1 + 1 < w2.heap.size := by have := hb2.size; omega
      go_wp2
      exact bodyPost_ret (v := rt (0, 0, 3)) (by simp [results, Try.results24, go_sem, hc2, hc, hz0, hz2]) rfl ⟨rfl, (((below_then (below_a3 hb) hb2).setCell (by simp; omega) _).setCell (by simp; omega) _).alloc (by simp; omega) _⟩

def negS (a b : Int) : Int × Int × Int := if vR a b = true then (-b, -a, 0) else (0, 0, 10)
theorem neg_any (a b : Int) (w : World) :
    Calls Try.prog 16 #[rv a b] w fun e w' => e = .returned (rt (negS a b)) ∧ Below w.heap.size w w' := by
  cases h : vR a b
  · have hs : negS a b = (0, 0, 10) := by simp [negS, h]
    rw [hs]; clear hs
    have H := Lib.hid h; clear h
    go_enter Try.func16, Try.ntmps16
    go_wp2_with fail
    refine (checkRange_bad a b _ H.out).mono ?_
    rintro e w1 ⟨rfl, hb⟩
    obtain ⟨hc, hf⟩ := bcell hb
    go_wp2
    exact bodyPost_ret (v := rt (0, 0, 10)) (by simp [results, Try.results16, go_sem, hc]) rfl ⟨rfl, ((below_a2 hb).setCell (by simp) _).setCell (by simp) _⟩
  · have hs : negS a b = (-b, -a, 0) := by simp [negS, h]
    obtain ⟨a1, a2, a3⟩ := (vR_iff _ _).1 h
    rw [hs]; clear hs
    have H := Lib.hid h; clear h
    go_enter Try.func16, Try.ntmps16
    go_wp2_with fail
    refine (checkRange_ok a b _ H.out).mono ?_
    rintro e w1 ⟨rfl, hb⟩
    obtain ⟨hc, hf⟩ := bcell hb
    go_wp2
    exact bodyPost_ret (v := rt (-b, -a, 0)) (by simp [results, Try.results16, go_sem, hc]) rfl ⟨rfl, ((below_a2 hb).setCell (by simp) _).setCell (by simp) _⟩

def hasS (a b n : Int) : Bool := vR a b && (decide (a ≤ n) && decide (n ≤ b))
theorem has_any (a b n : Int) (w : World) :
    Calls Try.prog 28 #[rv a b, .int .i64 n] w fun e w' => e = .returned (.bool (hasS a b n)) ∧ Below w.heap.size w w' := by
  cases h : vR a b
  · have hs : hasS a b n = false := by simp [hasS, h]
    rw [hs]; clear hs
    have H := Lib.hid h; clear h
    go_enter Try.func28, Try.ntmps28
    go_wp2_with fail
    refine (checkRange_bad a b _ H.out).mono ?_
    rintro e w1 ⟨rfl, hb⟩
    go_wp2
    go_ret
    exact ⟨rfl, below_a1 hb⟩
  · have hs : hasS a b n = (decide (a ≤ n) && decide (n ≤ b)) := by simp [hasS, h]
    rw [hs]; clear hs
    have H := Lib.hid h; clear h
    by_cases h1 : a ≤ n <;> by_cases h2 : n ≤ b
    all_goals
      go_enter Try.func28, Try.ntmps28
      go_wp2_with fail
      refine (checkRange_ok a b _ H.out).mono ?_
      rintro e w1 ⟨rfl, hb⟩
      obtain ⟨hc, hf⟩ := bcell hb
      go_wp2
      go_ret
      exact ⟨by simp [h1, h2], below_a1 hb⟩

def beforeS (a b c d : Int) : Bool := (vR a b && vR c d) && decide (b < c)
theorem before_any (a b c d : Int) (w : World) :
    Calls Try.prog 30 #[rv a b, rv c d] w fun e w' => e = .returned (.bool (beforeS a b c d)) ∧ Below w.heap.size w w' := by
  unfold beforeS
  cases h : (vR a b && vR c d)
  · have H := Lib.hid h; clear h
    go_enter Try.func30, Try.ntmps30
    go_wp2_with fail
    refine (bothValid_to a b c d _ _ H.out).mono ?_
    rintro e w1 ⟨rfl, hb⟩
    go_wp2
    go_ret
    exact ⟨rfl, below_a2 hb⟩
  · have H := Lib.hid h; clear h
    by_cases h1 : b < c
    all_goals
      go_enter Try.func30, Try.ntmps30
      go_wp2_with fail
      refine (bothValid_to a b c d _ _ H.out).mono ?_
      rintro e w1 ⟨rfl, hb⟩
      obtain ⟨hc, hf⟩ := bcell hb
      go_wp2
      go_ret
      exact ⟨by simp [h1], below_a2 hb⟩
end Go.Proofs.Ytmenlaefekkahaa
