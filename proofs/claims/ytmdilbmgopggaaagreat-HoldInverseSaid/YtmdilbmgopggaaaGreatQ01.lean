/- The contracts of Valid, CheckRange, Has, Before, made, Add, Sub, Neg, Hull and Meet of the specification of layer 1. No conditions but that the numbers are those of ints. -/
import Derived.Test.YtmdilbmgopggaaaGreatQ00
set_option linter.unusedVariables false
set_option linter.unusedSimpArgs false
set_option linter.constructorNameAsVariable false
namespace Go.Proofs.YtmdilbmgopggaaaGreat

section
open Go.RowKit
attribute [local go_sem ↓] eqlRange neqRange
/-- a range and an error as values -/
abbrev rt (r : Int × Int × Int) : Value := .tuple #[rv r.1 r.2.1, .int .i64 r.2.2]
/-- a range, or ErrBig -/
def bigS (lo hi : Int) : Int × Int × Int := if vR lo hi = true then (lo, hi, 0) else (0, 0, 5)

theorem checkRange_ok (a b : Int) (w : World) (h : vR a b = true) :
    Calls Tryz.prog 128 #[rv a b] w fun e w' => e = .returned (.int .i64 0) ∧ Below w.heap.size w w' :=
  checkRange_bool a b true _ w h rfl
theorem checkRange_bad (a b : Int) (w : World) (h : vR a b = false) :
    Calls Tryz.prog 128 #[rv a b] w fun e w' => e = .returned (.int .i64 10) ∧ Below w.heap.size w w' :=
  checkRange_bool a b false _ w h rfl

theorem unlessBig_any (a b : Int) (w : World) :
    Calls Tryz.prog 190 #[rv a b] w fun e w' => e = .returned (rt (bigS a b)) ∧ Below w.heap.size w w' := by
  cases h : vR a b
  · have hs : bigS a b = (0, 0, 5) := by simp [bigS, h]
    rw [hs]; clear hs
    have H := Lib.hid h; clear h
    go_enter Tryz.func190, Tryz.ntmps190
    go_wp2_with fail
    refine (checkRange_bad a b _ H.out).mono ?_
    rintro e w1 ⟨rfl, hb⟩
    obtain ⟨hc, hf⟩ := bcell hb
    have hz := hb.size
    go_wp2
    exact bodyPost_ret (v := rt (0, 0, 5)) (by simp [results, Tryz.results190, go_sem, hc]) rfl ⟨rfl, ((below_a2 hb).setCell (by simp) _).setCell (by simp) _⟩
  · have hs : bigS a b = (a, b, 0) := by simp [bigS, h]
    rw [hs]; clear hs
    have H := Lib.hid h; clear h
    go_enter Tryz.func190, Tryz.ntmps190
    go_wp2_with fail
    refine (checkRange_ok a b _ H.out).mono ?_
    rintro e w1 ⟨rfl, hb⟩
    obtain ⟨hc, hf⟩ := bcell hb
    have hz := hb.size
    go_wp2
    exact bodyPost_ret (v := rt (a, b, 0)) (by simp [results, Tryz.results190, go_sem, hc]) rfl ⟨rfl, ((below_a2 hb).setCell (by simp) _).setCell (by simp) _⟩

theorem bothValid_any (a b c d : Int) (w : World) :
    Calls Tryz.prog 187 #[rv a b, rv c d] w fun e w' => e = .returned (.bool (vR a b && vR c d)) ∧ Below w.heap.size w w' := by
  cases h : vR a b
  · have H := Lib.hid h; clear h
    go_enter Tryz.func187, Tryz.ntmps187
    go_wp2_with fail
    refine (checkRange_bad a b _ H.out).mono ?_
    rintro e w1 ⟨rfl, hb⟩
    go_wp2
    go_ret
    exact ⟨rfl, below_a2 hb⟩
  · have H := Lib.hid h; clear h
    cases h' : vR c d
    all_goals
      have H' := Lib.hid h'; clear h'
      go_enter Tryz.func187, Tryz.ntmps187
      go_wp2_with fail
      refine (checkRange_ok a b _ H.out).mono ?_
      rintro e w1 ⟨rfl, hb⟩
      obtain ⟨hc, hf⟩ := bcell hb
      go_wp2_with fail
      first | refine (checkRange_bad c d _ H'.out).mono ?_ | refine (checkRange_ok c d _ H'.out).mono ?_
      rintro e w2 ⟨rfl, hb2⟩
      go_wp2
      go_ret
      exact ⟨rfl, below_then (below_a2 hb) hb2⟩

/-- Two ranges and an operation: ErrRange if one is not valid. -/
def twoS (a b c d : Int) (r : Int × Int × Int) : Int × Int × Int := if (vR a b && vR c d) = true then r else (0, 0, 10)
theorem twoS_no {a b c d : Int} {r : Int × Int × Int} (h : (vR a b && vR c d) = false) : twoS a b c d r = (0, 0, 10) := by simp [twoS, h]
theorem twoS_yes {a b c d : Int} {r : Int × Int × Int} (h : (vR a b && vR c d) = true) : twoS a b c d r = r := by rw [twoS, if_pos h]
theorem both_iff {a b c d : Int} (h : (vR a b && vR c d) = true) : (a ≤ b ∧ -1000000000000000 ≤ a ∧ b ≤ 1000000000000000) ∧ (c ≤ d ∧ -1000000000000000 ≤ c ∧ d ≤ 1000000000000000) := by
  rw [Bool.and_eq_true] at h
  exact ⟨(vR_iff _ _).1 h.1, (vR_iff _ _).1 h.2⟩
theorem bothValid_to (a b c d : Int) (t : Bool) (w : World) (h : (vR a b && vR c d) = t) :
    Calls Tryz.prog 187 #[rv a b, rv c d] w fun e w' => e = .returned (.bool t) ∧ Below w.heap.size w w' := by
  subst h; exact bothValid_any a b c d w

theorem hull0_any (a b c d : Int) (w : World) :
    Calls Tryz.prog 219 #[rv a b, rv c d] w fun e w' => e = .returned (rv (min a c) (max b d)) ∧ Below w.heap.size w w' := by
  go_enter Tryz.func219, Tryz.ntmps219
  go_wp2
  all_goals
    refine bodyPost_ret (v := rv (min a c) (max b d)) ?_ rfl ⟨rfl, ?_⟩
    · simp [results, Tryz.results219, go_sem]
      omega
    · exact (((Below.refl _ _).alloc (Nat.le_refl _) _).alloc (by simp) _).alloc (by simp; omega) _

def hullS (a b c d : Int) : Int × Int × Int := twoS a b c d (min a c, max b d, 0)
def meetS (a b c d : Int) : Int × Int × Int := twoS a b c d (if max a c ≤ min b d then (max a c, min b d, 0) else (0, 0, 3))

theorem hull_any (a b c d : Int) (w : World) :
    Calls Tryz.prog 180 #[rv a b, rv c d] w fun e w' => e = .returned (rt (hullS a b c d)) ∧ Below w.heap.size w w' := by
  unfold hullS
  cases h : (vR a b && vR c d)
  · rw [twoS_no h]
    have H := Lib.hid h; clear h
    go_enter Tryz.func180, Tryz.ntmps180
    go_wp2_with fail
    refine (bothValid_to a b c d _ _ H.out).mono ?_
    rintro e w1 ⟨rfl, hb⟩
    obtain ⟨hc, hf⟩ := bcell hb
    go_wp2
    exact bodyPost_ret (v := rt (0, 0, 10)) (by simp [results, Tryz.results180, go_sem, hc]) rfl ⟨rfl, ((below_a3 hb).setCell (by simp; omega) _).setCell (by simp; omega) _⟩
  · obtain ⟨⟨a1, a2, a3⟩, ⟨c1, c2, c3⟩⟩ := both_iff h
    rw [twoS_yes h]
    have H := Lib.hid h; clear h
    go_enter Tryz.func180, Tryz.ntmps180
    go_wp2_with fail
    refine (bothValid_to a b c d _ _ H.out).mono ?_
    rintro e w1 ⟨rfl, hb⟩
    obtain ⟨hc, hf⟩ := bcell hb
    have hz0 : w.heap.size + 1 + 1 < w1.heap.size := by have := hb.size; simp at this; omega
    go_wp2_with fail
    refine (hull0_any _ _ _ _ _).mono ?_
    rintro e w2 ⟨rfl, hb2⟩
    obtain ⟨hc2, hf2⟩ := bcell hb2
    go_wp2
    exact bodyPost_ret (v := rt (min a c, max b d, 0)) (by simp [results, Tryz.results180, go_sem, hc2, hc, hz0]) rfl ⟨rfl, ((below_then (below_a3 hb) hb2).setCell (by simp; omega) _).setCell (by simp; omega) _⟩

theorem meet_any (a b c d : Int) (w : World) :
    Calls Tryz.prog 166 #[rv a b, rv c d] w fun e w' => e = .returned (rt (meetS a b c d)) ∧ Below w.heap.size w w' := by
  unfold meetS
  cases h : (vR a b && vR c d)
  · rw [twoS_no h]
    have H := Lib.hid h; clear h
    go_enter Tryz.func166, Tryz.ntmps166
    go_wp2_with fail
    refine (bothValid_to a b c d _ _ H.out).mono ?_
    rintro e w1 ⟨rfl, hb⟩
    obtain ⟨hc, hf⟩ := bcell hb
    go_wp2
    exact bodyPost_ret (v := rt (0, 0, 10)) (by simp [results, Tryz.results166, go_sem, hc]) rfl ⟨rfl, ((below_a3 hb).setCell (by simp; omega) _).setCell (by simp; omega) _⟩
  · rw [twoS_yes h]
    have H := Lib.hid h; clear h
    have C := fun W => common_to a b c d _ _ W rfl rfl
    by_cases hxy : max a c ≤ min b d
    · rw [if_pos hxy]
      generalize max a c = x at *
      generalize min b d = y at *
      have HC := Lib.hid C; clear C
      go_enter Tryz.func166, Tryz.ntmps166
      go_wp2_with fail
      refine (bothValid_to a b c d _ _ H.out).mono ?_
      rintro e w1 ⟨rfl, hb⟩
      obtain ⟨hc, hf⟩ := bcell hb
      have hz0 : w.heap.size + 1 + 1 < w1.heap.size := by have := hb.size; simp at this; omega
      go_wp2_with fail
      refine (HC.out _).mono ?_
      rintro e w2 ⟨rfl, hb2⟩
      obtain ⟨hc2, hf2⟩ := bcell hb2
      have hz2 : w.heap.size + 1 + 1 < w2.heap.size := by have := hb2.size; omega
      go_wp2
      exact bodyPost_ret (v := rt (x, y, 0)) (by simp [results, Tryz.results166, go_sem, hc2, hc, hz0, hz2]) rfl ⟨rfl, (((below_then (below_a3 hb) hb2).setCell (by simp; omega) _).setCell (by simp; omega) _).alloc (by simp; omega) _⟩
    · rw [if_neg hxy]
      generalize max a c = x at *
      generalize min b d = y at *
      have HC := Lib.hid C; clear C
      go_enter Tryz.func166, Tryz.ntmps166
      go_wp2_with fail
      refine (bothValid_to a b c d _ _ H.out).mono ?_
      rintro e w1 ⟨rfl, hb⟩
      obtain ⟨hc, hf⟩ := bcell hb
      have hz0 : w.heap.size + 1 + 1 < w1.heap.size := by have := hb.size; simp at this; omega
      go_wp2_with fail
      refine (HC.out _).mono ?_
      rintro e w2 ⟨rfl, hb2⟩
      obtain ⟨hc2, hf2⟩ := bcell hb2
      have hz2 : w.heap.size + 1 + 1 < w2.heap.size := by have := hb2.size; omega
      go_wp2
      exact bodyPost_ret (v := rt (0, 0, 3)) (by simp [results, Tryz.results166, go_sem, hc2, hc, hz0, hz2]) rfl ⟨rfl, (((below_then (below_a3 hb) hb2).setCell (by simp; omega) _).setCell (by simp; omega) _).alloc (by simp; omega) _⟩

def hasS (a b n : Int) : Bool := vR a b && (decide (a ≤ n) && decide (n ≤ b))
theorem has_any (a b n : Int) (w : World) :
    Calls Tryz.prog 179 #[rv a b, .int .i64 n] w fun e w' => e = .returned (.bool (hasS a b n)) ∧ Below w.heap.size w w' := by
  cases h : vR a b
  · have hs : hasS a b n = false := by simp [hasS, h]
    rw [hs]; clear hs
    have H := Lib.hid h; clear h
    go_enter Tryz.func179, Tryz.ntmps179
    go_wp2_with fail
    refine (checkRange_bad a b _ H.out).mono ?_
    rintro e w1 ⟨rfl, hb⟩
    go_wp2
    go_ret
    exact ⟨rfl, below_a1 hb⟩
  · have hs : hasS a b n = (decide (a ≤ n) && decide (n ≤ b)) := by simp [hasS, h]
    rw [hs]; clear hs
    have H := Lib.hid h; clear h
    by_cases h1 : a ≤ n <;> by_cases h2 : n ≤ b
    all_goals
      go_enter Tryz.func179, Tryz.ntmps179
      go_wp2_with fail
      refine (checkRange_ok a b _ H.out).mono ?_
      rintro e w1 ⟨rfl, hb⟩
      obtain ⟨hc, hf⟩ := bcell hb
      go_wp2
      go_ret
      exact ⟨by simp [h1, h2], below_a1 hb⟩
end

section
open Go.RowKit
attribute [local go_sem ↓] eqlRange neqRange
theorem rValid_any (a b : Int) (w : World) :
    Calls Tryz.prog 163 #[rv a b] w fun e w' => e = .returned (.bool (vR a b)) ∧ Below w.heap.size w w' := by
  by_cases h1 : -1000000000000000 ≤ a
  · by_cases h2 : a ≤ b
    · by_cases h3 : b ≤ 1000000000000000
      · rw [(vR_iff a b).2 ⟨h2, h1, h3⟩]
        go_enter Tryz.func163, Tryz.ntmps163
        go_wp2
        go_ret
        exact ⟨by simp [h1, h2, h3], (Below.refl _ _).alloc (Nat.le_refl _) _⟩
      · rw [vR_no a b (by omega)]
        go_enter Tryz.func163, Tryz.ntmps163
        go_wp2
        go_ret
        exact ⟨by simp [h1, h2, h3], (Below.refl _ _).alloc (Nat.le_refl _) _⟩
    · rw [vR_no a b (by omega)]
      go_enter Tryz.func163, Tryz.ntmps163
      go_wp2
      go_ret
      exact ⟨by simp [h1, h2], (Below.refl _ _).alloc (Nat.le_refl _) _⟩
  · rw [vR_no a b (by omega)]
    go_enter Tryz.func163, Tryz.ntmps163
    go_wp2
    go_ret
    exact ⟨by simp [h1], (Below.refl _ _).alloc (Nat.le_refl _) _⟩
theorem rValid_to (a b : Int) (t : Bool) (w : World) (h : vR a b = t) :
    Calls Tryz.prog 163 #[rv a b] w fun e w' => e = .returned (.bool t) ∧ Below w.heap.size w w' := by
  subst h; exact rValid_any a b w
end

end Go.Proofs.YtmdilbmgopggaaaGreat
