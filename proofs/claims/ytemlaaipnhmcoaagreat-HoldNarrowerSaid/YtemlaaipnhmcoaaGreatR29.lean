/- The contract of Scale (fix and its specification). No conditions but that the numbers are those of ints. -/
import Derived.Test.YtemlaaipnhmcoaaGreatR00
set_option linter.unusedVariables false
set_option linter.unusedSimpArgs false
set_option linter.constructorNameAsVariable false
namespace Go.Proofs.YtemlaaipnhmcoaaGreat

section
open Go.RowKit
attribute [local go_sem ↓] eqlRange neqRange
def scaleS (a b n d : Int) : Int × Int × Int :=
  if vR a b = true then
    if -1000000000 ≤ n ∧ n ≤ 1000000000 ∧ 1 ≤ d ∧ d ≤ 1000000000 then
      (if n < 0 then bigS (b * n / d) (-(-a * n / d)) else bigS (a * n / d) (-(-b * n / d)))
    else (0, 0, 1)
  else (0, 0, 10)

theorem has_to (a b n : Int) (t : Bool) (w : World) (h : hasS a b n = t) :
    Calls Tryz.prog 177 #[rv a b, .int .i64 n] w fun e w' => e = .returned (.bool t) ∧ Below w.heap.size w w' := by
  subst h; exact has_any a b n w

theorem scale_badRange (a b n d : Int) (w : World) (h : vR a b = false) :
  Calls Tryz.prog 135 #[rv a b, .int .i64 n, .int .i64 d] w fun e w' => e = .returned (rt (0, 0, 10)) ∧ Below w.heap.size w w' := by
 have H := Lib.hid h; clear h
 go_enter Tryz.func135, Tryz.ntmps135
 go_wp2_with fail
 refine (checkRange_bad a b _ H.out).mono ?_
 rintro e w1 ⟨rfl, hb⟩
 obtain ⟨hc, hf⟩ := bcell hb
 go_wp2
 exact bodyPost_ret (v := rt (0, 0, 10)) (by simp [results, Tryz.results135, go_sem, hc]) rfl ⟨rfl, ((below_a2 hb).setCell (by simp) _).setCell (by simp) _⟩

theorem scale_badArg (a b n d : Int) (w : World) (h : vR a b = true) (hn : ¬ (-1000000000 ≤ n ∧ n ≤ 1000000000 ∧ 1 ≤ d ∧ d ≤ 1000000000)) :
  Calls Tryz.prog 135 #[rv a b, .int .i64 n, .int .i64 d] w fun e w' => e = .returned (rt (0, 0, 1)) ∧ Below w.heap.size w w' := by
 have H := Lib.hid h; clear h
 by_cases h1 : -1000000000 ≤ n ∧ n ≤ 1000000000
 ·have hh : hasS (-1000000000) 1000000000 n = true := by simp [hasS, vR, inB, h1]
  have HH := Lib.hid hh; clear hh
  have h2 : d < 1 ∨ (¬ d < 1 ∧ 1000000000 < d) := by omega
  clear hn
  rcases h2 with h2 | ⟨h2, h3⟩
  all_goals
   go_enter Tryz.func135, Tryz.ntmps135
   go_wp2_with fail
   refine (checkRange_ok a b _ H.out).mono ?_
   rintro e w1 ⟨rfl, hb⟩
   obtain ⟨hc, hf⟩ := bcell hb
   have hz0 : w.heap.size + 1 < w1.heap.size := by have := hb.size; simp at this; omega
   go_wp2_with fail
   refine (around_any 1000000000 _ (by omega) (by omega)).mono ?_
   rintro e w2 ⟨rfl, hb2⟩
   obtain ⟨hc2, hf2⟩ := bcell hb2
   have hz2 : w.heap.size + 1 < w2.heap.size := by have := hb2.size; omega
   go_wp2_with fail
   refine (has_to _ _ n _ _ HH.out).mono ?_
   rintro e w3 ⟨rfl, hb3⟩
   obtain ⟨hc3, hf3⟩ := bcell hb3
   have hz3 : w.heap.size + 1 < w3.heap.size := by have := hb3.size; omega
   go_wp2
   exact bodyPost_ret (v := rt (0, 0, 1)) (by simp [results, Tryz.results135, go_sem, hc3, hc2, hc, hz0, hz2, hz3]) rfl ⟨rfl, ((below_then (below_then (below_a2 hb) hb2) hb3).setCell (by simp) _).setCell (by simp) _⟩
 ·have hh : hasS (-1000000000) 1000000000 n = false := by simp [hasS, vR, inB]; omega
  have HH := Lib.hid hh; clear hh hn h1
  go_enter Tryz.func135, Tryz.ntmps135
  go_wp2_with fail
  refine (checkRange_ok a b _ H.out).mono ?_
  rintro e w1 ⟨rfl, hb⟩
  obtain ⟨hc, hf⟩ := bcell hb
  have hz0 : w.heap.size + 1 < w1.heap.size := by have := hb.size; simp at this; omega
  go_wp2_with fail
  refine (around_any 1000000000 _ (by omega) (by omega)).mono ?_
  rintro e w2 ⟨rfl, hb2⟩
  obtain ⟨hc2, hf2⟩ := bcell hb2
  have hz2 : w.heap.size + 1 < w2.heap.size := by have := hb2.size; omega
  go_wp2_with fail
  refine (has_to _ _ n _ _ HH.out).mono ?_
  rintro e w3 ⟨rfl, hb3⟩
  obtain ⟨hc3, hf3⟩ := bcell hb3
  have hz3 : w.heap.size + 1 < w3.heap.size := by have := hb3.size; omega
  go_wp2
  exact bodyPost_ret (v := rt (0, 0, 1)) (by simp [results, Tryz.results135, go_sem, hc3, hc2, hc, hz0, hz2, hz3]) rfl ⟨rfl, ((below_then (below_then (below_a2 hb) hb2) hb3).setCell (by simp) _).setCell (by simp) _⟩

def SC (x n d v : Int) (k : Bool) : Prop := ∀ w, Calls Tryz.prog 178 #[.int .i64 x, .int .i64 n, .int .i64 d] w fun e w' => e = .returned (.tuple #[.int .i64 v, .bool k]) ∧ w = w'

set_option maxHeartbeats 1000000 in
theorem scale_pos (a b n d v1 v2 : Int) (k1 k2 : Bool) (w : World) (h : vR a b = true) (hn : 0 ≤ n) (hn' : n ≤ 1000000000) (hd : 1 ≤ d) (hd' : d ≤ 1000000000)
    (hs1 : SC (a) n d v1 k1) (hs2 : SC (-b) n d v2 k2) (b1 : -4000000000000000 ≤ v1) (b2 : v1 ≤ 4000000000000000) (b3 : -4000000000000000 ≤ v2) (b4 : v2 ≤ 4000000000000000) :
    Calls Tryz.prog 135 #[rv a b, .int .i64 (n), .int .i64 d] w fun e w' => e = .returned (rt (if (k1 && k2) = true then bigS v1 (-v2) else (0, 0, 5))) ∧ Below w.heap.size w w' := by
  obtain ⟨a1, a2, a3⟩ := (vR_iff _ _).1 h
  have H := Lib.hid h; clear h
  have hh : hasS (-1000000000) 1000000000 (n) = true := by simp [hasS, vR, inB]; omega
  have HH := Lib.hid hh; clear hh
  have HS1 := Lib.hid hs1; clear hs1
  have HS2 := Lib.hid hs2; clear hs2
  cases k1 <;> cases k2
  all_goals
    first | rw [if_pos (show (true && true) = true from rfl)] | rw [if_neg (by simp)]
    go_enter Tryz.func135, Tryz.ntmps135
    go_wp2_with fail
    refine (checkRange_ok a b _ H.out).mono ?_
    rintro e w1 ⟨rfl, hb⟩
    obtain ⟨hc, hf⟩ := bcell hb
    have hz0 : w.heap.size + 1 < w1.heap.size := by have := hb.size; simp at this; omega
    have hza : w.heap.size < w1.heap.size := by omega
    have hze : w.heap.size < w.heap.size + 1 + 1 := by omega
    go_wp2_with fail
    refine (around_any 1000000000 _ (by omega) (by omega)).mono ?_
    rintro e w2 ⟨rfl, hb2⟩
    obtain ⟨hc2, hf2⟩ := bcell hb2
    have hz2 : w.heap.size + 1 < w2.heap.size := by have := hb2.size; omega
    have hzb : w.heap.size < w2.heap.size := by omega
    go_wp2_with fail
    refine (has_to _ _ _ _ _ HH.out).mono ?_
    rintro e w3 ⟨rfl, hb3⟩
    obtain ⟨hc3, hf3⟩ := bcell hb3
    have hz3 : w.heap.size + 1 < w3.heap.size := by have := hb3.size; omega
    have hzc : w.heap.size < w3.heap.size := by omega
    have hB3 := below_then (below_then (below_a2 hb) hb2) hb3
    go_wp2_with fail
    refine (HS1.out _).mono ?_
    rintro e w' ⟨rfl, rfl⟩
    go_wp2_with fail
    refine (HS2.out _).mono ?_
    rintro e w' ⟨rfl, rfl⟩
    first
      | (go_wp2_with fail
         refine (unlessBig_any _ _ _).mono ?_
         rintro e w4 ⟨rfl, hb4⟩
         obtain ⟨hc4, hf4⟩ := bcell hb4
         have hz4 : w.heap.size + 1 < w4.heap.size := by have := hb4.size; (try simp at this); omega
         go_wp2
         refine bodyPost_ret (v := rt (bigS v1 (-v2))) (by simp [results, Tryz.results135, go_sem, hc4, hc3, hc2, hc, hz0, hz2, hz3, hz4]) rfl ⟨rfl, ?_⟩
         refine Below.setCell ?_ (by simp <;> omega) _
         refine Below.setCell ?_ (by simp <;> omega) _
         refine Below.trans ?_ (hb4.mono (by first | omega | (simp <;> omega)))
         repeat (first | exact hB3 | refine Below.setCell ?_ (by simp <;> omega) _))
      | (go_wp2
         refine bodyPost_ret (v := rt (0, 0, 5)) (by simp [results, Tryz.results135, go_sem, hc3, hc2, hc, hz0, hz2, hz3]) rfl ⟨rfl, ?_⟩
         repeat (first | exact hB3 | refine Below.setCell ?_ (by simp <;> omega) _))

set_option maxHeartbeats 1000000 in
theorem scale_neg (a b n d v1 v2 : Int) (k1 k2 : Bool) (w : World) (h : vR a b = true) (hn : 1 ≤ n) (hn' : n ≤ 1000000000) (hd : 1 ≤ d) (hd' : d ≤ 1000000000)
    (hs1 : SC (-b) n d v1 k1) (hs2 : SC (a) n d v2 k2) (b1 : -4000000000000000 ≤ v1) (b2 : v1 ≤ 4000000000000000) (b3 : -4000000000000000 ≤ v2) (b4 : v2 ≤ 4000000000000000) :
    Calls Tryz.prog 135 #[rv a b, .int .i64 (-n), .int .i64 d] w fun e w' => e = .returned (rt (if (k1 && k2) = true then bigS v1 (-v2) else (0, 0, 5))) ∧ Below w.heap.size w w' := by
  obtain ⟨a1, a2, a3⟩ := (vR_iff _ _).1 h
  have H := Lib.hid h; clear h
  have hh : hasS (-1000000000) 1000000000 (-n) = true := by simp [hasS, vR, inB]; omega
  have HH := Lib.hid hh; clear hh
  have HS1 := Lib.hid hs1; clear hs1
  have HS2 := Lib.hid hs2; clear hs2
  cases k1 <;> cases k2
  all_goals
    first | rw [if_pos (show (true && true) = true from rfl)] | rw [if_neg (by simp)]
    go_enter Tryz.func135, Tryz.ntmps135
    go_wp2_with fail
    refine (checkRange_ok a b _ H.out).mono ?_
    rintro e w1 ⟨rfl, hb⟩
    obtain ⟨hc, hf⟩ := bcell hb
    have hz0 : w.heap.size + 1 < w1.heap.size := by have := hb.size; simp at this; omega
    have hza : w.heap.size < w1.heap.size := by omega
    have hze : w.heap.size < w.heap.size + 1 + 1 := by omega
    go_wp2_with fail
    refine (around_any 1000000000 _ (by omega) (by omega)).mono ?_
    rintro e w2 ⟨rfl, hb2⟩
    obtain ⟨hc2, hf2⟩ := bcell hb2
    have hz2 : w.heap.size + 1 < w2.heap.size := by have := hb2.size; omega
    have hzb : w.heap.size < w2.heap.size := by omega
    go_wp2_with fail
    refine (has_to _ _ _ _ _ HH.out).mono ?_
    rintro e w3 ⟨rfl, hb3⟩
    obtain ⟨hc3, hf3⟩ := bcell hb3
    have hz3 : w.heap.size + 1 < w3.heap.size := by have := hb3.size; omega
    have hzc : w.heap.size < w3.heap.size := by omega
    have hB3 := below_then (below_then (below_a2 hb) hb2) hb3
    go_wp2_with fail
    refine (HS1.out _).mono ?_
    rintro e w' ⟨rfl, rfl⟩
    go_wp2_with fail
    refine (HS2.out _).mono ?_
    rintro e w' ⟨rfl, rfl⟩
    first
      | (go_wp2_with fail
         refine (unlessBig_any _ _ _).mono ?_
         rintro e w4 ⟨rfl, hb4⟩
         obtain ⟨hc4, hf4⟩ := bcell hb4
         have hz4 : w.heap.size + 1 < w4.heap.size := by have := hb4.size; (try simp at this); omega
         go_wp2
         refine bodyPost_ret (v := rt (bigS v1 (-v2))) (by simp [results, Tryz.results135, go_sem, hc4, hc3, hc2, hc, hz0, hz2, hz3, hz4]) rfl ⟨rfl, ?_⟩
         refine Below.setCell ?_ (by simp <;> omega) _
         refine Below.setCell ?_ (by simp <;> omega) _
         refine Below.trans ?_ (hb4.mono (by first | omega | (simp <;> omega)))
         repeat (first | exact hB3 | refine Below.setCell ?_ (by simp <;> omega) _))
      | (go_wp2
         refine bodyPost_ret (v := rt (0, 0, 5)) (by simp [results, Tryz.results135, go_sem, hc3, hc2, hc, hz0, hz2, hz3]) rfl ⟨rfl, ?_⟩
         repeat (first | exact hB3 | refine Below.setCell ?_ (by simp <;> omega) _))

theorem sc_bounds (x n d : Int) (hn : 0 ≤ n) (hn' : n ≤ 1000000000) (hd : 1 ≤ d) (h : prodOk (x / d) n) : -4000000000000000 ≤ x * n / d ∧ x * n / d ≤ 4000000000000000 := by
  obtain ⟨r1, r2⟩ := rest_bounds x d hd
  obtain ⟨p1, p2⟩ := of_absI_le ((prodOk_iff _ _).1 h)
  obtain ⟨t1, t2⟩ := part_bounds (x - x / d * d) n d hd r1 r2 hn
  have hs := floor_split x n d hd
  omega
theorem sc_get (x n d : Int) (hx : -1000000000000000 ≤ x) (hx' : x ≤ 1000000000000000) (hn : 0 ≤ n) (hn' : n ≤ 1000000000) (hd : 1 ≤ d) (hd' : d ≤ 1000000000) :
    ∃ v k, SC x n d v k ∧ (-4000000000000000 ≤ v ∧ v ≤ 4000000000000000) ∧ ((k = true ∧ v = x * n / d) ∨ (k = false ∧ ¬ absI (x * n / d) ≤ 1000000000000000)) := by
  by_cases h : prodOk (x / d) n
  · exact ⟨_, true, fun w => scaled_yes x n d w hx hx' hn hn' hd hd' h, sc_bounds x n d hn hn' hd h, .inl ⟨rfl, rfl⟩⟩
  · exact ⟨_, false, fun w => scaled_no x n d w hx hx' hn hn' hd hd' h, by omega, .inr ⟨rfl, far_of_no x n d hn hn' hd h⟩⟩
theorem far_of_not1 {n : Int} (h : ¬ absI n ≤ 1000000000000000) : n < -1000000000000000 ∨ 1000000000000000 < n := by
  unfold absI at h; split at h <;> omega
theorem bigS_no1 (lo hi : Int) (h : ¬ (lo ≤ hi ∧ -1000000000000000 ≤ lo ∧ hi ≤ 1000000000000000)) : bigS lo hi = (0, 0, 5) := by
  unfold bigS; rw [vR_no lo hi h]; rfl
theorem ends_le (a b n d : Int) (hab : a ≤ b) (hn : 0 ≤ n) (hd : 1 ≤ d) : a * n / d ≤ -(-b * n / d) := by
  have h1 : a * n ≤ b * n := Int.mul_le_mul_of_nonneg_right hab hn
  have h2 := Int.mul_ediv_add_emod (a * n) d
  have h3 := Int.mul_ediv_add_emod (-b * n) d
  have h4 := Int.emod_nonneg (a * n) (by omega : d ≠ 0)
  have h5 := Int.emod_nonneg (-b * n) (by omega : d ≠ 0)
  have h6 : d * (a * n / d + -b * n / d) ≤ 0 := by rw [Int.mul_add]; rw [Int.neg_mul] at *; omega
  rcases Int.lt_or_le 0 (a * n / d + -b * n / d) with h7 | h7
  · have := Int.mul_pos (show 0 < d by omega) h7; omega
  · omega
theorem pick_big (k1 k2 : Bool) (v1 v2 p q : Int) (hpq : p ≤ -q) (h1 : (k1 = true ∧ v1 = p) ∨ (k1 = false ∧ ¬ absI p ≤ 1000000000000000)) (h2 : (k2 = true ∧ v2 = q) ∨ (k2 = false ∧ ¬ absI q ≤ 1000000000000000)) :
    (if (k1 && k2) = true then bigS v1 (-v2) else (0, 0, 5)) = bigS p (-q) := by
  rcases h1 with ⟨rfl, rfl⟩ | ⟨rfl, h1⟩
  · rcases h2 with ⟨rfl, rfl⟩ | ⟨rfl, h2⟩
    · rfl
    · rw [bigS_no1 _ (-q) (by have := far_of_not1 h2; omega)]; rfl
  · rw [bigS_no1 p (-q) (by have := far_of_not1 h1; omega)]; simp

theorem scale_any (a b n d : Int) (w : World) :
    Calls Tryz.prog 135 #[rv a b, .int .i64 n, .int .i64 d] w fun e w' => e = .returned (rt (scaleS a b n d)) ∧ Below w.heap.size w w' := by
  unfold scaleS
  cases h : vR a b
  · exact scale_badRange a b n d w h
  · rw [if_pos rfl]
    obtain ⟨a1, a2, a3⟩ := (vR_iff _ _).1 h
    by_cases hn : -1000000000 ≤ n ∧ n ≤ 1000000000 ∧ 1 ≤ d ∧ d ≤ 1000000000
    · rw [if_pos hn]
      obtain ⟨n1, n2, d1, d2⟩ := hn
      by_cases hs : n < 0
      · rw [if_pos hs]
        obtain ⟨m, rfl⟩ : ∃ m : Int, n = -m := ⟨-n, by omega⟩
        obtain ⟨v1, k1, s1, ⟨b1, b2⟩, o1⟩ := sc_get (-b) m d (by omega) (by omega) (by omega) (by omega) d1 d2
        obtain ⟨v2, k2, s2, ⟨b3, b4⟩, o2⟩ := sc_get a m d (by omega) (by omega) (by omega) (by omega) d1 d2
        have e1 : b * -m = -b * m := by rw [Int.mul_neg, Int.neg_mul]
        have e2 : -a * -m = a * m := by rw [Int.neg_mul_neg]
        have hle := ends_le (-b) (-a) m d (by omega) (by omega) d1
        rw [Int.neg_neg] at hle
        rw [e1, e2, ← pick_big k1 k2 v1 v2 _ _ hle o1 o2]
        exact scale_neg a b m d v1 v2 k1 k2 w h (by omega) (by omega) d1 d2 s1 s2 b1 b2 b3 b4
      · rw [if_neg hs]
        obtain ⟨v1, k1, s1, ⟨b1, b2⟩, o1⟩ := sc_get a n d (by omega) (by omega) (by omega) n2 d1 d2
        obtain ⟨v2, k2, s2, ⟨b3, b4⟩, o2⟩ := sc_get (-b) n d (by omega) (by omega) (by omega) n2 d1 d2
        rw [← pick_big k1 k2 v1 v2 _ _ (ends_le a b n d a1 (by omega) d1) o1 o2]
        exact scale_pos a b n d v1 v2 k1 k2 w h (by omega) n2 d1 d2 s1 s2 b1 b2 b3 b4
    · rw [if_neg hn]; exact scale_badArg a b n d w h hn
end

end Go.Proofs.YtemlaaipnhmcoaaGreat
