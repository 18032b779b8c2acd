/- Over of the specification, for all tables and ranges. Its condition: the points lie in memory. -/
import Derived.Test.YtpcmcicnciejpaaGreatR00
import Derived.Test.YtpcmcicnciejpaaGreatR03
import Derived.Test.YtpcmcicnciejpaaGreatR02
import Derived.Test.YtpcmcicnciejpaaGreatR07
import Derived.Test.YtpcmcicnciejpaaGreatR05
import Derived.Test.YtpcmcicnciejpaaGreatR01
import Derived.Test.YtpcmcicnciejpaaGreatQ98
set_option linter.unusedVariables false
set_option linter.unusedSimpArgs false
set_option linter.constructorNameAsVariable false
namespace Go.Proofs.YtpcmcicnciejpaaGreat

section
open Go.RowKit
attribute [local go_sem ↓] eqlRange neqRange
def scaleS (a b n d : Int) : Int × Int × Int :=
  if vR a b = true then
    if -1000000000 ≤ n ∧ n ≤ 1000000000 ∧ 1 ≤ d ∧ d ≤ 1000000000 then
      (if n < 0 then bigS (b * n / d) (-(-a * n / d)) else bigS (a * n / d) (-(-b * n / d)))
    else (0, 0, 1)
  else (0, 0, 10)

theorem has_to (a b n : Int) (t : Bool) (w : World) (h : hasS a b n = t) :
    Calls Tryz.prog 107 #[rv a b, .int .i64 n] w fun e w' => e = .returned (.bool t) ∧ Below w.heap.size w w' := by
  subst h; exact has_any a b n w

theorem scale_badRange (a b n d : Int) (w : World) (h : vR a b = false) :
  Calls Tryz.prog 71 #[rv a b, .int .i64 n, .int .i64 d] w fun e w' => e = .returned (rt (0, 0, 10)) ∧ Below w.heap.size w w' := by
 have H := Lib.hid h; clear h
 go_enter Tryz.func71, Tryz.ntmps71
 go_wp2_with fail
 refine (checkRange_bad a b _ H.out).mono ?_
 rintro e w1 ⟨rfl, hb⟩
 obtain ⟨hc, hf⟩ := bcell hb
 go_wp2
 exact bodyPost_ret (v := rt (0, 0, 10)) (by simp [results, Tryz.results71, go_sem, hc]) rfl ⟨rfl, ((below_a2 hb).setCell (by simp) _).setCell (by simp) _⟩

theorem scale_badArg (a b n d : Int) (w : World) (h : vR a b = true) (hn : ¬ (-1000000000 ≤ n ∧ n ≤ 1000000000 ∧ 1 ≤ d ∧ d ≤ 1000000000)) :
  Calls Tryz.prog 71 #[rv a b, .int .i64 n, .int .i64 d] w fun e w' => e = .returned (rt (0, 0, 1)) ∧ Below w.heap.size w w' := by
 have H := Lib.hid h; clear h
 by_cases h1 : -1000000000 ≤ n ∧ n ≤ 1000000000
 ·have hh : hasS (-1000000000) 1000000000 n = true := by simp [hasS, vR, inB, h1]
  have HH := Lib.hid hh; clear hh
  have h2 : d < 1 ∨ (¬ d < 1 ∧ 1000000000 < d) := by omega
  clear hn
  rcases h2 with h2 | ⟨h2, h3⟩
  all_goals
   go_enter Tryz.func71, Tryz.ntmps71
   go_wp2_with fail
   refine (checkRange_ok a b _ H.out).mono ?_
   rintro e w1 ⟨rfl, hb⟩
   obtain ⟨hc, hf⟩ := bcell hb
   have hz0 : w.heap.size + 1 < w1.heap.size := by have := hb.size; simp at this; omega
   go_wp2_with fail
   refine (around_any 1000000000 _ (by omega) (by omega)).mono ?_
   rintro e w2 ⟨rfl, hb2⟩
   obtain ⟨hc2, hf2⟩ := bcell hb2
   have hz2 : w.heap.size + 1 < w2.heap.size := by have := hb2.size; omega
   go_wp2_with fail
   refine (has_to _ _ n _ _ HH.out).mono ?_
   rintro e w3 ⟨rfl, hb3⟩
   obtain ⟨hc3, hf3⟩ := bcell hb3
   have hz3 : w.heap.size + 1 < w3.heap.size := by have := hb3.size; omega
   go_wp2
   exact bodyPost_ret (v := rt (0, 0, 1)) (by simp [results, Tryz.results71, go_sem, hc3, hc2, hc, hz0, hz2, hz3]) rfl ⟨rfl, ((below_then (below_then (below_a2 hb) hb2) hb3).setCell (by simp) _).setCell (by simp) _⟩
 ·have hh : hasS (-1000000000) 1000000000 n = false := by simp [hasS, vR, inB]; omega
  have HH := Lib.hid hh; clear hh hn h1
  go_enter Tryz.func71, Tryz.ntmps71
  go_wp2_with fail
  refine (checkRange_ok a b _ H.out).mono ?_
  rintro e w1 ⟨rfl, hb⟩
  obtain ⟨hc, hf⟩ := bcell hb
  have hz0 : w.heap.size + 1 < w1.heap.size := by have := hb.size; simp at this; omega
  go_wp2_with fail
  refine (around_any 1000000000 _ (by omega) (by omega)).mono ?_
  rintro e w2 ⟨rfl, hb2⟩
  obtain ⟨hc2, hf2⟩ := bcell hb2
  have hz2 : w.heap.size + 1 < w2.heap.size := by have := hb2.size; omega
  go_wp2_with fail
  refine (has_to _ _ n _ _ HH.out).mono ?_
  rintro e w3 ⟨rfl, hb3⟩
  obtain ⟨hc3, hf3⟩ := bcell hb3
  have hz3 : w.heap.size + 1 < w3.heap.size := by have := hb3.size; omega
  go_wp2
  exact bodyPost_ret (v := rt (0, 0, 1)) (by simp [results, Tryz.results71, go_sem, hc3, hc2, hc, hz0, hz2, hz3]) rfl ⟨rfl, ((below_then (below_then (below_a2 hb) hb2) hb3).setCell (by simp) _).setCell (by simp) _⟩

def SC (x n d v : Int) (k : Bool) : Prop := ∀ w, Calls Tryz.prog 109 #[.int .i64 x, .int .i64 n, .int .i64 d] w fun e w' => e = .returned (.tuple #[.int .i64 v, .bool k]) ∧ w = w'

set_option maxHeartbeats 1000000 in
theorem scale_pos (a b n d v1 v2 : Int) (k1 k2 : Bool) (w : World) (h : vR a b = true) (hn : 0 ≤ n) (hn' : n ≤ 1000000000) (hd : 1 ≤ d) (hd' : d ≤ 1000000000)
    (hs1 : SC (a) n d v1 k1) (hs2 : SC (-b) n d v2 k2) (b1 : -4000000000000000 ≤ v1) (b2 : v1 ≤ 4000000000000000) (b3 : -4000000000000000 ≤ v2) (b4 : v2 ≤ 4000000000000000) :
    Calls Tryz.prog 71 #[rv a b, .int .i64 (n), .int .i64 d] w fun e w' => e = .returned (rt (if (k1 && k2) = true then bigS v1 (-v2) else (0, 0, 5))) ∧ Below w.heap.size w w' := by
  obtain ⟨a1, a2, a3⟩ := (vR_iff _ _).1 h
  have H := Lib.hid h; clear h
  have hh : hasS (-1000000000) 1000000000 (n) = true := by simp [hasS, vR, inB]; omega
  have HH := Lib.hid hh; clear hh
  have HS1 := Lib.hid hs1; clear hs1
  have HS2 := Lib.hid hs2; clear hs2
  cases k1 <;> cases k2
  all_goals
    first | rw [if_pos (show (true && true) = true from rfl)] | rw [if_neg (by simp)]
    go_enter Tryz.func71, Tryz.ntmps71
    go_wp2_with fail
    refine (checkRange_ok a b _ H.out).mono ?_
    rintro e w1 ⟨rfl, hb⟩
    obtain ⟨hc, hf⟩ := bcell hb
    have hz0 : w.heap.size + 1 < w1.heap.size := by have := hb.size; simp at this; omega
    have hza : w.heap.size < w1.heap.size := by omega
    have hze : w.heap.size < w.heap.size + 1 + 1 := by omega
    go_wp2_with fail
    refine (around_any 1000000000 _ (by omega) (by omega)).mono ?_
    rintro e w2 ⟨rfl, hb2⟩
    obtain ⟨hc2, hf2⟩ := bcell hb2
    have hz2 : w.heap.size + 1 < w2.heap.size := by have := hb2.size; omega
    have hzb : w.heap.size < w2.heap.size := by omega
    go_wp2_with fail
    refine (has_to _ _ _ _ _ HH.out).mono ?_
    rintro e w3 ⟨rfl, hb3⟩
    obtain ⟨hc3, hf3⟩ := bcell hb3
    have hz3 : w.heap.size + 1 < w3.heap.size := by have := hb3.size; omega
    have hzc : w.heap.size < w3.heap.size := by omega
    have hB3 := below_then (below_then (below_a2 hb) hb2) hb3
    go_wp2_with fail
    refine (HS1.out _).mono ?_
    rintro e w' ⟨rfl, rfl⟩
    go_wp2_with fail
    refine (HS2.out _).mono ?_
    rintro e w' ⟨rfl, rfl⟩
    first
      | (go_wp2_with fail
         refine (unlessBig_any _ _ _).mono ?_
         rintro e w4 ⟨rfl, hb4⟩
         obtain ⟨hc4, hf4⟩ := bcell hb4
         have hz4 : w.heap.size + 1 < w4.heap.size := by have := hb4.size; (try simp at this); omega
         go_wp2
         refine bodyPost_ret (v := rt (bigS v1 (-v2))) (by simp [results, Tryz.results71, go_sem, hc4, hc3, hc2, hc, hz0, hz2, hz3, hz4]) rfl ⟨rfl, ?_⟩
         refine Below.setCell ?_ (by simp <;> omega) _
         refine Below.setCell ?_ (by simp <;> omega) _
         refine Below.trans ?_ (hb4.mono (by first | omega | (simp <;> omega)))
         repeat (first | exact hB3 | refine Below.setCell ?_ (by simp <;> omega) _))
      | (go_wp2
         refine bodyPost_ret (v := rt (0, 0, 5)) (by simp [results, Tryz.results71, go_sem, hc3, hc2, hc, hz0, hz2, hz3]) rfl ⟨rfl, ?_⟩
         repeat (first | exact hB3 | refine Below.setCell ?_ (by simp <;> omega) _))

set_option maxHeartbeats 1000000 in
theorem scale_neg (a b n d v1 v2 : Int) (k1 k2 : Bool) (w : World) (h : vR a b = true) (hn : 1 ≤ n) (hn' : n ≤ 1000000000) (hd : 1 ≤ d) (hd' : d ≤ 1000000000)
    (hs1 : SC (-b) n d v1 k1) (hs2 : SC (a) n d v2 k2) (b1 : -4000000000000000 ≤ v1) (b2 : v1 ≤ 4000000000000000) (b3 : -4000000000000000 ≤ v2) (b4 : v2 ≤ 4000000000000000) :
    Calls Tryz.prog 71 #[rv a b, .int .i64 (-n), .int .i64 d] w fun e w' => e = .returned (rt (if (k1 && k2) = true then bigS v1 (-v2) else (0, 0, 5))) ∧ Below w.heap.size w w' := by
  obtain ⟨a1, a2, a3⟩ := (vR_iff _ _).1 h
  have H := Lib.hid h; clear h
  have hh : hasS (-1000000000) 1000000000 (-n) = true := by simp [hasS, vR, inB]; omega
  have HH := Lib.hid hh; clear hh
  have HS1 := Lib.hid hs1; clear hs1
  have HS2 := Lib.hid hs2; clear hs2
  cases k1 <;> cases k2
  all_goals
    first | rw [if_pos (show (true && true) = true from rfl)] | rw [if_neg (by simp)]
    go_enter Tryz.func71, Tryz.ntmps71
    go_wp2_with fail
    refine (checkRange_ok a b _ H.out).mono ?_
    rintro e w1 ⟨rfl, hb⟩
    obtain ⟨hc, hf⟩ := bcell hb
    have hz0 : w.heap.size + 1 < w1.heap.size := by have := hb.size; simp at this; omega
    have hza : w.heap.size < w1.heap.size := by omega
    have hze : w.heap.size < w.heap.size + 1 + 1 := by omega
    go_wp2_with fail
    refine (around_any 1000000000 _ (by omega) (by omega)).mono ?_
    rintro e w2 ⟨rfl, hb2⟩
    obtain ⟨hc2, hf2⟩ := bcell hb2
    have hz2 : w.heap.size + 1 < w2.heap.size := by have := hb2.size; omega
    have hzb : w.heap.size < w2.heap.size := by omega
    go_wp2_with fail
    refine (has_to _ _ _ _ _ HH.out).mono ?_
    rintro e w3 ⟨rfl, hb3⟩
    obtain ⟨hc3, hf3⟩ := bcell hb3
    have hz3 : w.heap.size + 1 < w3.heap.size := by have := hb3.size; omega
    have hzc : w.heap.size < w3.heap.size := by omega
    have hB3 := below_then (below_then (below_a2 hb) hb2) hb3
    go_wp2_with fail
    refine (HS1.out _).mono ?_
    rintro e w' ⟨rfl, rfl⟩
    go_wp2_with fail
    refine (HS2.out _).mono ?_
    rintro e w' ⟨rfl, rfl⟩
    first
      | (go_wp2_with fail
         refine (unlessBig_any _ _ _).mono ?_
         rintro e w4 ⟨rfl, hb4⟩
         obtain ⟨hc4, hf4⟩ := bcell hb4
         have hz4 : w.heap.size + 1 < w4.heap.size := by have := hb4.size; (try simp at this); omega
         go_wp2
         refine bodyPost_ret (v := rt (bigS v1 (-v2))) (by simp [results, Tryz.results71, go_sem, hc4, hc3, hc2, hc, hz0, hz2, hz3, hz4]) rfl ⟨rfl, ?_⟩
         refine Below.setCell ?_ (by simp <;> omega) _
         refine Below.setCell ?_ (by simp <;> omega) _
         refine Below.trans ?_ (hb4.mono (by first | omega | (simp <;> omega)))
         repeat (first | exact hB3 | refine Below.setCell ?_ (by simp <;> omega) _))
      | (go_wp2
         refine bodyPost_ret (v := rt (0, 0, 5)) (by simp [results, Tryz.results71, go_sem, hc3, hc2, hc, hz0, hz2, hz3]) rfl ⟨rfl, ?_⟩
         repeat (first | exact hB3 | refine Below.setCell ?_ (by simp <;> omega) _))

theorem sc_bounds (x n d : Int) (hn : 0 ≤ n) (hn' : n ≤ 1000000000) (hd : 1 ≤ d) (h : prodOk (x / d) n) : -4000000000000000 ≤ x * n / d ∧ x * n / d ≤ 4000000000000000 := by
  obtain ⟨r1, r2⟩ := rest_bounds x d hd
  obtain ⟨p1, p2⟩ := of_absI_le ((prodOk_iff _ _).1 h)
  obtain ⟨t1, t2⟩ := part_bounds (x - x / d * d) n d hd r1 r2 hn
  have hs := floor_split x n d hd
  omega
theorem sc_get (x n d : Int) (hx : -1000000000000000 ≤ x) (hx' : x ≤ 1000000000000000) (hn : 0 ≤ n) (hn' : n ≤ 1000000000) (hd : 1 ≤ d) (hd' : d ≤ 1000000000) :
    ∃ v k, SC x n d v k ∧ (-4000000000000000 ≤ v ∧ v ≤ 4000000000000000) ∧ ((k = true ∧ v = x * n / d) ∨ (k = false ∧ ¬ absI (x * n / d) ≤ 1000000000000000)) := by
  by_cases h : prodOk (x / d) n
  · exact ⟨_, true, fun w => scaled_yes x n d w hx hx' hn hn' hd hd' h, sc_bounds x n d hn hn' hd h, .inl ⟨rfl, rfl⟩⟩
  · exact ⟨_, false, fun w => scaled_no x n d w hx hx' hn hn' hd hd' h, by omega, .inr ⟨rfl, far_of_no x n d hn hn' hd h⟩⟩
theorem far_of_not1 {n : Int} (h : ¬ absI n ≤ 1000000000000000) : n < -1000000000000000 ∨ 1000000000000000 < n := by
  unfold absI at h; split at h <;> omega
theorem bigS_no1 (lo hi : Int) (h : ¬ (lo ≤ hi ∧ -1000000000000000 ≤ lo ∧ hi ≤ 1000000000000000)) : bigS lo hi = (0, 0, 5) := by
  unfold bigS; rw [vR_no lo hi h]; rfl
theorem ends_le (a b n d : Int) (hab : a ≤ b) (hn : 0 ≤ n) (hd : 1 ≤ d) : a * n / d ≤ -(-b * n / d) := by
  have h1 : a * n ≤ b * n := Int.mul_le_mul_of_nonneg_right hab hn
  have h2 := Int.mul_ediv_add_emod (a * n) d
  have h3 := Int.mul_ediv_add_emod (-b * n) d
  have h4 := Int.emod_nonneg (a * n) (by omega : d ≠ 0)
  have h5 := Int.emod_nonneg (-b * n) (by omega : d ≠ 0)
  have h6 : d * (a * n / d + -b * n / d) ≤ 0 := by rw [Int.mul_add]; rw [Int.neg_mul] at *; omega
  rcases Int.lt_or_le 0 (a * n / d + -b * n / d) with h7 | h7
  · have := Int.mul_pos (show 0 < d by omega) h7; omega
  · omega
theorem pick_big (k1 k2 : Bool) (v1 v2 p q : Int) (hpq : p ≤ -q) (h1 : (k1 = true ∧ v1 = p) ∨ (k1 = false ∧ ¬ absI p ≤ 1000000000000000)) (h2 : (k2 = true ∧ v2 = q) ∨ (k2 = false ∧ ¬ absI q ≤ 1000000000000000)) :
    (if (k1 && k2) = true then bigS v1 (-v2) else (0, 0, 5)) = bigS p (-q) := by
  rcases h1 with ⟨rfl, rfl⟩ | ⟨rfl, h1⟩
  · rcases h2 with ⟨rfl, rfl⟩ | ⟨rfl, h2⟩
    · rfl
    · rw [bigS_no1 _ (-q) (by have := far_of_not1 h2; omega)]; rfl
  · rw [bigS_no1 p (-q) (by have := far_of_not1 h1; omega)]; simp

theorem scale_any (a b n d : Int) (w : World) :
    Calls Tryz.prog 71 #[rv a b, .int .i64 n, .int .i64 d] w fun e w' => e = .returned (rt (scaleS a b n d)) ∧ Below w.heap.size w w' := by
  unfold scaleS
  cases h : vR a b
  · exact scale_badRange a b n d w h
  · rw [if_pos rfl]
    obtain ⟨a1, a2, a3⟩ := (vR_iff _ _).1 h
    by_cases hn : -1000000000 ≤ n ∧ n ≤ 1000000000 ∧ 1 ≤ d ∧ d ≤ 1000000000
    · rw [if_pos hn]
      obtain ⟨n1, n2, d1, d2⟩ := hn
      by_cases hs : n < 0
      · rw [if_pos hs]
        obtain ⟨m, rfl⟩ : ∃ m : Int, n = -m := ⟨-n, by omega⟩
        obtain ⟨v1, k1, s1, ⟨b1, b2⟩, o1⟩ := sc_get (-b) m d (by omega) (by omega) (by omega) (by omega) d1 d2
        obtain ⟨v2, k2, s2, ⟨b3, b4⟩, o2⟩ := sc_get a m d (by omega) (by omega) (by omega) (by omega) d1 d2
        have e1 : b * -m = -b * m := by rw [Int.mul_neg, Int.neg_mul]
        have e2 : -a * -m = a * m := by rw [Int.neg_mul_neg]
        have hle := ends_le (-b) (-a) m d (by omega) (by omega) d1
        rw [Int.neg_neg] at hle
        rw [e1, e2, ← pick_big k1 k2 v1 v2 _ _ hle o1 o2]
        exact scale_neg a b m d v1 v2 k1 k2 w h (by omega) (by omega) d1 d2 s1 s2 b1 b2 b3 b4
      · rw [if_neg hs]
        obtain ⟨v1, k1, s1, ⟨b1, b2⟩, o1⟩ := sc_get a n d (by omega) (by omega) (by omega) n2 d1 d2
        obtain ⟨v2, k2, s2, ⟨b3, b4⟩, o2⟩ := sc_get (-b) n d (by omega) (by omega) (by omega) n2 d1 d2
        rw [← pick_big k1 k2 v1 v2 _ _ (ends_le a b n d a1 (by omega) d1) o1 o2]
        exact scale_pos a b n d v1 v2 k1 k2 w h (by omega) n2 d1 d2 s1 s2 b1 b2 b3 b4
    · rw [if_neg hn]; exact scale_badArg a b n d w h hn
end

section
open Go.RowKit

def denseS (a b c d : Int) : Int × Int × Int := scaleS (mulS a b c d).1 (mulS a b c d).2.1 1 1000

set_option maxRecDepth 100000 in
set_option maxHeartbeats 2000000 in
theorem dense_any (a b c d : Int) (w : World) :
  Calls Tryz.prog 43 #[rv a b, rv c d] w fun e w' => e = .returned (rv (denseS a b c d).1 (denseS a b c d).2.1) ∧ Below w.heap.size w w' := by
 have HE := Lib.hid (show Below w.heap.size w (((w.alloc (.cells #[.int .i64 a, .int .i64 b] 35)).alloc (.cells #[.int .i64 c, .int .i64 d] 35)).alloc (.cells #[.int .i64 0, .int .i64 0] 35)) from below_a3 (Below.refl _ _))
 have HK := Lib.hid (boxes3' w 35 35 35 #[.int .i64 a, .int .i64 b] #[.int .i64 c, .int .i64 d] #[.int .i64 0, .int .i64 0])
 have C : Hid (∀ W, Calls Tryz.prog 70 #[rv a b, rv c d] W fun e w' => e = .returned (rt (mulS a b c d)) ∧ Below W.heap.size W w') := Lib.hid fun W => mul_any a b c d W
 unfold denseS
 generalize mulS a b c d = g at *
 obtain ⟨g0, g1, e⟩ := g
 dsimp only
 have C2 : Hid (∀ W, Calls Tryz.prog 71 #[rv g0 g1, .int .i64 1, .int .i64 1000] W fun e w' => e = .returned (rt (scaleS g0 g1 1 1000)) ∧ Below W.heap.size W w') := Lib.hid fun W => scale_any g0 g1 1 1000 W
 generalize scaleS g0 g1 1 1000 = k at *
 obtain ⟨k0, k1, e'⟩ := k
 go_enter Tryz.func43, Tryz.ntmps43
 go_wp2_with fail
 obtain ⟨W0, hW0⟩ : ∃ W0, (((w.alloc (.cells #[.int .i64 a, .int .i64 b] 35)).alloc (.cells #[.int .i64 c, .int .i64 d] 35)).alloc (.cells #[.int .i64 0, .int .i64 0] 35)) = W0 := ⟨_, rfl⟩
 rw [hW0] at HE HK ⊢
 clear hW0
 refine (C.out _).mono ?_
 rintro e1 w1 ⟨rfl, hb⟩
 have HE1 := Lib.hid (below_then (below_then HE.out hb) (below_alloc1 w1 (.cells #[.int .i64 g0, .int .i64 g1] 35)))
 have HK1 := Lib.hid ((HK.out.on hb).new 35 #[.int .i64 g0, .int .i64 g1])
 clear hb HE HK C
 go_wp2_with fail
 refine (C2.out _).mono ?_
 rintro e2 w2 ⟨rfl, hb⟩
 have HE2 := Lib.hid (below_then (below_then HE1.out hb) (below_alloc1 w2 (.cells #[.int .i64 k0, .int .i64 k1] 35)))
 have HKN := Lib.hid ((HK1.out.on hb).new 35 #[.int .i64 k0, .int .i64 k1])
 have z := HKN.out _ (.tail _ (.tail _ (.head _)))
 have z0 := z.cell 0
 have z1 := z.cell 1
 have f0 := z.frozen 0
 have f1 := z.frozen 1
 have l0 := (HK1.out.on hb _ (.tail _ (.head _))).lt
 simp at z0 z1 f0 f1 l0
 have hl : w.heap.size + 1 + 1 ≠ w2.heap.size := by omega
 have hl2 : w2.heap.size ≠ w.heap.size + 1 + 1 := by omega
 clear hb HE1 HK1 C2 z l0
 go_wp2
 refine bodyPost_ret (v := rv k0 k1) (by simp [results, Tryz.results43, go_sem, z0, z1, hl, hl2]) rfl ⟨rfl, ?_⟩
 repeat (first | exact HE2.out | refine Below.setCell ?_ (by simp <;> omega) _)
end

section
open Go.RowKit

def volS (h : HoldD) (f : FillD) : Int × Int := if f.st = 0 then (0, 0) else if f.st ≤ 2 then (h.v0, h.v1) else ((overS h.vol f.x0 f.x1).1, (overS h.vol f.x0 f.x1).2.1)
def momS (h : HoldD) (f : FillD) : Int × Int := if f.st = 0 then (0, 0) else if f.st = 1 then (h.t0, h.t1) else if f.st = 2 then (h.u0, h.u1) else if f.st = 3 then ((overS h.mom f.x0 f.x1).1, (overS h.mom f.x0 f.x1).2.1) else (0, 0)
def heiS (h : HoldD) (f : FillD) : Int × Int := if f.st = 0 then (0, 0) else if f.st ≤ 2 then (h.h0, h.h1) else ((overS h.hei f.x0 f.x1).1, (overS h.hei f.x0 f.x1).2.1)
def volF (st : Int) : Nat := if st = 0 then 128 else if st ≤ 2 then 131 else 135
def momF (st : Int) : Nat := if st = 0 then 128 else if st = 1 then 98 else if st = 2 then 99 else if st = 3 then 101 else 128
def heiF (st : Int) : Nat := if st = 0 then 128 else if st ≤ 2 then 132 else 136
theorem volF_to (h : HoldD) (m : HoldM) (f : FillD) (w : World) (hi : HoldIn w h m) (q0 : 0 ≤ f.st) (q5 : f.st ≤ 5) :
    Calls Tryz.prog (volF f.st) #[holdV h m, fillV f] w fun e w' => e = .returned (rv (volS h f).1 (volS h f).2) ∧ Below w.heap.size w w' := by
  obtain ⟨id, al, ah, vol, mom, hei, t0, t1, u0, u1, v0, v1, h0, h1⟩ := h
  obtain ⟨A, n, c, B, mm, d, C, l, ee⟩ := m
  obtain ⟨fh, st, x0, x1, d0, d1⟩ := f
  obtain ⟨i1, i2, i3⟩ := hi
  dsimp only at i1 i2 i3 q0 q5
  rcases st_cases q0 q5 with rfl | rfl | rfl | rfl | rfl | rfl
  · exact nothing_to id al ah t0 t1 u0 u1 v0 v1 h0 h1 A B C n c mm d l ee fh 0 x0 x1 d0 d1 w
  · exact filledVol_to id al ah t0 t1 u0 u1 v0 v1 h0 h1 A B C n c mm d l ee fh 1 x0 x1 d0 d1 w
  · exact filledVol_to id al ah t0 t1 u0 u1 v0 v1 h0 h1 A B C n c mm d l ee fh 2 x0 x1 d0 d1 w
  · exact partlyVol_to vol id al ah t0 t1 u0 u1 v0 v1 h0 h1 A B C n c mm d l ee fh 3 x0 x1 d0 d1 w i1
  · exact partlyVol_to vol id al ah t0 t1 u0 u1 v0 v1 h0 h1 A B C n c mm d l ee fh 4 x0 x1 d0 d1 w i1
  · exact partlyVol_to vol id al ah t0 t1 u0 u1 v0 v1 h0 h1 A B C n c mm d l ee fh 5 x0 x1 d0 d1 w i1
theorem momF_to (h : HoldD) (m : HoldM) (f : FillD) (w : World) (hi : HoldIn w h m) (q0 : 0 ≤ f.st) (q5 : f.st ≤ 5) :
    Calls Tryz.prog (momF f.st) #[holdV h m, fillV f] w fun e w' => e = .returned (rv (momS h f).1 (momS h f).2) ∧ Below w.heap.size w w' := by
  obtain ⟨id, al, ah, vol, mom, hei, t0, t1, u0, u1, v0, v1, h0, h1⟩ := h
  obtain ⟨A, n, c, B, mm, d, C, l, ee⟩ := m
  obtain ⟨fh, st, x0, x1, d0, d1⟩ := f
  obtain ⟨i1, i2, i3⟩ := hi
  dsimp only at i1 i2 i3 q0 q5
  rcases st_cases q0 q5 with rfl | rfl | rfl | rfl | rfl | rfl
  · exact nothing_to id al ah t0 t1 u0 u1 v0 v1 h0 h1 A B C n c mm d l ee fh 0 x0 x1 d0 d1 w
  · exact meanTrim_to id al ah t0 t1 u0 u1 v0 v1 h0 h1 A B C n c mm d l ee fh 1 x0 x1 d0 d1 w
  · exact meanUntr_to id al ah t0 t1 u0 u1 v0 v1 h0 h1 A B C n c mm d l ee fh 2 x0 x1 d0 d1 w
  · exact meanMom_to mom id al ah t0 t1 u0 u1 v0 v1 h0 h1 A B C n c mm d l ee fh 3 x0 x1 d0 d1 w i2
  · exact nothing_to id al ah t0 t1 u0 u1 v0 v1 h0 h1 A B C n c mm d l ee fh 4 x0 x1 d0 d1 w
  · exact nothing_to id al ah t0 t1 u0 u1 v0 v1 h0 h1 A B C n c mm d l ee fh 5 x0 x1 d0 d1 w
theorem heiF_to (h : HoldD) (m : HoldM) (f : FillD) (w : World) (hi : HoldIn w h m) (q0 : 0 ≤ f.st) (q5 : f.st ≤ 5) :
    Calls Tryz.prog (heiF f.st) #[holdV h m, fillV f] w fun e w' => e = .returned (rv (heiS h f).1 (heiS h f).2) ∧ Below w.heap.size w w' := by
  obtain ⟨id, al, ah, vol, mom, hei, t0, t1, u0, u1, v0, v1, h0, h1⟩ := h
  obtain ⟨A, n, c, B, mm, d, C, l, ee⟩ := m
  obtain ⟨fh, st, x0, x1, d0, d1⟩ := f
  obtain ⟨i1, i2, i3⟩ := hi
  dsimp only at i1 i2 i3 q0 q5
  rcases st_cases q0 q5 with rfl | rfl | rfl | rfl | rfl | rfl
  · exact nothing_to id al ah t0 t1 u0 u1 v0 v1 h0 h1 A B C n c mm d l ee fh 0 x0 x1 d0 d1 w
  · exact filledHei_to id al ah t0 t1 u0 u1 v0 v1 h0 h1 A B C n c mm d l ee fh 1 x0 x1 d0 d1 w
  · exact filledHei_to id al ah t0 t1 u0 u1 v0 v1 h0 h1 A B C n c mm d l ee fh 2 x0 x1 d0 d1 w
  · exact partlyHei_to hei id al ah t0 t1 u0 u1 v0 v1 h0 h1 A B C n c mm d l ee fh 3 x0 x1 d0 d1 w i3
  · exact partlyHei_to hei id al ah t0 t1 u0 u1 v0 v1 h0 h1 A B C n c mm d l ee fh 4 x0 x1 d0 d1 w i3
  · exact partlyHei_to hei id al ah t0 t1 u0 u1 v0 v1 h0 h1 A B C n c mm d l ee fh 5 x0 x1 d0 d1 w i3
abbrev fillCells (f : FillD) : Array Value := #[.int .i64 f.hold, .int .i64 f.st, .int .i64 f.x0, .int .i64 f.x1, .int .i64 f.d0, .int .i64 f.d1]
set_option maxRecDepth 100000 in
set_option maxHeartbeats 4000000 in
theorem moment1_0 (a kv km kh s : Nat) (x y z p q : Int) (id al ah t0 t1 u0 u1 v0 v1 h0 h1 : Int) (A B C : Option Addr) (n c mm d l ee : Nat) (fh st x0 x1 d0 d1 : Int) (Bh Bf : Nat) (w : World) (hB : Blk w Bh 40 #[.int .i64 id, .int .i64 al, .int .i64 ah, .slice A n c, .slice B mm d, .slice C l ee, .int .i64 t0, .int .i64 t1, .int .i64 u0, .int .i64 u1, .int .i64 v0, .int .i64 v1, .int .i64 h0, .int .i64 h1]) (fB : Blk w Bf 43 #[.int .i64 fh, .int .i64 st, .int .i64 x0, .int .i64 x1, .int .i64 d0, .int .i64 d1])
  (hC : ∀ W, Below w.heap.size w W → Calls Tryz.prog 128 #[.agg #[.int .i64 id, .int .i64 al, .int .i64 ah, .slice A n c, .slice B mm d, .slice C l ee, .int .i64 t0, .int .i64 t1, .int .i64 u0, .int .i64 u1, .int .i64 v0, .int .i64 v1, .int .i64 h0, .int .i64 h1], .agg #[.int .i64 fh, .int .i64 st, .int .i64 x0, .int .i64 x1, .int .i64 d0, .int .i64 d1]] W fun e w' => e = .returned (rv p q) ∧ Below W.heap.size W w') :
  Calls Tryz.prog 86 #[.agg #[fnV a, fnV kv, fnV 128, fnV kh, fnV s, .int .i64 x, .int .i64 y, .int .i64 z], .pointer (some ⟨Bh, 0, none⟩), .pointer (some ⟨Bf, 0, none⟩)] w fun e w' => e = .returned (rv p q) ∧ Below w.heap.size w w' := by
 have HE := Lib.hid (show Below w.heap.size w ((w.alloc (.cells #[fnV a, fnV kv, fnV 128, fnV kh, fnV s, .int .i64 x, .int .i64 y, .int .i64 z] 99)).alloc (.cells #[.int .i64 0, .int .i64 0] 35)) from below_a2 (Below.refl _ _))
 have HK := Lib.hid (boxes2' w 99 35 #[fnV a, fnV kv, fnV 128, fnV kh, fnV s, .int .i64 x, .int .i64 y, .int .i64 z] #[.int .i64 0, .int .i64 0])
 have CC := Lib.hid hC
 have HH := Lib.hid (blkOn hB HE.out)
 have HF := Lib.hid (blkOn fB HE.out)
 clear hB fB hC
 go_enter Tryz.func86, Tryz.ntmps86
 go_upto_region 1 with fail
 obtain ⟨W0, hW0⟩ : ∃ W0, ((w.alloc (.cells #[fnV a, fnV kv, fnV 128, fnV kh, fnV s, .int .i64 x, .int .i64 y, .int .i64 z] 99)).alloc (.cells #[.int .i64 0, .int .i64 0] 35)) = W0 := ⟨_, rfl⟩
 rw [hW0] at HE HK HH HF ⊢
 clear hW0
 obtain ⟨G, hG⟩ : ∃ G, w.heap.size = G := ⟨_, rfl⟩
 rw [hG] at HK ⊢
 have HG := Lib.hid hG; clear hG
 have hh := HH.out
 have ff := HF.out
 have s0 := hh.cell 0
 have s1 := hh.cell 1
 have s2 := hh.cell 2
 have s3 := hh.cell 3
 have s4 := hh.cell 4
 have s5 := hh.cell 5
 have s6 := hh.cell 6
 have s7 := hh.cell 7
 have s8 := hh.cell 8
 have s9 := hh.cell 9
 have s10 := hh.cell 10
 have s11 := hh.cell 11
 have s12 := hh.cell 12
 have s13 := hh.cell 13
 simp at s0 s1 s2 s3 s4 s5 s6 s7 s8 s9 s10 s11 s12 s13
 have f0 := ff.cell 0
 have f1 := ff.cell 1
 have f2 := ff.cell 2
 have f3 := ff.cell 3
 have f4 := ff.cell 4
 have f5 := ff.cell 5
 simp at f0 f1 f2 f3 f4 f5
 have p := HK.out _ (.tail _ (.head _))
 have p2 := p.cell 2
 simp at p2
 clear p
 clear hh ff HH HF
 go_wp2_with fail
 refine (CC.out _ HE.out).mono ?_
 rintro e w1 ⟨rfl, hb⟩
 have HE1 := Lib.hid (below_then HE.out hb); have HK1 := Lib.hid (HK.out.on hb)
 clear hb HE HK CC p2 s0 s1 s2 s3 s4 s5 s6 s7 s8 s9 s10 s11 s12 s13 f0 f1 f2 f3 f4 f5
 have z := HK1.out _ (.head _)
 have z0 := z.cell 0
 have zf0 := z.frozen 0
 have z1 := z.cell 1
 have zf1 := z.frozen 1
 have zl := z.lt
 simp at z0 zf0 z1 zf1
 clear z
 go_wp2
 refine bodyPost_ret (v := rv p q) (by simp [results, Tryz.results86, go_sem, z0, z1]) rfl ⟨rfl, ?_⟩
 have hg := HG.out
 repeat (first | exact HE1.out | refine Below.setCell ?_ (by simp <;> omega) _)

set_option maxRecDepth 100000 in
set_option maxHeartbeats 4000000 in
theorem moment1_1 (a kv km kh s : Nat) (x y z p q : Int) (id al ah t0 t1 u0 u1 v0 v1 h0 h1 : Int) (A B C : Option Addr) (n c mm d l ee : Nat) (fh st x0 x1 d0 d1 : Int) (Bh Bf : Nat) (w : World) (hB : Blk w Bh 40 #[.int .i64 id, .int .i64 al, .int .i64 ah, .slice A n c, .slice B mm d, .slice C l ee, .int .i64 t0, .int .i64 t1, .int .i64 u0, .int .i64 u1, .int .i64 v0, .int .i64 v1, .int .i64 h0, .int .i64 h1]) (fB : Blk w Bf 43 #[.int .i64 fh, .int .i64 st, .int .i64 x0, .int .i64 x1, .int .i64 d0, .int .i64 d1])
  (hC : ∀ W, Below w.heap.size w W → Calls Tryz.prog 98 #[.agg #[.int .i64 id, .int .i64 al, .int .i64 ah, .slice A n c, .slice B mm d, .slice C l ee, .int .i64 t0, .int .i64 t1, .int .i64 u0, .int .i64 u1, .int .i64 v0, .int .i64 v1, .int .i64 h0, .int .i64 h1], .agg #[.int .i64 fh, .int .i64 st, .int .i64 x0, .int .i64 x1, .int .i64 d0, .int .i64 d1]] W fun e w' => e = .returned (rv p q) ∧ Below W.heap.size W w') :
  Calls Tryz.prog 86 #[.agg #[fnV a, fnV kv, fnV 98, fnV kh, fnV s, .int .i64 x, .int .i64 y, .int .i64 z], .pointer (some ⟨Bh, 0, none⟩), .pointer (some ⟨Bf, 0, none⟩)] w fun e w' => e = .returned (rv p q) ∧ Below w.heap.size w w' := by
 have HE := Lib.hid (show Below w.heap.size w ((w.alloc (.cells #[fnV a, fnV kv, fnV 98, fnV kh, fnV s, .int .i64 x, .int .i64 y, .int .i64 z] 99)).alloc (.cells #[.int .i64 0, .int .i64 0] 35)) from below_a2 (Below.refl _ _))
 have HK := Lib.hid (boxes2' w 99 35 #[fnV a, fnV kv, fnV 98, fnV kh, fnV s, .int .i64 x, .int .i64 y, .int .i64 z] #[.int .i64 0, .int .i64 0])
 have CC := Lib.hid hC
 have HH := Lib.hid (blkOn hB HE.out)
 have HF := Lib.hid (blkOn fB HE.out)
 clear hB fB hC
 go_enter Tryz.func86, Tryz.ntmps86
 go_upto_region 1 with fail
 obtain ⟨W0, hW0⟩ : ∃ W0, ((w.alloc (.cells #[fnV a, fnV kv, fnV 98, fnV kh, fnV s, .int .i64 x, .int .i64 y, .int .i64 z] 99)).alloc (.cells #[.int .i64 0, .int .i64 0] 35)) = W0 := ⟨_, rfl⟩
 rw [hW0] at HE HK HH HF ⊢
 clear hW0
 obtain ⟨G, hG⟩ : ∃ G, w.heap.size = G := ⟨_, rfl⟩
 rw [hG] at HK ⊢
 have HG := Lib.hid hG; clear hG
 have hh := HH.out
 have ff := HF.out
 have s0 := hh.cell 0
 have s1 := hh.cell 1
 have s2 := hh.cell 2
 have s3 := hh.cell 3
 have s4 := hh.cell 4
 have s5 := hh.cell 5
 have s6 := hh.cell 6
 have s7 := hh.cell 7
 have s8 := hh.cell 8
 have s9 := hh.cell 9
 have s10 := hh.cell 10
 have s11 := hh.cell 11
 have s12 := hh.cell 12
 have s13 := hh.cell 13
 simp at s0 s1 s2 s3 s4 s5 s6 s7 s8 s9 s10 s11 s12 s13
 have f0 := ff.cell 0
 have f1 := ff.cell 1
 have f2 := ff.cell 2
 have f3 := ff.cell 3
 have f4 := ff.cell 4
 have f5 := ff.cell 5
 simp at f0 f1 f2 f3 f4 f5
 have p := HK.out _ (.tail _ (.head _))
 have p2 := p.cell 2
 simp at p2
 clear p
 clear hh ff HH HF
 go_wp2_with fail
 refine (CC.out _ HE.out).mono ?_
 rintro e w1 ⟨rfl, hb⟩
 have HE1 := Lib.hid (below_then HE.out hb); have HK1 := Lib.hid (HK.out.on hb)
 clear hb HE HK CC p2 s0 s1 s2 s3 s4 s5 s6 s7 s8 s9 s10 s11 s12 s13 f0 f1 f2 f3 f4 f5
 have z := HK1.out _ (.head _)
 have z0 := z.cell 0
 have zf0 := z.frozen 0
 have z1 := z.cell 1
 have zf1 := z.frozen 1
 have zl := z.lt
 simp at z0 zf0 z1 zf1
 clear z
 go_wp2
 refine bodyPost_ret (v := rv p q) (by simp [results, Tryz.results86, go_sem, z0, z1]) rfl ⟨rfl, ?_⟩
 have hg := HG.out
 repeat (first | exact HE1.out | refine Below.setCell ?_ (by simp <;> omega) _)

set_option maxRecDepth 100000 in
set_option maxHeartbeats 4000000 in
theorem moment1_2 (a kv km kh s : Nat) (x y z p q : Int) (id al ah t0 t1 u0 u1 v0 v1 h0 h1 : Int) (A B C : Option Addr) (n c mm d l ee : Nat) (fh st x0 x1 d0 d1 : Int) (Bh Bf : Nat) (w : World) (hB : Blk w Bh 40 #[.int .i64 id, .int .i64 al, .int .i64 ah, .slice A n c, .slice B mm d, .slice C l ee, .int .i64 t0, .int .i64 t1, .int .i64 u0, .int .i64 u1, .int .i64 v0, .int .i64 v1, .int .i64 h0, .int .i64 h1]) (fB : Blk w Bf 43 #[.int .i64 fh, .int .i64 st, .int .i64 x0, .int .i64 x1, .int .i64 d0, .int .i64 d1])
  (hC : ∀ W, Below w.heap.size w W → Calls Tryz.prog 99 #[.agg #[.int .i64 id, .int .i64 al, .int .i64 ah, .slice A n c, .slice B mm d, .slice C l ee, .int .i64 t0, .int .i64 t1, .int .i64 u0, .int .i64 u1, .int .i64 v0, .int .i64 v1, .int .i64 h0, .int .i64 h1], .agg #[.int .i64 fh, .int .i64 st, .int .i64 x0, .int .i64 x1, .int .i64 d0, .int .i64 d1]] W fun e w' => e = .returned (rv p q) ∧ Below W.heap.size W w') :
  Calls Tryz.prog 86 #[.agg #[fnV a, fnV kv, fnV 99, fnV kh, fnV s, .int .i64 x, .int .i64 y, .int .i64 z], .pointer (some ⟨Bh, 0, none⟩), .pointer (some ⟨Bf, 0, none⟩)] w fun e w' => e = .returned (rv p q) ∧ Below w.heap.size w w' := by
 have HE := Lib.hid (show Below w.heap.size w ((w.alloc (.cells #[fnV a, fnV kv, fnV 99, fnV kh, fnV s, .int .i64 x, .int .i64 y, .int .i64 z] 99)).alloc (.cells #[.int .i64 0, .int .i64 0] 35)) from below_a2 (Below.refl _ _))
 have HK := Lib.hid (boxes2' w 99 35 #[fnV a, fnV kv, fnV 99, fnV kh, fnV s, .int .i64 x, .int .i64 y, .int .i64 z] #[.int .i64 0, .int .i64 0])
 have CC := Lib.hid hC
 have HH := Lib.hid (blkOn hB HE.out)
 have HF := Lib.hid (blkOn fB HE.out)
 clear hB fB hC
 go_enter Tryz.func86, Tryz.ntmps86
 go_upto_region 1 with fail
 obtain ⟨W0, hW0⟩ : ∃ W0, ((w.alloc (.cells #[fnV a, fnV kv, fnV 99, fnV kh, fnV s, .int .i64 x, .int .i64 y, .int .i64 z] 99)).alloc (.cells #[.int .i64 0, .int .i64 0] 35)) = W0 := ⟨_, rfl⟩
 rw [hW0] at HE HK HH HF ⊢
 clear hW0
 obtain ⟨G, hG⟩ : ∃ G, w.heap.size = G := ⟨_, rfl⟩
 rw [hG] at HK ⊢
 have HG := Lib.hid hG; clear hG
 have hh := HH.out
 have ff := HF.out
 have s0 := hh.cell 0
 have s1 := hh.cell 1
 have s2 := hh.cell 2
 have s3 := hh.cell 3
 have s4 := hh.cell 4
 have s5 := hh.cell 5
 have s6 := hh.cell 6
 have s7 := hh.cell 7
 have s8 := hh.cell 8
 have s9 := hh.cell 9
 have s10 := hh.cell 10
 have s11 := hh.cell 11
 have s12 := hh.cell 12
 have s13 := hh.cell 13
 simp at s0 s1 s2 s3 s4 s5 s6 s7 s8 s9 s10 s11 s12 s13
 have f0 := ff.cell 0
 have f1 := ff.cell 1
 have f2 := ff.cell 2
 have f3 := ff.cell 3
 have f4 := ff.cell 4
 have f5 := ff.cell 5
 simp at f0 f1 f2 f3 f4 f5
 have p := HK.out _ (.tail _ (.head _))
 have p2 := p.cell 2
 simp at p2
 clear p
 clear hh ff HH HF
 go_wp2_with fail
 refine (CC.out _ HE.out).mono ?_
 rintro e w1 ⟨rfl, hb⟩
 have HE1 := Lib.hid (below_then HE.out hb); have HK1 := Lib.hid (HK.out.on hb)
 clear hb HE HK CC p2 s0 s1 s2 s3 s4 s5 s6 s7 s8 s9 s10 s11 s12 s13 f0 f1 f2 f3 f4 f5
 have z := HK1.out _ (.head _)
 have z0 := z.cell 0
 have zf0 := z.frozen 0
 have z1 := z.cell 1
 have zf1 := z.frozen 1
 have zl := z.lt
 simp at z0 zf0 z1 zf1
 clear z
 go_wp2
 refine bodyPost_ret (v := rv p q) (by simp [results, Tryz.results86, go_sem, z0, z1]) rfl ⟨rfl, ?_⟩
 have hg := HG.out
 repeat (first | exact HE1.out | refine Below.setCell ?_ (by simp <;> omega) _)

set_option maxRecDepth 100000 in
set_option maxHeartbeats 4000000 in
theorem moment1_3 (a kv km kh s : Nat) (x y z p q : Int) (id al ah t0 t1 u0 u1 v0 v1 h0 h1 : Int) (A B C : Option Addr) (n c mm d l ee : Nat) (fh st x0 x1 d0 d1 : Int) (Bh Bf : Nat) (w : World) (hB : Blk w Bh 40 #[.int .i64 id, .int .i64 al, .int .i64 ah, .slice A n c, .slice B mm d, .slice C l ee, .int .i64 t0, .int .i64 t1, .int .i64 u0, .int .i64 u1, .int .i64 v0, .int .i64 v1, .int .i64 h0, .int .i64 h1]) (fB : Blk w Bf 43 #[.int .i64 fh, .int .i64 st, .int .i64 x0, .int .i64 x1, .int .i64 d0, .int .i64 d1])
  (hC : ∀ W, Below w.heap.size w W → Calls Tryz.prog 101 #[.agg #[.int .i64 id, .int .i64 al, .int .i64 ah, .slice A n c, .slice B mm d, .slice C l ee, .int .i64 t0, .int .i64 t1, .int .i64 u0, .int .i64 u1, .int .i64 v0, .int .i64 v1, .int .i64 h0, .int .i64 h1], .agg #[.int .i64 fh, .int .i64 st, .int .i64 x0, .int .i64 x1, .int .i64 d0, .int .i64 d1]] W fun e w' => e = .returned (rv p q) ∧ Below W.heap.size W w') :
  Calls Tryz.prog 86 #[.agg #[fnV a, fnV kv, fnV 101, fnV kh, fnV s, .int .i64 x, .int .i64 y, .int .i64 z], .pointer (some ⟨Bh, 0, none⟩), .pointer (some ⟨Bf, 0, none⟩)] w fun e w' => e = .returned (rv p q) ∧ Below w.heap.size w w' := by
 have HE := Lib.hid (show Below w.heap.size w ((w.alloc (.cells #[fnV a, fnV kv, fnV 101, fnV kh, fnV s, .int .i64 x, .int .i64 y, .int .i64 z] 99)).alloc (.cells #[.int .i64 0, .int .i64 0] 35)) from below_a2 (Below.refl _ _))
 have HK := Lib.hid (boxes2' w 99 35 #[fnV a, fnV kv, fnV 101, fnV kh, fnV s, .int .i64 x, .int .i64 y, .int .i64 z] #[.int .i64 0, .int .i64 0])
 have CC := Lib.hid hC
 have HH := Lib.hid (blkOn hB HE.out)
 have HF := Lib.hid (blkOn fB HE.out)
 clear hB fB hC
 go_enter Tryz.func86, Tryz.ntmps86
 go_upto_region 1 with fail
 obtain ⟨W0, hW0⟩ : ∃ W0, ((w.alloc (.cells #[fnV a, fnV kv, fnV 101, fnV kh, fnV s, .int .i64 x, .int .i64 y, .int .i64 z] 99)).alloc (.cells #[.int .i64 0, .int .i64 0] 35)) = W0 := ⟨_, rfl⟩
 rw [hW0] at HE HK HH HF ⊢
 clear hW0
 obtain ⟨G, hG⟩ : ∃ G, w.heap.size = G := ⟨_, rfl⟩
 rw [hG] at HK ⊢
 have HG := Lib.hid hG; clear hG
 have hh := HH.out
 have ff := HF.out
 have s0 := hh.cell 0
 have s1 := hh.cell 1
 have s2 := hh.cell 2
 have s3 := hh.cell 3
 have s4 := hh.cell 4
 have s5 := hh.cell 5
 have s6 := hh.cell 6
 have s7 := hh.cell 7
 have s8 := hh.cell 8
 have s9 := hh.cell 9
 have s10 := hh.cell 10
 have s11 := hh.cell 11
 have s12 := hh.cell 12
 have s13 := hh.cell 13
 simp at s0 s1 s2 s3 s4 s5 s6 s7 s8 s9 s10 s11 s12 s13
 have f0 := ff.cell 0
 have f1 := ff.cell 1
 have f2 := ff.cell 2
 have f3 := ff.cell 3
 have f4 := ff.cell 4
 have f5 := ff.cell 5
 simp at f0 f1 f2 f3 f4 f5
 have p := HK.out _ (.tail _ (.head _))
 have p2 := p.cell 2
 simp at p2
 clear p
 clear hh ff HH HF
 go_wp2_with fail
 refine (CC.out _ HE.out).mono ?_
 rintro e w1 ⟨rfl, hb⟩
 have HE1 := Lib.hid (below_then HE.out hb); have HK1 := Lib.hid (HK.out.on hb)
 clear hb HE HK CC p2 s0 s1 s2 s3 s4 s5 s6 s7 s8 s9 s10 s11 s12 s13 f0 f1 f2 f3 f4 f5
 have z := HK1.out _ (.head _)
 have z0 := z.cell 0
 have zf0 := z.frozen 0
 have z1 := z.cell 1
 have zf1 := z.frozen 1
 have zl := z.lt
 simp at z0 zf0 z1 zf1
 clear z
 go_wp2
 refine bodyPost_ret (v := rv p q) (by simp [results, Tryz.results86, go_sem, z0, z1]) rfl ⟨rfl, ?_⟩
 have hg := HG.out
 repeat (first | exact HE1.out | refine Below.setCell ?_ (by simp <;> omega) _)
theorem moment1_any (h : HoldD) (m : HoldM) (f : FillD) (Bh Bf : Nat) (w : World) (hi : HoldIn w h m) (q0 : 0 ≤ f.st) (q5 : f.st ≤ 5) (hB : Blk w Bh 40 (holdCells h m)) (fB : Blk w Bf 43 (fillCells f)) :
    Calls Tryz.prog 86 #[.agg (mM f.st), .pointer (some ⟨Bh, 0, none⟩), .pointer (some ⟨Bf, 0, none⟩)] w fun e w' => e = .returned (rv (momS h f).1 (momS h f).2) ∧ Below w.heap.size w w' := by
  have hC := fun W (hW : Below w.heap.size w W) => momF_to h m f W (hi.below hW) q0 q5
  obtain ⟨id, al, ah, vol, mom, hei, t0, t1, u0, u1, v0, v1, h0, h1⟩ := h
  obtain ⟨A, n, c, B, mm, d, C, l, ee⟩ := m
  obtain ⟨fh, st, x0, x1, d0, d1⟩ := f
  dsimp only at hC q0 q5 hB fB ⊢
  rcases st_cases q0 q5 with rfl | rfl | rfl | rfl | rfl | rfl
  · rw [show mM 0 = emptyM from rfl]
    exact moment1_0 _ _ 0 _ _ _ _ _ _ _ id al ah t0 t1 u0 u1 v0 v1 h0 h1 A B C n c mm d l ee fh 0 x0 x1 d0 d1 Bh Bf w hB fB hC
  · rw [show mM 1 = filledM 98 from rfl]
    exact moment1_1 _ _ 0 _ _ _ _ _ _ _ id al ah t0 t1 u0 u1 v0 v1 h0 h1 A B C n c mm d l ee fh 1 x0 x1 d0 d1 Bh Bf w hB fB hC
  · rw [show mM 2 = filledM 99 from rfl]
    exact moment1_2 _ _ 0 _ _ _ _ _ _ _ id al ah t0 t1 u0 u1 v0 v1 h0 h1 A B C n c mm d l ee fh 2 x0 x1 d0 d1 Bh Bf w hB fB hC
  · rw [show mM 3 = partlyM 101 from rfl]
    exact moment1_3 _ _ 0 _ _ _ _ _ _ _ id al ah t0 t1 u0 u1 v0 v1 h0 h1 A B C n c mm d l ee fh 3 x0 x1 d0 d1 Bh Bf w hB fB hC
  · rw [show mM 4 = heldM from rfl]
    exact moment1_0 _ _ 0 _ _ _ _ _ _ _ id al ah t0 t1 u0 u1 v0 v1 h0 h1 A B C n c mm d l ee fh 4 x0 x1 d0 d1 Bh Bf w hB fB hC
  · rw [show mM 5 = heldM from rfl]
    exact moment1_0 _ _ 0 _ _ _ _ _ _ _ id al ah t0 t1 u0 u1 v0 v1 h0 h1 A B C n c mm d l ee fh 5 x0 x1 d0 d1 Bh Bf w hB fB hC
end

section
open Go.RowKit

theorem Boxes.farRow {W : World} {L : List (Nat × TypeId × Array Value)} (h : Boxes W L) {g : Nat} (hg : ∀ p ∈ L, p.1 ≠ g) (cs : Array Value) : Boxes (W.setRow g cs) L := fun p hp => (h p hp).farRow (hg p hp) cs

set_option maxRecDepth 100000 in
set_option maxHeartbeats 4000000 in
theorem mass1_0 (a kv km kh s : Nat) (x y z p q r t : Int) (id al ah t0 t1 u0 u1 v0 v1 h0 h1 : Int) (A B C : Option Addr) (n c mm d l ee : Nat) (fh st x0 x1 d0 d1 : Int) (Bh Bf : Nat) (w : World) (hB : Blk w Bh 40 #[.int .i64 id, .int .i64 al, .int .i64 ah, .slice A n c, .slice B mm d, .slice C l ee, .int .i64 t0, .int .i64 t1, .int .i64 u0, .int .i64 u1, .int .i64 v0, .int .i64 v1, .int .i64 h0, .int .i64 h1]) (fB : Blk w Bf 43 #[.int .i64 fh, .int .i64 st, .int .i64 x0, .int .i64 x1, .int .i64 d0, .int .i64 d1])
  (hC : ∀ W, Below w.heap.size w W → Calls Tryz.prog 128 #[.agg #[.int .i64 id, .int .i64 al, .int .i64 ah, .slice A n c, .slice B mm d, .slice C l ee, .int .i64 t0, .int .i64 t1, .int .i64 u0, .int .i64 u1, .int .i64 v0, .int .i64 v1, .int .i64 h0, .int .i64 h1], .agg #[.int .i64 fh, .int .i64 st, .int .i64 x0, .int .i64 x1, .int .i64 d0, .int .i64 d1]] W fun e w' => e = .returned (rv p q) ∧ Below W.heap.size W w') (hr : (denseS p q d0 d1).1 = r) (ht : (denseS p q d0 d1).2.1 = t) :
  Calls Tryz.prog 48 #[.agg #[fnV a, fnV 128, fnV km, fnV kh, fnV s, .int .i64 x, .int .i64 y, .int .i64 z], .pointer (some ⟨Bh, 0, none⟩), .pointer (some ⟨Bf, 0, none⟩)] w fun e w' => e = .returned (rv r t) ∧ Below w.heap.size w w' := by
 have HE := Lib.hid (show Below w.heap.size w ((w.alloc (.cells #[fnV a, fnV 128, fnV km, fnV kh, fnV s, .int .i64 x, .int .i64 y, .int .i64 z] 99)).alloc (.cells #[.int .i64 0, .int .i64 0] 35)) from below_a2 (Below.refl _ _))
 have HK := Lib.hid (boxes2' w 99 35 #[fnV a, fnV 128, fnV km, fnV kh, fnV s, .int .i64 x, .int .i64 y, .int .i64 z] #[.int .i64 0, .int .i64 0])
 have CC := Lib.hid hC
 have CD : Hid (∀ W, Calls Tryz.prog 43 #[rv p q, rv d0 d1] W fun e w' => e = .returned (rv r t) ∧ Below W.heap.size W w') := Lib.hid fun W => by rw [← hr, ← ht]; exact dense_any p q d0 d1 W
 have HH := Lib.hid (blkOn hB HE.out)
 have HF := Lib.hid (blkOn fB HE.out)
 have lb := hB.lt
 have lf := fB.lt
 clear hB fB hC hr ht
 go_enter Tryz.func48, Tryz.ntmps48
 go_upto_region 1 with fail
 obtain ⟨W0, hW0⟩ : ∃ W0, ((w.alloc (.cells #[fnV a, fnV 128, fnV km, fnV kh, fnV s, .int .i64 x, .int .i64 y, .int .i64 z] 99)).alloc (.cells #[.int .i64 0, .int .i64 0] 35)) = W0 := ⟨_, rfl⟩
 rw [hW0] at HE HK HH HF ⊢
 clear hW0
 obtain ⟨G, hG⟩ : ∃ G, w.heap.size = G := ⟨_, rfl⟩
 rw [hG] at HK lb lf ⊢
 have HG := Lib.hid hG; clear hG
 have HS : Hid (Boxes W0.drew [(G, 99, #[fnV a, fnV 128, fnV km, fnV kh, fnV s, .int .i64 x, .int .i64 y, .int .i64 z]), (Bh, 40, #[.int .i64 id, .int .i64 al, .int .i64 ah, .slice A n c, .slice B mm d, .slice C l ee, .int .i64 t0, .int .i64 t1, .int .i64 u0, .int .i64 u1, .int .i64 v0, .int .i64 v1, .int .i64 h0, .int .i64 h1]), (Bf, 43, #[.int .i64 fh, .int .i64 st, .int .i64 x0, .int .i64 x1, .int .i64 d0, .int .i64 d1])]) := Lib.hid (fun p hp => by
  rcases List.mem_cons.1 hp with rfl | hp
  ·exact HK.out _ (.tail _ (.head _))
  rcases List.mem_cons.1 hp with rfl | hp
  ·exact HH.out
  rcases List.mem_singleton.1 hp with rfl
  exact HF.out)
 clear HH HF
 refine wp_region_held_drew (S := fun w' => Boxes w' [(G, 99, #[fnV a, fnV 128, fnV km, fnV kh, fnV s, .int .i64 x, .int .i64 y, .int .i64 z]), (Bh, 40, #[.int .i64 id, .int .i64 al, .int .i64 ah, .slice A n c, .slice B mm d, .slice C l ee, .int .i64 t0, .int .i64 t1, .int .i64 u0, .int .i64 u1, .int .i64 v0, .int .i64 v1, .int .i64 h0, .int .i64 h1]), (Bf, 43, #[.int .i64 fh, .int .i64 st, .int .i64 x0, .int .i64 x1, .int .i64 d0, .int .i64 d1])]) (by kernel_rfl) HS.out (fun hHeld => ?_)
 refine tK 5 (i := 0) (v := .pointer (some ⟨G, 1, none⟩)) rfl rfl (by kernel_rfl) ?_ hHeld ?_
 ·intro w hSw; clear hSw; go_simp; try with_reducible rfl
 simp only [uZ, uS]
 refine tK 6 (i := 1) (v := fnV 128) rfl rfl (by kernel_rfl) ?_ hHeld ?_
 ·intro w hSw; have c := (hSw _ (.head _)).cell 1; simp at c; clear hSw; go_simp; try with_reducible rfl
 simp only [uZ, uS]
 refine tK 7 (i := 2) (v := .agg #[.int .i64 id, .int .i64 al, .int .i64 ah, .slice A n c, .slice B mm d, .slice C l ee, .int .i64 t0, .int .i64 t1, .int .i64 u0, .int .i64 u1, .int .i64 v0, .int .i64 v1, .int .i64 h0, .int .i64 h1]) rfl rfl (by kernel_rfl) ?_ hHeld ?_
 ·intro w hSw; have hz := (hSw _ (.tail _ (.head _))); have c0 := hz.cell 0; have c1 := hz.cell 1; have c2 := hz.cell 2; have c3 := hz.cell 3; have c4 := hz.cell 4; have c5 := hz.cell 5; have c6 := hz.cell 6; have c7 := hz.cell 7; have c8 := hz.cell 8; have c9 := hz.cell 9; have c10 := hz.cell 10; have c11 := hz.cell 11; have c12 := hz.cell 12; have c13 := hz.cell 13; simp at c0 c1 c2 c3 c4 c5 c6 c7 c8 c9 c10 c11 c12 c13; clear hz hSw; go_simp; try with_reducible rfl
 simp only [uZ, uS]
 refine tK 8 (i := 3) (v := .agg #[.int .i64 fh, .int .i64 st, .int .i64 x0, .int .i64 x1, .int .i64 d0, .int .i64 d1]) rfl rfl (by kernel_rfl) ?_ hHeld ?_
 ·intro w hSw; have hz := (hSw _ (.tail _ (.tail _ (.head _)))); have c0 := hz.cell 0; have c1 := hz.cell 1; have c2 := hz.cell 2; have c3 := hz.cell 3; have c4 := hz.cell 4; have c5 := hz.cell 5; simp at c0 c1 c2 c3 c4 c5; clear hz hSw; go_simp; try with_reducible rfl
 simp only [uZ, uS]
 refine tK 10 (i := 5) (v := .pointer (some ⟨Bf, 4, none⟩)) rfl rfl (by kernel_rfl) ?_ hHeld ?_
 ·intro w hSw; clear hSw; go_simp; try with_reducible rfl
 simp only [uZ, uS]
 refine tK 11 (i := 6) (v := rv d0 d1) rfl rfl (by kernel_rfl) ?_ hHeld ?_
 ·intro w hSw; have hz := (hSw _ (.tail _ (.tail _ (.head _)))); have c4 := hz.cell 4; have c5 := hz.cell 5; simp at c4 c5; clear hz hSw; go_simp; try with_reducible rfl
 simp only [uZ, uS]
 refine wpAnyH_ready (rs := [4]) (by kernel_rfl) (by simp) ?_
 refine AllReadyH.cons rfl (fun K hK => ?_) AllReadyH.nil
 go_simp
 (with_reducible refine (CC.out _ (below_then HE.out (below_drew1 _))).mono ?_)
 rintro e y1 ⟨rfl, hb⟩
 have HE3 := Lib.hid (below_then (below_then HE.out (below_drew1 _)) hb)
 have HK3 := Lib.hid ((HK.out.on (below_drew1 _)).on hb)
 have hS3 := hHeld.on hb
 clear hb
 refine hK.out _ _ (hS3) (fun hHeld2 => ?_)
 try simp only [Act.put, uA, uZ, uS]
 clear hK K hHeld
 have hHeld := hHeld2
 clear hHeld2
 clear hS3 HE HK
 refine wpAnyH_ready (rs := [7]) (by kernel_rfl) (by simp) ?_
 refine AllReadyH.cons rfl (fun K hK => ?_) AllReadyH.nil
 go_simp
 (with_reducible refine (CD.out _).mono ?_)
 rintro e y2 ⟨rfl, hb⟩
 have HE4 := Lib.hid (below_then HE3.out hb)
 have HK4 := Lib.hid (HK3.out.on hb)
 have hS4 := hHeld.on hb
 clear hb
 refine hK.out _ _ (hS4) (fun hHeld2 => ?_)
 try simp only [Act.put, uA, uZ, uS]
 clear hK K hHeld
 have hHeld := hHeld2
 clear hHeld2
 clear hS4 HE3 HK3
 refine wpAnyH_ready (rs := [8]) (by kernel_rfl) (by simp) ?_
 refine AllReadyH.cons rfl (fun K hK => ?_) AllReadyH.nil
 rw [if_pos (by kernel_rfl)]
 have HKR : Hid (Blk (y2.setRow (G + 1) #[.int .i64 r, .int .i64 t]) (G + 1) 35 #[.int .i64 r, .int .i64 t]) := Lib.hid (setRow_heap y2 (G + 1) _ _ 35 _ (HK4.out _ (.head _)))
 have HE6 := Lib.hid (below_setRow HE4.out (show w.heap.size ≤ G + 1 by have := HG.out; omega) #[.int .i64 r, .int .i64 t])
 have hS6 : Boxes (y2.setRow (G + 1) #[.int .i64 r, .int .i64 t]) [(G, 99, #[fnV a, fnV 128, fnV km, fnV kh, fnV s, .int .i64 x, .int .i64 y, .int .i64 z]), (Bh, 40, #[.int .i64 id, .int .i64 al, .int .i64 ah, .slice A n c, .slice B mm d, .slice C l ee, .int .i64 t0, .int .i64 t1, .int .i64 u0, .int .i64 u1, .int .i64 v0, .int .i64 v1, .int .i64 h0, .int .i64 h1]), (Bf, 43, #[.int .i64 fh, .int .i64 st, .int .i64 x0, .int .i64 x1, .int .i64 d0, .int .i64 d1])] := hHeld.farRow (fun p hp => by
  rcases List.mem_cons.1 hp with rfl | hp
  ·show G ≠ G + 1; omega
  rcases List.mem_cons.1 hp with rfl | hp
  ·show Bh ≠ G + 1; omega
  rcases List.mem_singleton.1 hp with rfl
  show Bf ≠ G + 1; omega) _
 refine wp_store_row 35 (.tmp 4) (.tmp 12) rfl (G + 1) #[.int .i64 r, .int .i64 t] rfl rfl 35 _ (HK4.out _ (.head _)) (by kernel_rfl) rfl (by kernel_rfl) ?_
 obtain ⟨W6, hW6⟩ : ∃ W6, y2.setRow (G + 1) #[.int .i64 r, .int .i64 t] = W6 := ⟨_, rfl⟩
 rw [hW6] at HKR HE6 hS6 ⊢
 refine hK.out _ _ hS6 (fun hHeld2 => ?_)
 clear hW6 hK K hHeld hHeld2 hS6
 refine wpAnyH_done (by kernel_rfl) ?_ _
 go_wp2
 exact bodyPost_ret (v := .agg #[.int .i64 r, .int .i64 t]) (results_cell_row Tryz.results48 _ _ (G + 1) 35 #[.int .i64 r, .int .i64 t] (0, 0) _ rfl HKR.out Tryz.underlying35 rfl (by kernel_rfl)) rfl ⟨rfl, HE6.out⟩

set_option maxRecDepth 100000 in
set_option maxHeartbeats 4000000 in
theorem mass1_1 (a kv km kh s : Nat) (x y z p q r t : Int) (id al ah t0 t1 u0 u1 v0 v1 h0 h1 : Int) (A B C : Option Addr) (n c mm d l ee : Nat) (fh st x0 x1 d0 d1 : Int) (Bh Bf : Nat) (w : World) (hB : Blk w Bh 40 #[.int .i64 id, .int .i64 al, .int .i64 ah, .slice A n c, .slice B mm d, .slice C l ee, .int .i64 t0, .int .i64 t1, .int .i64 u0, .int .i64 u1, .int .i64 v0, .int .i64 v1, .int .i64 h0, .int .i64 h1]) (fB : Blk w Bf 43 #[.int .i64 fh, .int .i64 st, .int .i64 x0, .int .i64 x1, .int .i64 d0, .int .i64 d1])
  (hC : ∀ W, Below w.heap.size w W → Calls Tryz.prog 131 #[.agg #[.int .i64 id, .int .i64 al, .int .i64 ah, .slice A n c, .slice B mm d, .slice C l ee, .int .i64 t0, .int .i64 t1, .int .i64 u0, .int .i64 u1, .int .i64 v0, .int .i64 v1, .int .i64 h0, .int .i64 h1], .agg #[.int .i64 fh, .int .i64 st, .int .i64 x0, .int .i64 x1, .int .i64 d0, .int .i64 d1]] W fun e w' => e = .returned (rv p q) ∧ Below W.heap.size W w') (hr : (denseS p q d0 d1).1 = r) (ht : (denseS p q d0 d1).2.1 = t) :
  Calls Tryz.prog 48 #[.agg #[fnV a, fnV 131, fnV km, fnV kh, fnV s, .int .i64 x, .int .i64 y, .int .i64 z], .pointer (some ⟨Bh, 0, none⟩), .pointer (some ⟨Bf, 0, none⟩)] w fun e w' => e = .returned (rv r t) ∧ Below w.heap.size w w' := by
 have HE := Lib.hid (show Below w.heap.size w ((w.alloc (.cells #[fnV a, fnV 131, fnV km, fnV kh, fnV s, .int .i64 x, .int .i64 y, .int .i64 z] 99)).alloc (.cells #[.int .i64 0, .int .i64 0] 35)) from below_a2 (Below.refl _ _))
 have HK := Lib.hid (boxes2' w 99 35 #[fnV a, fnV 131, fnV km, fnV kh, fnV s, .int .i64 x, .int .i64 y, .int .i64 z] #[.int .i64 0, .int .i64 0])
 have CC := Lib.hid hC
 have CD : Hid (∀ W, Calls Tryz.prog 43 #[rv p q, rv d0 d1] W fun e w' => e = .returned (rv r t) ∧ Below W.heap.size W w') := Lib.hid fun W => by rw [← hr, ← ht]; exact dense_any p q d0 d1 W
 have HH := Lib.hid (blkOn hB HE.out)
 have HF := Lib.hid (blkOn fB HE.out)
 have lb := hB.lt
 have lf := fB.lt
 clear hB fB hC hr ht
 go_enter Tryz.func48, Tryz.ntmps48
 go_upto_region 1 with fail
 obtain ⟨W0, hW0⟩ : ∃ W0, ((w.alloc (.cells #[fnV a, fnV 131, fnV km, fnV kh, fnV s, .int .i64 x, .int .i64 y, .int .i64 z] 99)).alloc (.cells #[.int .i64 0, .int .i64 0] 35)) = W0 := ⟨_, rfl⟩
 rw [hW0] at HE HK HH HF ⊢
 clear hW0
 obtain ⟨G, hG⟩ : ∃ G, w.heap.size = G := ⟨_, rfl⟩
 rw [hG] at HK lb lf ⊢
 have HG := Lib.hid hG; clear hG
 have HS : Hid (Boxes W0.drew [(G, 99, #[fnV a, fnV 131, fnV km, fnV kh, fnV s, .int .i64 x, .int .i64 y, .int .i64 z]), (Bh, 40, #[.int .i64 id, .int .i64 al, .int .i64 ah, .slice A n c, .slice B mm d, .slice C l ee, .int .i64 t0, .int .i64 t1, .int .i64 u0, .int .i64 u1, .int .i64 v0, .int .i64 v1, .int .i64 h0, .int .i64 h1]), (Bf, 43, #[.int .i64 fh, .int .i64 st, .int .i64 x0, .int .i64 x1, .int .i64 d0, .int .i64 d1])]) := Lib.hid (fun p hp => by
  rcases List.mem_cons.1 hp with rfl | hp
  ·exact HK.out _ (.tail _ (.head _))
  rcases List.mem_cons.1 hp with rfl | hp
  ·exact HH.out
  rcases List.mem_singleton.1 hp with rfl
  exact HF.out)
 clear HH HF
 refine wp_region_held_drew (S := fun w' => Boxes w' [(G, 99, #[fnV a, fnV 131, fnV km, fnV kh, fnV s, .int .i64 x, .int .i64 y, .int .i64 z]), (Bh, 40, #[.int .i64 id, .int .i64 al, .int .i64 ah, .slice A n c, .slice B mm d, .slice C l ee, .int .i64 t0, .int .i64 t1, .int .i64 u0, .int .i64 u1, .int .i64 v0, .int .i64 v1, .int .i64 h0, .int .i64 h1]), (Bf, 43, #[.int .i64 fh, .int .i64 st, .int .i64 x0, .int .i64 x1, .int .i64 d0, .int .i64 d1])]) (by kernel_rfl) HS.out (fun hHeld => ?_)
 refine tK 5 (i := 0) (v := .pointer (some ⟨G, 1, none⟩)) rfl rfl (by kernel_rfl) ?_ hHeld ?_
 ·intro w hSw; clear hSw; go_simp; try with_reducible rfl
 simp only [uZ, uS]
 refine tK 6 (i := 1) (v := fnV 131) rfl rfl (by kernel_rfl) ?_ hHeld ?_
 ·intro w hSw; have c := (hSw _ (.head _)).cell 1; simp at c; clear hSw; go_simp; try with_reducible rfl
 simp only [uZ, uS]
 refine tK 7 (i := 2) (v := .agg #[.int .i64 id, .int .i64 al, .int .i64 ah, .slice A n c, .slice B mm d, .slice C l ee, .int .i64 t0, .int .i64 t1, .int .i64 u0, .int .i64 u1, .int .i64 v0, .int .i64 v1, .int .i64 h0, .int .i64 h1]) rfl rfl (by kernel_rfl) ?_ hHeld ?_
 ·intro w hSw; have hz := (hSw _ (.tail _ (.head _))); have c0 := hz.cell 0; have c1 := hz.cell 1; have c2 := hz.cell 2; have c3 := hz.cell 3; have c4 := hz.cell 4; have c5 := hz.cell 5; have c6 := hz.cell 6; have c7 := hz.cell 7; have c8 := hz.cell 8; have c9 := hz.cell 9; have c10 := hz.cell 10; have c11 := hz.cell 11; have c12 := hz.cell 12; have c13 := hz.cell 13; simp at c0 c1 c2 c3 c4 c5 c6 c7 c8 c9 c10 c11 c12 c13; clear hz hSw; go_simp; try with_reducible rfl
 simp only [uZ, uS]
 refine tK 8 (i := 3) (v := .agg #[.int .i64 fh, .int .i64 st, .int .i64 x0, .int .i64 x1, .int .i64 d0, .int .i64 d1]) rfl rfl (by kernel_rfl) ?_ hHeld ?_
 ·intro w hSw; have hz := (hSw _ (.tail _ (.tail _ (.head _)))); have c0 := hz.cell 0; have c1 := hz.cell 1; have c2 := hz.cell 2; have c3 := hz.cell 3; have c4 := hz.cell 4; have c5 := hz.cell 5; simp at c0 c1 c2 c3 c4 c5; clear hz hSw; go_simp; try with_reducible rfl
 simp only [uZ, uS]
 refine tK 10 (i := 5) (v := .pointer (some ⟨Bf, 4, none⟩)) rfl rfl (by kernel_rfl) ?_ hHeld ?_
 ·intro w hSw; clear hSw; go_simp; try with_reducible rfl
 simp only [uZ, uS]
 refine tK 11 (i := 6) (v := rv d0 d1) rfl rfl (by kernel_rfl) ?_ hHeld ?_
 ·intro w hSw; have hz := (hSw _ (.tail _ (.tail _ (.head _)))); have c4 := hz.cell 4; have c5 := hz.cell 5; simp at c4 c5; clear hz hSw; go_simp; try with_reducible rfl
 simp only [uZ, uS]
 refine wpAnyH_ready (rs := [4]) (by kernel_rfl) (by simp) ?_
 refine AllReadyH.cons rfl (fun K hK => ?_) AllReadyH.nil
 go_simp
 (with_reducible refine (CC.out _ (below_then HE.out (below_drew1 _))).mono ?_)
 rintro e y1 ⟨rfl, hb⟩
 have HE3 := Lib.hid (below_then (below_then HE.out (below_drew1 _)) hb)
 have HK3 := Lib.hid ((HK.out.on (below_drew1 _)).on hb)
 have hS3 := hHeld.on hb
 clear hb
 refine hK.out _ _ (hS3) (fun hHeld2 => ?_)
 try simp only [Act.put, uA, uZ, uS]
 clear hK K hHeld
 have hHeld := hHeld2
 clear hHeld2
 clear hS3 HE HK
 refine wpAnyH_ready (rs := [7]) (by kernel_rfl) (by simp) ?_
 refine AllReadyH.cons rfl (fun K hK => ?_) AllReadyH.nil
 go_simp
 (with_reducible refine (CD.out _).mono ?_)
 rintro e y2 ⟨rfl, hb⟩
 have HE4 := Lib.hid (below_then HE3.out hb)
 have HK4 := Lib.hid (HK3.out.on hb)
 have hS4 := hHeld.on hb
 clear hb
 refine hK.out _ _ (hS4) (fun hHeld2 => ?_)
 try simp only [Act.put, uA, uZ, uS]
 clear hK K hHeld
 have hHeld := hHeld2
 clear hHeld2
 clear hS4 HE3 HK3
 refine wpAnyH_ready (rs := [8]) (by kernel_rfl) (by simp) ?_
 refine AllReadyH.cons rfl (fun K hK => ?_) AllReadyH.nil
 rw [if_pos (by kernel_rfl)]
 have HKR : Hid (Blk (y2.setRow (G + 1) #[.int .i64 r, .int .i64 t]) (G + 1) 35 #[.int .i64 r, .int .i64 t]) := Lib.hid (setRow_heap y2 (G + 1) _ _ 35 _ (HK4.out _ (.head _)))
 have HE6 := Lib.hid (below_setRow HE4.out (show w.heap.size ≤ G + 1 by have := HG.out; omega) #[.int .i64 r, .int .i64 t])
 have hS6 : Boxes (y2.setRow (G + 1) #[.int .i64 r, .int .i64 t]) [(G, 99, #[fnV a, fnV 131, fnV km, fnV kh, fnV s, .int .i64 x, .int .i64 y, .int .i64 z]), (Bh, 40, #[.int .i64 id, .int .i64 al, .int .i64 ah, .slice A n c, .slice B mm d, .slice C l ee, .int .i64 t0, .int .i64 t1, .int .i64 u0, .int .i64 u1, .int .i64 v0, .int .i64 v1, .int .i64 h0, .int .i64 h1]), (Bf, 43, #[.int .i64 fh, .int .i64 st, .int .i64 x0, .int .i64 x1, .int .i64 d0, .int .i64 d1])] := hHeld.farRow (fun p hp => by
  rcases List.mem_cons.1 hp with rfl | hp
  ·show G ≠ G + 1; omega
  rcases List.mem_cons.1 hp with rfl | hp
  ·show Bh ≠ G + 1; omega
  rcases List.mem_singleton.1 hp with rfl
  show Bf ≠ G + 1; omega) _
 refine wp_store_row 35 (.tmp 4) (.tmp 12) rfl (G + 1) #[.int .i64 r, .int .i64 t] rfl rfl 35 _ (HK4.out _ (.head _)) (by kernel_rfl) rfl (by kernel_rfl) ?_
 obtain ⟨W6, hW6⟩ : ∃ W6, y2.setRow (G + 1) #[.int .i64 r, .int .i64 t] = W6 := ⟨_, rfl⟩
 rw [hW6] at HKR HE6 hS6 ⊢
 refine hK.out _ _ hS6 (fun hHeld2 => ?_)
 clear hW6 hK K hHeld hHeld2 hS6
 refine wpAnyH_done (by kernel_rfl) ?_ _
 go_wp2
 exact bodyPost_ret (v := .agg #[.int .i64 r, .int .i64 t]) (results_cell_row Tryz.results48 _ _ (G + 1) 35 #[.int .i64 r, .int .i64 t] (0, 0) _ rfl HKR.out Tryz.underlying35 rfl (by kernel_rfl)) rfl ⟨rfl, HE6.out⟩

set_option maxRecDepth 100000 in
set_option maxHeartbeats 4000000 in
theorem mass1_2 (a kv km kh s : Nat) (x y z p q r t : Int) (id al ah t0 t1 u0 u1 v0 v1 h0 h1 : Int) (A B C : Option Addr) (n c mm d l ee : Nat) (fh st x0 x1 d0 d1 : Int) (Bh Bf : Nat) (w : World) (hB : Blk w Bh 40 #[.int .i64 id, .int .i64 al, .int .i64 ah, .slice A n c, .slice B mm d, .slice C l ee, .int .i64 t0, .int .i64 t1, .int .i64 u0, .int .i64 u1, .int .i64 v0, .int .i64 v1, .int .i64 h0, .int .i64 h1]) (fB : Blk w Bf 43 #[.int .i64 fh, .int .i64 st, .int .i64 x0, .int .i64 x1, .int .i64 d0, .int .i64 d1])
  (hC : ∀ W, Below w.heap.size w W → Calls Tryz.prog 135 #[.agg #[.int .i64 id, .int .i64 al, .int .i64 ah, .slice A n c, .slice B mm d, .slice C l ee, .int .i64 t0, .int .i64 t1, .int .i64 u0, .int .i64 u1, .int .i64 v0, .int .i64 v1, .int .i64 h0, .int .i64 h1], .agg #[.int .i64 fh, .int .i64 st, .int .i64 x0, .int .i64 x1, .int .i64 d0, .int .i64 d1]] W fun e w' => e = .returned (rv p q) ∧ Below W.heap.size W w') (hr : (denseS p q d0 d1).1 = r) (ht : (denseS p q d0 d1).2.1 = t) :
  Calls Tryz.prog 48 #[.agg #[fnV a, fnV 135, fnV km, fnV kh, fnV s, .int .i64 x, .int .i64 y, .int .i64 z], .pointer (some ⟨Bh, 0, none⟩), .pointer (some ⟨Bf, 0, none⟩)] w fun e w' => e = .returned (rv r t) ∧ Below w.heap.size w w' := by
 have HE := Lib.hid (show Below w.heap.size w ((w.alloc (.cells #[fnV a, fnV 135, fnV km, fnV kh, fnV s, .int .i64 x, .int .i64 y, .int .i64 z] 99)).alloc (.cells #[.int .i64 0, .int .i64 0] 35)) from below_a2 (Below.refl _ _))
 have HK := Lib.hid (boxes2' w 99 35 #[fnV a, fnV 135, fnV km, fnV kh, fnV s, .int .i64 x, .int .i64 y, .int .i64 z] #[.int .i64 0, .int .i64 0])
 have CC := Lib.hid hC
 have CD : Hid (∀ W, Calls Tryz.prog 43 #[rv p q, rv d0 d1] W fun e w' => e = .returned (rv r t) ∧ Below W.heap.size W w') := Lib.hid fun W => by rw [← hr, ← ht]; exact dense_any p q d0 d1 W
 have HH := Lib.hid (blkOn hB HE.out)
 have HF := Lib.hid (blkOn fB HE.out)
 have lb := hB.lt
 have lf := fB.lt
 clear hB fB hC hr ht
 go_enter Tryz.func48, Tryz.ntmps48
 go_upto_region 1 with fail
 obtain ⟨W0, hW0⟩ : ∃ W0, ((w.alloc (.cells #[fnV a, fnV 135, fnV km, fnV kh, fnV s, .int .i64 x, .int .i64 y, .int .i64 z] 99)).alloc (.cells #[.int .i64 0, .int .i64 0] 35)) = W0 := ⟨_, rfl⟩
 rw [hW0] at HE HK HH HF ⊢
 clear hW0
 obtain ⟨G, hG⟩ : ∃ G, w.heap.size = G := ⟨_, rfl⟩
 rw [hG] at HK lb lf ⊢
 have HG := Lib.hid hG; clear hG
 have HS : Hid (Boxes W0.drew [(G, 99, #[fnV a, fnV 135, fnV km, fnV kh, fnV s, .int .i64 x, .int .i64 y, .int .i64 z]), (Bh, 40, #[.int .i64 id, .int .i64 al, .int .i64 ah, .slice A n c, .slice B mm d, .slice C l ee, .int .i64 t0, .int .i64 t1, .int .i64 u0, .int .i64 u1, .int .i64 v0, .int .i64 v1, .int .i64 h0, .int .i64 h1]), (Bf, 43, #[.int .i64 fh, .int .i64 st, .int .i64 x0, .int .i64 x1, .int .i64 d0, .int .i64 d1])]) := Lib.hid (fun p hp => by
  rcases List.mem_cons.1 hp with rfl | hp
  ·exact HK.out _ (.tail _ (.head _))
  rcases List.mem_cons.1 hp with rfl | hp
  ·exact HH.out
  rcases List.mem_singleton.1 hp with rfl
  exact HF.out)
 clear HH HF
 refine wp_region_held_drew (S := fun w' => Boxes w' [(G, 99, #[fnV a, fnV 135, fnV km, fnV kh, fnV s, .int .i64 x, .int .i64 y, .int .i64 z]), (Bh, 40, #[.int .i64 id, .int .i64 al, .int .i64 ah, .slice A n c, .slice B mm d, .slice C l ee, .int .i64 t0, .int .i64 t1, .int .i64 u0, .int .i64 u1, .int .i64 v0, .int .i64 v1, .int .i64 h0, .int .i64 h1]), (Bf, 43, #[.int .i64 fh, .int .i64 st, .int .i64 x0, .int .i64 x1, .int .i64 d0, .int .i64 d1])]) (by kernel_rfl) HS.out (fun hHeld => ?_)
 refine tK 5 (i := 0) (v := .pointer (some ⟨G, 1, none⟩)) rfl rfl (by kernel_rfl) ?_ hHeld ?_
 ·intro w hSw; clear hSw; go_simp; try with_reducible rfl
 simp only [uZ, uS]
 refine tK 6 (i := 1) (v := fnV 135) rfl rfl (by kernel_rfl) ?_ hHeld ?_
 ·intro w hSw; have c := (hSw _ (.head _)).cell 1; simp at c; clear hSw; go_simp; try with_reducible rfl
 simp only [uZ, uS]
 refine tK 7 (i := 2) (v := .agg #[.int .i64 id, .int .i64 al, .int .i64 ah, .slice A n c, .slice B mm d, .slice C l ee, .int .i64 t0, .int .i64 t1, .int .i64 u0, .int .i64 u1, .int .i64 v0, .int .i64 v1, .int .i64 h0, .int .i64 h1]) rfl rfl (by kernel_rfl) ?_ hHeld ?_
 ·intro w hSw; have hz := (hSw _ (.tail _ (.head _))); have c0 := hz.cell 0; have c1 := hz.cell 1; have c2 := hz.cell 2; have c3 := hz.cell 3; have c4 := hz.cell 4; have c5 := hz.cell 5; have c6 := hz.cell 6; have c7 := hz.cell 7; have c8 := hz.cell 8; have c9 := hz.cell 9; have c10 := hz.cell 10; have c11 := hz.cell 11; have c12 := hz.cell 12; have c13 := hz.cell 13; simp at c0 c1 c2 c3 c4 c5 c6 c7 c8 c9 c10 c11 c12 c13; clear hz hSw; go_simp; try with_reducible rfl
 simp only [uZ, uS]
 refine tK 8 (i := 3) (v := .agg #[.int .i64 fh, .int .i64 st, .int .i64 x0, .int .i64 x1, .int .i64 d0, .int .i64 d1]) rfl rfl (by kernel_rfl) ?_ hHeld ?_
 ·intro w hSw; have hz := (hSw _ (.tail _ (.tail _ (.head _)))); have c0 := hz.cell 0; have c1 := hz.cell 1; have c2 := hz.cell 2; have c3 := hz.cell 3; have c4 := hz.cell 4; have c5 := hz.cell 5; simp at c0 c1 c2 c3 c4 c5; clear hz hSw; go_simp; try with_reducible rfl
 simp only [uZ, uS]
 refine tK 10 (i := 5) (v := .pointer (some ⟨Bf, 4, none⟩)) rfl rfl (by kernel_rfl) ?_ hHeld ?_
 ·intro w hSw; clear hSw; go_simp; try with_reducible rfl
 simp only [uZ, uS]
 refine tK 11 (i := 6) (v := rv d0 d1) rfl rfl (by kernel_rfl) ?_ hHeld ?_
 ·intro w hSw; have hz := (hSw _ (.tail _ (.tail _ (.head _)))); have c4 := hz.cell 4; have c5 := hz.cell 5; simp at c4 c5; clear hz hSw; go_simp; try with_reducible rfl
 simp only [uZ, uS]
 refine wpAnyH_ready (rs := [4]) (by kernel_rfl) (by simp) ?_
 refine AllReadyH.cons rfl (fun K hK => ?_) AllReadyH.nil
 go_simp
 (with_reducible refine (CC.out _ (below_then HE.out (below_drew1 _))).mono ?_)
 rintro e y1 ⟨rfl, hb⟩
 have HE3 := Lib.hid (below_then (below_then HE.out (below_drew1 _)) hb)
 have HK3 := Lib.hid ((HK.out.on (below_drew1 _)).on hb)
 have hS3 := hHeld.on hb
 clear hb
 refine hK.out _ _ (hS3) (fun hHeld2 => ?_)
 try simp only [Act.put, uA, uZ, uS]
 clear hK K hHeld
 have hHeld := hHeld2
 clear hHeld2
 clear hS3 HE HK
 refine wpAnyH_ready (rs := [7]) (by kernel_rfl) (by simp) ?_
 refine AllReadyH.cons rfl (fun K hK => ?_) AllReadyH.nil
 go_simp
 (with_reducible refine (CD.out _).mono ?_)
 rintro e y2 ⟨rfl, hb⟩
 have HE4 := Lib.hid (below_then HE3.out hb)
 have HK4 := Lib.hid (HK3.out.on hb)
 have hS4 := hHeld.on hb
 clear hb
 refine hK.out _ _ (hS4) (fun hHeld2 => ?_)
 try simp only [Act.put, uA, uZ, uS]
 clear hK K hHeld
 have hHeld := hHeld2
 clear hHeld2
 clear hS4 HE3 HK3
 refine wpAnyH_ready (rs := [8]) (by kernel_rfl) (by simp) ?_
 refine AllReadyH.cons rfl (fun K hK => ?_) AllReadyH.nil
 rw [if_pos (by kernel_rfl)]
 have HKR : Hid (Blk (y2.setRow (G + 1) #[.int .i64 r, .int .i64 t]) (G + 1) 35 #[.int .i64 r, .int .i64 t]) := Lib.hid (setRow_heap y2 (G + 1) _ _ 35 _ (HK4.out _ (.head _)))
 have HE6 := Lib.hid (below_setRow HE4.out (show w.heap.size ≤ G + 1 by have := HG.out; omega) #[.int .i64 r, .int .i64 t])
 have hS6 : Boxes (y2.setRow (G + 1) #[.int .i64 r, .int .i64 t]) [(G, 99, #[fnV a, fnV 135, fnV km, fnV kh, fnV s, .int .i64 x, .int .i64 y, .int .i64 z]), (Bh, 40, #[.int .i64 id, .int .i64 al, .int .i64 ah, .slice A n c, .slice B mm d, .slice C l ee, .int .i64 t0, .int .i64 t1, .int .i64 u0, .int .i64 u1, .int .i64 v0, .int .i64 v1, .int .i64 h0, .int .i64 h1]), (Bf, 43, #[.int .i64 fh, .int .i64 st, .int .i64 x0, .int .i64 x1, .int .i64 d0, .int .i64 d1])] := hHeld.farRow (fun p hp => by
  rcases List.mem_cons.1 hp with rfl | hp
  ·show G ≠ G + 1; omega
  rcases List.mem_cons.1 hp with rfl | hp
  ·show Bh ≠ G + 1; omega
  rcases List.mem_singleton.1 hp with rfl
  show Bf ≠ G + 1; omega) _
 refine wp_store_row 35 (.tmp 4) (.tmp 12) rfl (G + 1) #[.int .i64 r, .int .i64 t] rfl rfl 35 _ (HK4.out _ (.head _)) (by kernel_rfl) rfl (by kernel_rfl) ?_
 obtain ⟨W6, hW6⟩ : ∃ W6, y2.setRow (G + 1) #[.int .i64 r, .int .i64 t] = W6 := ⟨_, rfl⟩
 rw [hW6] at HKR HE6 hS6 ⊢
 refine hK.out _ _ hS6 (fun hHeld2 => ?_)
 clear hW6 hK K hHeld hHeld2 hS6
 refine wpAnyH_done (by kernel_rfl) ?_ _
 go_wp2
 exact bodyPost_ret (v := .agg #[.int .i64 r, .int .i64 t]) (results_cell_row Tryz.results48 _ _ (G + 1) 35 #[.int .i64 r, .int .i64 t] (0, 0) _ rfl HKR.out Tryz.underlying35 rfl (by kernel_rfl)) rfl ⟨rfl, HE6.out⟩
theorem mass1_any (h : HoldD) (m : HoldM) (f : FillD) (Bh Bf : Nat) (w : World) (hi : HoldIn w h m) (q0 : 0 ≤ f.st) (q5 : f.st ≤ 5) (hB : Blk w Bh 40 (holdCells h m)) (fB : Blk w Bf 43 (fillCells f)) :
    Calls Tryz.prog 48 #[.agg (mM f.st), .pointer (some ⟨Bh, 0, none⟩), .pointer (some ⟨Bf, 0, none⟩)] w fun e w' => e = .returned (rv (denseS (volS h f).1 (volS h f).2 f.d0 f.d1).1 (denseS (volS h f).1 (volS h f).2 f.d0 f.d1).2.1) ∧ Below w.heap.size w w' := by
  have hC := fun W (hW : Below w.heap.size w W) => volF_to h m f W (hi.below hW) q0 q5
  obtain ⟨id, al, ah, vol, mom, hei, t0, t1, u0, u1, v0, v1, h0, h1⟩ := h
  obtain ⟨A, n, c, B, mm, d, C, l, ee⟩ := m
  obtain ⟨fh, st, x0, x1, d0, d1⟩ := f
  dsimp only at hC q0 q5 hB fB ⊢
  rcases st_cases q0 q5 with rfl | rfl | rfl | rfl | rfl | rfl
  · rw [show mM 0 = emptyM from rfl]
    exact mass1_0 _ 0 _ _ _ _ _ _ _ _ _ _ id al ah t0 t1 u0 u1 v0 v1 h0 h1 A B C n c mm d l ee fh 0 x0 x1 d0 d1 Bh Bf w hB fB hC rfl rfl
  · rw [show mM 1 = filledM 98 from rfl]
    exact mass1_1 _ 0 _ _ _ _ _ _ _ _ _ _ id al ah t0 t1 u0 u1 v0 v1 h0 h1 A B C n c mm d l ee fh 1 x0 x1 d0 d1 Bh Bf w hB fB hC rfl rfl
  · rw [show mM 2 = filledM 99 from rfl]
    exact mass1_1 _ 0 _ _ _ _ _ _ _ _ _ _ id al ah t0 t1 u0 u1 v0 v1 h0 h1 A B C n c mm d l ee fh 2 x0 x1 d0 d1 Bh Bf w hB fB hC rfl rfl
  · rw [show mM 3 = partlyM 101 from rfl]
    exact mass1_2 _ 0 _ _ _ _ _ _ _ _ _ _ id al ah t0 t1 u0 u1 v0 v1 h0 h1 A B C n c mm d l ee fh 3 x0 x1 d0 d1 Bh Bf w hB fB hC rfl rfl
  · rw [show mM 4 = heldM from rfl]
    exact mass1_2 _ 0 _ _ _ _ _ _ _ _ _ _ id al ah t0 t1 u0 u1 v0 v1 h0 h1 A B C n c mm d l ee fh 4 x0 x1 d0 d1 Bh Bf w hB fB hC rfl rfl
  · rw [show mM 5 = heldM from rfl]
    exact mass1_2 _ 0 _ _ _ _ _ _ _ _ _ _ id al ah t0 t1 u0 u1 v0 v1 h0 h1 A B C n c mm d l ee fh 5 x0 x1 d0 d1 Bh Bf w hB fB hC rfl rfl

set_option maxRecDepth 100000 in
set_option maxHeartbeats 4000000 in
theorem heel1_0 (a kv km kh s : Nat) (x y z p q r t : Int) (id al ah t0 t1 u0 u1 v0 v1 h0 h1 : Int) (A B C : Option Addr) (n c mm d l ee : Nat) (fh st x0 x1 d0 d1 : Int) (Bh Bf : Nat) (w : World) (hB : Blk w Bh 40 #[.int .i64 id, .int .i64 al, .int .i64 ah, .slice A n c, .slice B mm d, .slice C l ee, .int .i64 t0, .int .i64 t1, .int .i64 u0, .int .i64 u1, .int .i64 v0, .int .i64 v1, .int .i64 h0, .int .i64 h1]) (fB : Blk w Bf 43 #[.int .i64 fh, .int .i64 st, .int .i64 x0, .int .i64 x1, .int .i64 d0, .int .i64 d1])
  (hC : ∀ W, Below w.heap.size w W → Calls Tryz.prog 128 #[.agg #[.int .i64 id, .int .i64 al, .int .i64 ah, .slice A n c, .slice B mm d, .slice C l ee, .int .i64 t0, .int .i64 t1, .int .i64 u0, .int .i64 u1, .int .i64 v0, .int .i64 v1, .int .i64 h0, .int .i64 h1], .agg #[.int .i64 fh, .int .i64 st, .int .i64 x0, .int .i64 x1, .int .i64 d0, .int .i64 d1]] W fun e w' => e = .returned (rv p q) ∧ Below W.heap.size W w') (hr : (denseS p q d0 d1).1 = r) (ht : (denseS p q d0 d1).2.1 = t) :
  Calls Tryz.prog 42 #[.agg #[fnV a, fnV kv, fnV 128, fnV kh, fnV s, .int .i64 x, .int .i64 y, .int .i64 z], .pointer (some ⟨Bh, 0, none⟩), .pointer (some ⟨Bf, 0, none⟩)] w fun e w' => e = .returned (rv r t) ∧ Below w.heap.size w w' := by
 have HE := Lib.hid (show Below w.heap.size w ((w.alloc (.cells #[fnV a, fnV kv, fnV 128, fnV kh, fnV s, .int .i64 x, .int .i64 y, .int .i64 z] 99)).alloc (.cells #[.int .i64 0, .int .i64 0] 35)) from below_a2 (Below.refl _ _))
 have HK := Lib.hid (boxes2' w 99 35 #[fnV a, fnV kv, fnV 128, fnV kh, fnV s, .int .i64 x, .int .i64 y, .int .i64 z] #[.int .i64 0, .int .i64 0])
 have CC := Lib.hid hC
 have CD : Hid (∀ W, Calls Tryz.prog 43 #[rv p q, rv d0 d1] W fun e w' => e = .returned (rv r t) ∧ Below W.heap.size W w') := Lib.hid fun W => by rw [← hr, ← ht]; exact dense_any p q d0 d1 W
 have HH := Lib.hid (blkOn hB HE.out)
 have HF := Lib.hid (blkOn fB HE.out)
 have lb := hB.lt
 have lf := fB.lt
 clear hB fB hC hr ht
 go_enter Tryz.func42, Tryz.ntmps42
 go_upto_region 1 with fail
 obtain ⟨W0, hW0⟩ : ∃ W0, ((w.alloc (.cells #[fnV a, fnV kv, fnV 128, fnV kh, fnV s, .int .i64 x, .int .i64 y, .int .i64 z] 99)).alloc (.cells #[.int .i64 0, .int .i64 0] 35)) = W0 := ⟨_, rfl⟩
 rw [hW0] at HE HK HH HF ⊢
 clear hW0
 obtain ⟨G, hG⟩ : ∃ G, w.heap.size = G := ⟨_, rfl⟩
 rw [hG] at HK lb lf ⊢
 have HG := Lib.hid hG; clear hG
 have HS : Hid (Boxes W0.drew [(G, 99, #[fnV a, fnV kv, fnV 128, fnV kh, fnV s, .int .i64 x, .int .i64 y, .int .i64 z]), (Bh, 40, #[.int .i64 id, .int .i64 al, .int .i64 ah, .slice A n c, .slice B mm d, .slice C l ee, .int .i64 t0, .int .i64 t1, .int .i64 u0, .int .i64 u1, .int .i64 v0, .int .i64 v1, .int .i64 h0, .int .i64 h1]), (Bf, 43, #[.int .i64 fh, .int .i64 st, .int .i64 x0, .int .i64 x1, .int .i64 d0, .int .i64 d1])]) := Lib.hid (fun p hp => by
  rcases List.mem_cons.1 hp with rfl | hp
  ·exact HK.out _ (.tail _ (.head _))
  rcases List.mem_cons.1 hp with rfl | hp
  ·exact HH.out
  rcases List.mem_singleton.1 hp with rfl
  exact HF.out)
 clear HH HF
 refine wp_region_held_drew (S := fun w' => Boxes w' [(G, 99, #[fnV a, fnV kv, fnV 128, fnV kh, fnV s, .int .i64 x, .int .i64 y, .int .i64 z]), (Bh, 40, #[.int .i64 id, .int .i64 al, .int .i64 ah, .slice A n c, .slice B mm d, .slice C l ee, .int .i64 t0, .int .i64 t1, .int .i64 u0, .int .i64 u1, .int .i64 v0, .int .i64 v1, .int .i64 h0, .int .i64 h1]), (Bf, 43, #[.int .i64 fh, .int .i64 st, .int .i64 x0, .int .i64 x1, .int .i64 d0, .int .i64 d1])]) (by kernel_rfl) HS.out (fun hHeld => ?_)
 refine tK 5 (i := 0) (v := .pointer (some ⟨G, 2, none⟩)) rfl rfl (by kernel_rfl) ?_ hHeld ?_
 ·intro w hSw; clear hSw; go_simp; try with_reducible rfl
 simp only [uZ, uS]
 refine tK 6 (i := 1) (v := fnV 128) rfl rfl (by kernel_rfl) ?_ hHeld ?_
 ·intro w hSw; have c := (hSw _ (.head _)).cell 2; simp at c; clear hSw; go_simp; try with_reducible rfl
 simp only [uZ, uS]
 refine tK 7 (i := 2) (v := .agg #[.int .i64 id, .int .i64 al, .int .i64 ah, .slice A n c, .slice B mm d, .slice C l ee, .int .i64 t0, .int .i64 t1, .int .i64 u0, .int .i64 u1, .int .i64 v0, .int .i64 v1, .int .i64 h0, .int .i64 h1]) rfl rfl (by kernel_rfl) ?_ hHeld ?_
 ·intro w hSw; have hz := (hSw _ (.tail _ (.head _))); have c0 := hz.cell 0; have c1 := hz.cell 1; have c2 := hz.cell 2; have c3 := hz.cell 3; have c4 := hz.cell 4; have c5 := hz.cell 5; have c6 := hz.cell 6; have c7 := hz.cell 7; have c8 := hz.cell 8; have c9 := hz.cell 9; have c10 := hz.cell 10; have c11 := hz.cell 11; have c12 := hz.cell 12; have c13 := hz.cell 13; simp at c0 c1 c2 c3 c4 c5 c6 c7 c8 c9 c10 c11 c12 c13; clear hz hSw; go_simp; try with_reducible rfl
 simp only [uZ, uS]
 refine tK 8 (i := 3) (v := .agg #[.int .i64 fh, .int .i64 st, .int .i64 x0, .int .i64 x1, .int .i64 d0, .int .i64 d1]) rfl rfl (by kernel_rfl) ?_ hHeld ?_
 ·intro w hSw; have hz := (hSw _ (.tail _ (.tail _ (.head _)))); have c0 := hz.cell 0; have c1 := hz.cell 1; have c2 := hz.cell 2; have c3 := hz.cell 3; have c4 := hz.cell 4; have c5 := hz.cell 5; simp at c0 c1 c2 c3 c4 c5; clear hz hSw; go_simp; try with_reducible rfl
 simp only [uZ, uS]
 refine tK 10 (i := 5) (v := .pointer (some ⟨Bf, 4, none⟩)) rfl rfl (by kernel_rfl) ?_ hHeld ?_
 ·intro w hSw; clear hSw; go_simp; try with_reducible rfl
 simp only [uZ, uS]
 refine tK 11 (i := 6) (v := rv d0 d1) rfl rfl (by kernel_rfl) ?_ hHeld ?_
 ·intro w hSw; have hz := (hSw _ (.tail _ (.tail _ (.head _)))); have c4 := hz.cell 4; have c5 := hz.cell 5; simp at c4 c5; clear hz hSw; go_simp; try with_reducible rfl
 simp only [uZ, uS]
 refine wpAnyH_ready (rs := [4]) (by kernel_rfl) (by simp) ?_
 refine AllReadyH.cons rfl (fun K hK => ?_) AllReadyH.nil
 go_simp
 (with_reducible refine (CC.out _ (below_then HE.out (below_drew1 _))).mono ?_)
 rintro e y1 ⟨rfl, hb⟩
 have HE3 := Lib.hid (below_then (below_then HE.out (below_drew1 _)) hb)
 have HK3 := Lib.hid ((HK.out.on (below_drew1 _)).on hb)
 have hS3 := hHeld.on hb
 clear hb
 refine hK.out _ _ (hS3) (fun hHeld2 => ?_)
 try simp only [Act.put, uA, uZ, uS]
 clear hK K hHeld
 have hHeld := hHeld2
 clear hHeld2
 clear hS3 HE HK
 refine wpAnyH_ready (rs := [7]) (by kernel_rfl) (by simp) ?_
 refine AllReadyH.cons rfl (fun K hK => ?_) AllReadyH.nil
 go_simp
 (with_reducible refine (CD.out _).mono ?_)
 rintro e y2 ⟨rfl, hb⟩
 have HE4 := Lib.hid (below_then HE3.out hb)
 have HK4 := Lib.hid (HK3.out.on hb)
 have hS4 := hHeld.on hb
 clear hb
 refine hK.out _ _ (hS4) (fun hHeld2 => ?_)
 try simp only [Act.put, uA, uZ, uS]
 clear hK K hHeld
 have hHeld := hHeld2
 clear hHeld2
 clear hS4 HE3 HK3
 refine wpAnyH_ready (rs := [8]) (by kernel_rfl) (by simp) ?_
 refine AllReadyH.cons rfl (fun K hK => ?_) AllReadyH.nil
 rw [if_pos (by kernel_rfl)]
 have HKR : Hid (Blk (y2.setRow (G + 1) #[.int .i64 r, .int .i64 t]) (G + 1) 35 #[.int .i64 r, .int .i64 t]) := Lib.hid (setRow_heap y2 (G + 1) _ _ 35 _ (HK4.out _ (.head _)))
 have HE6 := Lib.hid (below_setRow HE4.out (show w.heap.size ≤ G + 1 by have := HG.out; omega) #[.int .i64 r, .int .i64 t])
 have hS6 : Boxes (y2.setRow (G + 1) #[.int .i64 r, .int .i64 t]) [(G, 99, #[fnV a, fnV kv, fnV 128, fnV kh, fnV s, .int .i64 x, .int .i64 y, .int .i64 z]), (Bh, 40, #[.int .i64 id, .int .i64 al, .int .i64 ah, .slice A n c, .slice B mm d, .slice C l ee, .int .i64 t0, .int .i64 t1, .int .i64 u0, .int .i64 u1, .int .i64 v0, .int .i64 v1, .int .i64 h0, .int .i64 h1]), (Bf, 43, #[.int .i64 fh, .int .i64 st, .int .i64 x0, .int .i64 x1, .int .i64 d0, .int .i64 d1])] := hHeld.farRow (fun p hp => by
  rcases List.mem_cons.1 hp with rfl | hp
  ·show G ≠ G + 1; omega
  rcases List.mem_cons.1 hp with rfl | hp
  ·show Bh ≠ G + 1; omega
  rcases List.mem_singleton.1 hp with rfl
  show Bf ≠ G + 1; omega) _
 refine wp_store_row 35 (.tmp 4) (.tmp 12) rfl (G + 1) #[.int .i64 r, .int .i64 t] rfl rfl 35 _ (HK4.out _ (.head _)) (by kernel_rfl) rfl (by kernel_rfl) ?_
 obtain ⟨W6, hW6⟩ : ∃ W6, y2.setRow (G + 1) #[.int .i64 r, .int .i64 t] = W6 := ⟨_, rfl⟩
 rw [hW6] at HKR HE6 hS6 ⊢
 refine hK.out _ _ hS6 (fun hHeld2 => ?_)
 clear hW6 hK K hHeld hHeld2 hS6
 refine wpAnyH_done (by kernel_rfl) ?_ _
 go_wp2
 exact bodyPost_ret (v := .agg #[.int .i64 r, .int .i64 t]) (results_cell_row Tryz.results42 _ _ (G + 1) 35 #[.int .i64 r, .int .i64 t] (0, 0) _ rfl HKR.out Tryz.underlying35 rfl (by kernel_rfl)) rfl ⟨rfl, HE6.out⟩

set_option maxRecDepth 100000 in
set_option maxHeartbeats 4000000 in
theorem heel1_1 (a kv km kh s : Nat) (x y z p q r t : Int) (id al ah t0 t1 u0 u1 v0 v1 h0 h1 : Int) (A B C : Option Addr) (n c mm d l ee : Nat) (fh st x0 x1 d0 d1 : Int) (Bh Bf : Nat) (w : World) (hB : Blk w Bh 40 #[.int .i64 id, .int .i64 al, .int .i64 ah, .slice A n c, .slice B mm d, .slice C l ee, .int .i64 t0, .int .i64 t1, .int .i64 u0, .int .i64 u1, .int .i64 v0, .int .i64 v1, .int .i64 h0, .int .i64 h1]) (fB : Blk w Bf 43 #[.int .i64 fh, .int .i64 st, .int .i64 x0, .int .i64 x1, .int .i64 d0, .int .i64 d1])
  (hC : ∀ W, Below w.heap.size w W → Calls Tryz.prog 98 #[.agg #[.int .i64 id, .int .i64 al, .int .i64 ah, .slice A n c, .slice B mm d, .slice C l ee, .int .i64 t0, .int .i64 t1, .int .i64 u0, .int .i64 u1, .int .i64 v0, .int .i64 v1, .int .i64 h0, .int .i64 h1], .agg #[.int .i64 fh, .int .i64 st, .int .i64 x0, .int .i64 x1, .int .i64 d0, .int .i64 d1]] W fun e w' => e = .returned (rv p q) ∧ Below W.heap.size W w') (hr : (denseS p q d0 d1).1 = r) (ht : (denseS p q d0 d1).2.1 = t) :
  Calls Tryz.prog 42 #[.agg #[fnV a, fnV kv, fnV 98, fnV kh, fnV s, .int .i64 x, .int .i64 y, .int .i64 z], .pointer (some ⟨Bh, 0, none⟩), .pointer (some ⟨Bf, 0, none⟩)] w fun e w' => e = .returned (rv r t) ∧ Below w.heap.size w w' := by
 have HE := Lib.hid (show Below w.heap.size w ((w.alloc (.cells #[fnV a, fnV kv, fnV 98, fnV kh, fnV s, .int .i64 x, .int .i64 y, .int .i64 z] 99)).alloc (.cells #[.int .i64 0, .int .i64 0] 35)) from below_a2 (Below.refl _ _))
 have HK := Lib.hid (boxes2' w 99 35 #[fnV a, fnV kv, fnV 98, fnV kh, fnV s, .int .i64 x, .int .i64 y, .int .i64 z] #[.int .i64 0, .int .i64 0])
 have CC := Lib.hid hC
 have CD : Hid (∀ W, Calls Tryz.prog 43 #[rv p q, rv d0 d1] W fun e w' => e = .returned (rv r t) ∧ Below W.heap.size W w') := Lib.hid fun W => by rw [← hr, ← ht]; exact dense_any p q d0 d1 W
 have HH := Lib.hid (blkOn hB HE.out)
 have HF := Lib.hid (blkOn fB HE.out)
 have lb := hB.lt
 have lf := fB.lt
 clear hB fB hC hr ht
 go_enter Tryz.func42, Tryz.ntmps42
 go_upto_region 1 with fail
 obtain ⟨W0, hW0⟩ : ∃ W0, ((w.alloc (.cells #[fnV a, fnV kv, fnV 98, fnV kh, fnV s, .int .i64 x, .int .i64 y, .int .i64 z] 99)).alloc (.cells #[.int .i64 0, .int .i64 0] 35)) = W0 := ⟨_, rfl⟩
 rw [hW0] at HE HK HH HF ⊢
 clear hW0
 obtain ⟨G, hG⟩ : ∃ G, w.heap.size = G := ⟨_, rfl⟩
 rw [hG] at HK lb lf ⊢
 have HG := Lib.hid hG; clear hG
 have HS : Hid (Boxes W0.drew [(G, 99, #[fnV a, fnV kv, fnV 98, fnV kh, fnV s, .int .i64 x, .int .i64 y, .int .i64 z]), (Bh, 40, #[.int .i64 id, .int .i64 al, .int .i64 ah, .slice A n c, .slice B mm d, .slice C l ee, .int .i64 t0, .int .i64 t1, .int .i64 u0, .int .i64 u1, .int .i64 v0, .int .i64 v1, .int .i64 h0, .int .i64 h1]), (Bf, 43, #[.int .i64 fh, .int .i64 st, .int .i64 x0, .int .i64 x1, .int .i64 d0, .int .i64 d1])]) := Lib.hid (fun p hp => by
  rcases List.mem_cons.1 hp with rfl | hp
  ·exact HK.out _ (.tail _ (.head _))
  rcases List.mem_cons.1 hp with rfl | hp
  ·exact HH.out
  rcases List.mem_singleton.1 hp with rfl
  exact HF.out)
 clear HH HF
 refine wp_region_held_drew (S := fun w' => Boxes w' [(G, 99, #[fnV a, fnV kv, fnV 98, fnV kh, fnV s, .int .i64 x, .int .i64 y, .int .i64 z]), (Bh, 40, #[.int .i64 id, .int .i64 al, .int .i64 ah, .slice A n c, .slice B mm d, .slice C l ee, .int .i64 t0, .int .i64 t1, .int .i64 u0, .int .i64 u1, .int .i64 v0, .int .i64 v1, .int .i64 h0, .int .i64 h1]), (Bf, 43, #[.int .i64 fh, .int .i64 st, .int .i64 x0, .int .i64 x1, .int .i64 d0, .int .i64 d1])]) (by kernel_rfl) HS.out (fun hHeld => ?_)
 refine tK 5 (i := 0) (v := .pointer (some ⟨G, 2, none⟩)) rfl rfl (by kernel_rfl) ?_ hHeld ?_
 ·intro w hSw; clear hSw; go_simp; try with_reducible rfl
 simp only [uZ, uS]
 refine tK 6 (i := 1) (v := fnV 98) rfl rfl (by kernel_rfl) ?_ hHeld ?_
 ·intro w hSw; have c := (hSw _ (.head _)).cell 2; simp at c; clear hSw; go_simp; try with_reducible rfl
 simp only [uZ, uS]
 refine tK 7 (i := 2) (v := .agg #[.int .i64 id, .int .i64 al, .int .i64 ah, .slice A n c, .slice B mm d, .slice C l ee, .int .i64 t0, .int .i64 t1, .int .i64 u0, .int .i64 u1, .int .i64 v0, .int .i64 v1, .int .i64 h0, .int .i64 h1]) rfl rfl (by kernel_rfl) ?_ hHeld ?_
 ·intro w hSw; have hz := (hSw _ (.tail _ (.head _))); have c0 := hz.cell 0; have c1 := hz.cell 1; have c2 := hz.cell 2; have c3 := hz.cell 3; have c4 := hz.cell 4; have c5 := hz.cell 5; have c6 := hz.cell 6; have c7 := hz.cell 7; have c8 := hz.cell 8; have c9 := hz.cell 9; have c10 := hz.cell 10; have c11 := hz.cell 11; have c12 := hz.cell 12; have c13 := hz.cell 13; simp at c0 c1 c2 c3 c4 c5 c6 c7 c8 c9 c10 c11 c12 c13; clear hz hSw; go_simp; try with_reducible rfl
 simp only [uZ, uS]
 refine tK 8 (i := 3) (v := .agg #[.int .i64 fh, .int .i64 st, .int .i64 x0, .int .i64 x1, .int .i64 d0, .int .i64 d1]) rfl rfl (by kernel_rfl) ?_ hHeld ?_
 ·intro w hSw; have hz := (hSw _ (.tail _ (.tail _ (.head _)))); have c0 := hz.cell 0; have c1 := hz.cell 1; have c2 := hz.cell 2; have c3 := hz.cell 3; have c4 := hz.cell 4; have c5 := hz.cell 5; simp at c0 c1 c2 c3 c4 c5; clear hz hSw; go_simp; try with_reducible rfl
 simp only [uZ, uS]
 refine tK 10 (i := 5) (v := .pointer (some ⟨Bf, 4, none⟩)) rfl rfl (by kernel_rfl) ?_ hHeld ?_
 ·intro w hSw; clear hSw; go_simp; try with_reducible rfl
 simp only [uZ, uS]
 refine tK 11 (i := 6) (v := rv d0 d1) rfl rfl (by kernel_rfl) ?_ hHeld ?_
 ·intro w hSw; have hz := (hSw _ (.tail _ (.tail _ (.head _)))); have c4 := hz.cell 4; have c5 := hz.cell 5; simp at c4 c5; clear hz hSw; go_simp; try with_reducible rfl
 simp only [uZ, uS]
 refine wpAnyH_ready (rs := [4]) (by kernel_rfl) (by simp) ?_
 refine AllReadyH.cons rfl (fun K hK => ?_) AllReadyH.nil
 go_simp
 (with_reducible refine (CC.out _ (below_then HE.out (below_drew1 _))).mono ?_)
 rintro e y1 ⟨rfl, hb⟩
 have HE3 := Lib.hid (below_then (below_then HE.out (below_drew1 _)) hb)
 have HK3 := Lib.hid ((HK.out.on (below_drew1 _)).on hb)
 have hS3 := hHeld.on hb
 clear hb
 refine hK.out _ _ (hS3) (fun hHeld2 => ?_)
 try simp only [Act.put, uA, uZ, uS]
 clear hK K hHeld
 have hHeld := hHeld2
 clear hHeld2
 clear hS3 HE HK
 refine wpAnyH_ready (rs := [7]) (by kernel_rfl) (by simp) ?_
 refine AllReadyH.cons rfl (fun K hK => ?_) AllReadyH.nil
 go_simp
 (with_reducible refine (CD.out _).mono ?_)
 rintro e y2 ⟨rfl, hb⟩
 have HE4 := Lib.hid (below_then HE3.out hb)
 have HK4 := Lib.hid (HK3.out.on hb)
 have hS4 := hHeld.on hb
 clear hb
 refine hK.out _ _ (hS4) (fun hHeld2 => ?_)
 try simp only [Act.put, uA, uZ, uS]
 clear hK K hHeld
 have hHeld := hHeld2
 clear hHeld2
 clear hS4 HE3 HK3
 refine wpAnyH_ready (rs := [8]) (by kernel_rfl) (by simp) ?_
 refine AllReadyH.cons rfl (fun K hK => ?_) AllReadyH.nil
 rw [if_pos (by kernel_rfl)]
 have HKR : Hid (Blk (y2.setRow (G + 1) #[.int .i64 r, .int .i64 t]) (G + 1) 35 #[.int .i64 r, .int .i64 t]) := Lib.hid (setRow_heap y2 (G + 1) _ _ 35 _ (HK4.out _ (.head _)))
 have HE6 := Lib.hid (below_setRow HE4.out (show w.heap.size ≤ G + 1 by have := HG.out; omega) #[.int .i64 r, .int .i64 t])
 have hS6 : Boxes (y2.setRow (G + 1) #[.int .i64 r, .int .i64 t]) [(G, 99, #[fnV a, fnV kv, fnV 98, fnV kh, fnV s, .int .i64 x, .int .i64 y, .int .i64 z]), (Bh, 40, #[.int .i64 id, .int .i64 al, .int .i64 ah, .slice A n c, .slice B mm d, .slice C l ee, .int .i64 t0, .int .i64 t1, .int .i64 u0, .int .i64 u1, .int .i64 v0, .int .i64 v1, .int .i64 h0, .int .i64 h1]), (Bf, 43, #[.int .i64 fh, .int .i64 st, .int .i64 x0, .int .i64 x1, .int .i64 d0, .int .i64 d1])] := hHeld.farRow (fun p hp => by
  rcases List.mem_cons.1 hp with rfl | hp
  ·show G ≠ G + 1; omega
  rcases List.mem_cons.1 hp with rfl | hp
  ·show Bh ≠ G + 1; omega
  rcases List.mem_singleton.1 hp with rfl
  show Bf ≠ G + 1; omega) _
 refine wp_store_row 35 (.tmp 4) (.tmp 12) rfl (G + 1) #[.int .i64 r, .int .i64 t] rfl rfl 35 _ (HK4.out _ (.head _)) (by kernel_rfl) rfl (by kernel_rfl) ?_
 obtain ⟨W6, hW6⟩ : ∃ W6, y2.setRow (G + 1) #[.int .i64 r, .int .i64 t] = W6 := ⟨_, rfl⟩
 rw [hW6] at HKR HE6 hS6 ⊢
 refine hK.out _ _ hS6 (fun hHeld2 => ?_)
 clear hW6 hK K hHeld hHeld2 hS6
 refine wpAnyH_done (by kernel_rfl) ?_ _
 go_wp2
 exact bodyPost_ret (v := .agg #[.int .i64 r, .int .i64 t]) (results_cell_row Tryz.results42 _ _ (G + 1) 35 #[.int .i64 r, .int .i64 t] (0, 0) _ rfl HKR.out Tryz.underlying35 rfl (by kernel_rfl)) rfl ⟨rfl, HE6.out⟩

set_option maxRecDepth 100000 in
set_option maxHeartbeats 4000000 in
theorem heel1_2 (a kv km kh s : Nat) (x y z p q r t : Int) (id al ah t0 t1 u0 u1 v0 v1 h0 h1 : Int) (A B C : Option Addr) (n c mm d l ee : Nat) (fh st x0 x1 d0 d1 : Int) (Bh Bf : Nat) (w : World) (hB : Blk w Bh 40 #[.int .i64 id, .int .i64 al, .int .i64 ah, .slice A n c, .slice B mm d, .slice C l ee, .int .i64 t0, .int .i64 t1, .int .i64 u0, .int .i64 u1, .int .i64 v0, .int .i64 v1, .int .i64 h0, .int .i64 h1]) (fB : Blk w Bf 43 #[.int .i64 fh, .int .i64 st, .int .i64 x0, .int .i64 x1, .int .i64 d0, .int .i64 d1])
  (hC : ∀ W, Below w.heap.size w W → Calls Tryz.prog 99 #[.agg #[.int .i64 id, .int .i64 al, .int .i64 ah, .slice A n c, .slice B mm d, .slice C l ee, .int .i64 t0, .int .i64 t1, .int .i64 u0, .int .i64 u1, .int .i64 v0, .int .i64 v1, .int .i64 h0, .int .i64 h1], .agg #[.int .i64 fh, .int .i64 st, .int .i64 x0, .int .i64 x1, .int .i64 d0, .int .i64 d1]] W fun e w' => e = .returned (rv p q) ∧ Below W.heap.size W w') (hr : (denseS p q d0 d1).1 = r) (ht : (denseS p q d0 d1).2.1 = t) :
  Calls Tryz.prog 42 #[.agg #[fnV a, fnV kv, fnV 99, fnV kh, fnV s, .int .i64 x, .int .i64 y, .int .i64 z], .pointer (some ⟨Bh, 0, none⟩), .pointer (some ⟨Bf, 0, none⟩)] w fun e w' => e = .returned (rv r t) ∧ Below w.heap.size w w' := by
 have HE := Lib.hid (show Below w.heap.size w ((w.alloc (.cells #[fnV a, fnV kv, fnV 99, fnV kh, fnV s, .int .i64 x, .int .i64 y, .int .i64 z] 99)).alloc (.cells #[.int .i64 0, .int .i64 0] 35)) from below_a2 (Below.refl _ _))
 have HK := Lib.hid (boxes2' w 99 35 #[fnV a, fnV kv, fnV 99, fnV kh, fnV s, .int .i64 x, .int .i64 y, .int .i64 z] #[.int .i64 0, .int .i64 0])
 have CC := Lib.hid hC
 have CD : Hid (∀ W, Calls Tryz.prog 43 #[rv p q, rv d0 d1] W fun e w' => e = .returned (rv r t) ∧ Below W.heap.size W w') := Lib.hid fun W => by rw [← hr, ← ht]; exact dense_any p q d0 d1 W
 have HH := Lib.hid (blkOn hB HE.out)
 have HF := Lib.hid (blkOn fB HE.out)
 have lb := hB.lt
 have lf := fB.lt
 clear hB fB hC hr ht
 go_enter Tryz.func42, Tryz.ntmps42
 go_upto_region 1 with fail
 obtain ⟨W0, hW0⟩ : ∃ W0, ((w.alloc (.cells #[fnV a, fnV kv, fnV 99, fnV kh, fnV s, .int .i64 x, .int .i64 y, .int .i64 z] 99)).alloc (.cells #[.int .i64 0, .int .i64 0] 35)) = W0 := ⟨_, rfl⟩
 rw [hW0] at HE HK HH HF ⊢
 clear hW0
 obtain ⟨G, hG⟩ : ∃ G, w.heap.size = G := ⟨_, rfl⟩
 rw [hG] at HK lb lf ⊢
 have HG := Lib.hid hG; clear hG
 have HS : Hid (Boxes W0.drew [(G, 99, #[fnV a, fnV kv, fnV 99, fnV kh, fnV s, .int .i64 x, .int .i64 y, .int .i64 z]), (Bh, 40, #[.int .i64 id, .int .i64 al, .int .i64 ah, .slice A n c, .slice B mm d, .slice C l ee, .int .i64 t0, .int .i64 t1, .int .i64 u0, .int .i64 u1, .int .i64 v0, .int .i64 v1, .int .i64 h0, .int .i64 h1]), (Bf, 43, #[.int .i64 fh, .int .i64 st, .int .i64 x0, .int .i64 x1, .int .i64 d0, .int .i64 d1])]) := Lib.hid (fun p hp => by
  rcases List.mem_cons.1 hp with rfl | hp
  ·exact HK.out _ (.tail _ (.head _))
  rcases List.mem_cons.1 hp with rfl | hp
  ·exact HH.out
  rcases List.mem_singleton.1 hp with rfl
  exact HF.out)
 clear HH HF
 refine wp_region_held_drew (S := fun w' => Boxes w' [(G, 99, #[fnV a, fnV kv, fnV 99, fnV kh, fnV s, .int .i64 x, .int .i64 y, .int .i64 z]), (Bh, 40, #[.int .i64 id, .int .i64 al, .int .i64 ah, .slice A n c, .slice B mm d, .slice C l ee, .int .i64 t0, .int .i64 t1, .int .i64 u0, .int .i64 u1, .int .i64 v0, .int .i64 v1, .int .i64 h0, .int .i64 h1]), (Bf, 43, #[.int .i64 fh, .int .i64 st, .int .i64 x0, .int .i64 x1, .int .i64 d0, .int .i64 d1])]) (by kernel_rfl) HS.out (fun hHeld => ?_)
 refine tK 5 (i := 0) (v := .pointer (some ⟨G, 2, none⟩)) rfl rfl (by kernel_rfl) ?_ hHeld ?_
 ·intro w hSw; clear hSw; go_simp; try with_reducible rfl
 simp only [uZ, uS]
 refine tK 6 (i := 1) (v := fnV 99) rfl rfl (by kernel_rfl) ?_ hHeld ?_
 ·intro w hSw; have c := (hSw _ (.head _)).cell 2; simp at c; clear hSw; go_simp; try with_reducible rfl
 simp only [uZ, uS]
 refine tK 7 (i := 2) (v := .agg #[.int .i64 id, .int .i64 al, .int .i64 ah, .slice A n c, .slice B mm d, .slice C l ee, .int .i64 t0, .int .i64 t1, .int .i64 u0, .int .i64 u1, .int .i64 v0, .int .i64 v1, .int .i64 h0, .int .i64 h1]) rfl rfl (by kernel_rfl) ?_ hHeld ?_
 ·intro w hSw; have hz := (hSw _ (.tail _ (.head _))); have c0 := hz.cell 0; have c1 := hz.cell 1; have c2 := hz.cell 2; have c3 := hz.cell 3; have c4 := hz.cell 4; have c5 := hz.cell 5; have c6 := hz.cell 6; have c7 := hz.cell 7; have c8 := hz.cell 8; have c9 := hz.cell 9; have c10 := hz.cell 10; have c11 := hz.cell 11; have c12 := hz.cell 12; have c13 := hz.cell 13; simp at c0 c1 c2 c3 c4 c5 c6 c7 c8 c9 c10 c11 c12 c13; clear hz hSw; go_simp; try with_reducible rfl
 simp only [uZ, uS]
 refine tK 8 (i := 3) (v := .agg #[.int .i64 fh, .int .i64 st, .int .i64 x0, .int .i64 x1, .int .i64 d0, .int .i64 d1]) rfl rfl (by kernel_rfl) ?_ hHeld ?_
 ·intro w hSw; have hz := (hSw _ (.tail _ (.tail _ (.head _)))); have c0 := hz.cell 0; have c1 := hz.cell 1; have c2 := hz.cell 2; have c3 := hz.cell 3; have c4 := hz.cell 4; have c5 := hz.cell 5; simp at c0 c1 c2 c3 c4 c5; clear hz hSw; go_simp; try with_reducible rfl
 simp only [uZ, uS]
 refine tK 10 (i := 5) (v := .pointer (some ⟨Bf, 4, none⟩)) rfl rfl (by kernel_rfl) ?_ hHeld ?_
 ·intro w hSw; clear hSw; go_simp; try with_reducible rfl
 simp only [uZ, uS]
 refine tK 11 (i := 6) (v := rv d0 d1) rfl rfl (by kernel_rfl) ?_ hHeld ?_
 ·intro w hSw; have hz := (hSw _ (.tail _ (.tail _ (.head _)))); have c4 := hz.cell 4; have c5 := hz.cell 5; simp at c4 c5; clear hz hSw; go_simp; try with_reducible rfl
 simp only [uZ, uS]
 refine wpAnyH_ready (rs := [4]) (by kernel_rfl) (by simp) ?_
 refine AllReadyH.cons rfl (fun K hK => ?_) AllReadyH.nil
 go_simp
 (with_reducible refine (CC.out _ (below_then HE.out (below_drew1 _))).mono ?_)
 rintro e y1 ⟨rfl, hb⟩
 have HE3 := Lib.hid (below_then (below_then HE.out (below_drew1 _)) hb)
 have HK3 := Lib.hid ((HK.out.on (below_drew1 _)).on hb)
 have hS3 := hHeld.on hb
 clear hb
 refine hK.out _ _ (hS3) (fun hHeld2 => ?_)
 try simp only [Act.put, uA, uZ, uS]
 clear hK K hHeld
 have hHeld := hHeld2
 clear hHeld2
 clear hS3 HE HK
 refine wpAnyH_ready (rs := [7]) (by kernel_rfl) (by simp) ?_
 refine AllReadyH.cons rfl (fun K hK => ?_) AllReadyH.nil
 go_simp
 (with_reducible refine (CD.out _).mono ?_)
 rintro e y2 ⟨rfl, hb⟩
 have HE4 := Lib.hid (below_then HE3.out hb)
 have HK4 := Lib.hid (HK3.out.on hb)
 have hS4 := hHeld.on hb
 clear hb
 refine hK.out _ _ (hS4) (fun hHeld2 => ?_)
 try simp only [Act.put, uA, uZ, uS]
 clear hK K hHeld
 have hHeld := hHeld2
 clear hHeld2
 clear hS4 HE3 HK3
 refine wpAnyH_ready (rs := [8]) (by kernel_rfl) (by simp) ?_
 refine AllReadyH.cons rfl (fun K hK => ?_) AllReadyH.nil
 rw [if_pos (by kernel_rfl)]
 have HKR : Hid (Blk (y2.setRow (G + 1) #[.int .i64 r, .int .i64 t]) (G + 1) 35 #[.int .i64 r, .int .i64 t]) := Lib.hid (setRow_heap y2 (G + 1) _ _ 35 _ (HK4.out _ (.head _)))
 have HE6 := Lib.hid (below_setRow HE4.out (show w.heap.size ≤ G + 1 by have := HG.out; omega) #[.int .i64 r, .int .i64 t])
 have hS6 : Boxes (y2.setRow (G + 1) #[.int .i64 r, .int .i64 t]) [(G, 99, #[fnV a, fnV kv, fnV 99, fnV kh, fnV s, .int .i64 x, .int .i64 y, .int .i64 z]), (Bh, 40, #[.int .i64 id, .int .i64 al, .int .i64 ah, .slice A n c, .slice B mm d, .slice C l ee, .int .i64 t0, .int .i64 t1, .int .i64 u0, .int .i64 u1, .int .i64 v0, .int .i64 v1, .int .i64 h0, .int .i64 h1]), (Bf, 43, #[.int .i64 fh, .int .i64 st, .int .i64 x0, .int .i64 x1, .int .i64 d0, .int .i64 d1])] := hHeld.farRow (fun p hp => by
  rcases List.mem_cons.1 hp with rfl | hp
  ·show G ≠ G + 1; omega
  rcases List.mem_cons.1 hp with rfl | hp
  ·show Bh ≠ G + 1; omega
  rcases List.mem_singleton.1 hp with rfl
  show Bf ≠ G + 1; omega) _
 refine wp_store_row 35 (.tmp 4) (.tmp 12) rfl (G + 1) #[.int .i64 r, .int .i64 t] rfl rfl 35 _ (HK4.out _ (.head _)) (by kernel_rfl) rfl (by kernel_rfl) ?_
 obtain ⟨W6, hW6⟩ : ∃ W6, y2.setRow (G + 1) #[.int .i64 r, .int .i64 t] = W6 := ⟨_, rfl⟩
 rw [hW6] at HKR HE6 hS6 ⊢
 refine hK.out _ _ hS6 (fun hHeld2 => ?_)
 clear hW6 hK K hHeld hHeld2 hS6
 refine wpAnyH_done (by kernel_rfl) ?_ _
 go_wp2
 exact bodyPost_ret (v := .agg #[.int .i64 r, .int .i64 t]) (results_cell_row Tryz.results42 _ _ (G + 1) 35 #[.int .i64 r, .int .i64 t] (0, 0) _ rfl HKR.out Tryz.underlying35 rfl (by kernel_rfl)) rfl ⟨rfl, HE6.out⟩

set_option maxRecDepth 100000 in
set_option maxHeartbeats 4000000 in
theorem heel1_3 (a kv km kh s : Nat) (x y z p q r t : Int) (id al ah t0 t1 u0 u1 v0 v1 h0 h1 : Int) (A B C : Option Addr) (n c mm d l ee : Nat) (fh st x0 x1 d0 d1 : Int) (Bh Bf : Nat) (w : World) (hB : Blk w Bh 40 #[.int .i64 id, .int .i64 al, .int .i64 ah, .slice A n c, .slice B mm d, .slice C l ee, .int .i64 t0, .int .i64 t1, .int .i64 u0, .int .i64 u1, .int .i64 v0, .int .i64 v1, .int .i64 h0, .int .i64 h1]) (fB : Blk w Bf 43 #[.int .i64 fh, .int .i64 st, .int .i64 x0, .int .i64 x1, .int .i64 d0, .int .i64 d1])
  (hC : ∀ W, Below w.heap.size w W → Calls Tryz.prog 101 #[.agg #[.int .i64 id, .int .i64 al, .int .i64 ah, .slice A n c, .slice B mm d, .slice C l ee, .int .i64 t0, .int .i64 t1, .int .i64 u0, .int .i64 u1, .int .i64 v0, .int .i64 v1, .int .i64 h0, .int .i64 h1], .agg #[.int .i64 fh, .int .i64 st, .int .i64 x0, .int .i64 x1, .int .i64 d0, .int .i64 d1]] W fun e w' => e = .returned (rv p q) ∧ Below W.heap.size W w') (hr : (denseS p q d0 d1).1 = r) (ht : (denseS p q d0 d1).2.1 = t) :
  Calls Tryz.prog 42 #[.agg #[fnV a, fnV kv, fnV 101, fnV kh, fnV s, .int .i64 x, .int .i64 y, .int .i64 z], .pointer (some ⟨Bh, 0, none⟩), .pointer (some ⟨Bf, 0, none⟩)] w fun e w' => e = .returned (rv r t) ∧ Below w.heap.size w w' := by
 have HE := Lib.hid (show Below w.heap.size w ((w.alloc (.cells #[fnV a, fnV kv, fnV 101, fnV kh, fnV s, .int .i64 x, .int .i64 y, .int .i64 z] 99)).alloc (.cells #[.int .i64 0, .int .i64 0] 35)) from below_a2 (Below.refl _ _))
 have HK := Lib.hid (boxes2' w 99 35 #[fnV a, fnV kv, fnV 101, fnV kh, fnV s, .int .i64 x, .int .i64 y, .int .i64 z] #[.int .i64 0, .int .i64 0])
 have CC := Lib.hid hC
 have CD : Hid (∀ W, Calls Tryz.prog 43 #[rv p q, rv d0 d1] W fun e w' => e = .returned (rv r t) ∧ Below W.heap.size W w') := Lib.hid fun W => by rw [← hr, ← ht]; exact dense_any p q d0 d1 W
 have HH := Lib.hid (blkOn hB HE.out)
 have HF := Lib.hid (blkOn fB HE.out)
 have lb := hB.lt
 have lf := fB.lt
 clear hB fB hC hr ht
 go_enter Tryz.func42, Tryz.ntmps42
 go_upto_region 1 with fail
 obtain ⟨W0, hW0⟩ : ∃ W0, ((w.alloc (.cells #[fnV a, fnV kv, fnV 101, fnV kh, fnV s, .int .i64 x, .int .i64 y, .int .i64 z] 99)).alloc (.cells #[.int .i64 0, .int .i64 0] 35)) = W0 := ⟨_, rfl⟩
 rw [hW0] at HE HK HH HF ⊢
 clear hW0
 obtain ⟨G, hG⟩ : ∃ G, w.heap.size = G := ⟨_, rfl⟩
 rw [hG] at HK lb lf ⊢
 have HG := Lib.hid hG; clear hG
 have HS : Hid (Boxes W0.drew [(G, 99, #[fnV a, fnV kv, fnV 101, fnV kh, fnV s, .int .i64 x, .int .i64 y, .int .i64 z]), (Bh, 40, #[.int .i64 id, .int .i64 al, .int .i64 ah, .slice A n c, .slice B mm d, .slice C l ee, .int .i64 t0, .int .i64 t1, .int .i64 u0, .int .i64 u1, .int .i64 v0, .int .i64 v1, .int .i64 h0, .int .i64 h1]), (Bf, 43, #[.int .i64 fh, .int .i64 st, .int .i64 x0, .int .i64 x1, .int .i64 d0, .int .i64 d1])]) := Lib.hid (fun p hp => by
  rcases List.mem_cons.1 hp with rfl | hp
  ·exact HK.out _ (.tail _ (.head _))
  rcases List.mem_cons.1 hp with rfl | hp
  ·exact HH.out
  rcases List.mem_singleton.1 hp with rfl
  exact HF.out)
 clear HH HF
 refine wp_region_held_drew (S := fun w' => Boxes w' [(G, 99, #[fnV a, fnV kv, fnV 101, fnV kh, fnV s, .int .i64 x, .int .i64 y, .int .i64 z]), (Bh, 40, #[.int .i64 id, .int .i64 al, .int .i64 ah, .slice A n c, .slice B mm d, .slice C l ee, .int .i64 t0, .int .i64 t1, .int .i64 u0, .int .i64 u1, .int .i64 v0, .int .i64 v1, .int .i64 h0, .int .i64 h1]), (Bf, 43, #[.int .i64 fh, .int .i64 st, .int .i64 x0, .int .i64 x1, .int .i64 d0, .int .i64 d1])]) (by kernel_rfl) HS.out (fun hHeld => ?_)
 refine tK 5 (i := 0) (v := .pointer (some ⟨G, 2, none⟩)) rfl rfl (by kernel_rfl) ?_ hHeld ?_
 ·intro w hSw; clear hSw; go_simp; try with_reducible rfl
 simp only [uZ, uS]
 refine tK 6 (i := 1) (v := fnV 101) rfl rfl (by kernel_rfl) ?_ hHeld ?_
 ·intro w hSw; have c := (hSw _ (.head _)).cell 2; simp at c; clear hSw; go_simp; try with_reducible rfl
 simp only [uZ, uS]
 refine tK 7 (i := 2) (v := .agg #[.int .i64 id, .int .i64 al, .int .i64 ah, .slice A n c, .slice B mm d, .slice C l ee, .int .i64 t0, .int .i64 t1, .int .i64 u0, .int .i64 u1, .int .i64 v0, .int .i64 v1, .int .i64 h0, .int .i64 h1]) rfl rfl (by kernel_rfl) ?_ hHeld ?_
 ·intro w hSw; have hz := (hSw _ (.tail _ (.head _))); have c0 := hz.cell 0; have c1 := hz.cell 1; have c2 := hz.cell 2; have c3 := hz.cell 3; have c4 := hz.cell 4; have c5 := hz.cell 5; have c6 := hz.cell 6; have c7 := hz.cell 7; have c8 := hz.cell 8; have c9 := hz.cell 9; have c10 := hz.cell 10; have c11 := hz.cell 11; have c12 := hz.cell 12; have c13 := hz.cell 13; simp at c0 c1 c2 c3 c4 c5 c6 c7 c8 c9 c10 c11 c12 c13; clear hz hSw; go_simp; try with_reducible rfl
 simp only [uZ, uS]
 refine tK 8 (i := 3) (v := .agg #[.int .i64 fh, .int .i64 st, .int .i64 x0, .int .i64 x1, .int .i64 d0, .int .i64 d1]) rfl rfl (by kernel_rfl) ?_ hHeld ?_
 ·intro w hSw; have hz := (hSw _ (.tail _ (.tail _ (.head _)))); have c0 := hz.cell 0; have c1 := hz.cell 1; have c2 := hz.cell 2; have c3 := hz.cell 3; have c4 := hz.cell 4; have c5 := hz.cell 5; simp at c0 c1 c2 c3 c4 c5; clear hz hSw; go_simp; try with_reducible rfl
 simp only [uZ, uS]
 refine tK 10 (i := 5) (v := .pointer (some ⟨Bf, 4, none⟩)) rfl rfl (by kernel_rfl) ?_ hHeld ?_
 ·intro w hSw; clear hSw; go_simp; try with_reducible rfl
 simp only [uZ, uS]
 refine tK 11 (i := 6) (v := rv d0 d1) rfl rfl (by kernel_rfl) ?_ hHeld ?_
 ·intro w hSw; have hz := (hSw _ (.tail _ (.tail _ (.head _)))); have c4 := hz.cell 4; have c5 := hz.cell 5; simp at c4 c5; clear hz hSw; go_simp; try with_reducible rfl
 simp only [uZ, uS]
 refine wpAnyH_ready (rs := [4]) (by kernel_rfl) (by simp) ?_
 refine AllReadyH.cons rfl (fun K hK => ?_) AllReadyH.nil
 go_simp
 (with_reducible refine (CC.out _ (below_then HE.out (below_drew1 _))).mono ?_)
 rintro e y1 ⟨rfl, hb⟩
 have HE3 := Lib.hid (below_then (below_then HE.out (below_drew1 _)) hb)
 have HK3 := Lib.hid ((HK.out.on (below_drew1 _)).on hb)
 have hS3 := hHeld.on hb
 clear hb
 refine hK.out _ _ (hS3) (fun hHeld2 => ?_)
 try simp only [Act.put, uA, uZ, uS]
 clear hK K hHeld
 have hHeld := hHeld2
 clear hHeld2
 clear hS3 HE HK
 refine wpAnyH_ready (rs := [7]) (by kernel_rfl) (by simp) ?_
 refine AllReadyH.cons rfl (fun K hK => ?_) AllReadyH.nil
 go_simp
 (with_reducible refine (CD.out _).mono ?_)
 rintro e y2 ⟨rfl, hb⟩
 have HE4 := Lib.hid (below_then HE3.out hb)
 have HK4 := Lib.hid (HK3.out.on hb)
 have hS4 := hHeld.on hb
 clear hb
 refine hK.out _ _ (hS4) (fun hHeld2 => ?_)
 try simp only [Act.put, uA, uZ, uS]
 clear hK K hHeld
 have hHeld := hHeld2
 clear hHeld2
 clear hS4 HE3 HK3
 refine wpAnyH_ready (rs := [8]) (by kernel_rfl) (by simp) ?_
 refine AllReadyH.cons rfl (fun K hK => ?_) AllReadyH.nil
 rw [if_pos (by kernel_rfl)]
 have HKR : Hid (Blk (y2.setRow (G + 1) #[.int .i64 r, .int .i64 t]) (G + 1) 35 #[.int .i64 r, .int .i64 t]) := Lib.hid (setRow_heap y2 (G + 1) _ _ 35 _ (HK4.out _ (.head _)))
 have HE6 := Lib.hid (below_setRow HE4.out (show w.heap.size ≤ G + 1 by have := HG.out; omega) #[.int .i64 r, .int .i64 t])
 have hS6 : Boxes (y2.setRow (G + 1) #[.int .i64 r, .int .i64 t]) [(G, 99, #[fnV a, fnV kv, fnV 101, fnV kh, fnV s, .int .i64 x, .int .i64 y, .int .i64 z]), (Bh, 40, #[.int .i64 id, .int .i64 al, .int .i64 ah, .slice A n c, .slice B mm d, .slice C l ee, .int .i64 t0, .int .i64 t1, .int .i64 u0, .int .i64 u1, .int .i64 v0, .int .i64 v1, .int .i64 h0, .int .i64 h1]), (Bf, 43, #[.int .i64 fh, .int .i64 st, .int .i64 x0, .int .i64 x1, .int .i64 d0, .int .i64 d1])] := hHeld.farRow (fun p hp => by
  rcases List.mem_cons.1 hp with rfl | hp
  ·show G ≠ G + 1; omega
  rcases List.mem_cons.1 hp with rfl | hp
  ·show Bh ≠ G + 1; omega
  rcases List.mem_singleton.1 hp with rfl
  show Bf ≠ G + 1; omega) _
 refine wp_store_row 35 (.tmp 4) (.tmp 12) rfl (G + 1) #[.int .i64 r, .int .i64 t] rfl rfl 35 _ (HK4.out _ (.head _)) (by kernel_rfl) rfl (by kernel_rfl) ?_
 obtain ⟨W6, hW6⟩ : ∃ W6, y2.setRow (G + 1) #[.int .i64 r, .int .i64 t] = W6 := ⟨_, rfl⟩
 rw [hW6] at HKR HE6 hS6 ⊢
 refine hK.out _ _ hS6 (fun hHeld2 => ?_)
 clear hW6 hK K hHeld hHeld2 hS6
 refine wpAnyH_done (by kernel_rfl) ?_ _
 go_wp2
 exact bodyPost_ret (v := .agg #[.int .i64 r, .int .i64 t]) (results_cell_row Tryz.results42 _ _ (G + 1) 35 #[.int .i64 r, .int .i64 t] (0, 0) _ rfl HKR.out Tryz.underlying35 rfl (by kernel_rfl)) rfl ⟨rfl, HE6.out⟩
theorem heel1_any (h : HoldD) (m : HoldM) (f : FillD) (Bh Bf : Nat) (w : World) (hi : HoldIn w h m) (q0 : 0 ≤ f.st) (q5 : f.st ≤ 5) (hB : Blk w Bh 40 (holdCells h m)) (fB : Blk w Bf 43 (fillCells f)) :
    Calls Tryz.prog 42 #[.agg (mM f.st), .pointer (some ⟨Bh, 0, none⟩), .pointer (some ⟨Bf, 0, none⟩)] w fun e w' => e = .returned (rv (denseS (momS h f).1 (momS h f).2 f.d0 f.d1).1 (denseS (momS h f).1 (momS h f).2 f.d0 f.d1).2.1) ∧ Below w.heap.size w w' := by
  have hC := fun W (hW : Below w.heap.size w W) => momF_to h m f W (hi.below hW) q0 q5
  obtain ⟨id, al, ah, vol, mom, hei, t0, t1, u0, u1, v0, v1, h0, h1⟩ := h
  obtain ⟨A, n, c, B, mm, d, C, l, ee⟩ := m
  obtain ⟨fh, st, x0, x1, d0, d1⟩ := f
  dsimp only at hC q0 q5 hB fB ⊢
  rcases st_cases q0 q5 with rfl | rfl | rfl | rfl | rfl | rfl
  · rw [show mM 0 = emptyM from rfl]
    exact heel1_0 _ _ 0 _ _ _ _ _ _ _ _ _ id al ah t0 t1 u0 u1 v0 v1 h0 h1 A B C n c mm d l ee fh 0 x0 x1 d0 d1 Bh Bf w hB fB hC rfl rfl
  · rw [show mM 1 = filledM 98 from rfl]
    exact heel1_1 _ _ 0 _ _ _ _ _ _ _ _ _ id al ah t0 t1 u0 u1 v0 v1 h0 h1 A B C n c mm d l ee fh 1 x0 x1 d0 d1 Bh Bf w hB fB hC rfl rfl
  · rw [show mM 2 = filledM 99 from rfl]
    exact heel1_2 _ _ 0 _ _ _ _ _ _ _ _ _ id al ah t0 t1 u0 u1 v0 v1 h0 h1 A B C n c mm d l ee fh 2 x0 x1 d0 d1 Bh Bf w hB fB hC rfl rfl
  · rw [show mM 3 = partlyM 101 from rfl]
    exact heel1_3 _ _ 0 _ _ _ _ _ _ _ _ _ id al ah t0 t1 u0 u1 v0 v1 h0 h1 A B C n c mm d l ee fh 3 x0 x1 d0 d1 Bh Bf w hB fB hC rfl rfl
  · rw [show mM 4 = heldM from rfl]
    exact heel1_0 _ _ 0 _ _ _ _ _ _ _ _ _ id al ah t0 t1 u0 u1 v0 v1 h0 h1 A B C n c mm d l ee fh 4 x0 x1 d0 d1 Bh Bf w hB fB hC rfl rfl
  · rw [show mM 5 = heldM from rfl]
    exact heel1_0 _ _ 0 _ _ _ _ _ _ _ _ _ id al ah t0 t1 u0 u1 v0 v1 h0 h1 A B C n c mm d l ee fh 5 x0 x1 d0 d1 Bh Bf w hB fB hC rfl rfl
end

section
open Go.RowKit

def tellS (h : HoldD) (f : FillD) (v : Int × Int) : Int × Int × Int := if fillErr h f = 0 then (v.1, v.2, 0) else (0, 0, fillErr h f)
theorem fill_state {h : HoldD} {f : FillD} (e : fillErr h f = 0) : 0 ≤ f.st ∧ f.st ≤ 5 := by
  unfold fillErr at e
  split at e
  · split at e
    · rename_i g
      unfold fillS stateS at g
      simp at g
      omega
    · omega
  · omega
def denS (h : HoldD) (f : FillD) (v : Int × Int) : Int × Int := ((denseS v.1 v.2 f.d0 f.d1).1, (denseS v.1 v.2 f.d0 f.d1).2.1)

set_option maxRecDepth 100000 in
set_option maxHeartbeats 4000000 in
theorem tell_mass (E p q : Int) (M : Array Value) (id al ah t0 t1 u0 u1 v0 v1 h0 h1 : Int) (A B C : Option Addr) (n c mm d l ee : Nat) (fh st x0 x1 d0 d1 : Int) (Bh Bf : Nat) (w : World) (g0 : E = 0 → 0 ≤ st ∧ st ≤ 5) (gM : mM st = M)
  (C1 : ∀ W, Below w.heap.size w W → Calls Tryz.prog 35 #[.agg #[.int .i64 id, .int .i64 al, .int .i64 ah, .slice A n c, .slice B mm d, .slice C l ee, .int .i64 t0, .int .i64 t1, .int .i64 u0, .int .i64 u1, .int .i64 v0, .int .i64 v1, .int .i64 h0, .int .i64 h1], .agg #[.int .i64 fh, .int .i64 st, .int .i64 x0, .int .i64 x1, .int .i64 d0, .int .i64 d1]] W fun e w' => e = .returned (.int .i64 E) ∧ Below W.heap.size W w')
  (C3 : E = 0 → ∀ W, Below w.heap.size w W → Calls Tryz.prog 48 #[.agg M, .pointer (some ⟨Bh, 0, none⟩), .pointer (some ⟨Bf, 0, none⟩)] W fun e w' => e = .returned (rv p q) ∧ Below W.heap.size W w') :
  Calls Tryz.prog 41 #[.agg #[.int .i64 id, .int .i64 al, .int .i64 ah, .slice A n c, .slice B mm d, .slice C l ee, .int .i64 t0, .int .i64 t1, .int .i64 u0, .int .i64 u1, .int .i64 v0, .int .i64 v1, .int .i64 h0, .int .i64 h1], .agg #[.int .i64 fh, .int .i64 st, .int .i64 x0, .int .i64 x1, .int .i64 d0, .int .i64 d1], .func (.func 48) #[] #[.pointer (some ⟨Bh, 0, none⟩), .pointer (some ⟨Bf, 0, none⟩)]] w fun e w' => e = .returned (rt (if E = 0 then (p, q, 0) else (0, 0, E))) ∧ Below w.heap.size w w' := by
 have HE := Lib.hid (show Below w.heap.size w (((w.alloc (.cells #[.int .i64 id, .int .i64 al, .int .i64 ah, .slice A n c, .slice B mm d, .slice C l ee, .int .i64 t0, .int .i64 t1, .int .i64 u0, .int .i64 u1, .int .i64 v0, .int .i64 v1, .int .i64 h0, .int .i64 h1] 40)).alloc (.cells #[.int .i64 fh, .int .i64 st, .int .i64 x0, .int .i64 x1, .int .i64 d0, .int .i64 d1] 43)).alloc (.cells #[.int .i64 0, .int .i64 0] 35)) from below_a3 (Below.refl _ _))
 have HK := Lib.hid (boxes3' w 40 43 35 #[.int .i64 id, .int .i64 al, .int .i64 ah, .slice A n c, .slice B mm d, .slice C l ee, .int .i64 t0, .int .i64 t1, .int .i64 u0, .int .i64 u1, .int .i64 v0, .int .i64 v1, .int .i64 h0, .int .i64 h1] #[.int .i64 fh, .int .i64 st, .int .i64 x0, .int .i64 x1, .int .i64 d0, .int .i64 d1] #[.int .i64 0, .int .i64 0])
 have D1 := Lib.hid C1
 have D2 : Hid (E = 0 → ∀ W, Calls Tryz.prog 40 #[.agg #[.int .i64 fh, .int .i64 st, .int .i64 x0, .int .i64 x1, .int .i64 d0, .int .i64 d1]] W fun e w' => e = .returned (.agg M) ∧ Below W.heap.size W w') := Lib.hid fun h W => by rw [← gM]; exact meaningOf_any fh st x0 x1 d0 d1 W (g0 h).1 (g0 h).2
 have D3 := Lib.hid C3
 clear C1 C3 g0 gM
 by_cases g : E = 0
 ·rw [if_pos g]
  have X2 := Lib.hid (D2.out g)
  have X3 := Lib.hid (D3.out g)
  clear D2 D3
  subst g
  go_enter Tryz.func41, Tryz.ntmps41
  go_wp2_with fail
  obtain ⟨W0, hW0⟩ : ∃ W0, (((w.alloc (.cells #[.int .i64 id, .int .i64 al, .int .i64 ah, .slice A n c, .slice B mm d, .slice C l ee, .int .i64 t0, .int .i64 t1, .int .i64 u0, .int .i64 u1, .int .i64 v0, .int .i64 v1, .int .i64 h0, .int .i64 h1] 40)).alloc (.cells #[.int .i64 fh, .int .i64 st, .int .i64 x0, .int .i64 x1, .int .i64 d0, .int .i64 d1] 43)).alloc (.cells #[.int .i64 0, .int .i64 0] 35)) = W0 := ⟨_, rfl⟩
  rw [hW0] at HE HK ⊢
  clear hW0
  obtain ⟨G, hG⟩ : ∃ G, w.heap.size = G := ⟨_, rfl⟩
  rw [hG] at HK ⊢
  have HG := Lib.hid hG; clear hG
  refine (D1.out _ HE.out).mono ?_
  rintro e w1 ⟨rfl, hb⟩
  have HE1 := Lib.hid (below_then HE.out hb); have HK1 := Lib.hid (HK.out.on hb)
  clear hb HE HK D1
  have f := HK1.out _ (.tail _ (.head _))
  have f0 := f.cell 0
  have f1 := f.cell 1
  have f2 := f.cell 2
  have f3 := f.cell 3
  have f4 := f.cell 4
  have f5 := f.cell 5
  simp at f0 f1 f2 f3 f4 f5
  clear f
  go_wp2_with fail
  refine (X2.out _).mono ?_
  rintro e w2 ⟨rfl, hb⟩
  have HE2 := Lib.hid (below_then HE1.out hb); have HK2 := Lib.hid (HK1.out.on hb)
  clear hb HE1 HK1 X2 f0 f1 f2 f3 f4 f5
  go_wp2_with fail
  refine (X3.out _ HE2.out).mono ?_
  rintro e w3 ⟨rfl, hb⟩
  have HE3 := Lib.hid (below_then HE2.out hb); have HK3 := Lib.hid (HK2.out.on hb)
  clear hb HE2 HK2 X3
  have z := HK3.out _ (.head _)
  have z0 := z.cell 0
  have zf0 := z.frozen 0
  have z1 := z.cell 1
  have zf1 := z.frozen 1
  have zl := z.lt
  simp at z0 zf0 z1 zf1
  clear z
  go_wp2
  refine bodyPost_ret (v := rt (p, q, 0)) (by simp [results, Tryz.results41, go_sem, z0, z1]) rfl ⟨rfl, ?_⟩
  have hg := HG.out
  repeat (first | exact HE3.out | refine Below.setCell ?_ (by simp <;> omega) _)
 ·rw [if_neg g]
  clear D2 D3
  go_enter Tryz.func41, Tryz.ntmps41
  go_wp2_with fail
  obtain ⟨W0, hW0⟩ : ∃ W0, (((w.alloc (.cells #[.int .i64 id, .int .i64 al, .int .i64 ah, .slice A n c, .slice B mm d, .slice C l ee, .int .i64 t0, .int .i64 t1, .int .i64 u0, .int .i64 u1, .int .i64 v0, .int .i64 v1, .int .i64 h0, .int .i64 h1] 40)).alloc (.cells #[.int .i64 fh, .int .i64 st, .int .i64 x0, .int .i64 x1, .int .i64 d0, .int .i64 d1] 43)).alloc (.cells #[.int .i64 0, .int .i64 0] 35)) = W0 := ⟨_, rfl⟩
  rw [hW0] at HE HK ⊢
  clear hW0
  obtain ⟨G, hG⟩ : ∃ G, w.heap.size = G := ⟨_, rfl⟩
  rw [hG] at HK ⊢
  have HG := Lib.hid hG; clear hG
  refine (D1.out _ HE.out).mono ?_
  rintro e w1 ⟨rfl, hb⟩
  have HE1 := Lib.hid (below_then HE.out hb); have HK1 := Lib.hid (HK.out.on hb)
  clear hb HE HK D1
  have z := HK1.out _ (.head _)
  have z0 := z.cell 0
  have zf0 := z.frozen 0
  have z1 := z.cell 1
  have zf1 := z.frozen 1
  have zl := z.lt
  simp at z0 zf0 z1 zf1
  clear z
  go_wp2
  refine bodyPost_ret (v := rt (0, 0, E)) (by simp [results, Tryz.results41, go_sem, z0, z1]) rfl ⟨rfl, ?_⟩
  have hg := HG.out
  repeat (first | exact HE1.out | refine Below.setCell ?_ (by simp <;> omega) _)

set_option maxRecDepth 100000 in
set_option maxHeartbeats 4000000 in
theorem tell_mom (E p q : Int) (M : Array Value) (id al ah t0 t1 u0 u1 v0 v1 h0 h1 : Int) (A B C : Option Addr) (n c mm d l ee : Nat) (fh st x0 x1 d0 d1 : Int) (Bh Bf : Nat) (w : World) (g0 : E = 0 → 0 ≤ st ∧ st ≤ 5) (gM : mM st = M)
  (C1 : ∀ W, Below w.heap.size w W → Calls Tryz.prog 35 #[.agg #[.int .i64 id, .int .i64 al, .int .i64 ah, .slice A n c, .slice B mm d, .slice C l ee, .int .i64 t0, .int .i64 t1, .int .i64 u0, .int .i64 u1, .int .i64 v0, .int .i64 v1, .int .i64 h0, .int .i64 h1], .agg #[.int .i64 fh, .int .i64 st, .int .i64 x0, .int .i64 x1, .int .i64 d0, .int .i64 d1]] W fun e w' => e = .returned (.int .i64 E) ∧ Below W.heap.size W w')
  (C3 : E = 0 → ∀ W, Below w.heap.size w W → Calls Tryz.prog 86 #[.agg M, .pointer (some ⟨Bh, 0, none⟩), .pointer (some ⟨Bf, 0, none⟩)] W fun e w' => e = .returned (rv p q) ∧ Below W.heap.size W w') :
  Calls Tryz.prog 41 #[.agg #[.int .i64 id, .int .i64 al, .int .i64 ah, .slice A n c, .slice B mm d, .slice C l ee, .int .i64 t0, .int .i64 t1, .int .i64 u0, .int .i64 u1, .int .i64 v0, .int .i64 v1, .int .i64 h0, .int .i64 h1], .agg #[.int .i64 fh, .int .i64 st, .int .i64 x0, .int .i64 x1, .int .i64 d0, .int .i64 d1], .func (.func 86) #[] #[.pointer (some ⟨Bh, 0, none⟩), .pointer (some ⟨Bf, 0, none⟩)]] w fun e w' => e = .returned (rt (if E = 0 then (p, q, 0) else (0, 0, E))) ∧ Below w.heap.size w w' := by
 have HE := Lib.hid (show Below w.heap.size w (((w.alloc (.cells #[.int .i64 id, .int .i64 al, .int .i64 ah, .slice A n c, .slice B mm d, .slice C l ee, .int .i64 t0, .int .i64 t1, .int .i64 u0, .int .i64 u1, .int .i64 v0, .int .i64 v1, .int .i64 h0, .int .i64 h1] 40)).alloc (.cells #[.int .i64 fh, .int .i64 st, .int .i64 x0, .int .i64 x1, .int .i64 d0, .int .i64 d1] 43)).alloc (.cells #[.int .i64 0, .int .i64 0] 35)) from below_a3 (Below.refl _ _))
 have HK := Lib.hid (boxes3' w 40 43 35 #[.int .i64 id, .int .i64 al, .int .i64 ah, .slice A n c, .slice B mm d, .slice C l ee, .int .i64 t0, .int .i64 t1, .int .i64 u0, .int .i64 u1, .int .i64 v0, .int .i64 v1, .int .i64 h0, .int .i64 h1] #[.int .i64 fh, .int .i64 st, .int .i64 x0, .int .i64 x1, .int .i64 d0, .int .i64 d1] #[.int .i64 0, .int .i64 0])
 have D1 := Lib.hid C1
 have D2 : Hid (E = 0 → ∀ W, Calls Tryz.prog 40 #[.agg #[.int .i64 fh, .int .i64 st, .int .i64 x0, .int .i64 x1, .int .i64 d0, .int .i64 d1]] W fun e w' => e = .returned (.agg M) ∧ Below W.heap.size W w') := Lib.hid fun h W => by rw [← gM]; exact meaningOf_any fh st x0 x1 d0 d1 W (g0 h).1 (g0 h).2
 have D3 := Lib.hid C3
 clear C1 C3 g0 gM
 by_cases g : E = 0
 ·rw [if_pos g]
  have X2 := Lib.hid (D2.out g)
  have X3 := Lib.hid (D3.out g)
  clear D2 D3
  subst g
  go_enter Tryz.func41, Tryz.ntmps41
  go_wp2_with fail
  obtain ⟨W0, hW0⟩ : ∃ W0, (((w.alloc (.cells #[.int .i64 id, .int .i64 al, .int .i64 ah, .slice A n c, .slice B mm d, .slice C l ee, .int .i64 t0, .int .i64 t1, .int .i64 u0, .int .i64 u1, .int .i64 v0, .int .i64 v1, .int .i64 h0, .int .i64 h1] 40)).alloc (.cells #[.int .i64 fh, .int .i64 st, .int .i64 x0, .int .i64 x1, .int .i64 d0, .int .i64 d1] 43)).alloc (.cells #[.int .i64 0, .int .i64 0] 35)) = W0 := ⟨_, rfl⟩
  rw [hW0] at HE HK ⊢
  clear hW0
  obtain ⟨G, hG⟩ : ∃ G, w.heap.size = G := ⟨_, rfl⟩
  rw [hG] at HK ⊢
  have HG := Lib.hid hG; clear hG
  refine (D1.out _ HE.out).mono ?_
  rintro e w1 ⟨rfl, hb⟩
  have HE1 := Lib.hid (below_then HE.out hb); have HK1 := Lib.hid (HK.out.on hb)
  clear hb HE HK D1
  have f := HK1.out _ (.tail _ (.head _))
  have f0 := f.cell 0
  have f1 := f.cell 1
  have f2 := f.cell 2
  have f3 := f.cell 3
  have f4 := f.cell 4
  have f5 := f.cell 5
  simp at f0 f1 f2 f3 f4 f5
  clear f
  go_wp2_with fail
  refine (X2.out _).mono ?_
  rintro e w2 ⟨rfl, hb⟩
  have HE2 := Lib.hid (below_then HE1.out hb); have HK2 := Lib.hid (HK1.out.on hb)
  clear hb HE1 HK1 X2 f0 f1 f2 f3 f4 f5
  go_wp2_with fail
  refine (X3.out _ HE2.out).mono ?_
  rintro e w3 ⟨rfl, hb⟩
  have HE3 := Lib.hid (below_then HE2.out hb); have HK3 := Lib.hid (HK2.out.on hb)
  clear hb HE2 HK2 X3
  have z := HK3.out _ (.head _)
  have z0 := z.cell 0
  have zf0 := z.frozen 0
  have z1 := z.cell 1
  have zf1 := z.frozen 1
  have zl := z.lt
  simp at z0 zf0 z1 zf1
  clear z
  go_wp2
  refine bodyPost_ret (v := rt (p, q, 0)) (by simp [results, Tryz.results41, go_sem, z0, z1]) rfl ⟨rfl, ?_⟩
  have hg := HG.out
  repeat (first | exact HE3.out | refine Below.setCell ?_ (by simp <;> omega) _)
 ·rw [if_neg g]
  clear D2 D3
  go_enter Tryz.func41, Tryz.ntmps41
  go_wp2_with fail
  obtain ⟨W0, hW0⟩ : ∃ W0, (((w.alloc (.cells #[.int .i64 id, .int .i64 al, .int .i64 ah, .slice A n c, .slice B mm d, .slice C l ee, .int .i64 t0, .int .i64 t1, .int .i64 u0, .int .i64 u1, .int .i64 v0, .int .i64 v1, .int .i64 h0, .int .i64 h1] 40)).alloc (.cells #[.int .i64 fh, .int .i64 st, .int .i64 x0, .int .i64 x1, .int .i64 d0, .int .i64 d1] 43)).alloc (.cells #[.int .i64 0, .int .i64 0] 35)) = W0 := ⟨_, rfl⟩
  rw [hW0] at HE HK ⊢
  clear hW0
  obtain ⟨G, hG⟩ : ∃ G, w.heap.size = G := ⟨_, rfl⟩
  rw [hG] at HK ⊢
  have HG := Lib.hid hG; clear hG
  refine (D1.out _ HE.out).mono ?_
  rintro e w1 ⟨rfl, hb⟩
  have HE1 := Lib.hid (below_then HE.out hb); have HK1 := Lib.hid (HK.out.on hb)
  clear hb HE HK D1
  have z := HK1.out _ (.head _)
  have z0 := z.cell 0
  have zf0 := z.frozen 0
  have z1 := z.cell 1
  have zf1 := z.frozen 1
  have zl := z.lt
  simp at z0 zf0 z1 zf1
  clear z
  go_wp2
  refine bodyPost_ret (v := rt (0, 0, E)) (by simp [results, Tryz.results41, go_sem, z0, z1]) rfl ⟨rfl, ?_⟩
  have hg := HG.out
  repeat (first | exact HE1.out | refine Below.setCell ?_ (by simp <;> omega) _)

set_option maxRecDepth 100000 in
set_option maxHeartbeats 4000000 in
theorem tell_heel (E p q : Int) (M : Array Value) (id al ah t0 t1 u0 u1 v0 v1 h0 h1 : Int) (A B C : Option Addr) (n c mm d l ee : Nat) (fh st x0 x1 d0 d1 : Int) (Bh Bf : Nat) (w : World) (g0 : E = 0 → 0 ≤ st ∧ st ≤ 5) (gM : mM st = M)
  (C1 : ∀ W, Below w.heap.size w W → Calls Tryz.prog 35 #[.agg #[.int .i64 id, .int .i64 al, .int .i64 ah, .slice A n c, .slice B mm d, .slice C l ee, .int .i64 t0, .int .i64 t1, .int .i64 u0, .int .i64 u1, .int .i64 v0, .int .i64 v1, .int .i64 h0, .int .i64 h1], .agg #[.int .i64 fh, .int .i64 st, .int .i64 x0, .int .i64 x1, .int .i64 d0, .int .i64 d1]] W fun e w' => e = .returned (.int .i64 E) ∧ Below W.heap.size W w')
  (C3 : E = 0 → ∀ W, Below w.heap.size w W → Calls Tryz.prog 42 #[.agg M, .pointer (some ⟨Bh, 0, none⟩), .pointer (some ⟨Bf, 0, none⟩)] W fun e w' => e = .returned (rv p q) ∧ Below W.heap.size W w') :
  Calls Tryz.prog 41 #[.agg #[.int .i64 id, .int .i64 al, .int .i64 ah, .slice A n c, .slice B mm d, .slice C l ee, .int .i64 t0, .int .i64 t1, .int .i64 u0, .int .i64 u1, .int .i64 v0, .int .i64 v1, .int .i64 h0, .int .i64 h1], .agg #[.int .i64 fh, .int .i64 st, .int .i64 x0, .int .i64 x1, .int .i64 d0, .int .i64 d1], .func (.func 42) #[] #[.pointer (some ⟨Bh, 0, none⟩), .pointer (some ⟨Bf, 0, none⟩)]] w fun e w' => e = .returned (rt (if E = 0 then (p, q, 0) else (0, 0, E))) ∧ Below w.heap.size w w' := by
 have HE := Lib.hid (show Below w.heap.size w (((w.alloc (.cells #[.int .i64 id, .int .i64 al, .int .i64 ah, .slice A n c, .slice B mm d, .slice C l ee, .int .i64 t0, .int .i64 t1, .int .i64 u0, .int .i64 u1, .int .i64 v0, .int .i64 v1, .int .i64 h0, .int .i64 h1] 40)).alloc (.cells #[.int .i64 fh, .int .i64 st, .int .i64 x0, .int .i64 x1, .int .i64 d0, .int .i64 d1] 43)).alloc (.cells #[.int .i64 0, .int .i64 0] 35)) from below_a3 (Below.refl _ _))
 have HK := Lib.hid (boxes3' w 40 43 35 #[.int .i64 id, .int .i64 al, .int .i64 ah, .slice A n c, .slice B mm d, .slice C l ee, .int .i64 t0, .int .i64 t1, .int .i64 u0, .int .i64 u1, .int .i64 v0, .int .i64 v1, .int .i64 h0, .int .i64 h1] #[.int .i64 fh, .int .i64 st, .int .i64 x0, .int .i64 x1, .int .i64 d0, .int .i64 d1] #[.int .i64 0, .int .i64 0])
 have D1 := Lib.hid C1
 have D2 : Hid (E = 0 → ∀ W, Calls Tryz.prog 40 #[.agg #[.int .i64 fh, .int .i64 st, .int .i64 x0, .int .i64 x1, .int .i64 d0, .int .i64 d1]] W fun e w' => e = .returned (.agg M) ∧ Below W.heap.size W w') := Lib.hid fun h W => by rw [← gM]; exact meaningOf_any fh st x0 x1 d0 d1 W (g0 h).1 (g0 h).2
 have D3 := Lib.hid C3
 clear C1 C3 g0 gM
 by_cases g : E = 0
 ·rw [if_pos g]
  have X2 := Lib.hid (D2.out g)
  have X3 := Lib.hid (D3.out g)
  clear D2 D3
  subst g
  go_enter Tryz.func41, Tryz.ntmps41
  go_wp2_with fail
  obtain ⟨W0, hW0⟩ : ∃ W0, (((w.alloc (.cells #[.int .i64 id, .int .i64 al, .int .i64 ah, .slice A n c, .slice B mm d, .slice C l ee, .int .i64 t0, .int .i64 t1, .int .i64 u0, .int .i64 u1, .int .i64 v0, .int .i64 v1, .int .i64 h0, .int .i64 h1] 40)).alloc (.cells #[.int .i64 fh, .int .i64 st, .int .i64 x0, .int .i64 x1, .int .i64 d0, .int .i64 d1] 43)).alloc (.cells #[.int .i64 0, .int .i64 0] 35)) = W0 := ⟨_, rfl⟩
  rw [hW0] at HE HK ⊢
  clear hW0
  obtain ⟨G, hG⟩ : ∃ G, w.heap.size = G := ⟨_, rfl⟩
  rw [hG] at HK ⊢
  have HG := Lib.hid hG; clear hG
  refine (D1.out _ HE.out).mono ?_
  rintro e w1 ⟨rfl, hb⟩
  have HE1 := Lib.hid (below_then HE.out hb); have HK1 := Lib.hid (HK.out.on hb)
  clear hb HE HK D1
  have f := HK1.out _ (.tail _ (.head _))
  have f0 := f.cell 0
  have f1 := f.cell 1
  have f2 := f.cell 2
  have f3 := f.cell 3
  have f4 := f.cell 4
  have f5 := f.cell 5
  simp at f0 f1 f2 f3 f4 f5
  clear f
  go_wp2_with fail
  refine (X2.out _).mono ?_
  rintro e w2 ⟨rfl, hb⟩
  have HE2 := Lib.hid (below_then HE1.out hb); have HK2 := Lib.hid (HK1.out.on hb)
  clear hb HE1 HK1 X2 f0 f1 f2 f3 f4 f5
  go_wp2_with fail
  refine (X3.out _ HE2.out).mono ?_
  rintro e w3 ⟨rfl, hb⟩
  have HE3 := Lib.hid (below_then HE2.out hb); have HK3 := Lib.hid (HK2.out.on hb)
  clear hb HE2 HK2 X3
  have z := HK3.out _ (.head _)
  have z0 := z.cell 0
  have zf0 := z.frozen 0
  have z1 := z.cell 1
  have zf1 := z.frozen 1
  have zl := z.lt
  simp at z0 zf0 z1 zf1
  clear z
  go_wp2
  refine bodyPost_ret (v := rt (p, q, 0)) (by simp [results, Tryz.results41, go_sem, z0, z1]) rfl ⟨rfl, ?_⟩
  have hg := HG.out
  repeat (first | exact HE3.out | refine Below.setCell ?_ (by simp <;> omega) _)
 ·rw [if_neg g]
  clear D2 D3
  go_enter Tryz.func41, Tryz.ntmps41
  go_wp2_with fail
  obtain ⟨W0, hW0⟩ : ∃ W0, (((w.alloc (.cells #[.int .i64 id, .int .i64 al, .int .i64 ah, .slice A n c, .slice B mm d, .slice C l ee, .int .i64 t0, .int .i64 t1, .int .i64 u0, .int .i64 u1, .int .i64 v0, .int .i64 v1, .int .i64 h0, .int .i64 h1] 40)).alloc (.cells #[.int .i64 fh, .int .i64 st, .int .i64 x0, .int .i64 x1, .int .i64 d0, .int .i64 d1] 43)).alloc (.cells #[.int .i64 0, .int .i64 0] 35)) = W0 := ⟨_, rfl⟩
  rw [hW0] at HE HK ⊢
  clear hW0
  obtain ⟨G, hG⟩ : ∃ G, w.heap.size = G := ⟨_, rfl⟩
  rw [hG] at HK ⊢
  have HG := Lib.hid hG; clear hG
  refine (D1.out _ HE.out).mono ?_
  rintro e w1 ⟨rfl, hb⟩
  have HE1 := Lib.hid (below_then HE.out hb); have HK1 := Lib.hid (HK.out.on hb)
  clear hb HE HK D1
  have z := HK1.out _ (.head _)
  have z0 := z.cell 0
  have zf0 := z.frozen 0
  have z1 := z.cell 1
  have zf1 := z.frozen 1
  have zl := z.lt
  simp at z0 zf0 z1 zf1
  clear z
  go_wp2
  refine bodyPost_ret (v := rt (0, 0, E)) (by simp [results, Tryz.results41, go_sem, z0, z1]) rfl ⟨rfl, ?_⟩
  have hg := HG.out
  repeat (first | exact HE1.out | refine Below.setCell ?_ (by simp <;> omega) _)

set_option maxRecDepth 100000 in
set_option maxHeartbeats 4000000 in
theorem hMass_any (h : HoldD) (m : HoldM) (f : FillD) (w : World) (hi : HoldIn w h m) :
  Calls Tryz.prog 27 #[holdV h m, fillV f] w fun e w' => e = .returned (rt (tellS h f (denS h f (volS h f)))) ∧ Below w.heap.size w w' := by
 have HI := Lib.hid hi
 obtain ⟨R, hR⟩ : ∃ R, tellS h f (denS h f (volS h f)) = R := ⟨_, rfl⟩
 have CT : Hid (∀ W Bh Bf, Below w.heap.size w W → Blk W Bh 40 (holdCells h m) → Blk W Bf 43 (fillCells f) → Calls Tryz.prog 41 #[holdV h m, fillV f, .func (.func 48) #[] #[.pointer (some ⟨Bh, 0, none⟩), .pointer (some ⟨Bf, 0, none⟩)]] W fun e w' => e = .returned (rt R) ∧ Below W.heap.size W w') := Lib.hid fun W Bh Bf hW hB fB => by
  rw [← hR]
  exact tell_mass (fillErr h f) (denS h f (volS h f)).1 (denS h f (volS h f)).2 (mM f.st) h.id h.al h.ah h.t0 h.t1 h.u0 h.u1 h.v0 h.v1 h.h0 h.h1 m.A m.B m.C m.n m.c m.m m.d m.l m.e f.hold f.st f.x0 f.x1 f.d0 f.d1 Bh Bf W fill_state rfl
   (fun V hV => checkFill_any h m f V (HI.out.below (below_then hW hV)))
   (fun e V hV => mass1_any h m f Bh Bf V (HI.out.below (below_then hW hV)) (fill_state e).1 (fill_state e).2 (blkOn hB hV) (blkOn fB hV))
 rw [hR]
 clear hR hi HI
 obtain ⟨id, al, ah, vol, mom, hei, t0, t1, u0, u1, v0, v1, h0, h1⟩ := h
 obtain ⟨A, n, c, B, mm, d, C, l, ee⟩ := m
 obtain ⟨fh, st, x0, x1, d0, d1⟩ := f
 obtain ⟨ra, rb, re⟩ := R
 have HE := Lib.hid (show Below w.heap.size w (((w.alloc (.cells #[.int .i64 id, .int .i64 al, .int .i64 ah, .slice A n c, .slice B mm d, .slice C l ee, .int .i64 t0, .int .i64 t1, .int .i64 u0, .int .i64 u1, .int .i64 v0, .int .i64 v1, .int .i64 h0, .int .i64 h1] 40)).alloc (.cells #[.int .i64 fh, .int .i64 st, .int .i64 x0, .int .i64 x1, .int .i64 d0, .int .i64 d1] 43)).alloc (.cells #[.int .i64 0, .int .i64 0] 35)) from below_a3 (Below.refl _ _))
 have HK := Lib.hid (boxes3' w 40 43 35 #[.int .i64 id, .int .i64 al, .int .i64 ah, .slice A n c, .slice B mm d, .slice C l ee, .int .i64 t0, .int .i64 t1, .int .i64 u0, .int .i64 u1, .int .i64 v0, .int .i64 v1, .int .i64 h0, .int .i64 h1] #[.int .i64 fh, .int .i64 st, .int .i64 x0, .int .i64 x1, .int .i64 d0, .int .i64 d1] #[.int .i64 0, .int .i64 0])
 go_enter Tryz.func27, Tryz.ntmps27
 go_wp2_with fail
 obtain ⟨W0, hW0⟩ : ∃ W0, (((w.alloc (.cells #[.int .i64 id, .int .i64 al, .int .i64 ah, .slice A n c, .slice B mm d, .slice C l ee, .int .i64 t0, .int .i64 t1, .int .i64 u0, .int .i64 u1, .int .i64 v0, .int .i64 v1, .int .i64 h0, .int .i64 h1] 40)).alloc (.cells #[.int .i64 fh, .int .i64 st, .int .i64 x0, .int .i64 x1, .int .i64 d0, .int .i64 d1] 43)).alloc (.cells #[.int .i64 0, .int .i64 0] 35)) = W0 := ⟨_, rfl⟩
 rw [hW0] at HE HK ⊢
 clear hW0
 obtain ⟨G, hG⟩ : ∃ G, w.heap.size = G := ⟨_, rfl⟩
 rw [hG] at HK ⊢
 have HG := Lib.hid hG; clear hG
 refine (CT.out _ _ _ HE.out (HK.out _ (.tail _ (.tail _ (.head _)))) (HK.out _ (.tail _ (.head _)))).mono ?_
 rintro e w1 ⟨rfl, hb⟩
 have HE1 := Lib.hid (below_then HE.out hb); have HK1 := Lib.hid (HK.out.on hb)
 clear hb HE HK CT
 have z := HK1.out _ (.head _)
 have z0 := z.cell 0
 have zf0 := z.frozen 0
 have z1 := z.cell 1
 have zf1 := z.frozen 1
 have zl := z.lt
 simp at z0 zf0 z1 zf1
 clear z
 go_wp2
 refine bodyPost_ret (v := rt (ra, rb, re)) (by simp [results, Tryz.results27, go_sem, z0, z1]) rfl ⟨rfl, ?_⟩
 have hg := HG.out
 repeat (first | exact HE1.out | refine Below.setCell ?_ (by simp <;> omega) _)

set_option maxRecDepth 100000 in
set_option maxHeartbeats 4000000 in
theorem hMoment_any (h : HoldD) (m : HoldM) (f : FillD) (w : World) (hi : HoldIn w h m) :
  Calls Tryz.prog 58 #[holdV h m, fillV f] w fun e w' => e = .returned (rt (tellS h f (momS h f))) ∧ Below w.heap.size w w' := by
 have HI := Lib.hid hi
 obtain ⟨R, hR⟩ : ∃ R, tellS h f (momS h f) = R := ⟨_, rfl⟩
 have CT : Hid (∀ W Bh Bf, Below w.heap.size w W → Blk W Bh 40 (holdCells h m) → Blk W Bf 43 (fillCells f) → Calls Tryz.prog 41 #[holdV h m, fillV f, .func (.func 86) #[] #[.pointer (some ⟨Bh, 0, none⟩), .pointer (some ⟨Bf, 0, none⟩)]] W fun e w' => e = .returned (rt R) ∧ Below W.heap.size W w') := Lib.hid fun W Bh Bf hW hB fB => by
  rw [← hR]
  exact tell_mom (fillErr h f) (momS h f).1 (momS h f).2 (mM f.st) h.id h.al h.ah h.t0 h.t1 h.u0 h.u1 h.v0 h.v1 h.h0 h.h1 m.A m.B m.C m.n m.c m.m m.d m.l m.e f.hold f.st f.x0 f.x1 f.d0 f.d1 Bh Bf W fill_state rfl
   (fun V hV => checkFill_any h m f V (HI.out.below (below_then hW hV)))
   (fun e V hV => moment1_any h m f Bh Bf V (HI.out.below (below_then hW hV)) (fill_state e).1 (fill_state e).2 (blkOn hB hV) (blkOn fB hV))
 rw [hR]
 clear hR hi HI
 obtain ⟨id, al, ah, vol, mom, hei, t0, t1, u0, u1, v0, v1, h0, h1⟩ := h
 obtain ⟨A, n, c, B, mm, d, C, l, ee⟩ := m
 obtain ⟨fh, st, x0, x1, d0, d1⟩ := f
 obtain ⟨ra, rb, re⟩ := R
 have HE := Lib.hid (show Below w.heap.size w (((w.alloc (.cells #[.int .i64 id, .int .i64 al, .int .i64 ah, .slice A n c, .slice B mm d, .slice C l ee, .int .i64 t0, .int .i64 t1, .int .i64 u0, .int .i64 u1, .int .i64 v0, .int .i64 v1, .int .i64 h0, .int .i64 h1] 40)).alloc (.cells #[.int .i64 fh, .int .i64 st, .int .i64 x0, .int .i64 x1, .int .i64 d0, .int .i64 d1] 43)).alloc (.cells #[.int .i64 0, .int .i64 0] 35)) from below_a3 (Below.refl _ _))
 have HK := Lib.hid (boxes3' w 40 43 35 #[.int .i64 id, .int .i64 al, .int .i64 ah, .slice A n c, .slice B mm d, .slice C l ee, .int .i64 t0, .int .i64 t1, .int .i64 u0, .int .i64 u1, .int .i64 v0, .int .i64 v1, .int .i64 h0, .int .i64 h1] #[.int .i64 fh, .int .i64 st, .int .i64 x0, .int .i64 x1, .int .i64 d0, .int .i64 d1] #[.int .i64 0, .int .i64 0])
 go_enter Tryz.func58, Tryz.ntmps58
 go_wp2_with fail
 obtain ⟨W0, hW0⟩ : ∃ W0, (((w.alloc (.cells #[.int .i64 id, .int .i64 al, .int .i64 ah, .slice A n c, .slice B mm d, .slice C l ee, .int .i64 t0, .int .i64 t1, .int .i64 u0, .int .i64 u1, .int .i64 v0, .int .i64 v1, .int .i64 h0, .int .i64 h1] 40)).alloc (.cells #[.int .i64 fh, .int .i64 st, .int .i64 x0, .int .i64 x1, .int .i64 d0, .int .i64 d1] 43)).alloc (.cells #[.int .i64 0, .int .i64 0] 35)) = W0 := ⟨_, rfl⟩
 rw [hW0] at HE HK ⊢
 clear hW0
 obtain ⟨G, hG⟩ : ∃ G, w.heap.size = G := ⟨_, rfl⟩
 rw [hG] at HK ⊢
 have HG := Lib.hid hG; clear hG
 refine (CT.out _ _ _ HE.out (HK.out _ (.tail _ (.tail _ (.head _)))) (HK.out _ (.tail _ (.head _)))).mono ?_
 rintro e w1 ⟨rfl, hb⟩
 have HE1 := Lib.hid (below_then HE.out hb); have HK1 := Lib.hid (HK.out.on hb)
 clear hb HE HK CT
 have z := HK1.out _ (.head _)
 have z0 := z.cell 0
 have zf0 := z.frozen 0
 have z1 := z.cell 1
 have zf1 := z.frozen 1
 have zl := z.lt
 simp at z0 zf0 z1 zf1
 clear z
 go_wp2
 refine bodyPost_ret (v := rt (ra, rb, re)) (by simp [results, Tryz.results58, go_sem, z0, z1]) rfl ⟨rfl, ?_⟩
 have hg := HG.out
 repeat (first | exact HE1.out | refine Below.setCell ?_ (by simp <;> omega) _)

set_option maxRecDepth 100000 in
set_option maxHeartbeats 4000000 in
theorem hHeel_any (h : HoldD) (m : HoldM) (f : FillD) (w : World) (hi : HoldIn w h m) :
  Calls Tryz.prog 22 #[holdV h m, fillV f] w fun e w' => e = .returned (rt (tellS h f (denS h f (momS h f)))) ∧ Below w.heap.size w w' := by
 have HI := Lib.hid hi
 obtain ⟨R, hR⟩ : ∃ R, tellS h f (denS h f (momS h f)) = R := ⟨_, rfl⟩
 have CT : Hid (∀ W Bh Bf, Below w.heap.size w W → Blk W Bh 40 (holdCells h m) → Blk W Bf 43 (fillCells f) → Calls Tryz.prog 41 #[holdV h m, fillV f, .func (.func 42) #[] #[.pointer (some ⟨Bh, 0, none⟩), .pointer (some ⟨Bf, 0, none⟩)]] W fun e w' => e = .returned (rt R) ∧ Below W.heap.size W w') := Lib.hid fun W Bh Bf hW hB fB => by
  rw [← hR]
  exact tell_heel (fillErr h f) (denS h f (momS h f)).1 (denS h f (momS h f)).2 (mM f.st) h.id h.al h.ah h.t0 h.t1 h.u0 h.u1 h.v0 h.v1 h.h0 h.h1 m.A m.B m.C m.n m.c m.m m.d m.l m.e f.hold f.st f.x0 f.x1 f.d0 f.d1 Bh Bf W fill_state rfl
   (fun V hV => checkFill_any h m f V (HI.out.below (below_then hW hV)))
   (fun e V hV => heel1_any h m f Bh Bf V (HI.out.below (below_then hW hV)) (fill_state e).1 (fill_state e).2 (blkOn hB hV) (blkOn fB hV))
 rw [hR]
 clear hR hi HI
 obtain ⟨id, al, ah, vol, mom, hei, t0, t1, u0, u1, v0, v1, h0, h1⟩ := h
 obtain ⟨A, n, c, B, mm, d, C, l, ee⟩ := m
 obtain ⟨fh, st, x0, x1, d0, d1⟩ := f
 obtain ⟨ra, rb, re⟩ := R
 have HE := Lib.hid (show Below w.heap.size w (((w.alloc (.cells #[.int .i64 id, .int .i64 al, .int .i64 ah, .slice A n c, .slice B mm d, .slice C l ee, .int .i64 t0, .int .i64 t1, .int .i64 u0, .int .i64 u1, .int .i64 v0, .int .i64 v1, .int .i64 h0, .int .i64 h1] 40)).alloc (.cells #[.int .i64 fh, .int .i64 st, .int .i64 x0, .int .i64 x1, .int .i64 d0, .int .i64 d1] 43)).alloc (.cells #[.int .i64 0, .int .i64 0] 35)) from below_a3 (Below.refl _ _))
 have HK := Lib.hid (boxes3' w 40 43 35 #[.int .i64 id, .int .i64 al, .int .i64 ah, .slice A n c, .slice B mm d, .slice C l ee, .int .i64 t0, .int .i64 t1, .int .i64 u0, .int .i64 u1, .int .i64 v0, .int .i64 v1, .int .i64 h0, .int .i64 h1] #[.int .i64 fh, .int .i64 st, .int .i64 x0, .int .i64 x1, .int .i64 d0, .int .i64 d1] #[.int .i64 0, .int .i64 0])
 go_enter Tryz.func22, Tryz.ntmps22
 go_wp2_with fail
 obtain ⟨W0, hW0⟩ : ∃ W0, (((w.alloc (.cells #[.int .i64 id, .int .i64 al, .int .i64 ah, .slice A n c, .slice B mm d, .slice C l ee, .int .i64 t0, .int .i64 t1, .int .i64 u0, .int .i64 u1, .int .i64 v0, .int .i64 v1, .int .i64 h0, .int .i64 h1] 40)).alloc (.cells #[.int .i64 fh, .int .i64 st, .int .i64 x0, .int .i64 x1, .int .i64 d0, .int .i64 d1] 43)).alloc (.cells #[.int .i64 0, .int .i64 0] 35)) = W0 := ⟨_, rfl⟩
 rw [hW0] at HE HK ⊢
 clear hW0
 obtain ⟨G, hG⟩ : ∃ G, w.heap.size = G := ⟨_, rfl⟩
 rw [hG] at HK ⊢
 have HG := Lib.hid hG; clear hG
 refine (CT.out _ _ _ HE.out (HK.out _ (.tail _ (.tail _ (.head _)))) (HK.out _ (.tail _ (.head _)))).mono ?_
 rintro e w1 ⟨rfl, hb⟩
 have HE1 := Lib.hid (below_then HE.out hb); have HK1 := Lib.hid (HK.out.on hb)
 clear hb HE HK CT
 have z := HK1.out _ (.head _)
 have z0 := z.cell 0
 have zf0 := z.frozen 0
 have z1 := z.cell 1
 have zf1 := z.frozen 1
 have zl := z.lt
 simp at z0 zf0 z1 zf1
 clear z
 go_wp2
 refine bodyPost_ret (v := rt (ra, rb, re)) (by simp [results, Tryz.results22, go_sem, z0, z1]) rfl ⟨rfl, ?_⟩
 have hg := HG.out
 repeat (first | exact HE1.out | refine Below.setCell ?_ (by simp <;> omega) _)
end

section
open Go.RowKit

abbrev bt (r : Int × Int × Bool) : Value := .tuple #[.int .i64 r.1, .int .i64 r.2.1, .bool r.2.2]
end

section
open Go.RowKit
attribute [local go_sem ↓] run_minI run_maxI
theorem OwnRuns.slice {base : Nat} {X : World} {v : Value} {L : List (Int × Int)} (ho : OwnRuns base X v L) : ∃ p c, v = .slice p L.length c := by
  obtain ⟨A, c, h, _⟩ := ho.runsP
  exact ⟨A, c, h⟩
end

section
open Go.RowKit
attribute [local go_sem ↓] run_minI run_maxI
def mm (s r : Int × Int) : Int × Int := (min s.1 r.1, max s.2 r.2)
end

end Go.Proofs.YtpcmcicnciejpaaGreat
