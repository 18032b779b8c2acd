/- The contract of the specification's Scale. No conditions but that the numbers are those of ints. -/
import Derived.Test.YtmenlaefekkahaaA9
set_option linter.unusedVariables false
set_option linter.unusedSimpArgs false
set_option linter.constructorNameAsVariable false
namespace Go.Proofs.Ytmenlaefekkahaa
open Go.RowKit
attribute [local go_sem ↓] eqlRange neqRange

theorem rScale_badRange (a b n d : Int) (w : World) (h : vR a b = false) :
    Calls Try.prog 21 #[rv a b, .int .i64 n, .int .i64 d] w fun e w' => e = .returned (rt (0, 0, 10)) ∧ Below w.heap.size w w' := by
  have H := Lib.hid h; clear h
  go_enter Try.func21, Try.ntmps21
  go_wp2_with fail
  refine (rValid_to a b _ _ H.out).mono ?_
  rintro e w1 ⟨rfl, hb⟩
  obtain ⟨hc, hf⟩ := bcell hb
  go_wp2
  exact bodyPost_ret (v := rt (0, 0, 10)) (by simp [results, Try.results21, go_sem, hc]) rfl ⟨rfl, ((below_a2 hb).setCell (by simp) _).setCell (by simp) _⟩

theorem rScale_badArg (a b n d : Int) (w : World) (h : vR a b = true) (hn : ¬ (-1000000000 ≤ n ∧ n ≤ 1000000000 ∧ 1 ≤ d ∧ d ≤ 1000000000)) :
    Calls Try.prog 21 #[rv a b, .int .i64 n, .int .i64 d] w fun e w' => e = .returned (rt (0, 0, 1)) ∧ Below w.heap.size w w' := by
  have H := Lib.hid h; clear h
  have h2 : n < -1000000000 ∨ (¬ n < -1000000000 ∧ 1000000000 < n) ∨ (¬ n < -1000000000 ∧ ¬ 1000000000 < n ∧ d < 1) ∨ (¬ n < -1000000000 ∧ ¬ 1000000000 < n ∧ ¬ d < 1 ∧ 1000000000 < d) := by omega
  clear hn
  rcases h2 with h2 | ⟨h2, h3⟩ | ⟨h2, h3, h4⟩ | ⟨h2, h3, h4, h5⟩
  all_goals
    go_enter Try.func21, Try.ntmps21
    go_wp2_with fail
    refine (rValid_to a b _ _ H.out).mono ?_
    rintro e w1 ⟨rfl, hb⟩
    obtain ⟨hc, hf⟩ := bcell hb
    go_wp2
    exact bodyPost_ret (v := rt (0, 0, 1)) (by simp [results, Try.results21, go_sem, hc]) rfl ⟨rfl, ((below_a2 hb).setCell (by simp) _).setCell (by simp) _⟩

/-- what the specification's scaled tells of x times n / d -/
def SCr (x n d v : Int) (k : Bool) : Prop := ∀ w, Calls Try.prog 84 #[.int .i64 x, .int .i64 n, .int .i64 d] w fun e w' => e = .returned (.tuple #[.int .i64 v, .bool k]) ∧ w = w'

set_option maxHeartbeats 1000000 in
theorem rScale_pos (a b n d v1 v2 : Int) (k1 k2 : Bool) (w : World) (h : vR a b = true) (hn : 0 ≤ n) (hn' : n ≤ 1000000000) (hd : 1 ≤ d) (hd' : d ≤ 1000000000)
    (hs1 : SCr (a) n d v1 k1) (hs2 : SCr (-b) n d v2 k2) (b1 : -4000000000000000 ≤ v1) (b2 : v1 ≤ 4000000000000000) (b3 : -4000000000000000 ≤ v2) (b4 : v2 ≤ 4000000000000000) :
    Calls Try.prog 21 #[rv a b, .int .i64 n, .int .i64 d] w fun e w' => e = .returned (rt (if (k1 && k2) = true then bigS v1 (-v2) else (0, 0, 5))) ∧ Below w.heap.size w w' := by
  obtain ⟨a1, a2, a3⟩ := (vR_iff _ _).1 h
  have H := Lib.hid h; clear h
  have HS1 := Lib.hid hs1; clear hs1
  have HS2 := Lib.hid hs2; clear hs2
  cases k1 <;> cases k2
  all_goals
    first | rw [if_pos (show (true && true) = true from rfl)] | rw [if_neg (by simp)]
    go_enter Try.func21, Try.ntmps21
    go_wp2_with fail
    refine (rValid_to a b _ _ H.out).mono ?_
    rintro e w1 ⟨rfl, hb⟩
    obtain ⟨hc, hf⟩ := bcell hb
    have hz0 : w.heap.size + 1 < w1.heap.size := by have := hb.size; simp at this; omega
    have hza : w.heap.size < w1.heap.size := by omega
    have hze : w.heap.size < w.heap.size + 1 + 1 := by omega
    have hB1 := below_a2 hb
    go_wp2_with fail
    refine (HS1.out _).mono ?_
    rintro e w' ⟨rfl, rfl⟩
    go_wp2_with fail
    refine (HS2.out _).mono ?_
    rintro e w' ⟨rfl, rfl⟩
    first
      | (go_wp2_with fail
         refine (made_any _ _ _).mono ?_
         rintro e w4 ⟨rfl, hb4⟩
         obtain ⟨hc4, hf4⟩ := bcell hb4
         have hz4 : w.heap.size + 1 < w4.heap.size := by have := hb4.size; (try simp at this); omega
         go_wp2
         refine bodyPost_ret (v := rt (bigS v1 (-v2))) (by simp [results, Try.results21, go_sem, hc4, hc, hz0, hz4]) rfl ⟨rfl, ?_⟩
         refine Below.setCell ?_ (by simp <;> omega) _
         refine Below.setCell ?_ (by simp <;> omega) _
         refine Below.trans ?_ (hb4.mono (by first | omega | (simp <;> omega)))
         repeat (first | exact hB1 | refine Below.setCell ?_ (by simp <;> omega) _))
      | (go_wp2
         refine bodyPost_ret (v := rt (0, 0, 5)) (by simp [results, Try.results21, go_sem, hc, hz0]) rfl ⟨rfl, ?_⟩
         repeat (first | exact hB1 | refine Below.setCell ?_ (by simp <;> omega) _))

set_option maxHeartbeats 1000000 in
theorem rScale_neg (a b n d v1 v2 : Int) (k1 k2 : Bool) (w : World) (h : vR a b = true) (hn : -1000000000 ≤ n) (hn' : n < 0) (hd : 1 ≤ d) (hd' : d ≤ 1000000000)
    (hs1 : SCr (b) n d v1 k1) (hs2 : SCr (-a) n d v2 k2) (b1 : -4000000000000000 ≤ v1) (b2 : v1 ≤ 4000000000000000) (b3 : -4000000000000000 ≤ v2) (b4 : v2 ≤ 4000000000000000) :
    Calls Try.prog 21 #[rv a b, .int .i64 n, .int .i64 d] w fun e w' => e = .returned (rt (if (k1 && k2) = true then bigS v1 (-v2) else (0, 0, 5))) ∧ Below w.heap.size w w' := by
  obtain ⟨a1, a2, a3⟩ := (vR_iff _ _).1 h
  have H := Lib.hid h; clear h
  have HS1 := Lib.hid hs1; clear hs1
  have HS2 := Lib.hid hs2; clear hs2
  cases k1 <;> cases k2
  all_goals
    first | rw [if_pos (show (true && true) = true from rfl)] | rw [if_neg (by simp)]
    go_enter Try.func21, Try.ntmps21
    go_wp2_with fail
    refine (rValid_to a b _ _ H.out).mono ?_
    rintro e w1 ⟨rfl, hb⟩
    obtain ⟨hc, hf⟩ := bcell hb
    have hz0 : w.heap.size + 1 < w1.heap.size := by have := hb.size; simp at this; omega
    have hza : w.heap.size < w1.heap.size := by omega
    have hze : w.heap.size < w.heap.size + 1 + 1 := by omega
    have hB1 := below_a2 hb
    go_wp2_with fail
    refine (HS1.out _).mono ?_
    rintro e w' ⟨rfl, rfl⟩
    go_wp2_with fail
    refine (HS2.out _).mono ?_
    rintro e w' ⟨rfl, rfl⟩
    first
      | (go_wp2_with fail
         refine (made_any _ _ _).mono ?_
         rintro e w4 ⟨rfl, hb4⟩
         obtain ⟨hc4, hf4⟩ := bcell hb4
         have hz4 : w.heap.size + 1 < w4.heap.size := by have := hb4.size; (try simp at this); omega
         go_wp2
         refine bodyPost_ret (v := rt (bigS v1 (-v2))) (by simp [results, Try.results21, go_sem, hc4, hc, hz0, hz4]) rfl ⟨rfl, ?_⟩
         refine Below.setCell ?_ (by simp <;> omega) _
         refine Below.setCell ?_ (by simp <;> omega) _
         refine Below.trans ?_ (hb4.mono (by first | omega | (simp <;> omega)))
         repeat (first | exact hB1 | refine Below.setCell ?_ (by simp <;> omega) _))
      | (go_wp2
         refine bodyPost_ret (v := rt (0, 0, 5)) (by simp [results, Try.results21, go_sem, hc, hz0]) rfl ⟨rfl, ?_⟩
         repeat (first | exact hB1 | refine Below.setCell ?_ (by simp <;> omega) _))

theorem scr_bounds (x n d : Int) (hn : -1000000000 ≤ n) (hn' : n ≤ 1000000000) (hd : 1 ≤ d) (h : rScOk (x / d) n) : -4000000000000000 ≤ x * n / d ∧ x * n / d ≤ 4000000000000000 := by
  obtain ⟨r1, r2⟩ := rest_bounds x d hd
  obtain ⟨p1, p2⟩ := of_absI_le (rScOk_mul _ _ h)
  obtain ⟨t1, t2⟩ := part_bounds' (x - x / d * d) n d hd r1 r2
  have hn9 := absI_le n 1000000000 hn hn'
  have hs := floor_split x n d hd
  omega
theorem scr_get (x n d : Int) (hx : -1000000000000000 ≤ x) (hx' : x ≤ 1000000000000000) (hn : -1000000000 ≤ n) (hn' : n ≤ 1000000000) (hd : 1 ≤ d) (hd' : d ≤ 1000000000) :
    ∃ v k, SCr x n d v k ∧ (-4000000000000000 ≤ v ∧ v ≤ 4000000000000000) ∧ ((k = true ∧ v = x * n / d) ∨ (k = false ∧ ¬ absI (x * n / d) ≤ 1000000000000000)) := by
  by_cases h : rScOk (x / d) n
  · exact ⟨_, true, fun w => rScaled_yes x n d w hx hx' hn hn' hd hd' h, scr_bounds x n d hn hn' hd h, .inl ⟨rfl, rfl⟩⟩
  · exact ⟨_, false, fun w => rScaled_no x n d w hx hx' hn hn' hd hd' h, by omega, .inr ⟨rfl, rfar_of_no x n d hd h⟩⟩

theorem rScale_any (a b n d : Int) (w : World) :
    Calls Try.prog 21 #[rv a b, .int .i64 n, .int .i64 d] w fun e w' => e = .returned (rt (scaleS a b n d)) ∧ Below w.heap.size w w' := by
  unfold scaleS
  cases h : vR a b
  · exact rScale_badRange a b n d w h
  · rw [if_pos rfl]
    obtain ⟨a1, a2, a3⟩ := (vR_iff _ _).1 h
    by_cases hn : -1000000000 ≤ n ∧ n ≤ 1000000000 ∧ 1 ≤ d ∧ d ≤ 1000000000
    · rw [if_pos hn]
      obtain ⟨n1, n2, d1, d2⟩ := hn
      by_cases hs : n < 0
      · rw [if_pos hs]
        obtain ⟨v1, k1, s1, ⟨b1, b2⟩, o1⟩ := scr_get b n d (by omega) (by omega) n1 n2 d1 d2
        obtain ⟨v2, k2, s2, ⟨b3, b4⟩, o2⟩ := scr_get (-a) n d (by omega) (by omega) n1 n2 d1 d2
        have hle := ends_le (-b) (-a) (-n) d (by omega) (by omega) d1
        rw [Int.neg_mul_neg, Int.neg_neg] at hle
        have e2 : -a * n = a * -n := by rw [Int.mul_neg, Int.neg_mul]
        rw [← e2] at hle
        rw [← pick_big k1 k2 v1 v2 _ _ hle o1 o2]
        exact rScale_neg a b n d v1 v2 k1 k2 w h n1 hs d1 d2 s1 s2 b1 b2 b3 b4
      · rw [if_neg hs]
        obtain ⟨v1, k1, s1, ⟨b1, b2⟩, o1⟩ := scr_get a n d (by omega) (by omega) n1 n2 d1 d2
        obtain ⟨v2, k2, s2, ⟨b3, b4⟩, o2⟩ := scr_get (-b) n d (by omega) (by omega) n1 n2 d1 d2
        rw [← pick_big k1 k2 v1 v2 _ _ (ends_le a b n d a1 (by omega) d1) o1 o2]
        exact rScale_pos a b n d v1 v2 k1 k2 w h (by omega) n2 d1 d2 s1 s2 b1 b2 b3 b4
    · rw [if_neg hn]; exact rScale_badArg a b n d w h hn
end Go.Proofs.Ytmenlaefekkahaa
