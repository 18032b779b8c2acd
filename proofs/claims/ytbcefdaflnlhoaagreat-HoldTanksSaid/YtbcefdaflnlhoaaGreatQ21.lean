/- The contracts of inverse for tanks, soundings and Sounding (hold). The condition of Sounding: the tank's tables lie in memory. -/
import Derived.Test.YtbcefdaflnlhoaaGreatQ19
import Derived.Test.YtbcefdaflnlhoaaGreatQ16
import Derived.Test.YtbcefdaflnlhoaaGreatQ09
import Derived.Test.YtbcefdaflnlhoaaGreatQ20
import Derived.Test.YtbcefdaflnlhoaaGreatQ08
import Derived.Test.YtbcefdaflnlhoaaGreatQ13
set_option linter.unusedVariables false
set_option linter.unusedSimpArgs false
set_option linter.constructorNameAsVariable false
namespace Go.Proofs.YtbcefdaflnlhoaaGreat

section
open Go.RowKit

/-- The inverse by the two turning places. -/
theorem inv_facts {f g : Int → Bool} {lo hi : Int} (hle : lo ≤ hi) (hf : ∀ u v, lo ≤ u → u ≤ v → v ≤ hi → f v = true → f u = true) (hg : ∀ u v, lo ≤ u → u ≤ v → v ≤ hi → g u = true → g v = true) :
    ∃ a b, invS f g lo hi = (if hi < a ∨ b = lo then (0, 0, 24) else (max (a - 1) lo, min b hi, 0)) ∧ (lo ≤ a ∧ a ≤ hi + 1) ∧ (∀ v, lo ≤ v → v < a → f v = true) ∧ (∀ v, a ≤ v → v ≤ hi → f v = false) ∧ (lo ≤ b ∧ b ≤ hi + 1) ∧ (∀ v, lo ≤ v → v < b → g v = false) ∧ (∀ v, b ≤ v → v ≤ hi → g v = true) := by
  obtain ⟨⟨a1, a2⟩, a3, a4⟩ := bs_turn (fun i => !(f (lo + i))) (hi - lo + 1).toNat 0 (hi - lo + 1) (by omega) (by omega) (fun u v h1 h2 h3 h4 => by
    cases q : f (lo + v)
    · rfl
    · have := hf (lo + u) (lo + v) (by omega) (by omega) (by omega) q
      simp [this] at h4)
  obtain ⟨⟨b1, b2⟩, b3, b4⟩ := bs_turn (fun i => g (lo + i)) (hi - lo + 1).toNat 0 (hi - lo + 1) (by omega) (by omega) (fun u v h1 h2 h3 h4 => hg (lo + u) (lo + v) (by omega) (by omega) (by omega) h4)
  refine ⟨_, _, rfl, ⟨by omega, by omega⟩, fun v h1 h2 => ?_, fun v h1 h2 => ?_, ⟨by omega, by omega⟩, fun v h1 h2 => ?_, fun v h1 h2 => ?_⟩
  · have := a3 (v - lo) (by omega) (by omega)
    rw [show lo + (v - lo) = v by omega] at this
    simpa using this
  · have := a4 (v - lo) (by omega) (by omega)
    rw [show lo + (v - lo) = v by omega] at this
    simpa using this
  · have := b3 (v - lo) (by omega) (by omega)
    rwa [show lo + (v - lo) = v by omega] at this
  · have := b4 (v - lo) (by omega) (by omega)
    rwa [show lo + (v - lo) = v by omega] at this

set_option maxRecDepth 100000 in
set_option maxHeartbeats 4000000 in
theorem sInverse_ahead (A : Option Addr) (n c : Nat) (v0 v1 lo hi a b : Int) (fl : Bool) (f g : Int → Bool) (w : World) (CF : Hid (∀ W x t, Below w.heap.size w W → lo ≤ x → x ≤ hi → f x = t → Calls Tryz.prog 102 #[tv A n c, rv v0 v1, .int .i64 x, .bool fl] W fun e w' => e = .returned (.bool t) ∧ Below W.heap.size W w')) (CG : Hid (∀ W x t, Below w.heap.size w W → lo ≤ x → x ≤ hi → g x = t → Calls Tryz.prog 102 #[tv A n c, rv v0 v1, .int .i64 x, .bool (!fl)] W fun e w' => e = .returned (.bool t) ∧ Below W.heap.size W w')) (P1 : Hid (∀ W, Below w.heap.size w W → Calls Tryz.prog 101 #[tv A n c] W fun e w' => e = .returned (.int .i64 lo) ∧ Below W.heap.size W w')) (P2 : Hid (∀ W, Below w.heap.size w W → Calls Tryz.prog 60 #[tv A n c] W fun e w' => e = .returned (.int .i64 hi) ∧ Below W.heap.size W w')) (hlo : 0 ≤ lo) (hle : lo ≤ hi) (hhi : hi ≤ 1000000) (ha : lo ≤ a ∧ a ≤ hi + 1) (hb : lo ≤ b ∧ b ≤ hi + 1) (hf1 : ∀ v, lo ≤ v → v < a → f v = true) (hf2 : ∀ v, a ≤ v → v ≤ hi → f v = false) (hg1 : ∀ v, lo ≤ v → v < b → g v = false) (hg2 : ∀ v, b ≤ v → v ≤ hi → g v = true) (h : hi < a) :
    Calls Tryz.prog 46 #[tv A n c, rv v0 v1, .bool fl] w fun e w' => e = .returned (.tuple #[rv 0 0, .bool false]) ∧ Below w.heap.size w w' := by
  have HE := Lib.hid (show Below w.heap.size w (((w.alloc (.cells #[.slice A n c] 26)).alloc (.cells #[.int .i64 v0, .int .i64 v1] 23)).alloc (.cells #[.int .i64 0, .int .i64 0] 23)) from below_a3 (Below.refl _ _))
  have HK := Lib.hid (boxes3' w 26 23 23 #[.slice A n c] #[.int .i64 v0, .int .i64 v1] #[.int .i64 0, .int .i64 0])
  have C1 := Lib.hid (fun W hW => CF.out W hi true hW hle (by omega) (hf1 hi hle h))
  clear CF CG hf1 hf2 hg1 hg2 ha hb h
  go_enter Tryz.func46, Tryz.ntmps46
  go_wp2_with fail
  obtain ⟨W0, hW0⟩ : ∃ W0, (((w.alloc (.cells #[.slice A n c] 26)).alloc (.cells #[.int .i64 v0, .int .i64 v1] 23)).alloc (.cells #[.int .i64 0, .int .i64 0] 23)) = W0 := ⟨_, rfl⟩
  rw [hW0] at HE HK ⊢
  clear hW0
  obtain ⟨G, hG⟩ : ∃ G, w.heap.size = G := ⟨_, rfl⟩
  rw [hG] at HK ⊢
  have HG := Lib.hid hG; clear hG
  have t := HK.out _ (.tail _ (.tail _ (.head _)))
  have t0 := t.cell 0
  simp at t0
  clear t
  go_upto_region 1 with fail
  refine (P1.out _ HE.out).mono ?_
  rintro e y1 ⟨rfl, hz⟩
  have HE1 := Lib.hid (below_then HE.out hz); have HK1 := Lib.hid (HK.out.on hz)
  clear hz HE HK P1 t0
  have t := HK1.out _ (.tail _ (.tail _ (.head _)))
  have t0 := t.cell 0
  simp at t0
  clear t
  go_wp2_with fail
  refine (P2.out _ HE1.out).mono ?_
  rintro e y2 ⟨rfl, hz⟩
  have HE2 := Lib.hid (below_then HE1.out hz); have HK2 := Lib.hid (HK1.out.on hz)
  clear hz HE1 HK1 P2 t0
  have t := HK2.out _ (.tail _ (.tail _ (.head _)))
  have t0 := t.cell 0
  simp at t0
  clear t
  have q := HK2.out _ (.tail _ (.head _))
  have q0 := q.cell 0
  have q1 := q.cell 1
  simp at q0 q1
  clear q
  go_wp2_with fail
  refine (C1.out _ HE2.out).mono ?_
  rintro e y3 ⟨rfl, hz⟩
  have HE3 := Lib.hid (below_then HE2.out hz); have HK3 := Lib.hid (HK2.out.on hz)
  clear hz HE2 HK2 C1 t0 q0 q1
  have z := HK3.out _ (.head _)
  have z0 := z.cell 0
  have zf0 := z.frozen 0
  have z1 := z.cell 1
  have zf1 := z.frozen 1
  have zl := z.lt
  simp at z0 zf0 z1 zf1
  clear z
  go_wp2
  refine bodyPost_ret (v := .tuple #[rv 0 0, .bool false]) (by simp [results, Tryz.results46, go_sem, z0, z1]) rfl ⟨rfl, ?_⟩
  have hg := HG.out
  repeat (first | exact HE3.out | refine Below.setCell ?_ (by simp <;> omega) _)

set_option maxRecDepth 100000 in
set_option maxHeartbeats 4000000 in
theorem sInverse_behind (A : Option Addr) (n c : Nat) (v0 v1 lo hi a b : Int) (fl : Bool) (f g : Int → Bool) (w : World) (CF : Hid (∀ W x t, Below w.heap.size w W → lo ≤ x → x ≤ hi → f x = t → Calls Tryz.prog 102 #[tv A n c, rv v0 v1, .int .i64 x, .bool fl] W fun e w' => e = .returned (.bool t) ∧ Below W.heap.size W w')) (CG : Hid (∀ W x t, Below w.heap.size w W → lo ≤ x → x ≤ hi → g x = t → Calls Tryz.prog 102 #[tv A n c, rv v0 v1, .int .i64 x, .bool (!fl)] W fun e w' => e = .returned (.bool t) ∧ Below W.heap.size W w')) (P1 : Hid (∀ W, Below w.heap.size w W → Calls Tryz.prog 101 #[tv A n c] W fun e w' => e = .returned (.int .i64 lo) ∧ Below W.heap.size W w')) (P2 : Hid (∀ W, Below w.heap.size w W → Calls Tryz.prog 60 #[tv A n c] W fun e w' => e = .returned (.int .i64 hi) ∧ Below W.heap.size W w')) (hlo : 0 ≤ lo) (hle : lo ≤ hi) (hhi : hi ≤ 1000000) (ha : lo ≤ a ∧ a ≤ hi + 1) (hb : lo ≤ b ∧ b ≤ hi + 1) (hf1 : ∀ v, lo ≤ v → v < a → f v = true) (hf2 : ∀ v, a ≤ v → v ≤ hi → f v = false) (hg1 : ∀ v, lo ≤ v → v < b → g v = false) (hg2 : ∀ v, b ≤ v → v ≤ hi → g v = true) (h : ¬ hi < a) (h' : b = lo) :
    Calls Tryz.prog 46 #[tv A n c, rv v0 v1, .bool fl] w fun e w' => e = .returned (.tuple #[rv 0 0, .bool false]) ∧ Below w.heap.size w w' := by
  have HE := Lib.hid (show Below w.heap.size w (((w.alloc (.cells #[.slice A n c] 26)).alloc (.cells #[.int .i64 v0, .int .i64 v1] 23)).alloc (.cells #[.int .i64 0, .int .i64 0] 23)) from below_a3 (Below.refl _ _))
  have HK := Lib.hid (boxes3' w 26 23 23 #[.slice A n c] #[.int .i64 v0, .int .i64 v1] #[.int .i64 0, .int .i64 0])
  have C1 := Lib.hid (fun W hW => CF.out W hi false hW hle (by omega) (hf2 hi (by omega) (by omega)))
  have C2 := Lib.hid (fun W hW => CG.out W lo true hW (by omega) hle (hg2 lo (by omega) hle))
  clear CF CG hf1 hf2 hg1 hg2 ha hb h h'
  go_enter Tryz.func46, Tryz.ntmps46
  go_wp2_with fail
  obtain ⟨W0, hW0⟩ : ∃ W0, (((w.alloc (.cells #[.slice A n c] 26)).alloc (.cells #[.int .i64 v0, .int .i64 v1] 23)).alloc (.cells #[.int .i64 0, .int .i64 0] 23)) = W0 := ⟨_, rfl⟩
  rw [hW0] at HE HK ⊢
  clear hW0
  obtain ⟨G, hG⟩ : ∃ G, w.heap.size = G := ⟨_, rfl⟩
  rw [hG] at HK ⊢
  have HG := Lib.hid hG; clear hG
  have t := HK.out _ (.tail _ (.tail _ (.head _)))
  have t0 := t.cell 0
  simp at t0
  clear t
  go_upto_region 1 with fail
  refine (P1.out _ HE.out).mono ?_
  rintro e y1 ⟨rfl, hz⟩
  have HE1 := Lib.hid (below_then HE.out hz); have HK1 := Lib.hid (HK.out.on hz)
  clear hz HE HK P1 t0
  have t := HK1.out _ (.tail _ (.tail _ (.head _)))
  have t0 := t.cell 0
  simp at t0
  clear t
  go_wp2_with fail
  refine (P2.out _ HE1.out).mono ?_
  rintro e y2 ⟨rfl, hz⟩
  have HE2 := Lib.hid (below_then HE1.out hz); have HK2 := Lib.hid (HK1.out.on hz)
  clear hz HE1 HK1 P2 t0
  have t := HK2.out _ (.tail _ (.tail _ (.head _)))
  have t0 := t.cell 0
  simp at t0
  clear t
  have q := HK2.out _ (.tail _ (.head _))
  have q0 := q.cell 0
  have q1 := q.cell 1
  simp at q0 q1
  clear q
  go_wp2_with fail
  refine (C1.out _ HE2.out).mono ?_
  rintro e y3 ⟨rfl, hz⟩
  have HE3 := Lib.hid (below_then HE2.out hz); have HK3 := Lib.hid (HK2.out.on hz)
  clear hz HE2 HK2 C1 t0 q0 q1
  have t := HK3.out _ (.tail _ (.tail _ (.head _)))
  have t0 := t.cell 0
  simp at t0
  clear t
  have q := HK3.out _ (.tail _ (.head _))
  have q0 := q.cell 0
  have q1 := q.cell 1
  simp at q0 q1
  clear q
  go_wp2_with fail
  refine (C2.out _ HE3.out).mono ?_
  rintro e y4 ⟨rfl, hz⟩
  have HE4 := Lib.hid (below_then HE3.out hz); have HK4 := Lib.hid (HK3.out.on hz)
  clear hz HE3 HK3 C2 t0 q0 q1
  have z := HK4.out _ (.head _)
  have z0 := z.cell 0
  have zf0 := z.frozen 0
  have z1 := z.cell 1
  have zf1 := z.frozen 1
  have zl := z.lt
  simp at z0 zf0 z1 zf1
  clear z
  go_wp2
  refine bodyPost_ret (v := .tuple #[rv 0 0, .bool false]) (by simp [results, Tryz.results46, go_sem, z0, z1]) rfl ⟨rfl, ?_⟩
  have hg := HG.out
  repeat (first | exact HE4.out | refine Below.setCell ?_ (by simp <;> omega) _)

theorem boxes_far {W : World} {L : List (Nat × TypeId × Array Value)} (h : Boxes W L) : ∀ p ∈ L, p.1 ≠ W.heap.size := fun p hp => Nat.ne_of_lt (h p hp).lt
theorem half_in {x y : Int} (h : 1 < y - x) (hx : 0 ≤ x) (hy : y ≤ 1000001) : ∃ q, (y - x).tdiv 2 = q ∧ 1 ≤ q ∧ x + q < y := by
  refine ⟨_, rfl, ?_⟩
  rw [Int.tdiv_eq_ediv_of_nonneg (by omega)]
  omega

set_option maxRecDepth 100000 in
set_option maxHeartbeats 4000000 in
theorem sInverse_none (A : Option Addr) (n c : Nat) (v0 v1 lo hi a b : Int) (fl : Bool) (f g : Int → Bool) (w : World) (CF : Hid (∀ W x t, Below w.heap.size w W → lo ≤ x → x ≤ hi → f x = t → Calls Tryz.prog 102 #[tv A n c, rv v0 v1, .int .i64 x, .bool fl] W fun e w' => e = .returned (.bool t) ∧ Below W.heap.size W w')) (CG : Hid (∀ W x t, Below w.heap.size w W → lo ≤ x → x ≤ hi → g x = t → Calls Tryz.prog 102 #[tv A n c, rv v0 v1, .int .i64 x, .bool (!fl)] W fun e w' => e = .returned (.bool t) ∧ Below W.heap.size W w')) (P1 : Hid (∀ W, Below w.heap.size w W → Calls Tryz.prog 101 #[tv A n c] W fun e w' => e = .returned (.int .i64 lo) ∧ Below W.heap.size W w')) (P2 : Hid (∀ W, Below w.heap.size w W → Calls Tryz.prog 60 #[tv A n c] W fun e w' => e = .returned (.int .i64 hi) ∧ Below W.heap.size W w')) (hlo : 0 ≤ lo) (hle : lo ≤ hi) (hhi : hi ≤ 1000000) (ha : lo ≤ a ∧ a ≤ hi + 1) (hb : lo ≤ b ∧ b ≤ hi + 1) (hf1 : ∀ v, lo ≤ v → v < a → f v = true) (hf2 : ∀ v, a ≤ v → v ≤ hi → f v = false) (hg1 : ∀ v, lo ≤ v → v < b → g v = false) (hg2 : ∀ v, b ≤ v → v ≤ hi → g v = true) (h : ¬ hi < a) (h' : ¬ b = lo) (j : ¬ lo < a) (j' : ¬ b ≤ hi) :
    Calls Tryz.prog 46 #[tv A n c, rv v0 v1, .bool fl] w fun e w' => e = .returned (.tuple #[rv lo hi, .bool true]) ∧ Below w.heap.size w w' := by
  have HE := Lib.hid (show Below w.heap.size w (((w.alloc (.cells #[.slice A n c] 26)).alloc (.cells #[.int .i64 v0, .int .i64 v1] 23)).alloc (.cells #[.int .i64 0, .int .i64 0] 23)) from below_a3 (Below.refl _ _))
  have HK := Lib.hid (boxes3' w 26 23 23 #[.slice A n c] #[.int .i64 v0, .int .i64 v1] #[.int .i64 0, .int .i64 0])
  have C1 := Lib.hid (fun W hW => CF.out W hi false hW hle (by omega) (hf2 hi (by omega) (by omega)))
  have C2 := Lib.hid (fun W hW => CG.out W lo false hW (by omega) hle (hg1 lo (by omega) (by omega)))
  have C3 := Lib.hid (fun W hW => CF.out W lo false hW (by omega) hle (hf2 lo (by omega) (by omega)))
  have C4 := Lib.hid (fun W hW => CG.out W hi false hW hle (by omega) (hg1 hi (by omega) (by omega)))
  go_enter Tryz.func46, Tryz.ntmps46
  go_wp2_with fail
  obtain ⟨W0, hW0⟩ : ∃ W0, (((w.alloc (.cells #[.slice A n c] 26)).alloc (.cells #[.int .i64 v0, .int .i64 v1] 23)).alloc (.cells #[.int .i64 0, .int .i64 0] 23)) = W0 := ⟨_, rfl⟩
  rw [hW0] at HE HK ⊢
  clear hW0
  obtain ⟨G, hG⟩ : ∃ G, w.heap.size = G := ⟨_, rfl⟩
  rw [hG] at HK ⊢
  have HG := Lib.hid hG; clear hG
  have t := HK.out _ (.tail _ (.tail _ (.head _)))
  have t0 := t.cell 0
  simp at t0
  clear t
  go_upto_region 1 with fail
  refine (P1.out _ HE.out).mono ?_
  rintro e y1 ⟨rfl, hz⟩
  have HE1 := Lib.hid (below_then HE.out hz); have HK1 := Lib.hid (HK.out.on hz)
  clear hz HE HK P1 t0
  have t := HK1.out _ (.tail _ (.tail _ (.head _)))
  have t0 := t.cell 0
  simp at t0
  clear t
  go_wp2_with fail
  refine (P2.out _ HE1.out).mono ?_
  rintro e y2 ⟨rfl, hz⟩
  have HE2 := Lib.hid (below_then HE1.out hz); have HK2 := Lib.hid (HK1.out.on hz)
  clear hz HE1 HK1 P2 t0
  have t := HK2.out _ (.tail _ (.tail _ (.head _)))
  have t0 := t.cell 0
  simp at t0
  clear t
  have q := HK2.out _ (.tail _ (.head _))
  have q0 := q.cell 0
  have q1 := q.cell 1
  simp at q0 q1
  clear q
  go_wp2_with fail
  refine (C1.out _ HE2.out).mono ?_
  rintro e y3 ⟨rfl, hz⟩
  have HE3 := Lib.hid (below_then HE2.out hz); have HK3 := Lib.hid (HK2.out.on hz)
  clear hz HE2 HK2 C1 t0 q0 q1
  have t := HK3.out _ (.tail _ (.tail _ (.head _)))
  have t0 := t.cell 0
  simp at t0
  clear t
  have q := HK3.out _ (.tail _ (.head _))
  have q0 := q.cell 0
  have q1 := q.cell 1
  simp at q0 q1
  clear q
  go_wp2_with fail
  refine (C2.out _ HE3.out).mono ?_
  rintro e y4 ⟨rfl, hz⟩
  have HE4 := Lib.hid (below_then HE3.out hz); have HK4 := Lib.hid (HK3.out.on hz)
  clear hz HE3 HK3 C2 t0 q0 q1
  go_upto_region 6 with fail
  have HE5 := Lib.hid (below_then HE4.out (below_alloc1 y4 (.cells #[.int .i64 lo, .int .i64 hi] 23))); have HK5 := Lib.hid (HK4.out.new 23 #[.int .i64 lo, .int .i64 hi])
  have HD := Lib.hid (boxes_far HK4.out)
  have HZ := Lib.hid HE4.out.size
  obtain ⟨W5, hW⟩ : ∃ W', y4.alloc (.cells #[.int .i64 lo, .int .i64 hi] 23) = W' := ⟨_, rfl⟩
  rw [hW] at HE5 HK5 ⊢
  clear hW HE4 HK4
  obtain ⟨N, hN⟩ : ∃ N, y4.heap.size = N := ⟨_, rfl⟩
  rw [hN] at HK5 HD HZ ⊢
  clear hN
  have t := HK5.out _ (.tail _ (.tail _ (.tail _ (.head _))))
  have t0 := t.cell 0
  simp at t0
  clear t
  have q := HK5.out _ (.tail _ (.tail _ (.head _)))
  have q0 := q.cell 0
  have q1 := q.cell 1
  simp at q0 q1
  clear q
  go_wp2_with fail
  refine (C3.out _ HE5.out).mono ?_
  rintro e y6 ⟨rfl, hz⟩
  have HE6 := Lib.hid (below_then HE5.out hz); have HK6 := Lib.hid (HK5.out.on hz)
  clear hz HE5 HK5 C3 t0 q0 q1
  have t := HK6.out _ (.tail _ (.tail _ (.tail _ (.head _))))
  have t0 := t.cell 0
  simp at t0
  clear t
  have q := HK6.out _ (.tail _ (.tail _ (.head _)))
  have q0 := q.cell 0
  have q1 := q.cell 1
  simp at q0 q1
  clear q
  go_wp2_with fail
  refine (C4.out _ HE6.out).mono ?_
  rintro e y9 ⟨rfl, hz⟩
  have HE9 := Lib.hid (below_then HE6.out hz); have HK9 := Lib.hid (HK6.out.on hz)
  clear hz HE6 HK6 C4 t0 q0 q1
  have o := HK9.out _ (.head _)
  have o0 := o.cell 0
  have o1 := o.cell 1
  simp at o0 o1
  clear o
  have z := HK9.out _ (.tail _ (.head _))
  have z0 := z.cell 0
  have zf0 := z.frozen 0
  have z1 := z.cell 1
  have zf1 := z.frozen 1
  have zl := z.lt
  simp at z0 zf0 z1 zf1
  clear z
  go_wp2
  refine bodyPost_ret (v := .tuple #[rv lo hi, .bool true]) (by simp [results, Tryz.results46, go_sem, z0, z1]) rfl ⟨rfl, ?_⟩
  have hg := HG.out
  repeat (first | exact HE9.out | refine Below.setCell ?_ (by simp <;> omega) _)

set_option maxRecDepth 100000 in
set_option maxHeartbeats 4000000 in
theorem sInverse_left (A : Option Addr) (n c : Nat) (v0 v1 lo hi a b : Int) (fl : Bool) (f g : Int → Bool) (w : World) (CF : Hid (∀ W x t, Below w.heap.size w W → lo ≤ x → x ≤ hi → f x = t → Calls Tryz.prog 102 #[tv A n c, rv v0 v1, .int .i64 x, .bool fl] W fun e w' => e = .returned (.bool t) ∧ Below W.heap.size W w')) (CG : Hid (∀ W x t, Below w.heap.size w W → lo ≤ x → x ≤ hi → g x = t → Calls Tryz.prog 102 #[tv A n c, rv v0 v1, .int .i64 x, .bool (!fl)] W fun e w' => e = .returned (.bool t) ∧ Below W.heap.size W w')) (P1 : Hid (∀ W, Below w.heap.size w W → Calls Tryz.prog 101 #[tv A n c] W fun e w' => e = .returned (.int .i64 lo) ∧ Below W.heap.size W w')) (P2 : Hid (∀ W, Below w.heap.size w W → Calls Tryz.prog 60 #[tv A n c] W fun e w' => e = .returned (.int .i64 hi) ∧ Below W.heap.size W w')) (hlo : 0 ≤ lo) (hle : lo ≤ hi) (hhi : hi ≤ 1000000) (ha : lo ≤ a ∧ a ≤ hi + 1) (hb : lo ≤ b ∧ b ≤ hi + 1) (hf1 : ∀ v, lo ≤ v → v < a → f v = true) (hf2 : ∀ v, a ≤ v → v ≤ hi → f v = false) (hg1 : ∀ v, lo ≤ v → v < b → g v = false) (hg2 : ∀ v, b ≤ v → v ≤ hi → g v = true) (h : ¬ hi < a) (h' : ¬ b = lo) (j : lo < a) (j' : ¬ b ≤ hi) :
    Calls Tryz.prog 46 #[tv A n c, rv v0 v1, .bool fl] w fun e w' => e = .returned (.tuple #[rv (a - 1) hi, .bool true]) ∧ Below w.heap.size w w' := by
  have HE := Lib.hid (show Below w.heap.size w (((w.alloc (.cells #[.slice A n c] 26)).alloc (.cells #[.int .i64 v0, .int .i64 v1] 23)).alloc (.cells #[.int .i64 0, .int .i64 0] 23)) from below_a3 (Below.refl _ _))
  have HK := Lib.hid (boxes3' w 26 23 23 #[.slice A n c] #[.int .i64 v0, .int .i64 v1] #[.int .i64 0, .int .i64 0])
  have C1 := Lib.hid (fun W hW => CF.out W hi false hW hle (by omega) (hf2 hi (by omega) (by omega)))
  have C2 := Lib.hid (fun W hW => CG.out W lo false hW (by omega) hle (hg1 lo (by omega) (by omega)))
  have C3 := Lib.hid (fun W hW => CF.out W lo true hW (by omega) hle (hf1 lo (by omega) (by omega)))
  have C4 := Lib.hid (fun W hW => CG.out W hi false hW hle (by omega) (hg1 hi (by omega) (by omega)))
  go_enter Tryz.func46, Tryz.ntmps46
  go_wp2_with fail
  obtain ⟨W0, hW0⟩ : ∃ W0, (((w.alloc (.cells #[.slice A n c] 26)).alloc (.cells #[.int .i64 v0, .int .i64 v1] 23)).alloc (.cells #[.int .i64 0, .int .i64 0] 23)) = W0 := ⟨_, rfl⟩
  rw [hW0] at HE HK ⊢
  clear hW0
  obtain ⟨G, hG⟩ : ∃ G, w.heap.size = G := ⟨_, rfl⟩
  rw [hG] at HK ⊢
  have HG := Lib.hid hG; clear hG
  have t := HK.out _ (.tail _ (.tail _ (.head _)))
  have t0 := t.cell 0
  simp at t0
  clear t
  go_upto_region 1 with fail
  refine (P1.out _ HE.out).mono ?_
  rintro e y1 ⟨rfl, hz⟩
  have HE1 := Lib.hid (below_then HE.out hz); have HK1 := Lib.hid (HK.out.on hz)
  clear hz HE HK P1 t0
  have t := HK1.out _ (.tail _ (.tail _ (.head _)))
  have t0 := t.cell 0
  simp at t0
  clear t
  go_wp2_with fail
  refine (P2.out _ HE1.out).mono ?_
  rintro e y2 ⟨rfl, hz⟩
  have HE2 := Lib.hid (below_then HE1.out hz); have HK2 := Lib.hid (HK1.out.on hz)
  clear hz HE1 HK1 P2 t0
  have t := HK2.out _ (.tail _ (.tail _ (.head _)))
  have t0 := t.cell 0
  simp at t0
  clear t
  have q := HK2.out _ (.tail _ (.head _))
  have q0 := q.cell 0
  have q1 := q.cell 1
  simp at q0 q1
  clear q
  go_wp2_with fail
  refine (C1.out _ HE2.out).mono ?_
  rintro e y3 ⟨rfl, hz⟩
  have HE3 := Lib.hid (below_then HE2.out hz); have HK3 := Lib.hid (HK2.out.on hz)
  clear hz HE2 HK2 C1 t0 q0 q1
  have t := HK3.out _ (.tail _ (.tail _ (.head _)))
  have t0 := t.cell 0
  simp at t0
  clear t
  have q := HK3.out _ (.tail _ (.head _))
  have q0 := q.cell 0
  have q1 := q.cell 1
  simp at q0 q1
  clear q
  go_wp2_with fail
  refine (C2.out _ HE3.out).mono ?_
  rintro e y4 ⟨rfl, hz⟩
  have HE4 := Lib.hid (below_then HE3.out hz); have HK4 := Lib.hid (HK3.out.on hz)
  clear hz HE3 HK3 C2 t0 q0 q1
  go_upto_region 6 with fail
  have HE5 := Lib.hid (below_then HE4.out (below_alloc1 y4 (.cells #[.int .i64 lo, .int .i64 hi] 23))); have HK5 := Lib.hid (HK4.out.new 23 #[.int .i64 lo, .int .i64 hi])
  have HD := Lib.hid (boxes_far HK4.out)
  have HZ := Lib.hid HE4.out.size
  obtain ⟨W5, hW⟩ : ∃ W', y4.alloc (.cells #[.int .i64 lo, .int .i64 hi] 23) = W' := ⟨_, rfl⟩
  rw [hW] at HE5 HK5 ⊢
  clear hW HE4 HK4
  obtain ⟨N, hN⟩ : ∃ N, y4.heap.size = N := ⟨_, rfl⟩
  rw [hN] at HK5 HD HZ ⊢
  clear hN
  have t := HK5.out _ (.tail _ (.tail _ (.tail _ (.head _))))
  have t0 := t.cell 0
  simp at t0
  clear t
  have q := HK5.out _ (.tail _ (.tail _ (.head _)))
  have q0 := q.cell 0
  have q1 := q.cell 1
  simp at q0 q1
  clear q
  go_wp2_with fail
  refine (C3.out _ HE5.out).mono ?_
  rintro e y6 ⟨rfl, hz⟩
  have HE6 := Lib.hid (below_then HE5.out hz); have HK6 := Lib.hid (HK5.out.on hz)
  clear hz HE5 HK5 C3 t0 q0 q1
  go_wp2_with fail
  go_loopw [11, 12] (fun si sj wr => ∃ x y, si = .int .i64 x ∧ sj = .int .i64 y ∧ lo ≤ x ∧ x < a ∧ a ≤ y ∧ y ≤ hi ∧ Boxes wr ((N, 23, #[.int .i64 lo, .int .i64 hi]) :: [(G + 1 + 1, 23, #[.int .i64 0, .int .i64 0]), (G + 1, 23, #[.int .i64 v0, .int .i64 v1]), (G, 26, #[.slice A n c])]) ∧ Below w.heap.size w wr) (fun si sj _ => (intOf sj - intOf si).toNat)
  case atStart => exact ⟨lo, hi, rfl, rfl, by omega, by omega, by omega, by omega, HK6.out, HE6.out⟩
  case round =>
    clear HE6 HK6
    obtain ⟨x, y, rfl, rfl, x1, x2, x3, x4, hk, he⟩ := hrel
    have HK6 := Lib.hid hk; have HE6 := Lib.hid he
    clear hk he
    have w1 : IntKind.i64.wrap (y - x) = y - x := IntWalk.i64_in _ ⟨by omega, by omega⟩
    by_cases hlt : 1 < y - x
    · obtain ⟨q, hq, m1, m2⟩ := half_in hlt (by omega) (by omega)
      have w2 : IntKind.i64.wrap ((y - x).tdiv 2) = q := by rw [hq]; exact IntWalk.i64_in _ ⟨by omega, by omega⟩
      have w3 : IntKind.i64.wrap (x + q) = x + q := IntWalk.i64_in _ ⟨by omega, by omega⟩
      clear hq
      rcases Int.lt_or_le (x + q) a with hm | hm
      · have C5 := Lib.hid (fun W hW => CF.out W (x + q) true hW (by omega) (by omega) (hf1 (x + q) (by omega) (by omega)))
        have t := HK6.out _ (.tail _ (.tail _ (.tail _ (.head _))))
        have t0 := t.cell 0
        simp at t0
        clear t
        have q := HK6.out _ (.tail _ (.tail _ (.head _)))
        have q0 := q.cell 0
        have q1 := q.cell 1
        simp at q0 q1
        clear q
        go_wp2_with fail
        refine (C5.out _ HE6.out).mono ?_
        rintro e y7 ⟨rfl, hz⟩
        have HE7 := Lib.hid (below_then HE6.out hz); have HK7 := Lib.hid (HK6.out.on hz)
        clear hz HE6 HK6 C5 t0 q0 q1
        go_wp2
        go_roundw
        case rel => exact ⟨x + q, y, rfl, rfl, by omega, by omega, by omega, by omega, HK7.out, HE7.out⟩
        case measure => simp [intOf]; omega
      · have C5 := Lib.hid (fun W hW => CF.out W (x + q) false hW (by omega) (by omega) (hf2 (x + q) (by omega) (by omega)))
        have t := HK6.out _ (.tail _ (.tail _ (.tail _ (.head _))))
        have t0 := t.cell 0
        simp at t0
        clear t
        have q := HK6.out _ (.tail _ (.tail _ (.head _)))
        have q0 := q.cell 0
        have q1 := q.cell 1
        simp at q0 q1
        clear q
        go_wp2_with fail
        refine (C5.out _ HE6.out).mono ?_
        rintro e y7 ⟨rfl, hz⟩
        have HE7 := Lib.hid (below_then HE6.out hz); have HK7 := Lib.hid (HK6.out.on hz)
        clear hz HE6 HK6 C5 t0 q0 q1
        go_wp2
        go_roundw
        case rel => exact ⟨x, x + q, rfl, rfl, by omega, by omega, by omega, by omega, HK7.out, HE7.out⟩
        case measure => simp [intOf]; omega
    · obtain rfl : y = x + 1 := by omega
      obtain rfl : a = x + 1 := by omega
      clear CF hf1 hf2 w1
      have o := HK6.out _ (.head _)
      have o0 := o.cell 0
      have of0 := o.frozen 0
      have o1 := o.cell 1
      have of1 := o.frozen 1
      have ol := o.lt
      simp at o0 of0 o1 of1
      clear o
      go_upto_region 15 with fail
      have HE8 := Lib.hid (Below.setCell HE6.out (p := ⟨N, 0, none⟩) (by have := HZ.out; have := HG.out; show w.heap.size ≤ N; omega) (.int .i64 x)); have HK8 := Lib.hid (Boxes.set1 HK6.out HD.out 0 (.int .i64 x) #[.int .i64 x, .int .i64 hi] rfl)
      clear o0 o1 of0 of1 ol
      obtain ⟨W8, hW⟩ : ∃ W', World.setCell wr ⟨N, 0, none⟩ (.int .i64 x) = W' := ⟨_, rfl⟩
      rw [hW] at HE8 HK8 ⊢
      clear hW HE6 HK6
      have t := HK8.out _ (.tail _ (.tail _ (.tail _ (.head _))))
      have t0 := t.cell 0
      simp at t0
      clear t
      have q := HK8.out _ (.tail _ (.tail _ (.head _)))
      have q0 := q.cell 0
      have q1 := q.cell 1
      simp at q0 q1
      clear q
      go_wp2_with fail
      refine (C4.out _ HE8.out).mono ?_
      rintro e y9 ⟨rfl, hz⟩
      have HE9 := Lib.hid (below_then HE8.out hz); have HK9 := Lib.hid (HK8.out.on hz)
      clear hz HE8 HK8 C4 t0 q0 q1
      have o := HK9.out _ (.head _)
      have o0 := o.cell 0
      have o1 := o.cell 1
      simp at o0 o1
      clear o
      have z := HK9.out _ (.tail _ (.head _))
      have z0 := z.cell 0
      have zf0 := z.frozen 0
      have z1 := z.cell 1
      have zf1 := z.frozen 1
      have zl := z.lt
      simp at z0 zf0 z1 zf1
      clear z
      go_wp2
      refine bodyPost_ret (v := .tuple #[rv x hi, .bool true]) (by simp [results, Tryz.results46, go_sem, z0, z1]) rfl ⟨by first | rfl | (congr 3; simp; done) | (congr 3; omega) | (congr 4 <;> omega), ?_⟩
      have hg := HG.out
      repeat (first | exact HE9.out | refine Below.setCell ?_ (by simp <;> omega) _)

set_option maxRecDepth 100000 in
set_option maxHeartbeats 4000000 in
theorem sInverse_right (A : Option Addr) (n c : Nat) (v0 v1 lo hi a b : Int) (fl : Bool) (f g : Int → Bool) (w : World) (CF : Hid (∀ W x t, Below w.heap.size w W → lo ≤ x → x ≤ hi → f x = t → Calls Tryz.prog 102 #[tv A n c, rv v0 v1, .int .i64 x, .bool fl] W fun e w' => e = .returned (.bool t) ∧ Below W.heap.size W w')) (CG : Hid (∀ W x t, Below w.heap.size w W → lo ≤ x → x ≤ hi → g x = t → Calls Tryz.prog 102 #[tv A n c, rv v0 v1, .int .i64 x, .bool (!fl)] W fun e w' => e = .returned (.bool t) ∧ Below W.heap.size W w')) (P1 : Hid (∀ W, Below w.heap.size w W → Calls Tryz.prog 101 #[tv A n c] W fun e w' => e = .returned (.int .i64 lo) ∧ Below W.heap.size W w')) (P2 : Hid (∀ W, Below w.heap.size w W → Calls Tryz.prog 60 #[tv A n c] W fun e w' => e = .returned (.int .i64 hi) ∧ Below W.heap.size W w')) (hlo : 0 ≤ lo) (hle : lo ≤ hi) (hhi : hi ≤ 1000000) (ha : lo ≤ a ∧ a ≤ hi + 1) (hb : lo ≤ b ∧ b ≤ hi + 1) (hf1 : ∀ v, lo ≤ v → v < a → f v = true) (hf2 : ∀ v, a ≤ v → v ≤ hi → f v = false) (hg1 : ∀ v, lo ≤ v → v < b → g v = false) (hg2 : ∀ v, b ≤ v → v ≤ hi → g v = true) (h : ¬ hi < a) (h' : ¬ b = lo) (j : ¬ lo < a) (j' : b ≤ hi) :
    Calls Tryz.prog 46 #[tv A n c, rv v0 v1, .bool fl] w fun e w' => e = .returned (.tuple #[rv lo b, .bool true]) ∧ Below w.heap.size w w' := by
  have HE := Lib.hid (show Below w.heap.size w (((w.alloc (.cells #[.slice A n c] 26)).alloc (.cells #[.int .i64 v0, .int .i64 v1] 23)).alloc (.cells #[.int .i64 0, .int .i64 0] 23)) from below_a3 (Below.refl _ _))
  have HK := Lib.hid (boxes3' w 26 23 23 #[.slice A n c] #[.int .i64 v0, .int .i64 v1] #[.int .i64 0, .int .i64 0])
  have C1 := Lib.hid (fun W hW => CF.out W hi false hW hle (by omega) (hf2 hi (by omega) (by omega)))
  have C2 := Lib.hid (fun W hW => CG.out W lo false hW (by omega) hle (hg1 lo (by omega) (by omega)))
  have C3 := Lib.hid (fun W hW => CF.out W lo false hW (by omega) hle (hf2 lo (by omega) (by omega)))
  have C4 := Lib.hid (fun W hW => CG.out W hi true hW hle (by omega) (hg2 hi (by omega) (by omega)))
  go_enter Tryz.func46, Tryz.ntmps46
  go_wp2_with fail
  obtain ⟨W0, hW0⟩ : ∃ W0, (((w.alloc (.cells #[.slice A n c] 26)).alloc (.cells #[.int .i64 v0, .int .i64 v1] 23)).alloc (.cells #[.int .i64 0, .int .i64 0] 23)) = W0 := ⟨_, rfl⟩
  rw [hW0] at HE HK ⊢
  clear hW0
  obtain ⟨G, hG⟩ : ∃ G, w.heap.size = G := ⟨_, rfl⟩
  rw [hG] at HK ⊢
  have HG := Lib.hid hG; clear hG
  have t := HK.out _ (.tail _ (.tail _ (.head _)))
  have t0 := t.cell 0
  simp at t0
  clear t
  go_upto_region 1 with fail
  refine (P1.out _ HE.out).mono ?_
  rintro e y1 ⟨rfl, hz⟩
  have HE1 := Lib.hid (below_then HE.out hz); have HK1 := Lib.hid (HK.out.on hz)
  clear hz HE HK P1 t0
  have t := HK1.out _ (.tail _ (.tail _ (.head _)))
  have t0 := t.cell 0
  simp at t0
  clear t
  go_wp2_with fail
  refine (P2.out _ HE1.out).mono ?_
  rintro e y2 ⟨rfl, hz⟩
  have HE2 := Lib.hid (below_then HE1.out hz); have HK2 := Lib.hid (HK1.out.on hz)
  clear hz HE1 HK1 P2 t0
  have t := HK2.out _ (.tail _ (.tail _ (.head _)))
  have t0 := t.cell 0
  simp at t0
  clear t
  have q := HK2.out _ (.tail _ (.head _))
  have q0 := q.cell 0
  have q1 := q.cell 1
  simp at q0 q1
  clear q
  go_wp2_with fail
  refine (C1.out _ HE2.out).mono ?_
  rintro e y3 ⟨rfl, hz⟩
  have HE3 := Lib.hid (below_then HE2.out hz); have HK3 := Lib.hid (HK2.out.on hz)
  clear hz HE2 HK2 C1 t0 q0 q1
  have t := HK3.out _ (.tail _ (.tail _ (.head _)))
  have t0 := t.cell 0
  simp at t0
  clear t
  have q := HK3.out _ (.tail _ (.head _))
  have q0 := q.cell 0
  have q1 := q.cell 1
  simp at q0 q1
  clear q
  go_wp2_with fail
  refine (C2.out _ HE3.out).mono ?_
  rintro e y4 ⟨rfl, hz⟩
  have HE4 := Lib.hid (below_then HE3.out hz); have HK4 := Lib.hid (HK3.out.on hz)
  clear hz HE3 HK3 C2 t0 q0 q1
  go_upto_region 6 with fail
  have HE5 := Lib.hid (below_then HE4.out (below_alloc1 y4 (.cells #[.int .i64 lo, .int .i64 hi] 23))); have HK5 := Lib.hid (HK4.out.new 23 #[.int .i64 lo, .int .i64 hi])
  have HD := Lib.hid (boxes_far HK4.out)
  have HZ := Lib.hid HE4.out.size
  obtain ⟨W5, hW⟩ : ∃ W', y4.alloc (.cells #[.int .i64 lo, .int .i64 hi] 23) = W' := ⟨_, rfl⟩
  rw [hW] at HE5 HK5 ⊢
  clear hW HE4 HK4
  obtain ⟨N, hN⟩ : ∃ N, y4.heap.size = N := ⟨_, rfl⟩
  rw [hN] at HK5 HD HZ ⊢
  clear hN
  have t := HK5.out _ (.tail _ (.tail _ (.tail _ (.head _))))
  have t0 := t.cell 0
  simp at t0
  clear t
  have q := HK5.out _ (.tail _ (.tail _ (.head _)))
  have q0 := q.cell 0
  have q1 := q.cell 1
  simp at q0 q1
  clear q
  go_wp2_with fail
  refine (C3.out _ HE5.out).mono ?_
  rintro e y6 ⟨rfl, hz⟩
  have HE6 := Lib.hid (below_then HE5.out hz); have HK6 := Lib.hid (HK5.out.on hz)
  clear hz HE5 HK5 C3 t0 q0 q1
  have t := HK6.out _ (.tail _ (.tail _ (.tail _ (.head _))))
  have t0 := t.cell 0
  simp at t0
  clear t
  have q := HK6.out _ (.tail _ (.tail _ (.head _)))
  have q0 := q.cell 0
  have q1 := q.cell 1
  simp at q0 q1
  clear q
  go_wp2_with fail
  refine (C4.out _ HE6.out).mono ?_
  rintro e y9 ⟨rfl, hz⟩
  have HE9 := Lib.hid (below_then HE6.out hz); have HK9 := Lib.hid (HK6.out.on hz)
  clear hz HE6 HK6 C4 t0 q0 q1
  go_wp2_with fail
  go_loopw [14, 15] (fun si sj wr => ∃ u u9, si = .int .i64 u ∧ sj = .int .i64 u9 ∧ lo ≤ u ∧ u < b ∧ b ≤ u9 ∧ u9 ≤ hi ∧ Boxes wr ((N, 23, #[.int .i64 lo, .int .i64 hi]) :: [(G + 1 + 1, 23, #[.int .i64 0, .int .i64 0]), (G + 1, 23, #[.int .i64 v0, .int .i64 v1]), (G, 26, #[.slice A n c])]) ∧ Below w.heap.size w wr) (fun si sj _ => (intOf sj - intOf si).toNat)
  case atStart => exact ⟨lo, hi, rfl, rfl, by omega, by omega, by omega, by omega, HK9.out, HE9.out⟩
  case round =>
    clear HE9 HK9
    obtain ⟨u, u9, rfl, rfl, u1, u2, u3, u4, hk, he⟩ := hrel
    have HK16 := Lib.hid hk; have HE16 := Lib.hid he
    clear hk he
    have k1 : IntKind.i64.wrap (u9 - u) = u9 - u := IntWalk.i64_in _ ⟨by omega, by omega⟩
    by_cases hlt : 1 < u9 - u
    · obtain ⟨q, hq, m1, m2⟩ := half_in hlt (by omega) (by omega)
      have k2 : IntKind.i64.wrap ((u9 - u).tdiv 2) = q := by rw [hq]; exact IntWalk.i64_in _ ⟨by omega, by omega⟩
      have k3 : IntKind.i64.wrap (u + q) = u + q := IntWalk.i64_in _ ⟨by omega, by omega⟩
      clear hq
      rcases Int.lt_or_le (u + q) b with hm | hm
      · have C5 := Lib.hid (fun W hW => CG.out W (u + q) false hW (by omega) (by omega) (hg1 (u + q) (by omega) (by omega)))
        have t := HK16.out _ (.tail _ (.tail _ (.tail _ (.head _))))
        have t0 := t.cell 0
        simp at t0
        clear t
        have q := HK16.out _ (.tail _ (.tail _ (.head _)))
        have q0 := q.cell 0
        have q1 := q.cell 1
        simp at q0 q1
        clear q
        go_wp2_with fail
        refine (C5.out _ HE16.out).mono ?_
        rintro e y7 ⟨rfl, hz⟩
        have HE17 := Lib.hid (below_then HE16.out hz); have HK17 := Lib.hid (HK16.out.on hz)
        clear hz HE16 HK16 C5 t0 q0 q1
        go_wp2
        go_roundw
        case rel => exact ⟨u + q, u9, rfl, rfl, by omega, by omega, by omega, by omega, HK17.out, HE17.out⟩
        case measure => simp [intOf]; omega
      · have C5 := Lib.hid (fun W hW => CG.out W (u + q) true hW (by omega) (by omega) (hg2 (u + q) (by omega) (by omega)))
        have t := HK16.out _ (.tail _ (.tail _ (.tail _ (.head _))))
        have t0 := t.cell 0
        simp at t0
        clear t
        have q := HK16.out _ (.tail _ (.tail _ (.head _)))
        have q0 := q.cell 0
        have q1 := q.cell 1
        simp at q0 q1
        clear q
        go_wp2_with fail
        refine (C5.out _ HE16.out).mono ?_
        rintro e y7 ⟨rfl, hz⟩
        have HE17 := Lib.hid (below_then HE16.out hz); have HK17 := Lib.hid (HK16.out.on hz)
        clear hz HE16 HK16 C5 t0 q0 q1
        go_wp2
        go_roundw
        case rel => exact ⟨u, u + q, rfl, rfl, by omega, by omega, by omega, by omega, HK17.out, HE17.out⟩
        case measure => simp [intOf]; omega
    · obtain rfl : u9 = u + 1 := by omega
      obtain rfl : b = u + 1 := by omega
      clear CG hg1 hg2 k1
      have o := HK16.out _ (.head _)
      have o0 := o.cell 0
      have of0 := o.frozen 0
      have o1 := o.cell 1
      have of1 := o.frozen 1
      have ol := o.lt
      simp at o0 of0 o1 of1
      clear o
      go_upto_region 24 with fail
      have HE18 := Lib.hid (Below.setCell HE16.out (p := ⟨N, 1, none⟩) (by have := HZ.out; have := HG.out; show w.heap.size ≤ N; omega) (.int .i64 (u + 1))); have HK18 := Lib.hid (Boxes.set1 HK16.out HD.out 1 (.int .i64 (u + 1)) #[.int .i64 lo, .int .i64 (u + 1)] rfl)
      clear o0 o1 of0 of1 ol
      obtain ⟨W18, hW⟩ : ∃ W', World.setCell wr ⟨N, 1, none⟩ (.int .i64 (u + 1)) = W' := ⟨_, rfl⟩
      rw [hW] at HE18 HK18 ⊢
      clear hW HE16 HK16
      have o := HK18.out _ (.head _)
      have o0 := o.cell 0
      have o1 := o.cell 1
      simp at o0 o1
      clear o
      have z := HK18.out _ (.tail _ (.head _))
      have z0 := z.cell 0
      have zf0 := z.frozen 0
      have z1 := z.cell 1
      have zf1 := z.frozen 1
      have zl := z.lt
      simp at z0 zf0 z1 zf1
      clear z
      go_wp2
      refine bodyPost_ret (v := .tuple #[rv lo (u + 1), .bool true]) (by simp [results, Tryz.results46, go_sem, z0, z1]) rfl ⟨by first | rfl | (congr 3; simp; done) | (congr 3; omega) | (congr 4 <;> omega), ?_⟩
      have hg := HG.out
      repeat (first | exact HE18.out | refine Below.setCell ?_ (by simp <;> omega) _)

set_option maxRecDepth 100000 in
set_option maxHeartbeats 4000000 in
theorem sInverse_both (A : Option Addr) (n c : Nat) (v0 v1 lo hi a b : Int) (fl : Bool) (f g : Int → Bool) (w : World) (CF : Hid (∀ W x t, Below w.heap.size w W → lo ≤ x → x ≤ hi → f x = t → Calls Tryz.prog 102 #[tv A n c, rv v0 v1, .int .i64 x, .bool fl] W fun e w' => e = .returned (.bool t) ∧ Below W.heap.size W w')) (CG : Hid (∀ W x t, Below w.heap.size w W → lo ≤ x → x ≤ hi → g x = t → Calls Tryz.prog 102 #[tv A n c, rv v0 v1, .int .i64 x, .bool (!fl)] W fun e w' => e = .returned (.bool t) ∧ Below W.heap.size W w')) (P1 : Hid (∀ W, Below w.heap.size w W → Calls Tryz.prog 101 #[tv A n c] W fun e w' => e = .returned (.int .i64 lo) ∧ Below W.heap.size W w')) (P2 : Hid (∀ W, Below w.heap.size w W → Calls Tryz.prog 60 #[tv A n c] W fun e w' => e = .returned (.int .i64 hi) ∧ Below W.heap.size W w')) (hlo : 0 ≤ lo) (hle : lo ≤ hi) (hhi : hi ≤ 1000000) (ha : lo ≤ a ∧ a ≤ hi + 1) (hb : lo ≤ b ∧ b ≤ hi + 1) (hf1 : ∀ v, lo ≤ v → v < a → f v = true) (hf2 : ∀ v, a ≤ v → v ≤ hi → f v = false) (hg1 : ∀ v, lo ≤ v → v < b → g v = false) (hg2 : ∀ v, b ≤ v → v ≤ hi → g v = true) (h : ¬ hi < a) (h' : ¬ b = lo) (j : lo < a) (j' : b ≤ hi) :
    Calls Tryz.prog 46 #[tv A n c, rv v0 v1, .bool fl] w fun e w' => e = .returned (.tuple #[rv (a - 1) b, .bool true]) ∧ Below w.heap.size w w' := by
  have HE := Lib.hid (show Below w.heap.size w (((w.alloc (.cells #[.slice A n c] 26)).alloc (.cells #[.int .i64 v0, .int .i64 v1] 23)).alloc (.cells #[.int .i64 0, .int .i64 0] 23)) from below_a3 (Below.refl _ _))
  have HK := Lib.hid (boxes3' w 26 23 23 #[.slice A n c] #[.int .i64 v0, .int .i64 v1] #[.int .i64 0, .int .i64 0])
  have C1 := Lib.hid (fun W hW => CF.out W hi false hW hle (by omega) (hf2 hi (by omega) (by omega)))
  have C2 := Lib.hid (fun W hW => CG.out W lo false hW (by omega) hle (hg1 lo (by omega) (by omega)))
  have C3 := Lib.hid (fun W hW => CF.out W lo true hW (by omega) hle (hf1 lo (by omega) (by omega)))
  have C4 := Lib.hid (fun W hW => CG.out W hi true hW hle (by omega) (hg2 hi (by omega) (by omega)))
  go_enter Tryz.func46, Tryz.ntmps46
  go_wp2_with fail
  obtain ⟨W0, hW0⟩ : ∃ W0, (((w.alloc (.cells #[.slice A n c] 26)).alloc (.cells #[.int .i64 v0, .int .i64 v1] 23)).alloc (.cells #[.int .i64 0, .int .i64 0] 23)) = W0 := ⟨_, rfl⟩
  rw [hW0] at HE HK ⊢
  clear hW0
  obtain ⟨G, hG⟩ : ∃ G, w.heap.size = G := ⟨_, rfl⟩
  rw [hG] at HK ⊢
  have HG := Lib.hid hG; clear hG
  have t := HK.out _ (.tail _ (.tail _ (.head _)))
  have t0 := t.cell 0
  simp at t0
  clear t
  go_upto_region 1 with fail
  refine (P1.out _ HE.out).mono ?_
  rintro e y1 ⟨rfl, hz⟩
  have HE1 := Lib.hid (below_then HE.out hz); have HK1 := Lib.hid (HK.out.on hz)
  clear hz HE HK P1 t0
  have t := HK1.out _ (.tail _ (.tail _ (.head _)))
  have t0 := t.cell 0
  simp at t0
  clear t
  go_wp2_with fail
  refine (P2.out _ HE1.out).mono ?_
  rintro e y2 ⟨rfl, hz⟩
  have HE2 := Lib.hid (below_then HE1.out hz); have HK2 := Lib.hid (HK1.out.on hz)
  clear hz HE1 HK1 P2 t0
  have t := HK2.out _ (.tail _ (.tail _ (.head _)))
  have t0 := t.cell 0
  simp at t0
  clear t
  have q := HK2.out _ (.tail _ (.head _))
  have q0 := q.cell 0
  have q1 := q.cell 1
  simp at q0 q1
  clear q
  go_wp2_with fail
  refine (C1.out _ HE2.out).mono ?_
  rintro e y3 ⟨rfl, hz⟩
  have HE3 := Lib.hid (below_then HE2.out hz); have HK3 := Lib.hid (HK2.out.on hz)
  clear hz HE2 HK2 C1 t0 q0 q1
  have t := HK3.out _ (.tail _ (.tail _ (.head _)))
  have t0 := t.cell 0
  simp at t0
  clear t
  have q := HK3.out _ (.tail _ (.head _))
  have q0 := q.cell 0
  have q1 := q.cell 1
  simp at q0 q1
  clear q
  go_wp2_with fail
  refine (C2.out _ HE3.out).mono ?_
  rintro e y4 ⟨rfl, hz⟩
  have HE4 := Lib.hid (below_then HE3.out hz); have HK4 := Lib.hid (HK3.out.on hz)
  clear hz HE3 HK3 C2 t0 q0 q1
  go_upto_region 6 with fail
  have HE5 := Lib.hid (below_then HE4.out (below_alloc1 y4 (.cells #[.int .i64 lo, .int .i64 hi] 23))); have HK5 := Lib.hid (HK4.out.new 23 #[.int .i64 lo, .int .i64 hi])
  have HD := Lib.hid (boxes_far HK4.out)
  have HZ := Lib.hid HE4.out.size
  obtain ⟨W5, hW⟩ : ∃ W', y4.alloc (.cells #[.int .i64 lo, .int .i64 hi] 23) = W' := ⟨_, rfl⟩
  rw [hW] at HE5 HK5 ⊢
  clear hW HE4 HK4
  obtain ⟨N, hN⟩ : ∃ N, y4.heap.size = N := ⟨_, rfl⟩
  rw [hN] at HK5 HD HZ ⊢
  clear hN
  have t := HK5.out _ (.tail _ (.tail _ (.tail _ (.head _))))
  have t0 := t.cell 0
  simp at t0
  clear t
  have q := HK5.out _ (.tail _ (.tail _ (.head _)))
  have q0 := q.cell 0
  have q1 := q.cell 1
  simp at q0 q1
  clear q
  go_wp2_with fail
  refine (C3.out _ HE5.out).mono ?_
  rintro e y6 ⟨rfl, hz⟩
  have HE6 := Lib.hid (below_then HE5.out hz); have HK6 := Lib.hid (HK5.out.on hz)
  clear hz HE5 HK5 C3 t0 q0 q1
  go_wp2_with fail
  go_loopw [11, 12] (fun si sj wr => ∃ x y, si = .int .i64 x ∧ sj = .int .i64 y ∧ lo ≤ x ∧ x < a ∧ a ≤ y ∧ y ≤ hi ∧ Boxes wr ((N, 23, #[.int .i64 lo, .int .i64 hi]) :: [(G + 1 + 1, 23, #[.int .i64 0, .int .i64 0]), (G + 1, 23, #[.int .i64 v0, .int .i64 v1]), (G, 26, #[.slice A n c])]) ∧ Below w.heap.size w wr) (fun si sj _ => (intOf sj - intOf si).toNat)
  case atStart => exact ⟨lo, hi, rfl, rfl, by omega, by omega, by omega, by omega, HK6.out, HE6.out⟩
  case round =>
    clear HE6 HK6
    obtain ⟨x, y, rfl, rfl, x1, x2, x3, x4, hk, he⟩ := hrel
    have HK6 := Lib.hid hk; have HE6 := Lib.hid he
    clear hk he
    have w1 : IntKind.i64.wrap (y - x) = y - x := IntWalk.i64_in _ ⟨by omega, by omega⟩
    by_cases hlt : 1 < y - x
    · obtain ⟨q, hq, m1, m2⟩ := half_in hlt (by omega) (by omega)
      have w2 : IntKind.i64.wrap ((y - x).tdiv 2) = q := by rw [hq]; exact IntWalk.i64_in _ ⟨by omega, by omega⟩
      have w3 : IntKind.i64.wrap (x + q) = x + q := IntWalk.i64_in _ ⟨by omega, by omega⟩
      clear hq
      rcases Int.lt_or_le (x + q) a with hm | hm
      · have C5 := Lib.hid (fun W hW => CF.out W (x + q) true hW (by omega) (by omega) (hf1 (x + q) (by omega) (by omega)))
        have t := HK6.out _ (.tail _ (.tail _ (.tail _ (.head _))))
        have t0 := t.cell 0
        simp at t0
        clear t
        have q := HK6.out _ (.tail _ (.tail _ (.head _)))
        have q0 := q.cell 0
        have q1 := q.cell 1
        simp at q0 q1
        clear q
        go_wp2_with fail
        refine (C5.out _ HE6.out).mono ?_
        rintro e y7 ⟨rfl, hz⟩
        have HE7 := Lib.hid (below_then HE6.out hz); have HK7 := Lib.hid (HK6.out.on hz)
        clear hz HE6 HK6 C5 t0 q0 q1
        go_wp2
        go_roundw
        case rel => exact ⟨x + q, y, rfl, rfl, by omega, by omega, by omega, by omega, HK7.out, HE7.out⟩
        case measure => simp [intOf]; omega
      · have C5 := Lib.hid (fun W hW => CF.out W (x + q) false hW (by omega) (by omega) (hf2 (x + q) (by omega) (by omega)))
        have t := HK6.out _ (.tail _ (.tail _ (.tail _ (.head _))))
        have t0 := t.cell 0
        simp at t0
        clear t
        have q := HK6.out _ (.tail _ (.tail _ (.head _)))
        have q0 := q.cell 0
        have q1 := q.cell 1
        simp at q0 q1
        clear q
        go_wp2_with fail
        refine (C5.out _ HE6.out).mono ?_
        rintro e y7 ⟨rfl, hz⟩
        have HE7 := Lib.hid (below_then HE6.out hz); have HK7 := Lib.hid (HK6.out.on hz)
        clear hz HE6 HK6 C5 t0 q0 q1
        go_wp2
        go_roundw
        case rel => exact ⟨x, x + q, rfl, rfl, by omega, by omega, by omega, by omega, HK7.out, HE7.out⟩
        case measure => simp [intOf]; omega
    · obtain rfl : y = x + 1 := by omega
      obtain rfl : a = x + 1 := by omega
      clear CF hf1 hf2 w1
      have o := HK6.out _ (.head _)
      have o0 := o.cell 0
      have of0 := o.frozen 0
      have o1 := o.cell 1
      have of1 := o.frozen 1
      have ol := o.lt
      simp at o0 of0 o1 of1
      clear o
      go_upto_region 15 with fail
      have HE8 := Lib.hid (Below.setCell HE6.out (p := ⟨N, 0, none⟩) (by have := HZ.out; have := HG.out; show w.heap.size ≤ N; omega) (.int .i64 x)); have HK8 := Lib.hid (Boxes.set1 HK6.out HD.out 0 (.int .i64 x) #[.int .i64 x, .int .i64 hi] rfl)
      clear o0 o1 of0 of1 ol
      obtain ⟨W8, hW⟩ : ∃ W', World.setCell wr ⟨N, 0, none⟩ (.int .i64 x) = W' := ⟨_, rfl⟩
      rw [hW] at HE8 HK8 ⊢
      clear hW HE6 HK6
      have t := HK8.out _ (.tail _ (.tail _ (.tail _ (.head _))))
      have t0 := t.cell 0
      simp at t0
      clear t
      have q := HK8.out _ (.tail _ (.tail _ (.head _)))
      have q0 := q.cell 0
      have q1 := q.cell 1
      simp at q0 q1
      clear q
      go_wp2_with fail
      refine (C4.out _ HE8.out).mono ?_
      rintro e y9 ⟨rfl, hz⟩
      have HE9 := Lib.hid (below_then HE8.out hz); have HK9 := Lib.hid (HK8.out.on hz)
      clear hz HE8 HK8 C4 t0 q0 q1
      go_wp2_with fail
      go_loopw [14, 15] (fun si sj wr => ∃ u u9, si = .int .i64 u ∧ sj = .int .i64 u9 ∧ lo ≤ u ∧ u < b ∧ b ≤ u9 ∧ u9 ≤ hi ∧ Boxes wr ((N, 23, #[.int .i64 x, .int .i64 hi]) :: [(G + 1 + 1, 23, #[.int .i64 0, .int .i64 0]), (G + 1, 23, #[.int .i64 v0, .int .i64 v1]), (G, 26, #[.slice A n c])]) ∧ Below w.heap.size w wr) (fun si sj _ => (intOf sj - intOf si).toNat)
      case atStart => exact ⟨lo, hi, rfl, rfl, by omega, by omega, by omega, by omega, HK9.out, HE9.out⟩
      case round =>
        clear HE9 HK9
        obtain ⟨u, u9, rfl, rfl, u1, u2, u3, u4, hk, he⟩ := hrel
        have HK16 := Lib.hid hk; have HE16 := Lib.hid he
        clear hk he
        have k1 : IntKind.i64.wrap (u9 - u) = u9 - u := IntWalk.i64_in _ ⟨by omega, by omega⟩
        by_cases hlt : 1 < u9 - u
        · obtain ⟨q, hq, m1, m2⟩ := half_in hlt (by omega) (by omega)
          have k2 : IntKind.i64.wrap ((u9 - u).tdiv 2) = q := by rw [hq]; exact IntWalk.i64_in _ ⟨by omega, by omega⟩
          have k3 : IntKind.i64.wrap (u + q) = u + q := IntWalk.i64_in _ ⟨by omega, by omega⟩
          clear hq
          rcases Int.lt_or_le (u + q) b with hm | hm
          · have C5 := Lib.hid (fun W hW => CG.out W (u + q) false hW (by omega) (by omega) (hg1 (u + q) (by omega) (by omega)))
            have t := HK16.out _ (.tail _ (.tail _ (.tail _ (.head _))))
            have t0 := t.cell 0
            simp at t0
            clear t
            have q := HK16.out _ (.tail _ (.tail _ (.head _)))
            have q0 := q.cell 0
            have q1 := q.cell 1
            simp at q0 q1
            clear q
            go_wp2_with fail
            refine (C5.out _ HE16.out).mono ?_
            rintro e y7 ⟨rfl, hz⟩
            have HE17 := Lib.hid (below_then HE16.out hz); have HK17 := Lib.hid (HK16.out.on hz)
            clear hz HE16 HK16 C5 t0 q0 q1
            go_wp2
            go_roundw
            case rel => exact ⟨u + q, u9, rfl, rfl, by omega, by omega, by omega, by omega, HK17.out, HE17.out⟩
            case measure => simp [intOf]; omega
          · have C5 := Lib.hid (fun W hW => CG.out W (u + q) true hW (by omega) (by omega) (hg2 (u + q) (by omega) (by omega)))
            have t := HK16.out _ (.tail _ (.tail _ (.tail _ (.head _))))
            have t0 := t.cell 0
            simp at t0
            clear t
            have q := HK16.out _ (.tail _ (.tail _ (.head _)))
            have q0 := q.cell 0
            have q1 := q.cell 1
            simp at q0 q1
            clear q
            go_wp2_with fail
            refine (C5.out _ HE16.out).mono ?_
            rintro e y7 ⟨rfl, hz⟩
            have HE17 := Lib.hid (below_then HE16.out hz); have HK17 := Lib.hid (HK16.out.on hz)
            clear hz HE16 HK16 C5 t0 q0 q1
            go_wp2
            go_roundw
            case rel => exact ⟨u, u + q, rfl, rfl, by omega, by omega, by omega, by omega, HK17.out, HE17.out⟩
            case measure => simp [intOf]; omega
        · obtain rfl : u9 = u + 1 := by omega
          obtain rfl : b = u + 1 := by omega
          clear CG hg1 hg2 k1
          have o := HK16.out _ (.head _)
          have o0 := o.cell 0
          have of0 := o.frozen 0
          have o1 := o.cell 1
          have of1 := o.frozen 1
          have ol := o.lt
          simp at o0 of0 o1 of1
          clear o
          go_upto_region 24 with fail
          have HE18 := Lib.hid (Below.setCell HE16.out (p := ⟨N, 1, none⟩) (by have := HZ.out; have := HG.out; show w.heap.size ≤ N; omega) (.int .i64 (u + 1))); have HK18 := Lib.hid (Boxes.set1 HK16.out HD.out 1 (.int .i64 (u + 1)) #[.int .i64 x, .int .i64 (u + 1)] rfl)
          clear o0 o1 of0 of1 ol
          obtain ⟨W18, hW⟩ : ∃ W', World.setCell wr ⟨N, 1, none⟩ (.int .i64 (u + 1)) = W' := ⟨_, rfl⟩
          rw [hW] at HE18 HK18 ⊢
          clear hW HE16 HK16
          have o := HK18.out _ (.head _)
          have o0 := o.cell 0
          have o1 := o.cell 1
          simp at o0 o1
          clear o
          have z := HK18.out _ (.tail _ (.head _))
          have z0 := z.cell 0
          have zf0 := z.frozen 0
          have z1 := z.cell 1
          have zf1 := z.frozen 1
          have zl := z.lt
          simp at z0 zf0 z1 zf1
          clear z
          go_wp2
          refine bodyPost_ret (v := .tuple #[rv x (u + 1), .bool true]) (by simp [results, Tryz.results46, go_sem, z0, z1]) rfl ⟨by first | rfl | (congr 3; simp; done) | (congr 3; omega) | (congr 4 <;> omega), ?_⟩
          have hg := HG.out
          repeat (first | exact HE18.out | refine Below.setCell ?_ (by simp <;> omega) _)
end

section
open Go.RowKit

theorem pAt_low_up {p q : P3} (h : p.2.1 ≤ q.2.1) : ∀ x y, x ≤ y → (pAt p q x).1 ≤ (pAt p q y).1 :=
  fun x y k => by have := riseS_up (D := q.1 - p.1) (show x - p.1 ≤ y - p.1 by omega) (show 0 ≤ q.2.1 - p.2.1 by omega); simp only [pAt]; omega
theorem pAt_high_up {p q : P3} (h : p.2.2 ≤ q.2.2) : ∀ x y, x ≤ y → (pAt p q x).2 ≤ (pAt p q y).2 :=
  fun x y k => by have := riseS_down (D := q.1 - p.1) (show x - p.1 ≤ y - p.1 by omega) (show p.2.2 - q.2.2 ≤ 0 by omega); simp only [pAt]; omega

theorem rises_next {ps : List P3} (h : risesS ps = true) : ∀ (i : Nat) (p q : P3), ps[i]? = some p → ps[i + 1]? = some q → p.2.1 ≤ q.2.1 ∧ p.2.2 ≤ q.2.2 := by
  induction ps with
  | nil => intro i p q hp; simp at hp
  | cons a r ih =>
    cases r with
    | nil => intro i p q hp hq; simp at hq
    | cons b r =>
      simp only [risesS, Bool.and_eq_true, decide_eq_true_eq] at h
      intro i p q hp hq
      cases i with
      | zero => simp at hp hq; subst hp; subst hq; exact h.1
      | succ i => exact ih h.2 i p q (by simpa using hp) (by simpa using hq)
theorem rises_le {ps : List P3} (h : risesS ps = true) : ∀ (k i : Nat) (p q : P3), ps[i]? = some p → ps[i + k]? = some q → p.2.1 ≤ q.2.1 ∧ p.2.2 ≤ q.2.2
  | 0, i, p, q, hp, hq => by rw [Nat.add_zero, hp] at hq; injection hq with hq; subst hq; exact ⟨Int.le_refl _, Int.le_refl _⟩
  | k + 1, i, p, q, hp, hq => by
    have hl : i + k < ps.length := by have := (List.getElem?_eq_some_iff.1 hq).1; omega
    have h1 := rises_le h k i p _ hp (List.getElem?_eq_getElem hl)
    have h2 := rises_next h (i + k) _ q (List.getElem?_eq_getElem hl) hq
    omega
theorem at_rises {ps : List P3} (ht : tabOk ps = true) (h2 : 2 ≤ ps.length) (hf : risesS ps = true) {x y : Int} (h0 : firstX ps ≤ x) (h : x ≤ y) (h1 : y ≤ lastX ps) : (atS ps x).1 ≤ (atS ps y).1 ∧ (atS ps x).2 ≤ (atS ps y).2 := by
  by_cases hxy : x = y
  · subst hxy; exact ⟨Int.le_refl _, Int.le_refl _⟩
  obtain ⟨i, pq, hi, b1, b2, _⟩ := piece_at ht h0 (show x ≤ lastX ps by omega)
  obtain ⟨j, rs, hj, c1, c2, _⟩ := piece_at ht (show firstX ps ≤ y by omega) h1
  have i1 : ps[i]? = some pq.1 := by have h3 := hi; rw [pcs_two h2, List.getElem?_zip_eq_some] at h3; exact h3.1
  have i2 := pcs_before h2 hi
  have j1 : ps[j]? = some rs.1 := by have h3 := hj; rw [pcs_two h2, List.getElem?_zip_eq_some] at h3; exact h3.1
  have j2 := pcs_before h2 hj
  have s1 := rises_next hf i _ _ i1 i2
  have s2 := rises_next hf j _ _ j1 j2
  rcases Nat.lt_trichotomy i j with c | c | c
  · obtain ⟨k, rfl⟩ : ∃ k, j = i + 1 + k := ⟨j - (i + 1), by omega⟩
    have s3 := rises_le hf k (i + 1) _ _ i2 j1
    have e1 := atS_any ht hi b1 b2
    have e2 := atS_any ht hj c1 c2
    have m1 := piece_mem ht hi
    have m2 := piece_mem ht hj
    have e3 := atS_any ht hi m1.2.2 (Int.le_refl _)
    rw [atS_point ht m1.2.1] at e3
    have e4 := pAt_start rs.1 rs.2
    have w1 := pAt_low_up s1.1 _ _ b2
    have w2 := pAt_high_up s1.2 _ _ b2
    have w3 := pAt_low_up s2.1 _ _ c1
    have w4 := pAt_high_up s2.2 _ _ c1
    rw [← e3] at w1 w2
    rw [e4] at w3 w4
    rw [e1, e2]
    dsimp only at w1 w2 w3 w4
    omega
  · subst c
    rw [hi] at hj; injection hj with hj; subst hj
    rw [atS_any ht hi b1 b2, atS_any ht hi c1 c2]
    exact ⟨pAt_low_up s1.1 _ _ h, pAt_high_up s1.2 _ _ h⟩
  · have := piece_start ht hi hj c
    omega
end

section
open Go.RowKit

/-- A tank's volumes rise. -/
theorem tank_rises {t : TankD} (e : tankS t = true) : risesS t.vol = true ∧ 2 ≤ t.vol.length := by
  unfold tankS ctRest at e
  simp only [Bool.and_eq_true] at e
  obtain ⟨_, hm, _, _, hf, _⟩ := e
  refine ⟨hf, ?_⟩
  unfold measuresS at hm
  simp only [Bool.and_eq_true, decide_eq_true_eq] at hm
  exact hm.1.2
/-- What lies ahead lies ahead, what lies behind lies behind. -/
def Turns (ps : List P3) (x y : Int) (fl : Bool) : Prop := (∀ u v, firstX ps ≤ u → u ≤ v → v ≤ lastX ps → besideS ps x y fl v = true → besideS ps x y fl u = true) ∧ (∀ u v, firstX ps ≤ u → u ≤ v → v ≤ lastX ps → besideS ps x y (!fl) u = true → besideS ps x y (!fl) v = true)
theorem turns_rises {ps : List P3} {x y : Int} (ht : tabOk ps = true) (h2 : 2 ≤ ps.length) (hf : risesS ps = true) : Turns ps x y false := by
  refine ⟨fun u v a b c h => ?_, fun u v a b c h => ?_⟩
  · have q := at_rises ht h2 hf a b c
    simp only [besideS, lessF, Bool.false_eq_true, if_false, decide_eq_true_eq] at h ⊢
    omega
  · have q := at_rises ht h2 hf a b c
    simp only [besideS, moreF, Bool.not_false, if_true, decide_eq_true_eq] at h ⊢
    omega
/-- the result of Inverse -/
def invV (R : Int × Int × Int) : Value := .tuple #[rv R.1 R.2.1, .bool (decide (R.2.2 = 0))]
theorem sInverse_tab (A : Option Addr) (n c : Nat) (ps : List P3) (x y : Int) (fl : Bool) (w : World) (hp : TabIn w A n ps) (ht : tabOk ps = true) (hle : firstX ps ≤ lastX ps) (hT : Turns ps x y fl) :
    Calls Tryz.prog 46 #[tv A n c, rv x y, .bool fl] w fun e w' => e = .returned (invV (invS (besideS ps x y fl) (besideS ps x y (!fl)) (firstX ps) (lastX ps))) ∧ Below w.heap.size w w' := by
  obtain ⟨pl1, pl2⟩ := places_in ht
  obtain ⟨a, b, e, ha, hf1, hf2, hb, hg1, hg2⟩ := inv_facts hle hT.1 hT.2
  rw [e]
  have CF : Hid (∀ W z t, Below w.heap.size w W → firstX ps ≤ z → z ≤ lastX ps → besideS ps x y fl z = t → Calls Tryz.prog 102 #[tv A n c, rv x y, .int .i64 z, .bool fl] W fun e w' => e = .returned (.bool t) ∧ Below W.heap.size W w') := Lib.hid fun W z t hW q1 q2 q3 => sbeside_tab A n c ps x y z fl t W (hp.below hW) ht q1 q2 q3
  have CG : Hid (∀ W z t, Below w.heap.size w W → firstX ps ≤ z → z ≤ lastX ps → besideS ps x y (!fl) z = t → Calls Tryz.prog 102 #[tv A n c, rv x y, .int .i64 z, .bool (!fl)] W fun e w' => e = .returned (.bool t) ∧ Below W.heap.size W w') := Lib.hid fun W z t hW q1 q2 q3 => sbeside_tab A n c ps x y z (!fl) t W (hp.below hW) ht q1 q2 q3
  have P1 : Hid (∀ W, Below w.heap.size w W → Calls Tryz.prog 101 #[tv A n c] W fun e w' => e = .returned (.int .i64 (firstX ps)) ∧ Below W.heap.size W w') := Lib.hid fun W hW => sFirst_tab A n c ps W (hp.below hW) ht
  have P2 : Hid (∀ W, Below w.heap.size w W → Calls Tryz.prog 60 #[tv A n c] W fun e w' => e = .returned (.int .i64 (lastX ps)) ∧ Below W.heap.size W w') := Lib.hid fun W hW => sLast_tab A n c ps W (hp.below hW) ht
  by_cases h : lastX ps < a
  · rw [if_pos (.inl h)]
    exact sInverse_ahead A n c x y _ _ a b fl _ _ w CF CG P1 P2 pl1 hle pl2 ha hb hf1 hf2 hg1 hg2 h
  by_cases h' : b = firstX ps
  · rw [if_pos (.inr h')]
    exact sInverse_behind A n c x y _ _ a b fl _ _ w CF CG P1 P2 pl1 hle pl2 ha hb hf1 hf2 hg1 hg2 h h'
  rw [if_neg (by omega)]
  by_cases j : firstX ps < a <;> by_cases j' : b ≤ lastX ps
  · rw [show max (a - 1) (firstX ps) = a - 1 by omega, show min b (lastX ps) = b by omega]
    exact sInverse_both A n c x y _ _ a b fl _ _ w CF CG P1 P2 pl1 hle pl2 ha hb hf1 hf2 hg1 hg2 h h' j j'
  · rw [show max (a - 1) (firstX ps) = a - 1 by omega, show min b (lastX ps) = lastX ps by omega]
    exact sInverse_left A n c x y _ _ a b fl _ _ w CF CG P1 P2 pl1 hle pl2 ha hb hf1 hf2 hg1 hg2 h h' j j'
  · rw [show max (a - 1) (firstX ps) = firstX ps by omega, show min b (lastX ps) = b by omega]
    exact sInverse_right A n c x y _ _ a b fl _ _ w CF CG P1 P2 pl1 hle pl2 ha hb hf1 hf2 hg1 hg2 h h' j j'
  · rw [show max (a - 1) (firstX ps) = firstX ps by omega, show min b (lastX ps) = lastX ps by omega]
    exact sInverse_none A n c x y _ _ a b fl _ _ w CF CG P1 P2 pl1 hle pl2 ha hb hf1 hf2 hg1 hg2 h h' j j'
end

section
open Go.RowKit
attribute [local go_sem ↓] run_minI run_maxI
set_option maxRecDepth 100000 in
set_option maxHeartbeats 4000000 in
theorem inverse_less (A : Option Addr) (n c : Nat) (ps : List P3) (v0 v1 : Int) (w : World) (hp : TabIn w A n ps) (ht : tabOk ps = true) (hle : firstX ps ≤ lastX ps) :
    Calls Tryz.prog 96 #[tv A n c, rv v0 v1, fnV 97, fnV 98] w fun e w' => e = .returned (rt (invS (lessF ps v0) (moreF ps v1) (firstX ps) (lastX ps))) ∧ Below w.heap.size w w' := by
  have HE := Lib.hid (show Below w.heap.size w (((((w.alloc (.cells #[.slice A n c] 26)).alloc (.cells #[.int .i64 v0, .int .i64 v1] 23)).alloc (.cells #[fnV 97] 123)).alloc (.cells #[fnV 98] 123)).alloc (.cells #[.int .i64 0, .int .i64 0] 23)) from below_a5 (Below.refl _ _))
  have HK := Lib.hid (boxes5' w 26 23 123 123 23 #[.slice A n c] #[.int .i64 v0, .int .i64 v1] #[fnV 97] #[fnV 98] #[.int .i64 0, .int .i64 0])
  obtain ⟨pl1, pl2⟩ := places_in ht
  obtain ⟨r1, hr1⟩ : ∃ r, firstX ps + bs (fun i => !((lessF ps v0) (firstX ps + i))) (lastX ps - firstX ps + 1).toNat 0 (lastX ps - firstX ps + 1) = r := ⟨_, rfl⟩
  obtain ⟨r2, hr2⟩ : ∃ r, firstX ps + bs (fun i => (moreF ps v1) (firstX ps + i)) (lastX ps - firstX ps + 1).toNat 0 (lastX ps - firstX ps + 1) = r := ⟨_, rfl⟩
  have hb1 := bs_range (fun i => !((lessF ps v0) (firstX ps + i))) (lastX ps - firstX ps + 1).toNat 0 (lastX ps - firstX ps + 1) (by omega)
  have hb2 := bs_range (fun i => (moreF ps v1) (firstX ps + i)) (lastX ps - firstX ps + 1).toNat 0 (lastX ps - firstX ps + 1) (by omega)
  have C0 : Hid (∀ W, Below w.heap.size w W → Calls Tryz.prog 57 #[tv A n c] W fun e w' => e = .returned (rv (firstX ps) (lastX ps)) ∧ Below W.heap.size W w') := Lib.hid fun W hW => hplaces_tab A n c ps W (hp.below hW) ht
  have C1 : Hid (∀ W Bt Ba Bv, InvIn W Bt Ba Bv A n c 97 v0 v1 ps → Calls Tryz.prog 149 #[.int .i64 (firstX ps), .int .i64 (lastX ps), inv1Fn Bt Ba Bv] W fun e w' => e = .returned (.int .i64 r1) ∧ Below W.heap.size W w') := Lib.hid fun W Bt Ba Bv hI =>
    first1_to Bt Ba Bv (fun x => !((lessF ps v0) x)) _ _ r1 W (fun V x t hV q1 q2 q3 => inv1_less A n c ps v0 v1 x t Bt Ba Bv V (hI.below hV) ht q1 q2 q3) pl1 hle pl2 hr1
  have C2 : Hid (∀ W Bt Ba Bv, InvIn W Bt Ba Bv A n c 98 v0 v1 ps → Calls Tryz.prog 149 #[.int .i64 (firstX ps), .int .i64 (lastX ps), inv2Fn Bt Ba Bv] W fun e w' => e = .returned (.int .i64 r2) ∧ Below W.heap.size W w') := Lib.hid fun W Bt Ba Bv hI =>
    first2_to Bt Ba Bv (moreF ps v1) _ _ r2 W (fun V x t hV q1 q2 q3 => inv2_more A n c ps v0 v1 x t Bt Ba Bv V (hI.below hV) ht q1 q2 q3) pl1 hle pl2 hr2
  obtain ⟨R, hR⟩ : ∃ R, invS (lessF ps v0) (moreF ps v1) (firstX ps) (lastX ps) = R := ⟨_, rfl⟩
  rw [hR]
  have HR : Hid ((if lastX ps < r1 ∨ r2 = firstX ps then (0, 0, 24) else (max (r1 - 1) (firstX ps), min r2 (lastX ps), 0)) = R) := Lib.hid (by rw [← hR]; unfold invS; rw [hr1, hr2])
  clear hR ht
  have HP := Lib.hid hp
  clear hp
  generalize firstX ps = f at *
  generalize lastX ps = l at *
  have k1 : f ≤ r1 ∧ r1 ≤ l + 1 := by omega
  have k2 : f ≤ r2 ∧ r2 ≤ l + 1 := by omega
  clear hr1 hr2 hb1 hb2
  have w1 : IntKind.i64.wrap (r1 - 1) = r1 - 1 := IntWalk.i64_in _ ⟨by omega, by omega⟩
  go_enter Tryz.func96, Tryz.ntmps96
  go_wp2_with fail
  obtain ⟨W0, hW0⟩ : ∃ W0, (((((w.alloc (.cells #[.slice A n c] 26)).alloc (.cells #[.int .i64 v0, .int .i64 v1] 23)).alloc (.cells #[fnV 97] 123)).alloc (.cells #[fnV 98] 123)).alloc (.cells #[.int .i64 0, .int .i64 0] 23)) = W0 := ⟨_, rfl⟩
  rw [hW0] at HE HK ⊢
  clear hW0
  obtain ⟨G, hG⟩ : ∃ G, w.heap.size = G := ⟨_, rfl⟩
  rw [hG] at HK ⊢
  have HG := Lib.hid hG; clear hG
  refine (C0.out _ HE.out).mono ?_
  rintro e w1 ⟨rfl, hb⟩
  have HE1 := Lib.hid (below_then (below_then HE.out hb) (below_alloc1 w1 (.cells #[.int .i64 f, .int .i64 l] 23)))
  have HK1 := Lib.hid ((HK.out.on hb).new 23 #[.int .i64 f, .int .i64 l])
  clear hb HE HK C0
  go_upto_region 2 with fail
  obtain ⟨W1, hW1⟩ : ∃ W1, w1.alloc (.cells #[.int .i64 f, .int .i64 l] 23) = W1 := ⟨_, rfl⟩
  rw [hW1] at HE1 HK1 ⊢
  clear hW1
  obtain ⟨N, hN⟩ : ∃ N, w1.heap.size = N := ⟨_, rfl⟩
  rw [hN] at HK1 ⊢
  clear hN
  have p := HK1.out _ (.head _)
  have p0 := p.cell 0
  have p1 := p.cell 1
  simp at p0 p1
  clear p
  go_wp2_with fail
  refine (C1.out _ _ _ _ ⟨HK1.out _ (.tail _ (.tail _ (.tail _ (.tail _ (.tail _ (.head _)))))), HK1.out _ (.tail _ (.tail _ (.tail _ (.head _)))), HK1.out _ (.tail _ (.tail _ (.tail _ (.tail _ (.head _))))), HP.out.below HE1.out⟩).mono ?_
  rintro e w2 ⟨rfl, hb⟩
  have HE2 := Lib.hid (below_then HE1.out hb)
  have HK2 := Lib.hid (HK1.out.on hb)
  clear hb HE1 HK1 p0 p1 C1
  have p := HK2.out _ (.head _)
  have p0 := p.cell 0
  have p1 := p.cell 1
  simp at p0 p1
  clear p
  go_wp2_with fail
  refine (C2.out _ _ _ _ ⟨HK2.out _ (.tail _ (.tail _ (.tail _ (.tail _ (.tail _ (.head _)))))), HK2.out _ (.tail _ (.tail _ (.head _))), HK2.out _ (.tail _ (.tail _ (.tail _ (.tail _ (.head _))))), HP.out.below HE2.out⟩).mono ?_
  rintro e w3 ⟨rfl, hb⟩
  have HE3 := Lib.hid (below_then HE2.out hb)
  have HK3 := Lib.hid (HK2.out.on hb)
  clear hb HE2 HK2 p0 p1 C2
  have p := HK3.out _ (.head _)
  have p0 := p.cell 0
  have p1 := p.cell 1
  have pl := p.lt
  simp at p0 p1
  clear p
  have z := HK3.out _ (.tail _ (.head _))
  have z0 := z.cell 0
  have zf0 := z.frozen 0
  have z1 := z.cell 1
  have zf1 := z.frozen 1
  have zl := z.lt
  simp at z0 zf0 z1 zf1
  clear z
  by_cases g1 : l < r1
  · have e : R = (0, 0, 24) := by rw [← HR.out, if_pos (.inl g1)]
    subst e
    clear HR
    go_wp2
    refine bodyPost_ret (v := rt (0, 0, 24)) (by simp [results, Tryz.results96, go_sem, z0, z1]) rfl ⟨rfl, ?_⟩
    have hg := HG.out
    repeat (first | exact HE3.out | refine Below.setCell ?_ (by simp <;> omega) _)
  · by_cases g2 : r2 = f
    · have e : R = (0, 0, 24) := by rw [← HR.out, if_pos (.inr g2)]
      subst e
      have b2 : (r2 == f) = true := by simp [g2]
      clear g2 HR
      go_wp2
      refine bodyPost_ret (v := rt (0, 0, 24)) (by simp [results, Tryz.results96, go_sem, z0, z1]) rfl ⟨rfl, ?_⟩
      have hg := HG.out
      repeat (first | exact HE3.out | refine Below.setCell ?_ (by simp <;> omega) _)
    · have e : R = (max (r1 - 1) f, min r2 l, 0) := by rw [← HR.out, if_neg (by omega)]
      have b2 : (r2 == f) = false := beq_eq_false_iff_ne.2 g2
      obtain ⟨m1, hm1⟩ : ∃ m, max (r1 - 1) f = m := ⟨_, rfl⟩
      obtain ⟨m2, hm2⟩ : ∃ m, min r2 l = m := ⟨_, rfl⟩
      rw [hm1, hm2] at e
      subst e
      clear g2 HR
      go_wp2
      refine bodyPost_ret (v := rt (m1, m2, 0)) (by simp [results, Tryz.results96, go_sem, z0, z1]) rfl ⟨rfl, ?_⟩
      have hg := HG.out
      repeat (first | exact HE3.out | refine Below.setCell ?_ (by simp <;> omega) _)

/-- the soundings of a volume -/
def sndS (ps : List P3) (x y : Int) : Int × Int × Int := invS (lessF ps x) (moreF ps y) (firstX ps) (lastX ps)

set_option maxRecDepth 100000 in
set_option maxHeartbeats 4000000 in
theorem soundings_any (ps : List P3) (id al ah : Int) (A B C : Option Addr) (n c mm d l ee : Nat) (x y : Int) (w : World) (hp : TabIn w A n ps) (ht : tabOk ps = true) (hle : firstX ps ≤ lastX ps) :
    Calls Tryz.prog 43 #[.agg #[.int .i64 id, .int .i64 al, .int .i64 ah, .slice A n c, .slice B mm d, .slice C l ee], rv x y] w fun e w' => e = .returned (rt (sndS ps x y)) ∧ Below w.heap.size w w' := by
  have HE := Lib.hid (show Below w.heap.size w (((w.alloc (.cells #[.int .i64 id, .int .i64 al, .int .i64 ah, .slice A n c, .slice B mm d, .slice C l ee] 28)).alloc (.cells #[.int .i64 x, .int .i64 y] 23)).alloc (.cells #[.int .i64 0, .int .i64 0] 23)) from below_a3 (Below.refl _ _))
  have HK := Lib.hid (boxes3' w 28 23 23 #[.int .i64 id, .int .i64 al, .int .i64 ah, .slice A n c, .slice B mm d, .slice C l ee] #[.int .i64 x, .int .i64 y] #[.int .i64 0, .int .i64 0])
  obtain ⟨R, hR⟩ : ∃ R, sndS ps x y = R := ⟨_, rfl⟩
  have CC : Hid (∀ W, Below w.heap.size w W → Calls Tryz.prog 96 #[tv A n c, rv x y, fnV 97, fnV 98] W fun e w' => e = .returned (rt R) ∧ Below W.heap.size W w') := Lib.hid fun W hW => by
    rw [← hR]; exact inverse_less A n c ps x y W (hp.below hW) ht hle
  rw [hR]
  clear hR hp ht hle
  obtain ⟨ra, rb, re⟩ := R
  go_enter Tryz.func43, Tryz.ntmps43
  go_wp2_with fail
  obtain ⟨W0, hW0⟩ : ∃ W0, (((w.alloc (.cells #[.int .i64 id, .int .i64 al, .int .i64 ah, .slice A n c, .slice B mm d, .slice C l ee] 28)).alloc (.cells #[.int .i64 x, .int .i64 y] 23)).alloc (.cells #[.int .i64 0, .int .i64 0] 23)) = W0 := ⟨_, rfl⟩
  rw [hW0] at HE HK ⊢
  clear hW0
  obtain ⟨G, hG⟩ : ∃ G, w.heap.size = G := ⟨_, rfl⟩
  rw [hG] at HK ⊢
  have HG := Lib.hid hG; clear hG
  refine (CC.out _ HE.out).mono ?_
  rintro e w1 ⟨rfl, hb⟩
  have HE1 := Lib.hid (below_then HE.out hb); have HK1 := Lib.hid (HK.out.on hb)
  clear hb HE HK CC
  have z := HK1.out _ (.head _)
  have z0 := z.cell 0
  have zf0 := z.frozen 0
  have z1 := z.cell 1
  have zf1 := z.frozen 1
  have zl := z.lt
  simp at z0 zf0 z1 zf1
  clear z
  go_wp2
  refine bodyPost_ret (v := rt (ra, rb, re)) (by simp [results, Tryz.results43, go_sem, z0, z1]) rfl ⟨rfl, ?_⟩
  have hg := HG.out
  repeat (first | exact HE1.out | refine Below.setCell ?_ (by simp <;> omega) _)
end

end Go.Proofs.YtbcefdaflnlhoaaGreat
