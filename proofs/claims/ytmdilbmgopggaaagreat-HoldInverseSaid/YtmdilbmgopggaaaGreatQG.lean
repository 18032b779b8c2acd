/- The contract of Inverse (the specification of layer 2): what its two bisecting loops find is the inverse of layer 2. Its conditions: the table is valid and lies in memory; what is surely ahead lies ahead, what is surely behind lies behind. -/
import Derived.Test.YtmdilbmgopggaaaGreatQ41
import Derived.Test.YtmdilbmgopggaaaGreatQ10
import Derived.Test.YtmdilbmgopggaaaGreatQ17
import Derived.Test.YtmdilbmgopggaaaGreatQ16
import Derived.Test.YtmdilbmgopggaaaGreatQ26
import Derived.Test.YtmdilbmgopggaaaGreatQ45
import Derived.Test.YtmdilbmgopggaaaGreatQF
import Derived.Test.YtmdilbmgopggaaaGreatQD
set_option linter.unusedVariables false
set_option linter.unusedSimpArgs false
set_option linter.constructorNameAsVariable false
namespace Go.Proofs.YtmdilbmgopggaaaGreat

section
open Go.RowKit

/-- The inverse by the two turning places. -/
theorem inv_facts {f g : Int → Bool} {lo hi : Int} (hle : lo ≤ hi) (hf : ∀ u v, lo ≤ u → u ≤ v → v ≤ hi → f v = true → f u = true) (hg : ∀ u v, lo ≤ u → u ≤ v → v ≤ hi → g u = true → g v = true) :
    ∃ a b, invS f g lo hi = (if hi < a ∨ b = lo then (0, 0, 24) else (max (a - 1) lo, min b hi, 0)) ∧ (lo ≤ a ∧ a ≤ hi + 1) ∧ (∀ v, lo ≤ v → v < a → f v = true) ∧ (∀ v, a ≤ v → v ≤ hi → f v = false) ∧ (lo ≤ b ∧ b ≤ hi + 1) ∧ (∀ v, lo ≤ v → v < b → g v = false) ∧ (∀ v, b ≤ v → v ≤ hi → g v = true) := by
  obtain ⟨⟨a1, a2⟩, a3, a4⟩ := bs_turn (fun i => !(f (lo + i))) (hi - lo + 1).toNat 0 (hi - lo + 1) (by omega) (by omega) (fun u v h1 h2 h3 h4 => by
    cases q : f (lo + v)
    · rfl
    · have := hf (lo + u) (lo + v) (by omega) (by omega) (by omega) q
      simp [this] at h4)
  obtain ⟨⟨b1, b2⟩, b3, b4⟩ := bs_turn (fun i => g (lo + i)) (hi - lo + 1).toNat 0 (hi - lo + 1) (by omega) (by omega) (fun u v h1 h2 h3 h4 => hg (lo + u) (lo + v) (by omega) (by omega) (by omega) h4)
  refine ⟨_, _, rfl, ⟨by omega, by omega⟩, fun v h1 h2 => ?_, fun v h1 h2 => ?_, ⟨by omega, by omega⟩, fun v h1 h2 => ?_, fun v h1 h2 => ?_⟩
  · have := a3 (v - lo) (by omega) (by omega)
    rw [show lo + (v - lo) = v by omega] at this
    simpa using this
  · have := a4 (v - lo) (by omega) (by omega)
    rw [show lo + (v - lo) = v by omega] at this
    simpa using this
  · have := b3 (v - lo) (by omega) (by omega)
    rwa [show lo + (v - lo) = v by omega] at this
  · have := b4 (v - lo) (by omega) (by omega)
    rwa [show lo + (v - lo) = v by omega] at this

set_option maxRecDepth 100000 in
set_option maxHeartbeats 4000000 in
theorem sInverse_ahead (A : Option Addr) (n c : Nat) (v0 v1 lo hi a b : Int) (fl : Bool) (f g : Int → Bool) (w : World) (CF : Hid (∀ W x t, Below w.heap.size w W → lo ≤ x → x ≤ hi → f x = t → Calls Tryz.prog 165 #[tv A n c, rv v0 v1, .int .i64 x, .bool fl] W fun e w' => e = .returned (.bool t) ∧ Below W.heap.size W w')) (CG : Hid (∀ W x t, Below w.heap.size w W → lo ≤ x → x ≤ hi → g x = t → Calls Tryz.prog 165 #[tv A n c, rv v0 v1, .int .i64 x, .bool (!fl)] W fun e w' => e = .returned (.bool t) ∧ Below W.heap.size W w')) (P1 : Hid (∀ W, Below w.heap.size w W → Calls Tryz.prog 76 #[tv A n c] W fun e w' => e = .returned (.int .i64 lo) ∧ Below W.heap.size W w')) (P2 : Hid (∀ W, Below w.heap.size w W → Calls Tryz.prog 77 #[tv A n c] W fun e w' => e = .returned (.int .i64 hi) ∧ Below W.heap.size W w')) (hlo : 0 ≤ lo) (hle : lo ≤ hi) (hhi : hi ≤ 1000000) (ha : lo ≤ a ∧ a ≤ hi + 1) (hb : lo ≤ b ∧ b ≤ hi + 1) (hf1 : ∀ v, lo ≤ v → v < a → f v = true) (hf2 : ∀ v, a ≤ v → v ≤ hi → f v = false) (hg1 : ∀ v, lo ≤ v → v < b → g v = false) (hg2 : ∀ v, b ≤ v → v ≤ hi → g v = true) (h : hi < a) :
    Calls Tryz.prog 115 #[tv A n c, rv v0 v1, .bool fl] w fun e w' => e = .returned (.tuple #[rv 0 0, .bool false]) ∧ Below w.heap.size w w' := by
  have HE := Lib.hid (show Below w.heap.size w (((w.alloc (.cells #[.slice A n c] 26)).alloc (.cells #[.int .i64 v0, .int .i64 v1] 23)).alloc (.cells #[.int .i64 0, .int .i64 0] 23)) from below_a3 (Below.refl _ _))
  have HK := Lib.hid (boxes3' w 26 23 23 #[.slice A n c] #[.int .i64 v0, .int .i64 v1] #[.int .i64 0, .int .i64 0])
  have C1 := Lib.hid (fun W hW => CF.out W hi true hW hle (by omega) (hf1 hi hle h))
  clear CF CG hf1 hf2 hg1 hg2 ha hb h
  go_enter Tryz.func115, Tryz.ntmps115
  go_wp2_with fail
  obtain ⟨W0, hW0⟩ : ∃ W0, (((w.alloc (.cells #[.slice A n c] 26)).alloc (.cells #[.int .i64 v0, .int .i64 v1] 23)).alloc (.cells #[.int .i64 0, .int .i64 0] 23)) = W0 := ⟨_, rfl⟩
  rw [hW0] at HE HK ⊢
  clear hW0
  obtain ⟨G, hG⟩ : ∃ G, w.heap.size = G := ⟨_, rfl⟩
  rw [hG] at HK ⊢
  have HG := Lib.hid hG; clear hG
  have t := HK.out _ (.tail _ (.tail _ (.head _)))
  have t0 := t.cell 0
  simp at t0
  clear t
  go_upto_region 1 with fail
  refine (P1.out _ HE.out).mono ?_
  rintro e y1 ⟨rfl, hz⟩
  have HE1 := Lib.hid (below_then HE.out hz); have HK1 := Lib.hid (HK.out.on hz)
  clear hz HE HK P1 t0
  have t := HK1.out _ (.tail _ (.tail _ (.head _)))
  have t0 := t.cell 0
  simp at t0
  clear t
  go_wp2_with fail
  refine (P2.out _ HE1.out).mono ?_
  rintro e y2 ⟨rfl, hz⟩
  have HE2 := Lib.hid (below_then HE1.out hz); have HK2 := Lib.hid (HK1.out.on hz)
  clear hz HE1 HK1 P2 t0
  have t := HK2.out _ (.tail _ (.tail _ (.head _)))
  have t0 := t.cell 0
  simp at t0
  clear t
  have q := HK2.out _ (.tail _ (.head _))
  have q0 := q.cell 0
  have q1 := q.cell 1
  simp at q0 q1
  clear q
  go_wp2_with fail
  refine (C1.out _ HE2.out).mono ?_
  rintro e y3 ⟨rfl, hz⟩
  have HE3 := Lib.hid (below_then HE2.out hz); have HK3 := Lib.hid (HK2.out.on hz)
  clear hz HE2 HK2 C1 t0 q0 q1
  have z := HK3.out _ (.head _)
  have z0 := z.cell 0
  have zf0 := z.frozen 0
  have z1 := z.cell 1
  have zf1 := z.frozen 1
  have zl := z.lt
  simp at z0 zf0 z1 zf1
  clear z
  go_wp2
  refine bodyPost_ret (v := .tuple #[rv 0 0, .bool false]) (by simp [results, Tryz.results115, go_sem, z0, z1]) rfl ⟨rfl, ?_⟩
  have hg := HG.out
  repeat (first | exact HE3.out | refine Below.setCell ?_ (by simp <;> omega) _)

set_option maxRecDepth 100000 in
set_option maxHeartbeats 4000000 in
theorem sInverse_behind (A : Option Addr) (n c : Nat) (v0 v1 lo hi a b : Int) (fl : Bool) (f g : Int → Bool) (w : World) (CF : Hid (∀ W x t, Below w.heap.size w W → lo ≤ x → x ≤ hi → f x = t → Calls Tryz.prog 165 #[tv A n c, rv v0 v1, .int .i64 x, .bool fl] W fun e w' => e = .returned (.bool t) ∧ Below W.heap.size W w')) (CG : Hid (∀ W x t, Below w.heap.size w W → lo ≤ x → x ≤ hi → g x = t → Calls Tryz.prog 165 #[tv A n c, rv v0 v1, .int .i64 x, .bool (!fl)] W fun e w' => e = .returned (.bool t) ∧ Below W.heap.size W w')) (P1 : Hid (∀ W, Below w.heap.size w W → Calls Tryz.prog 76 #[tv A n c] W fun e w' => e = .returned (.int .i64 lo) ∧ Below W.heap.size W w')) (P2 : Hid (∀ W, Below w.heap.size w W → Calls Tryz.prog 77 #[tv A n c] W fun e w' => e = .returned (.int .i64 hi) ∧ Below W.heap.size W w')) (hlo : 0 ≤ lo) (hle : lo ≤ hi) (hhi : hi ≤ 1000000) (ha : lo ≤ a ∧ a ≤ hi + 1) (hb : lo ≤ b ∧ b ≤ hi + 1) (hf1 : ∀ v, lo ≤ v → v < a → f v = true) (hf2 : ∀ v, a ≤ v → v ≤ hi → f v = false) (hg1 : ∀ v, lo ≤ v → v < b → g v = false) (hg2 : ∀ v, b ≤ v → v ≤ hi → g v = true) (h : ¬ hi < a) (h' : b = lo) :
    Calls Tryz.prog 115 #[tv A n c, rv v0 v1, .bool fl] w fun e w' => e = .returned (.tuple #[rv 0 0, .bool false]) ∧ Below w.heap.size w w' := by
  have HE := Lib.hid (show Below w.heap.size w (((w.alloc (.cells #[.slice A n c] 26)).alloc (.cells #[.int .i64 v0, .int .i64 v1] 23)).alloc (.cells #[.int .i64 0, .int .i64 0] 23)) from below_a3 (Below.refl _ _))
  have HK := Lib.hid (boxes3' w 26 23 23 #[.slice A n c] #[.int .i64 v0, .int .i64 v1] #[.int .i64 0, .int .i64 0])
  have C1 := Lib.hid (fun W hW => CF.out W hi false hW hle (by omega) (hf2 hi (by omega) (by omega)))
  have C2 := Lib.hid (fun W hW => CG.out W lo true hW (by omega) hle (hg2 lo (by omega) hle))
  clear CF CG hf1 hf2 hg1 hg2 ha hb h h'
  go_enter Tryz.func115, Tryz.ntmps115
  go_wp2_with fail
  obtain ⟨W0, hW0⟩ : ∃ W0, (((w.alloc (.cells #[.slice A n c] 26)).alloc (.cells #[.int .i64 v0, .int .i64 v1] 23)).alloc (.cells #[.int .i64 0, .int .i64 0] 23)) = W0 := ⟨_, rfl⟩
  rw [hW0] at HE HK ⊢
  clear hW0
  obtain ⟨G, hG⟩ : ∃ G, w.heap.size = G := ⟨_, rfl⟩
  rw [hG] at HK ⊢
  have HG := Lib.hid hG; clear hG
  have t := HK.out _ (.tail _ (.tail _ (.head _)))
  have t0 := t.cell 0
  simp at t0
  clear t
  go_upto_region 1 with fail
  refine (P1.out _ HE.out).mono ?_
  rintro e y1 ⟨rfl, hz⟩
  have HE1 := Lib.hid (below_then HE.out hz); have HK1 := Lib.hid (HK.out.on hz)
  clear hz HE HK P1 t0
  have t := HK1.out _ (.tail _ (.tail _ (.head _)))
  have t0 := t.cell 0
  simp at t0
  clear t
  go_wp2_with fail
  refine (P2.out _ HE1.out).mono ?_
  rintro e y2 ⟨rfl, hz⟩
  have HE2 := Lib.hid (below_then HE1.out hz); have HK2 := Lib.hid (HK1.out.on hz)
  clear hz HE1 HK1 P2 t0
  have t := HK2.out _ (.tail _ (.tail _ (.head _)))
  have t0 := t.cell 0
  simp at t0
  clear t
  have q := HK2.out _ (.tail _ (.head _))
  have q0 := q.cell 0
  have q1 := q.cell 1
  simp at q0 q1
  clear q
  go_wp2_with fail
  refine (C1.out _ HE2.out).mono ?_
  rintro e y3 ⟨rfl, hz⟩
  have HE3 := Lib.hid (below_then HE2.out hz); have HK3 := Lib.hid (HK2.out.on hz)
  clear hz HE2 HK2 C1 t0 q0 q1
  have t := HK3.out _ (.tail _ (.tail _ (.head _)))
  have t0 := t.cell 0
  simp at t0
  clear t
  have q := HK3.out _ (.tail _ (.head _))
  have q0 := q.cell 0
  have q1 := q.cell 1
  simp at q0 q1
  clear q
  go_wp2_with fail
  refine (C2.out _ HE3.out).mono ?_
  rintro e y4 ⟨rfl, hz⟩
  have HE4 := Lib.hid (below_then HE3.out hz); have HK4 := Lib.hid (HK3.out.on hz)
  clear hz HE3 HK3 C2 t0 q0 q1
  have z := HK4.out _ (.head _)
  have z0 := z.cell 0
  have zf0 := z.frozen 0
  have z1 := z.cell 1
  have zf1 := z.frozen 1
  have zl := z.lt
  simp at z0 zf0 z1 zf1
  clear z
  go_wp2
  refine bodyPost_ret (v := .tuple #[rv 0 0, .bool false]) (by simp [results, Tryz.results115, go_sem, z0, z1]) rfl ⟨rfl, ?_⟩
  have hg := HG.out
  repeat (first | exact HE4.out | refine Below.setCell ?_ (by simp <;> omega) _)

theorem boxes_far {W : World} {L : List (Nat × TypeId × Array Value)} (h : Boxes W L) : ∀ p ∈ L, p.1 ≠ W.heap.size := fun p hp => Nat.ne_of_lt (h p hp).lt
theorem half_in {x y : Int} (h : 1 < y - x) (hx : 0 ≤ x) (hy : y ≤ 1000001) : ∃ q, (y - x).tdiv 2 = q ∧ 1 ≤ q ∧ x + q < y := by
  refine ⟨_, rfl, ?_⟩
  rw [Int.tdiv_eq_ediv_of_nonneg (by omega)]
  omega

set_option maxRecDepth 100000 in
set_option maxHeartbeats 4000000 in
theorem sInverse_none (A : Option Addr) (n c : Nat) (v0 v1 lo hi a b : Int) (fl : Bool) (f g : Int → Bool) (w : World) (CF : Hid (∀ W x t, Below w.heap.size w W → lo ≤ x → x ≤ hi → f x = t → Calls Tryz.prog 165 #[tv A n c, rv v0 v1, .int .i64 x, .bool fl] W fun e w' => e = .returned (.bool t) ∧ Below W.heap.size W w')) (CG : Hid (∀ W x t, Below w.heap.size w W → lo ≤ x → x ≤ hi → g x = t → Calls Tryz.prog 165 #[tv A n c, rv v0 v1, .int .i64 x, .bool (!fl)] W fun e w' => e = .returned (.bool t) ∧ Below W.heap.size W w')) (P1 : Hid (∀ W, Below w.heap.size w W → Calls Tryz.prog 76 #[tv A n c] W fun e w' => e = .returned (.int .i64 lo) ∧ Below W.heap.size W w')) (P2 : Hid (∀ W, Below w.heap.size w W → Calls Tryz.prog 77 #[tv A n c] W fun e w' => e = .returned (.int .i64 hi) ∧ Below W.heap.size W w')) (hlo : 0 ≤ lo) (hle : lo ≤ hi) (hhi : hi ≤ 1000000) (ha : lo ≤ a ∧ a ≤ hi + 1) (hb : lo ≤ b ∧ b ≤ hi + 1) (hf1 : ∀ v, lo ≤ v → v < a → f v = true) (hf2 : ∀ v, a ≤ v → v ≤ hi → f v = false) (hg1 : ∀ v, lo ≤ v → v < b → g v = false) (hg2 : ∀ v, b ≤ v → v ≤ hi → g v = true) (h : ¬ hi < a) (h' : ¬ b = lo) (j : ¬ lo < a) (j' : ¬ b ≤ hi) :
    Calls Tryz.prog 115 #[tv A n c, rv v0 v1, .bool fl] w fun e w' => e = .returned (.tuple #[rv lo hi, .bool true]) ∧ Below w.heap.size w w' := by
  have HE := Lib.hid (show Below w.heap.size w (((w.alloc (.cells #[.slice A n c] 26)).alloc (.cells #[.int .i64 v0, .int .i64 v1] 23)).alloc (.cells #[.int .i64 0, .int .i64 0] 23)) from below_a3 (Below.refl _ _))
  have HK := Lib.hid (boxes3' w 26 23 23 #[.slice A n c] #[.int .i64 v0, .int .i64 v1] #[.int .i64 0, .int .i64 0])
  have C1 := Lib.hid (fun W hW => CF.out W hi false hW hle (by omega) (hf2 hi (by omega) (by omega)))
  have C2 := Lib.hid (fun W hW => CG.out W lo false hW (by omega) hle (hg1 lo (by omega) (by omega)))
  have C3 := Lib.hid (fun W hW => CF.out W lo false hW (by omega) hle (hf2 lo (by omega) (by omega)))
  have C4 := Lib.hid (fun W hW => CG.out W hi false hW hle (by omega) (hg1 hi (by omega) (by omega)))
  go_enter Tryz.func115, Tryz.ntmps115
  go_wp2_with fail
  obtain ⟨W0, hW0⟩ : ∃ W0, (((w.alloc (.cells #[.slice A n c] 26)).alloc (.cells #[.int .i64 v0, .int .i64 v1] 23)).alloc (.cells #[.int .i64 0, .int .i64 0] 23)) = W0 := ⟨_, rfl⟩
  rw [hW0] at HE HK ⊢
  clear hW0
  obtain ⟨G, hG⟩ : ∃ G, w.heap.size = G := ⟨_, rfl⟩
  rw [hG] at HK ⊢
  have HG := Lib.hid hG; clear hG
  have t := HK.out _ (.tail _ (.tail _ (.head _)))
  have t0 := t.cell 0
  simp at t0
  clear t
  go_upto_region 1 with fail
  refine (P1.out _ HE.out).mono ?_
  rintro e y1 ⟨rfl, hz⟩
  have HE1 := Lib.hid (below_then HE.out hz); have HK1 := Lib.hid (HK.out.on hz)
  clear hz HE HK P1 t0
  have t := HK1.out _ (.tail _ (.tail _ (.head _)))
  have t0 := t.cell 0
  simp at t0
  clear t
  go_wp2_with fail
  refine (P2.out _ HE1.out).mono ?_
  rintro e y2 ⟨rfl, hz⟩
  have HE2 := Lib.hid (below_then HE1.out hz); have HK2 := Lib.hid (HK1.out.on hz)
  clear hz HE1 HK1 P2 t0
  have t := HK2.out _ (.tail _ (.tail _ (.head _)))
  have t0 := t.cell 0
  simp at t0
  clear t
  have q := HK2.out _ (.tail _ (.head _))
  have q0 := q.cell 0
  have q1 := q.cell 1
  simp at q0 q1
  clear q
  go_wp2_with fail
  refine (C1.out _ HE2.out).mono ?_
  rintro e y3 ⟨rfl, hz⟩
  have HE3 := Lib.hid (below_then HE2.out hz); have HK3 := Lib.hid (HK2.out.on hz)
  clear hz HE2 HK2 C1 t0 q0 q1
  have t := HK3.out _ (.tail _ (.tail _ (.head _)))
  have t0 := t.cell 0
  simp at t0
  clear t
  have q := HK3.out _ (.tail _ (.head _))
  have q0 := q.cell 0
  have q1 := q.cell 1
  simp at q0 q1
  clear q
  go_wp2_with fail
  refine (C2.out _ HE3.out).mono ?_
  rintro e y4 ⟨rfl, hz⟩
  have HE4 := Lib.hid (below_then HE3.out hz); have HK4 := Lib.hid (HK3.out.on hz)
  clear hz HE3 HK3 C2 t0 q0 q1
  go_upto_region 6 with fail
  have HE5 := Lib.hid (below_then HE4.out (below_alloc1 y4 (.cells #[.int .i64 lo, .int .i64 hi] 23))); have HK5 := Lib.hid (HK4.out.new 23 #[.int .i64 lo, .int .i64 hi])
  have HD := Lib.hid (boxes_far HK4.out)
  have HZ := Lib.hid HE4.out.size
  obtain ⟨W5, hW⟩ : ∃ W', y4.alloc (.cells #[.int .i64 lo, .int .i64 hi] 23) = W' := ⟨_, rfl⟩
  rw [hW] at HE5 HK5 ⊢
  clear hW HE4 HK4
  obtain ⟨N, hN⟩ : ∃ N, y4.heap.size = N := ⟨_, rfl⟩
  rw [hN] at HK5 HD HZ ⊢
  clear hN
  have t := HK5.out _ (.tail _ (.tail _ (.tail _ (.head _))))
  have t0 := t.cell 0
  simp at t0
  clear t
  have q := HK5.out _ (.tail _ (.tail _ (.head _)))
  have q0 := q.cell 0
  have q1 := q.cell 1
  simp at q0 q1
  clear q
  go_wp2_with fail
  refine (C3.out _ HE5.out).mono ?_
  rintro e y6 ⟨rfl, hz⟩
  have HE6 := Lib.hid (below_then HE5.out hz); have HK6 := Lib.hid (HK5.out.on hz)
  clear hz HE5 HK5 C3 t0 q0 q1
  have t := HK6.out _ (.tail _ (.tail _ (.tail _ (.head _))))
  have t0 := t.cell 0
  simp at t0
  clear t
  have q := HK6.out _ (.tail _ (.tail _ (.head _)))
  have q0 := q.cell 0
  have q1 := q.cell 1
  simp at q0 q1
  clear q
  go_wp2_with fail
  refine (C4.out _ HE6.out).mono ?_
  rintro e y9 ⟨rfl, hz⟩
  have HE9 := Lib.hid (below_then HE6.out hz); have HK9 := Lib.hid (HK6.out.on hz)
  clear hz HE6 HK6 C4 t0 q0 q1
  have o := HK9.out _ (.head _)
  have o0 := o.cell 0
  have o1 := o.cell 1
  simp at o0 o1
  clear o
  have z := HK9.out _ (.tail _ (.head _))
  have z0 := z.cell 0
  have zf0 := z.frozen 0
  have z1 := z.cell 1
  have zf1 := z.frozen 1
  have zl := z.lt
  simp at z0 zf0 z1 zf1
  clear z
  go_wp2
  refine bodyPost_ret (v := .tuple #[rv lo hi, .bool true]) (by simp [results, Tryz.results115, go_sem, z0, z1]) rfl ⟨rfl, ?_⟩
  have hg := HG.out
  repeat (first | exact HE9.out | refine Below.setCell ?_ (by simp <;> omega) _)

set_option maxRecDepth 100000 in
set_option maxHeartbeats 4000000 in
theorem sInverse_left (A : Option Addr) (n c : Nat) (v0 v1 lo hi a b : Int) (fl : Bool) (f g : Int → Bool) (w : World) (CF : Hid (∀ W x t, Below w.heap.size w W → lo ≤ x → x ≤ hi → f x = t → Calls Tryz.prog 165 #[tv A n c, rv v0 v1, .int .i64 x, .bool fl] W fun e w' => e = .returned (.bool t) ∧ Below W.heap.size W w')) (CG : Hid (∀ W x t, Below w.heap.size w W → lo ≤ x → x ≤ hi → g x = t → Calls Tryz.prog 165 #[tv A n c, rv v0 v1, .int .i64 x, .bool (!fl)] W fun e w' => e = .returned (.bool t) ∧ Below W.heap.size W w')) (P1 : Hid (∀ W, Below w.heap.size w W → Calls Tryz.prog 76 #[tv A n c] W fun e w' => e = .returned (.int .i64 lo) ∧ Below W.heap.size W w')) (P2 : Hid (∀ W, Below w.heap.size w W → Calls Tryz.prog 77 #[tv A n c] W fun e w' => e = .returned (.int .i64 hi) ∧ Below W.heap.size W w')) (hlo : 0 ≤ lo) (hle : lo ≤ hi) (hhi : hi ≤ 1000000) (ha : lo ≤ a ∧ a ≤ hi + 1) (hb : lo ≤ b ∧ b ≤ hi + 1) (hf1 : ∀ v, lo ≤ v → v < a → f v = true) (hf2 : ∀ v, a ≤ v → v ≤ hi → f v = false) (hg1 : ∀ v, lo ≤ v → v < b → g v = false) (hg2 : ∀ v, b ≤ v → v ≤ hi → g v = true) (h : ¬ hi < a) (h' : ¬ b = lo) (j : lo < a) (j' : ¬ b ≤ hi) :
    Calls Tryz.prog 115 #[tv A n c, rv v0 v1, .bool fl] w fun e w' => e = .returned (.tuple #[rv (a - 1) hi, .bool true]) ∧ Below w.heap.size w w' := by
  have HE := Lib.hid (show Below w.heap.size w (((w.alloc (.cells #[.slice A n c] 26)).alloc (.cells #[.int .i64 v0, .int .i64 v1] 23)).alloc (.cells #[.int .i64 0, .int .i64 0] 23)) from below_a3 (Below.refl _ _))
  have HK := Lib.hid (boxes3' w 26 23 23 #[.slice A n c] #[.int .i64 v0, .int .i64 v1] #[.int .i64 0, .int .i64 0])
  have C1 := Lib.hid (fun W hW => CF.out W hi false hW hle (by omega) (hf2 hi (by omega) (by omega)))
  have C2 := Lib.hid (fun W hW => CG.out W lo false hW (by omega) hle (hg1 lo (by omega) (by omega)))
  have C3 := Lib.hid (fun W hW => CF.out W lo true hW (by omega) hle (hf1 lo (by omega) (by omega)))
  have C4 := Lib.hid (fun W hW => CG.out W hi false hW hle (by omega) (hg1 hi (by omega) (by omega)))
  go_enter Tryz.func115, Tryz.ntmps115
  go_wp2_with fail
  obtain ⟨W0, hW0⟩ : ∃ W0, (((w.alloc (.cells #[.slice A n c] 26)).alloc (.cells #[.int .i64 v0, .int .i64 v1] 23)).alloc (.cells #[.int .i64 0, .int .i64 0] 23)) = W0 := ⟨_, rfl⟩
  rw [hW0] at HE HK ⊢
  clear hW0
  obtain ⟨G, hG⟩ : ∃ G, w.heap.size = G := ⟨_, rfl⟩
  rw [hG] at HK ⊢
  have HG := Lib.hid hG; clear hG
  have t := HK.out _ (.tail _ (.tail _ (.head _)))
  have t0 := t.cell 0
  simp at t0
  clear t
  go_upto_region 1 with fail
  refine (P1.out _ HE.out).mono ?_
  rintro e y1 ⟨rfl, hz⟩
  have HE1 := Lib.hid (below_then HE.out hz); have HK1 := Lib.hid (HK.out.on hz)
  clear hz HE HK P1 t0
  have t := HK1.out _ (.tail _ (.tail _ (.head _)))
  have t0 := t.cell 0
  simp at t0
  clear t
  go_wp2_with fail
  refine (P2.out _ HE1.out).mono ?_
  rintro e y2 ⟨rfl, hz⟩
  have HE2 := Lib.hid (below_then HE1.out hz); have HK2 := Lib.hid (HK1.out.on hz)
  clear hz HE1 HK1 P2 t0
  have t := HK2.out _ (.tail _ (.tail _ (.head _)))
  have t0 := t.cell 0
  simp at t0
  clear t
  have q := HK2.out _ (.tail _ (.head _))
  have q0 := q.cell 0
  have q1 := q.cell 1
  simp at q0 q1
  clear q
  go_wp2_with fail
  refine (C1.out _ HE2.out).mono ?_
  rintro e y3 ⟨rfl, hz⟩
  have HE3 := Lib.hid (below_then HE2.out hz); have HK3 := Lib.hid (HK2.out.on hz)
  clear hz HE2 HK2 C1 t0 q0 q1
  have t := HK3.out _ (.tail _ (.tail _ (.head _)))
  have t0 := t.cell 0
  simp at t0
  clear t
  have q := HK3.out _ (.tail _ (.head _))
  have q0 := q.cell 0
  have q1 := q.cell 1
  simp at q0 q1
  clear q
  go_wp2_with fail
  refine (C2.out _ HE3.out).mono ?_
  rintro e y4 ⟨rfl, hz⟩
  have HE4 := Lib.hid (below_then HE3.out hz); have HK4 := Lib.hid (HK3.out.on hz)
  clear hz HE3 HK3 C2 t0 q0 q1
  go_upto_region 6 with fail
  have HE5 := Lib.hid (below_then HE4.out (below_alloc1 y4 (.cells #[.int .i64 lo, .int .i64 hi] 23))); have HK5 := Lib.hid (HK4.out.new 23 #[.int .i64 lo, .int .i64 hi])
  have HD := Lib.hid (boxes_far HK4.out)
  have HZ := Lib.hid HE4.out.size
  obtain ⟨W5, hW⟩ : ∃ W', y4.alloc (.cells #[.int .i64 lo, .int .i64 hi] 23) = W' := ⟨_, rfl⟩
  rw [hW] at HE5 HK5 ⊢
  clear hW HE4 HK4
  obtain ⟨N, hN⟩ : ∃ N, y4.heap.size = N := ⟨_, rfl⟩
  rw [hN] at HK5 HD HZ ⊢
  clear hN
  have t := HK5.out _ (.tail _ (.tail _ (.tail _ (.head _))))
  have t0 := t.cell 0
  simp at t0
  clear t
  have q := HK5.out _ (.tail _ (.tail _ (.head _)))
  have q0 := q.cell 0
  have q1 := q.cell 1
  simp at q0 q1
  clear q
  go_wp2_with fail
  refine (C3.out _ HE5.out).mono ?_
  rintro e y6 ⟨rfl, hz⟩
  have HE6 := Lib.hid (below_then HE5.out hz); have HK6 := Lib.hid (HK5.out.on hz)
  clear hz HE5 HK5 C3 t0 q0 q1
  go_wp2_with fail
  go_loopw [11, 12] (fun si sj wr => ∃ x y, si = .int .i64 x ∧ sj = .int .i64 y ∧ lo ≤ x ∧ x < a ∧ a ≤ y ∧ y ≤ hi ∧ Boxes wr ((N, 23, #[.int .i64 lo, .int .i64 hi]) :: [(G + 1 + 1, 23, #[.int .i64 0, .int .i64 0]), (G + 1, 23, #[.int .i64 v0, .int .i64 v1]), (G, 26, #[.slice A n c])]) ∧ Below w.heap.size w wr) (fun si sj _ => (intOf sj - intOf si).toNat)
  case atStart => exact ⟨lo, hi, rfl, rfl, by omega, by omega, by omega, by omega, HK6.out, HE6.out⟩
  case round =>
    clear HE6 HK6
    obtain ⟨x, y, rfl, rfl, x1, x2, x3, x4, hk, he⟩ := hrel
    have HK6 := Lib.hid hk; have HE6 := Lib.hid he
    clear hk he
    have w1 : IntKind.i64.wrap (y - x) = y - x := IntWalk.i64_in _ ⟨by omega, by omega⟩
    by_cases hlt : 1 < y - x
    · obtain ⟨q, hq, m1, m2⟩ := half_in hlt (by omega) (by omega)
      have w2 : IntKind.i64.wrap ((y - x).tdiv 2) = q := by rw [hq]; exact IntWalk.i64_in _ ⟨by omega, by omega⟩
      have w3 : IntKind.i64.wrap (x + q) = x + q := IntWalk.i64_in _ ⟨by omega, by omega⟩
      clear hq
      rcases Int.lt_or_le (x + q) a with hm | hm
      · have C5 := Lib.hid (fun W hW => CF.out W (x + q) true hW (by omega) (by omega) (hf1 (x + q) (by omega) (by omega)))
        have t := HK6.out _ (.tail _ (.tail _ (.tail _ (.head _))))
        have t0 := t.cell 0
        simp at t0
        clear t
        have q := HK6.out _ (.tail _ (.tail _ (.head _)))
        have q0 := q.cell 0
        have q1 := q.cell 1
        simp at q0 q1
        clear q
        go_wp2_with fail
        refine (C5.out _ HE6.out).mono ?_
        rintro e y7 ⟨rfl, hz⟩
        have HE7 := Lib.hid (below_then HE6.out hz); have HK7 := Lib.hid (HK6.out.on hz)
        clear hz HE6 HK6 C5 t0 q0 q1
        go_wp2
        go_roundw
        case rel => exact ⟨x + q, y, rfl, rfl, by omega, by omega, by omega, by omega, HK7.out, HE7.out⟩
        case measure => simp [intOf]; omega
      · have C5 := Lib.hid (fun W hW => CF.out W (x + q) false hW (by omega) (by omega) (hf2 (x + q) (by omega) (by omega)))
        have t := HK6.out _ (.tail _ (.tail _ (.tail _ (.head _))))
        have t0 := t.cell 0
        simp at t0
        clear t
        have q := HK6.out _ (.tail _ (.tail _ (.head _)))
        have q0 := q.cell 0
        have q1 := q.cell 1
        simp at q0 q1
        clear q
        go_wp2_with fail
        refine (C5.out _ HE6.out).mono ?_
        rintro e y7 ⟨rfl, hz⟩
        have HE7 := Lib.hid (below_then HE6.out hz); have HK7 := Lib.hid (HK6.out.on hz)
        clear hz HE6 HK6 C5 t0 q0 q1
        go_wp2
        go_roundw
        case rel => exact ⟨x, x + q, rfl, rfl, by omega, by omega, by omega, by omega, HK7.out, HE7.out⟩
        case measure => simp [intOf]; omega
    · obtain rfl : y = x + 1 := by omega
      obtain rfl : a = x + 1 := by omega
      clear CF hf1 hf2 w1
      have o := HK6.out _ (.head _)
      have o0 := o.cell 0
      have of0 := o.frozen 0
      have o1 := o.cell 1
      have of1 := o.frozen 1
      have ol := o.lt
      simp at o0 of0 o1 of1
      clear o
      go_upto_region 15 with fail
      have HE8 := Lib.hid (Below.setCell HE6.out (p := ⟨N, 0, none⟩) (by have := HZ.out; have := HG.out; show w.heap.size ≤ N; omega) (.int .i64 x)); have HK8 := Lib.hid (Boxes.set1 HK6.out HD.out 0 (.int .i64 x) #[.int .i64 x, .int .i64 hi] rfl)
      clear o0 o1 of0 of1 ol
      obtain ⟨W8, hW⟩ : ∃ W', World.setCell wr ⟨N, 0, none⟩ (.int .i64 x) = W' := ⟨_, rfl⟩
      rw [hW] at HE8 HK8 ⊢
      clear hW HE6 HK6
      have t := HK8.out _ (.tail _ (.tail _ (.tail _ (.head _))))
      have t0 := t.cell 0
      simp at t0
      clear t
      have q := HK8.out _ (.tail _ (.tail _ (.head _)))
      have q0 := q.cell 0
      have q1 := q.cell 1
      simp at q0 q1
      clear q
      go_wp2_with fail
      refine (C4.out _ HE8.out).mono ?_
      rintro e y9 ⟨rfl, hz⟩
      have HE9 := Lib.hid (below_then HE8.out hz); have HK9 := Lib.hid (HK8.out.on hz)
      clear hz HE8 HK8 C4 t0 q0 q1
      have o := HK9.out _ (.head _)
      have o0 := o.cell 0
      have o1 := o.cell 1
      simp at o0 o1
      clear o
      have z := HK9.out _ (.tail _ (.head _))
      have z0 := z.cell 0
      have zf0 := z.frozen 0
      have z1 := z.cell 1
      have zf1 := z.frozen 1
      have zl := z.lt
      simp at z0 zf0 z1 zf1
      clear z
      go_wp2
      refine bodyPost_ret (v := .tuple #[rv x hi, .bool true]) (by simp [results, Tryz.results115, go_sem, z0, z1]) rfl ⟨by first | rfl | (congr 3; simp; done) | (congr 3; omega) | (congr 4 <;> omega), ?_⟩
      have hg := HG.out
      repeat (first | exact HE9.out | refine Below.setCell ?_ (by simp <;> omega) _)

set_option maxRecDepth 100000 in
set_option maxHeartbeats 4000000 in
theorem sInverse_right (A : Option Addr) (n c : Nat) (v0 v1 lo hi a b : Int) (fl : Bool) (f g : Int → Bool) (w : World) (CF : Hid (∀ W x t, Below w.heap.size w W → lo ≤ x → x ≤ hi → f x = t → Calls Tryz.prog 165 #[tv A n c, rv v0 v1, .int .i64 x, .bool fl] W fun e w' => e = .returned (.bool t) ∧ Below W.heap.size W w')) (CG : Hid (∀ W x t, Below w.heap.size w W → lo ≤ x → x ≤ hi → g x = t → Calls Tryz.prog 165 #[tv A n c, rv v0 v1, .int .i64 x, .bool (!fl)] W fun e w' => e = .returned (.bool t) ∧ Below W.heap.size W w')) (P1 : Hid (∀ W, Below w.heap.size w W → Calls Tryz.prog 76 #[tv A n c] W fun e w' => e = .returned (.int .i64 lo) ∧ Below W.heap.size W w')) (P2 : Hid (∀ W, Below w.heap.size w W → Calls Tryz.prog 77 #[tv A n c] W fun e w' => e = .returned (.int .i64 hi) ∧ Below W.heap.size W w')) (hlo : 0 ≤ lo) (hle : lo ≤ hi) (hhi : hi ≤ 1000000) (ha : lo ≤ a ∧ a ≤ hi + 1) (hb : lo ≤ b ∧ b ≤ hi + 1) (hf1 : ∀ v, lo ≤ v → v < a → f v = true) (hf2 : ∀ v, a ≤ v → v ≤ hi → f v = false) (hg1 : ∀ v, lo ≤ v → v < b → g v = false) (hg2 : ∀ v, b ≤ v → v ≤ hi → g v = true) (h : ¬ hi < a) (h' : ¬ b = lo) (j : ¬ lo < a) (j' : b ≤ hi) :
    Calls Tryz.prog 115 #[tv A n c, rv v0 v1, .bool fl] w fun e w' => e = .returned (.tuple #[rv lo b, .bool true]) ∧ Below w.heap.size w w' := by
  have HE := Lib.hid (show Below w.heap.size w (((w.alloc (.cells #[.slice A n c] 26)).alloc (.cells #[.int .i64 v0, .int .i64 v1] 23)).alloc (.cells #[.int .i64 0, .int .i64 0] 23)) from below_a3 (Below.refl _ _))
  have HK := Lib.hid (boxes3' w 26 23 23 #[.slice A n c] #[.int .i64 v0, .int .i64 v1] #[.int .i64 0, .int .i64 0])
  have C1 := Lib.hid (fun W hW => CF.out W hi false hW hle (by omega) (hf2 hi (by omega) (by omega)))
  have C2 := Lib.hid (fun W hW => CG.out W lo false hW (by omega) hle (hg1 lo (by omega) (by omega)))
  have C3 := Lib.hid (fun W hW => CF.out W lo false hW (by omega) hle (hf2 lo (by omega) (by omega)))
  have C4 := Lib.hid (fun W hW => CG.out W hi true hW hle (by omega) (hg2 hi (by omega) (by omega)))
  go_enter Tryz.func115, Tryz.ntmps115
  go_wp2_with fail
  obtain ⟨W0, hW0⟩ : ∃ W0, (((w.alloc (.cells #[.slice A n c] 26)).alloc (.cells #[.int .i64 v0, .int .i64 v1] 23)).alloc (.cells #[.int .i64 0, .int .i64 0] 23)) = W0 := ⟨_, rfl⟩
  rw [hW0] at HE HK ⊢
  clear hW0
  obtain ⟨G, hG⟩ : ∃ G, w.heap.size = G := ⟨_, rfl⟩
  rw [hG] at HK ⊢
  have HG := Lib.hid hG; clear hG
  have t := HK.out _ (.tail _ (.tail _ (.head _)))
  have t0 := t.cell 0
  simp at t0
  clear t
  go_upto_region 1 with fail
  refine (P1.out _ HE.out).mono ?_
  rintro e y1 ⟨rfl, hz⟩
  have HE1 := Lib.hid (below_then HE.out hz); have HK1 := Lib.hid (HK.out.on hz)
  clear hz HE HK P1 t0
  have t := HK1.out _ (.tail _ (.tail _ (.head _)))
  have t0 := t.cell 0
  simp at t0
  clear t
  go_wp2_with fail
  refine (P2.out _ HE1.out).mono ?_
  rintro e y2 ⟨rfl, hz⟩
  have HE2 := Lib.hid (below_then HE1.out hz); have HK2 := Lib.hid (HK1.out.on hz)
  clear hz HE1 HK1 P2 t0
  have t := HK2.out _ (.tail _ (.tail _ (.head _)))
  have t0 := t.cell 0
  simp at t0
  clear t
  have q := HK2.out _ (.tail _ (.head _))
  have q0 := q.cell 0
  have q1 := q.cell 1
  simp at q0 q1
  clear q
  go_wp2_with fail
  refine (C1.out _ HE2.out).mono ?_
  rintro e y3 ⟨rfl, hz⟩
  have HE3 := Lib.hid (below_then HE2.out hz); have HK3 := Lib.hid (HK2.out.on hz)
  clear hz HE2 HK2 C1 t0 q0 q1
  have t := HK3.out _ (.tail _ (.tail _ (.head _)))
  have t0 := t.cell 0
  simp at t0
  clear t
  have q := HK3.out _ (.tail _ (.head _))
  have q0 := q.cell 0
  have q1 := q.cell 1
  simp at q0 q1
  clear q
  go_wp2_with fail
  refine (C2.out _ HE3.out).mono ?_
  rintro e y4 ⟨rfl, hz⟩
  have HE4 := Lib.hid (below_then HE3.out hz); have HK4 := Lib.hid (HK3.out.on hz)
  clear hz HE3 HK3 C2 t0 q0 q1
  go_upto_region 6 with fail
  have HE5 := Lib.hid (below_then HE4.out (below_alloc1 y4 (.cells #[.int .i64 lo, .int .i64 hi] 23))); have HK5 := Lib.hid (HK4.out.new 23 #[.int .i64 lo, .int .i64 hi])
  have HD := Lib.hid (boxes_far HK4.out)
  have HZ := Lib.hid HE4.out.size
  obtain ⟨W5, hW⟩ : ∃ W', y4.alloc (.cells #[.int .i64 lo, .int .i64 hi] 23) = W' := ⟨_, rfl⟩
  rw [hW] at HE5 HK5 ⊢
  clear hW HE4 HK4
  obtain ⟨N, hN⟩ : ∃ N, y4.heap.size = N := ⟨_, rfl⟩
  rw [hN] at HK5 HD HZ ⊢
  clear hN
  have t := HK5.out _ (.tail _ (.tail _ (.tail _ (.head _))))
  have t0 := t.cell 0
  simp at t0
  clear t
  have q := HK5.out _ (.tail _ (.tail _ (.head _)))
  have q0 := q.cell 0
  have q1 := q.cell 1
  simp at q0 q1
  clear q
  go_wp2_with fail
  refine (C3.out _ HE5.out).mono ?_
  rintro e y6 ⟨rfl, hz⟩
  have HE6 := Lib.hid (below_then HE5.out hz); have HK6 := Lib.hid (HK5.out.on hz)
  clear hz HE5 HK5 C3 t0 q0 q1
  have t := HK6.out _ (.tail _ (.tail _ (.tail _ (.head _))))
  have t0 := t.cell 0
  simp at t0
  clear t
  have q := HK6.out _ (.tail _ (.tail _ (.head _)))
  have q0 := q.cell 0
  have q1 := q.cell 1
  simp at q0 q1
  clear q
  go_wp2_with fail
  refine (C4.out _ HE6.out).mono ?_
  rintro e y9 ⟨rfl, hz⟩
  have HE9 := Lib.hid (below_then HE6.out hz); have HK9 := Lib.hid (HK6.out.on hz)
  clear hz HE6 HK6 C4 t0 q0 q1
  go_wp2_with fail
  go_loopw [14, 15] (fun si sj wr => ∃ u u9, si = .int .i64 u ∧ sj = .int .i64 u9 ∧ lo ≤ u ∧ u < b ∧ b ≤ u9 ∧ u9 ≤ hi ∧ Boxes wr ((N, 23, #[.int .i64 lo, .int .i64 hi]) :: [(G + 1 + 1, 23, #[.int .i64 0, .int .i64 0]), (G + 1, 23, #[.int .i64 v0, .int .i64 v1]), (G, 26, #[.slice A n c])]) ∧ Below w.heap.size w wr) (fun si sj _ => (intOf sj - intOf si).toNat)
  case atStart => exact ⟨lo, hi, rfl, rfl, by omega, by omega, by omega, by omega, HK9.out, HE9.out⟩
  case round =>
    clear HE9 HK9
    obtain ⟨u, u9, rfl, rfl, u1, u2, u3, u4, hk, he⟩ := hrel
    have HK16 := Lib.hid hk; have HE16 := Lib.hid he
    clear hk he
    have k1 : IntKind.i64.wrap (u9 - u) = u9 - u := IntWalk.i64_in _ ⟨by omega, by omega⟩
    by_cases hlt : 1 < u9 - u
    · obtain ⟨q, hq, m1, m2⟩ := half_in hlt (by omega) (by omega)
      have k2 : IntKind.i64.wrap ((u9 - u).tdiv 2) = q := by rw [hq]; exact IntWalk.i64_in _ ⟨by omega, by omega⟩
      have k3 : IntKind.i64.wrap (u + q) = u + q := IntWalk.i64_in _ ⟨by omega, by omega⟩
      clear hq
      rcases Int.lt_or_le (u + q) b with hm | hm
      · have C5 := Lib.hid (fun W hW => CG.out W (u + q) false hW (by omega) (by omega) (hg1 (u + q) (by omega) (by omega)))
        have t := HK16.out _ (.tail _ (.tail _ (.tail _ (.head _))))
        have t0 := t.cell 0
        simp at t0
        clear t
        have q := HK16.out _ (.tail _ (.tail _ (.head _)))
        have q0 := q.cell 0
        have q1 := q.cell 1
        simp at q0 q1
        clear q
        go_wp2_with fail
        refine (C5.out _ HE16.out).mono ?_
        rintro e y7 ⟨rfl, hz⟩
        have HE17 := Lib.hid (below_then HE16.out hz); have HK17 := Lib.hid (HK16.out.on hz)
        clear hz HE16 HK16 C5 t0 q0 q1
        go_wp2
        go_roundw
        case rel => exact ⟨u + q, u9, rfl, rfl, by omega, by omega, by omega, by omega, HK17.out, HE17.out⟩
        case measure => simp [intOf]; omega
      · have C5 := Lib.hid (fun W hW => CG.out W (u + q) true hW (by omega) (by omega) (hg2 (u + q) (by omega) (by omega)))
        have t := HK16.out _ (.tail _ (.tail _ (.tail _ (.head _))))
        have t0 := t.cell 0
        simp at t0
        clear t
        have q := HK16.out _ (.tail _ (.tail _ (.head _)))
        have q0 := q.cell 0
        have q1 := q.cell 1
        simp at q0 q1
        clear q
        go_wp2_with fail
        refine (C5.out _ HE16.out).mono ?_
        rintro e y7 ⟨rfl, hz⟩
        have HE17 := Lib.hid (below_then HE16.out hz); have HK17 := Lib.hid (HK16.out.on hz)
        clear hz HE16 HK16 C5 t0 q0 q1
        go_wp2
        go_roundw
        case rel => exact ⟨u, u + q, rfl, rfl, by omega, by omega, by omega, by omega, HK17.out, HE17.out⟩
        case measure => simp [intOf]; omega
    · obtain rfl : u9 = u + 1 := by omega
      obtain rfl : b = u + 1 := by omega
      clear CG hg1 hg2 k1
      have o := HK16.out _ (.head _)
      have o0 := o.cell 0
      have of0 := o.frozen 0
      have o1 := o.cell 1
      have of1 := o.frozen 1
      have ol := o.lt
      simp at o0 of0 o1 of1
      clear o
      go_upto_region 24 with fail
      have HE18 := Lib.hid (Below.setCell HE16.out (p := ⟨N, 1, none⟩) (by have := HZ.out; have := HG.out; show w.heap.size ≤ N; omega) (.int .i64 (u + 1))); have HK18 := Lib.hid (Boxes.set1 HK16.out HD.out 1 (.int .i64 (u + 1)) #[.int .i64 lo, .int .i64 (u + 1)] rfl)
      clear o0 o1 of0 of1 ol
      obtain ⟨W18, hW⟩ : ∃ W', World.setCell wr ⟨N, 1, none⟩ (.int .i64 (u + 1)) = W' := ⟨_, rfl⟩
      rw [hW] at HE18 HK18 ⊢
      clear hW HE16 HK16
      have o := HK18.out _ (.head _)
      have o0 := o.cell 0
      have o1 := o.cell 1
      simp at o0 o1
      clear o
      have z := HK18.out _ (.tail _ (.head _))
      have z0 := z.cell 0
      have zf0 := z.frozen 0
      have z1 := z.cell 1
      have zf1 := z.frozen 1
      have zl := z.lt
      simp at z0 zf0 z1 zf1
      clear z
      go_wp2
      refine bodyPost_ret (v := .tuple #[rv lo (u + 1), .bool true]) (by simp [results, Tryz.results115, go_sem, z0, z1]) rfl ⟨by first | rfl | (congr 3; simp; done) | (congr 3; omega) | (congr 4 <;> omega), ?_⟩
      have hg := HG.out
      repeat (first | exact HE18.out | refine Below.setCell ?_ (by simp <;> omega) _)

set_option maxRecDepth 100000 in
set_option maxHeartbeats 4000000 in
theorem sInverse_both (A : Option Addr) (n c : Nat) (v0 v1 lo hi a b : Int) (fl : Bool) (f g : Int → Bool) (w : World) (CF : Hid (∀ W x t, Below w.heap.size w W → lo ≤ x → x ≤ hi → f x = t → Calls Tryz.prog 165 #[tv A n c, rv v0 v1, .int .i64 x, .bool fl] W fun e w' => e = .returned (.bool t) ∧ Below W.heap.size W w')) (CG : Hid (∀ W x t, Below w.heap.size w W → lo ≤ x → x ≤ hi → g x = t → Calls Tryz.prog 165 #[tv A n c, rv v0 v1, .int .i64 x, .bool (!fl)] W fun e w' => e = .returned (.bool t) ∧ Below W.heap.size W w')) (P1 : Hid (∀ W, Below w.heap.size w W → Calls Tryz.prog 76 #[tv A n c] W fun e w' => e = .returned (.int .i64 lo) ∧ Below W.heap.size W w')) (P2 : Hid (∀ W, Below w.heap.size w W → Calls Tryz.prog 77 #[tv A n c] W fun e w' => e = .returned (.int .i64 hi) ∧ Below W.heap.size W w')) (hlo : 0 ≤ lo) (hle : lo ≤ hi) (hhi : hi ≤ 1000000) (ha : lo ≤ a ∧ a ≤ hi + 1) (hb : lo ≤ b ∧ b ≤ hi + 1) (hf1 : ∀ v, lo ≤ v → v < a → f v = true) (hf2 : ∀ v, a ≤ v → v ≤ hi → f v = false) (hg1 : ∀ v, lo ≤ v → v < b → g v = false) (hg2 : ∀ v, b ≤ v → v ≤ hi → g v = true) (h : ¬ hi < a) (h' : ¬ b = lo) (j : lo < a) (j' : b ≤ hi) :
    Calls Tryz.prog 115 #[tv A n c, rv v0 v1, .bool fl] w fun e w' => e = .returned (.tuple #[rv (a - 1) b, .bool true]) ∧ Below w.heap.size w w' := by
  have HE := Lib.hid (show Below w.heap.size w (((w.alloc (.cells #[.slice A n c] 26)).alloc (.cells #[.int .i64 v0, .int .i64 v1] 23)).alloc (.cells #[.int .i64 0, .int .i64 0] 23)) from below_a3 (Below.refl _ _))
  have HK := Lib.hid (boxes3' w 26 23 23 #[.slice A n c] #[.int .i64 v0, .int .i64 v1] #[.int .i64 0, .int .i64 0])
  have C1 := Lib.hid (fun W hW => CF.out W hi false hW hle (by omega) (hf2 hi (by omega) (by omega)))
  have C2 := Lib.hid (fun W hW => CG.out W lo false hW (by omega) hle (hg1 lo (by omega) (by omega)))
  have C3 := Lib.hid (fun W hW => CF.out W lo true hW (by omega) hle (hf1 lo (by omega) (by omega)))
  have C4 := Lib.hid (fun W hW => CG.out W hi true hW hle (by omega) (hg2 hi (by omega) (by omega)))
  go_enter Tryz.func115, Tryz.ntmps115
  go_wp2_with fail
  obtain ⟨W0, hW0⟩ : ∃ W0, (((w.alloc (.cells #[.slice A n c] 26)).alloc (.cells #[.int .i64 v0, .int .i64 v1] 23)).alloc (.cells #[.int .i64 0, .int .i64 0] 23)) = W0 := ⟨_, rfl⟩
  rw [hW0] at HE HK ⊢
  clear hW0
  obtain ⟨G, hG⟩ : ∃ G, w.heap.size = G := ⟨_, rfl⟩
  rw [hG] at HK ⊢
  have HG := Lib.hid hG; clear hG
  have t := HK.out _ (.tail _ (.tail _ (.head _)))
  have t0 := t.cell 0
  simp at t0
  clear t
  go_upto_region 1 with fail
  refine (P1.out _ HE.out).mono ?_
  rintro e y1 ⟨rfl, hz⟩
  have HE1 := Lib.hid (below_then HE.out hz); have HK1 := Lib.hid (HK.out.on hz)
  clear hz HE HK P1 t0
  have t := HK1.out _ (.tail _ (.tail _ (.head _)))
  have t0 := t.cell 0
  simp at t0
  clear t
  go_wp2_with fail
  refine (P2.out _ HE1.out).mono ?_
  rintro e y2 ⟨rfl, hz⟩
  have HE2 := Lib.hid (below_then HE1.out hz); have HK2 := Lib.hid (HK1.out.on hz)
  clear hz HE1 HK1 P2 t0
  have t := HK2.out _ (.tail _ (.tail _ (.head _)))
  have t0 := t.cell 0
  simp at t0
  clear t
  have q := HK2.out _ (.tail _ (.head _))
  have q0 := q.cell 0
  have q1 := q.cell 1
  simp at q0 q1
  clear q
  go_wp2_with fail
  refine (C1.out _ HE2.out).mono ?_
  rintro e y3 ⟨rfl, hz⟩
  have HE3 := Lib.hid (below_then HE2.out hz); have HK3 := Lib.hid (HK2.out.on hz)
  clear hz HE2 HK2 C1 t0 q0 q1
  have t := HK3.out _ (.tail _ (.tail _ (.head _)))
  have t0 := t.cell 0
  simp at t0
  clear t
  have q := HK3.out _ (.tail _ (.head _))
  have q0 := q.cell 0
  have q1 := q.cell 1
  simp at q0 q1
  clear q
  go_wp2_with fail
  refine (C2.out _ HE3.out).mono ?_
  rintro e y4 ⟨rfl, hz⟩
  have HE4 := Lib.hid (below_then HE3.out hz); have HK4 := Lib.hid (HK3.out.on hz)
  clear hz HE3 HK3 C2 t0 q0 q1
  go_upto_region 6 with fail
  have HE5 := Lib.hid (below_then HE4.out (below_alloc1 y4 (.cells #[.int .i64 lo, .int .i64 hi] 23))); have HK5 := Lib.hid (HK4.out.new 23 #[.int .i64 lo, .int .i64 hi])
  have HD := Lib.hid (boxes_far HK4.out)
  have HZ := Lib.hid HE4.out.size
  obtain ⟨W5, hW⟩ : ∃ W', y4.alloc (.cells #[.int .i64 lo, .int .i64 hi] 23) = W' := ⟨_, rfl⟩
  rw [hW] at HE5 HK5 ⊢
  clear hW HE4 HK4
  obtain ⟨N, hN⟩ : ∃ N, y4.heap.size = N := ⟨_, rfl⟩
  rw [hN] at HK5 HD HZ ⊢
  clear hN
  have t := HK5.out _ (.tail _ (.tail _ (.tail _ (.head _))))
  have t0 := t.cell 0
  simp at t0
  clear t
  have q := HK5.out _ (.tail _ (.tail _ (.head _)))
  have q0 := q.cell 0
  have q1 := q.cell 1
  simp at q0 q1
  clear q
  go_wp2_with fail
  refine (C3.out _ HE5.out).mono ?_
  rintro e y6 ⟨rfl, hz⟩
  have HE6 := Lib.hid (below_then HE5.out hz); have HK6 := Lib.hid (HK5.out.on hz)
  clear hz HE5 HK5 C3 t0 q0 q1
  go_wp2_with fail
  go_loopw [11, 12] (fun si sj wr => ∃ x y, si = .int .i64 x ∧ sj = .int .i64 y ∧ lo ≤ x ∧ x < a ∧ a ≤ y ∧ y ≤ hi ∧ Boxes wr ((N, 23, #[.int .i64 lo, .int .i64 hi]) :: [(G + 1 + 1, 23, #[.int .i64 0, .int .i64 0]), (G + 1, 23, #[.int .i64 v0, .int .i64 v1]), (G, 26, #[.slice A n c])]) ∧ Below w.heap.size w wr) (fun si sj _ => (intOf sj - intOf si).toNat)
  case atStart => exact ⟨lo, hi, rfl, rfl, by omega, by omega, by omega, by omega, HK6.out, HE6.out⟩
  case round =>
    clear HE6 HK6
    obtain ⟨x, y, rfl, rfl, x1, x2, x3, x4, hk, he⟩ := hrel
    have HK6 := Lib.hid hk; have HE6 := Lib.hid he
    clear hk he
    have w1 : IntKind.i64.wrap (y - x) = y - x := IntWalk.i64_in _ ⟨by omega, by omega⟩
    by_cases hlt : 1 < y - x
    · obtain ⟨q, hq, m1, m2⟩ := half_in hlt (by omega) (by omega)
      have w2 : IntKind.i64.wrap ((y - x).tdiv 2) = q := by rw [hq]; exact IntWalk.i64_in _ ⟨by omega, by omega⟩
      have w3 : IntKind.i64.wrap (x + q) = x + q := IntWalk.i64_in _ ⟨by omega, by omega⟩
      clear hq
      rcases Int.lt_or_le (x + q) a with hm | hm
      · have C5 := Lib.hid (fun W hW => CF.out W (x + q) true hW (by omega) (by omega) (hf1 (x + q) (by omega) (by omega)))
        have t := HK6.out _ (.tail _ (.tail _ (.tail _ (.head _))))
        have t0 := t.cell 0
        simp at t0
        clear t
        have q := HK6.out _ (.tail _ (.tail _ (.head _)))
        have q0 := q.cell 0
        have q1 := q.cell 1
        simp at q0 q1
        clear q
        go_wp2_with fail
        refine (C5.out _ HE6.out).mono ?_
        rintro e y7 ⟨rfl, hz⟩
        have HE7 := Lib.hid (below_then HE6.out hz); have HK7 := Lib.hid (HK6.out.on hz)
        clear hz HE6 HK6 C5 t0 q0 q1
        go_wp2
        go_roundw
        case rel => exact ⟨x + q, y, rfl, rfl, by omega, by omega, by omega, by omega, HK7.out, HE7.out⟩
        case measure => simp [intOf]; omega
      · have C5 := Lib.hid (fun W hW => CF.out W (x + q) false hW (by omega) (by omega) (hf2 (x + q) (by omega) (by omega)))
        have t := HK6.out _ (.tail _ (.tail _ (.tail _ (.head _))))
        have t0 := t.cell 0
        simp at t0
        clear t
        have q := HK6.out _ (.tail _ (.tail _ (.head _)))
        have q0 := q.cell 0
        have q1 := q.cell 1
        simp at q0 q1
        clear q
        go_wp2_with fail
        refine (C5.out _ HE6.out).mono ?_
        rintro e y7 ⟨rfl, hz⟩
        have HE7 := Lib.hid (below_then HE6.out hz); have HK7 := Lib.hid (HK6.out.on hz)
        clear hz HE6 HK6 C5 t0 q0 q1
        go_wp2
        go_roundw
        case rel => exact ⟨x, x + q, rfl, rfl, by omega, by omega, by omega, by omega, HK7.out, HE7.out⟩
        case measure => simp [intOf]; omega
    · obtain rfl : y = x + 1 := by omega
      obtain rfl : a = x + 1 := by omega
      clear CF hf1 hf2 w1
      have o := HK6.out _ (.head _)
      have o0 := o.cell 0
      have of0 := o.frozen 0
      have o1 := o.cell 1
      have of1 := o.frozen 1
      have ol := o.lt
      simp at o0 of0 o1 of1
      clear o
      go_upto_region 15 with fail
      have HE8 := Lib.hid (Below.setCell HE6.out (p := ⟨N, 0, none⟩) (by have := HZ.out; have := HG.out; show w.heap.size ≤ N; omega) (.int .i64 x)); have HK8 := Lib.hid (Boxes.set1 HK6.out HD.out 0 (.int .i64 x) #[.int .i64 x, .int .i64 hi] rfl)
      clear o0 o1 of0 of1 ol
      obtain ⟨W8, hW⟩ : ∃ W', World.setCell wr ⟨N, 0, none⟩ (.int .i64 x) = W' := ⟨_, rfl⟩
      rw [hW] at HE8 HK8 ⊢
      clear hW HE6 HK6
      have t := HK8.out _ (.tail _ (.tail _ (.tail _ (.head _))))
      have t0 := t.cell 0
      simp at t0
      clear t
      have q := HK8.out _ (.tail _ (.tail _ (.head _)))
      have q0 := q.cell 0
      have q1 := q.cell 1
      simp at q0 q1
      clear q
      go_wp2_with fail
      refine (C4.out _ HE8.out).mono ?_
      rintro e y9 ⟨rfl, hz⟩
      have HE9 := Lib.hid (below_then HE8.out hz); have HK9 := Lib.hid (HK8.out.on hz)
      clear hz HE8 HK8 C4 t0 q0 q1
      go_wp2_with fail
      go_loopw [14, 15] (fun si sj wr => ∃ u u9, si = .int .i64 u ∧ sj = .int .i64 u9 ∧ lo ≤ u ∧ u < b ∧ b ≤ u9 ∧ u9 ≤ hi ∧ Boxes wr ((N, 23, #[.int .i64 x, .int .i64 hi]) :: [(G + 1 + 1, 23, #[.int .i64 0, .int .i64 0]), (G + 1, 23, #[.int .i64 v0, .int .i64 v1]), (G, 26, #[.slice A n c])]) ∧ Below w.heap.size w wr) (fun si sj _ => (intOf sj - intOf si).toNat)
      case atStart => exact ⟨lo, hi, rfl, rfl, by omega, by omega, by omega, by omega, HK9.out, HE9.out⟩
      case round =>
        clear HE9 HK9
        obtain ⟨u, u9, rfl, rfl, u1, u2, u3, u4, hk, he⟩ := hrel
        have HK16 := Lib.hid hk; have HE16 := Lib.hid he
        clear hk he
        have k1 : IntKind.i64.wrap (u9 - u) = u9 - u := IntWalk.i64_in _ ⟨by omega, by omega⟩
        by_cases hlt : 1 < u9 - u
        · obtain ⟨q, hq, m1, m2⟩ := half_in hlt (by omega) (by omega)
          have k2 : IntKind.i64.wrap ((u9 - u).tdiv 2) = q := by rw [hq]; exact IntWalk.i64_in _ ⟨by omega, by omega⟩
          have k3 : IntKind.i64.wrap (u + q) = u + q := IntWalk.i64_in _ ⟨by omega, by omega⟩
          clear hq
          rcases Int.lt_or_le (u + q) b with hm | hm
          · have C5 := Lib.hid (fun W hW => CG.out W (u + q) false hW (by omega) (by omega) (hg1 (u + q) (by omega) (by omega)))
            have t := HK16.out _ (.tail _ (.tail _ (.tail _ (.head _))))
            have t0 := t.cell 0
            simp at t0
            clear t
            have q := HK16.out _ (.tail _ (.tail _ (.head _)))
            have q0 := q.cell 0
            have q1 := q.cell 1
            simp at q0 q1
            clear q
            go_wp2_with fail
            refine (C5.out _ HE16.out).mono ?_
            rintro e y7 ⟨rfl, hz⟩
            have HE17 := Lib.hid (below_then HE16.out hz); have HK17 := Lib.hid (HK16.out.on hz)
            clear hz HE16 HK16 C5 t0 q0 q1
            go_wp2
            go_roundw
            case rel => exact ⟨u + q, u9, rfl, rfl, by omega, by omega, by omega, by omega, HK17.out, HE17.out⟩
            case measure => simp [intOf]; omega
          · have C5 := Lib.hid (fun W hW => CG.out W (u + q) true hW (by omega) (by omega) (hg2 (u + q) (by omega) (by omega)))
            have t := HK16.out _ (.tail _ (.tail _ (.tail _ (.head _))))
            have t0 := t.cell 0
            simp at t0
            clear t
            have q := HK16.out _ (.tail _ (.tail _ (.head _)))
            have q0 := q.cell 0
            have q1 := q.cell 1
            simp at q0 q1
            clear q
            go_wp2_with fail
            refine (C5.out _ HE16.out).mono ?_
            rintro e y7 ⟨rfl, hz⟩
            have HE17 := Lib.hid (below_then HE16.out hz); have HK17 := Lib.hid (HK16.out.on hz)
            clear hz HE16 HK16 C5 t0 q0 q1
            go_wp2
            go_roundw
            case rel => exact ⟨u, u + q, rfl, rfl, by omega, by omega, by omega, by omega, HK17.out, HE17.out⟩
            case measure => simp [intOf]; omega
        · obtain rfl : u9 = u + 1 := by omega
          obtain rfl : b = u + 1 := by omega
          clear CG hg1 hg2 k1
          have o := HK16.out _ (.head _)
          have o0 := o.cell 0
          have of0 := o.frozen 0
          have o1 := o.cell 1
          have of1 := o.frozen 1
          have ol := o.lt
          simp at o0 of0 o1 of1
          clear o
          go_upto_region 24 with fail
          have HE18 := Lib.hid (Below.setCell HE16.out (p := ⟨N, 1, none⟩) (by have := HZ.out; have := HG.out; show w.heap.size ≤ N; omega) (.int .i64 (u + 1))); have HK18 := Lib.hid (Boxes.set1 HK16.out HD.out 1 (.int .i64 (u + 1)) #[.int .i64 x, .int .i64 (u + 1)] rfl)
          clear o0 o1 of0 of1 ol
          obtain ⟨W18, hW⟩ : ∃ W', World.setCell wr ⟨N, 1, none⟩ (.int .i64 (u + 1)) = W' := ⟨_, rfl⟩
          rw [hW] at HE18 HK18 ⊢
          clear hW HE16 HK16
          have o := HK18.out _ (.head _)
          have o0 := o.cell 0
          have o1 := o.cell 1
          simp at o0 o1
          clear o
          have z := HK18.out _ (.tail _ (.head _))
          have z0 := z.cell 0
          have zf0 := z.frozen 0
          have z1 := z.cell 1
          have zf1 := z.frozen 1
          have zl := z.lt
          simp at z0 zf0 z1 zf1
          clear z
          go_wp2
          refine bodyPost_ret (v := .tuple #[rv x (u + 1), .bool true]) (by simp [results, Tryz.results115, go_sem, z0, z1]) rfl ⟨by first | rfl | (congr 3; simp; done) | (congr 3; omega) | (congr 4 <;> omega), ?_⟩
          have hg := HG.out
          repeat (first | exact HE18.out | refine Below.setCell ?_ (by simp <;> omega) _)
end

end Go.Proofs.YtmdilbmgopggaaaGreat
