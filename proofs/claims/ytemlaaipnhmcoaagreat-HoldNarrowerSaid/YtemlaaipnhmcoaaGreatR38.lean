/- What numbers choose: span of the specification; somewhere, dense of the law; Within. Their conditions: the ranges are valid and not wide, the table is a valid one. -/
import Derived.Test.YtemlaaipnhmcoaaGreatR16
import Derived.Test.YtemlaaipnhmcoaaGreatR05
import Derived.Test.YtemlaaipnhmcoaaGreatQ98
set_option linter.unusedVariables false
set_option linter.unusedSimpArgs false
set_option linter.constructorNameAsVariable false
namespace Go.Proofs.YtemlaaipnhmcoaaGreat

section
open Go.RowKit
attribute [local go_sem ↓] run_minI run_maxI
set_option maxRecDepth 100000 in
set_option maxHeartbeats 4000000 in
theorem msomewhere_to (lo hi x : Int) (w : World) (h : lo ≤ hi) (h1 : -1000000000000 ≤ lo) (h2 : hi ≤ 1000000000000) :
  Calls Tryz.prog 17 #[rv lo hi, .int .i64 x] w fun e w' => e = .returned (.int .i64 (lo + x % (hi - lo + 1))) ∧ Below w.heap.size w w' := by
 have w1 : IntKind.i64.wrap (hi - lo) = hi - lo := IntWalk.i64_in _ ⟨by omega, by omega⟩
 obtain ⟨g, hg⟩ : ∃ g, hi - lo = g := ⟨_, rfl⟩
 replace w1 := w1.trans hg
 rw [hg]
 have w2 : IntKind.i64.wrap (g + 1) = g + 1 := IntWalk.i64_in _ ⟨by omega, by omega⟩
 obtain ⟨k, hk⟩ : ∃ k, g + 1 = k := ⟨_, rfl⟩
 replace w2 := w2.trans hk
 rw [hk]
 obtain ⟨b0, b1⟩ := emod_in x (show (0 : Int) < k by omega)
 obtain ⟨a, ha⟩ : ∃ z, x % k = z := ⟨_, rfl⟩
 rw [ha] at b0 b1 ⊢
 have w3 : IntKind.i64.wrap (lo + a) = lo + a := IntWalk.i64_in _ ⟨by omega, by omega⟩
 have CM0 : Hid (∀ W, Calls Tryz.prog 23 #[.int .i64 x, .int .i64 k] W fun e w' => e = .returned (.int .i64 a) ∧ Below W.heap.size W w') := Lib.hid fun W => int_to (smod_to x k W (by omega) (by omega)) ha
 clear ha b0 b1 h h1 h2 hk hg
 have HE := Lib.hid (show Below w.heap.size w (w.alloc (.cells #[.int .i64 lo, .int .i64 hi] 30)) from below_alloc1 w _)
 have HK := Lib.hid (boxes1' w 30 #[.int .i64 lo, .int .i64 hi])
 go_enter Tryz.func17, Tryz.ntmps17
 go_upto_region 1 with fail
 obtain ⟨W0, hW0⟩ : ∃ W0 : World, (w.alloc (.cells #[.int .i64 lo, .int .i64 hi] 30)) = W0 := ⟨_, rfl⟩
 rw [hW0] at HE HK ⊢
 clear hW0
 obtain ⟨G, hG⟩ : ∃ G, w.heap.size = G := ⟨_, rfl⟩
 rw [hG] at HK ⊢
 have HG := Lib.hid hG; clear hG
 have hS0 : Boxes W0.drew [(G, 30, #[.int .i64 lo, .int .i64 hi])] := HK.out
 have HEd := Lib.hid HE.out.drew
 refine wp_region_held_drew (S := fun w' => Boxes w' [(G, 30, #[.int .i64 lo, .int .i64 hi])]) (by kernel_rfl) hS0 (fun hHeld => ?_)
 obtain ⟨W1, hW⟩ : ∃ W', W0.drew = W' := ⟨_, rfl⟩
 rw [hW] at HEd hHeld ⊢
 clear hW hS0 HE HK
 refine tK 5 (i := 0) (v := .pointer (some ⟨G, 0, none⟩)) rfl rfl (by kernel_rfl) ?_ hHeld ?_
 ·intro w hSw; clear hSw; go_simp; try with_reducible rfl
 simp only [uZ, uS]
 refine tK 6 (i := 1) (v := .int .i64 lo) rfl rfl (by kernel_rfl) ?_ hHeld ?_
 ·intro w hSw; have hz := (hSw _ (.head _)); have c0 := hz.cell 0; simp at c0; clear hz hSw; go_simp; try with_reducible rfl
 simp only [uZ, uS]
 refine tK 7 (i := 2) (v := .int .i64 x) rfl rfl (by kernel_rfl) ?_ hHeld ?_
 ·intro w hSw; clear hSw; go_simp; try with_reducible rfl
 simp only [uZ, uS]
 refine tK 8 (i := 3) (v := .pointer (some ⟨G, 1, none⟩)) rfl rfl (by kernel_rfl) ?_ hHeld ?_
 ·intro w hSw; clear hSw; go_simp; try with_reducible rfl
 simp only [uZ, uS]
 refine tK 9 (i := 4) (v := .int .i64 hi) rfl rfl (by kernel_rfl) ?_ hHeld ?_
 ·intro w hSw; have hz := (hSw _ (.head _)); have c1 := hz.cell 1; simp at c1; clear hz hSw; go_simp; try with_reducible rfl
 simp only [uZ, uS]
 refine tK 10 (i := 5) (v := .pointer (some ⟨G, 0, none⟩)) rfl rfl (by kernel_rfl) ?_ hHeld ?_
 ·intro w hSw; clear hSw; go_simp; try with_reducible rfl
 simp only [uZ, uS]
 refine tK 11 (i := 6) (v := .int .i64 lo) rfl rfl (by kernel_rfl) ?_ hHeld ?_
 ·intro w hSw; have hz := (hSw _ (.head _)); have c0 := hz.cell 0; simp at c0; clear hz hSw; go_simp; try with_reducible rfl
 simp only [uZ, uS]
 refine tK 12 (i := 7) (v := .int .i64 g) rfl rfl (by kernel_rfl) ?_ hHeld ?_
 ·intro w hSw; clear hSw; go_simp; first | done | exact w1
 simp only [uZ, uS]
 refine tK 13 (i := 8) (v := .int .i64 k) rfl rfl (by kernel_rfl) ?_ hHeld ?_
 ·intro w hSw; clear hSw; go_simp; first | done | exact w2
 simp only [uZ, uS]
 refine wpAnyH_ready (rs := [9]) (by kernel_rfl) (by simp) ?_
 refine AllReadyH.cons rfl (fun K hK => ?_) AllReadyH.nil
 go_simp
 (with_reducible refine (CM0.out _).mono ?_)
 rintro e z1 ⟨rfl, hq⟩
 have HE_1 := Lib.hid (below_then HEd.out hq)
 have hS := hHeld.on hq
 clear hq
 refine hK.out _ _ (hS) (fun hHeld2 => ?_)
 try simp only [Act.put, uA, uZ, uS]
 clear hK K hHeld
 have hHeld := hHeld2
 clear hHeld2
 clear hS HEd
 refine tK 15 (i := 10) (v := .int .i64 (lo + a)) rfl rfl (by kernel_rfl) ?_ hHeld ?_
 ·intro w hSw; clear hSw; go_simp; first | done | exact w3
 simp only [uZ, uS]
 refine tK 4 (i := 11) (v := .int .i64 (lo + a)) rfl rfl (by kernel_rfl) ?_ hHeld ?_
 ·intro w hSw; clear hSw; go_simp; try with_reducible rfl
 simp only [uZ, uS]
 refine wpAnyH_done (by kernel_rfl) ?_ _
 clear hHeld
 go_wp2
 go_ret
 exact ⟨rfl, HE_1.out⟩

set_option maxRecDepth 100000 in
set_option maxHeartbeats 4000000 in
theorem mdense_to (lo hi x : Int) (w : World) (h : lo ≤ hi) (h1 : -1000000000000 ≤ lo) (h2 : hi ≤ 1000000000000) :
  Calls Tryz.prog 19 #[rv lo hi, .int .i64 x] w fun e w' => e = .returned (.int .i64 (lo + x % (hi - lo + 1))) ∧ Below w.heap.size w w' := by
 have w1 : IntKind.i64.wrap (hi - lo) = hi - lo := IntWalk.i64_in _ ⟨by omega, by omega⟩
 obtain ⟨g, hg⟩ : ∃ g, hi - lo = g := ⟨_, rfl⟩
 replace w1 := w1.trans hg
 rw [hg]
 have w2 : IntKind.i64.wrap (g + 1) = g + 1 := IntWalk.i64_in _ ⟨by omega, by omega⟩
 obtain ⟨k, hk⟩ : ∃ k, g + 1 = k := ⟨_, rfl⟩
 replace w2 := w2.trans hk
 rw [hk]
 obtain ⟨b0, b1⟩ := emod_in x (show (0 : Int) < k by omega)
 obtain ⟨a, ha⟩ : ∃ z, x % k = z := ⟨_, rfl⟩
 rw [ha] at b0 b1 ⊢
 have w3 : IntKind.i64.wrap (lo + a) = lo + a := IntWalk.i64_in _ ⟨by omega, by omega⟩
 have CM0 : Hid (∀ W, Calls Tryz.prog 23 #[.int .i64 x, .int .i64 k] W fun e w' => e = .returned (.int .i64 a) ∧ Below W.heap.size W w') := Lib.hid fun W => int_to (smod_to x k W (by omega) (by omega)) ha
 clear ha b0 b1 h h1 h2 hk hg
 have HE := Lib.hid (show Below w.heap.size w (w.alloc (.cells #[.int .i64 lo, .int .i64 hi] 30)) from below_alloc1 w _)
 have HK := Lib.hid (boxes1' w 30 #[.int .i64 lo, .int .i64 hi])
 go_enter Tryz.func19, Tryz.ntmps19
 go_upto_region 1 with fail
 obtain ⟨W0, hW0⟩ : ∃ W0 : World, (w.alloc (.cells #[.int .i64 lo, .int .i64 hi] 30)) = W0 := ⟨_, rfl⟩
 rw [hW0] at HE HK ⊢
 clear hW0
 obtain ⟨G, hG⟩ : ∃ G, w.heap.size = G := ⟨_, rfl⟩
 rw [hG] at HK ⊢
 have HG := Lib.hid hG; clear hG
 have hS0 : Boxes W0.drew [(G, 30, #[.int .i64 lo, .int .i64 hi])] := HK.out
 have HEd := Lib.hid HE.out.drew
 refine wp_region_held_drew (S := fun w' => Boxes w' [(G, 30, #[.int .i64 lo, .int .i64 hi])]) (by kernel_rfl) hS0 (fun hHeld => ?_)
 obtain ⟨W1, hW⟩ : ∃ W', W0.drew = W' := ⟨_, rfl⟩
 rw [hW] at HEd hHeld ⊢
 clear hW hS0 HE HK
 refine tK 5 (i := 0) (v := .pointer (some ⟨G, 0, none⟩)) rfl rfl (by kernel_rfl) ?_ hHeld ?_
 ·intro w hSw; clear hSw; go_simp; try with_reducible rfl
 simp only [uZ, uS]
 refine tK 6 (i := 1) (v := .int .i64 lo) rfl rfl (by kernel_rfl) ?_ hHeld ?_
 ·intro w hSw; have hz := (hSw _ (.head _)); have c0 := hz.cell 0; simp at c0; clear hz hSw; go_simp; try with_reducible rfl
 simp only [uZ, uS]
 refine tK 7 (i := 2) (v := .int .i64 x) rfl rfl (by kernel_rfl) ?_ hHeld ?_
 ·intro w hSw; clear hSw; go_simp; try with_reducible rfl
 simp only [uZ, uS]
 refine tK 8 (i := 3) (v := .pointer (some ⟨G, 1, none⟩)) rfl rfl (by kernel_rfl) ?_ hHeld ?_
 ·intro w hSw; clear hSw; go_simp; try with_reducible rfl
 simp only [uZ, uS]
 refine tK 9 (i := 4) (v := .int .i64 hi) rfl rfl (by kernel_rfl) ?_ hHeld ?_
 ·intro w hSw; have hz := (hSw _ (.head _)); have c1 := hz.cell 1; simp at c1; clear hz hSw; go_simp; try with_reducible rfl
 simp only [uZ, uS]
 refine tK 10 (i := 5) (v := .pointer (some ⟨G, 0, none⟩)) rfl rfl (by kernel_rfl) ?_ hHeld ?_
 ·intro w hSw; clear hSw; go_simp; try with_reducible rfl
 simp only [uZ, uS]
 refine tK 11 (i := 6) (v := .int .i64 lo) rfl rfl (by kernel_rfl) ?_ hHeld ?_
 ·intro w hSw; have hz := (hSw _ (.head _)); have c0 := hz.cell 0; simp at c0; clear hz hSw; go_simp; try with_reducible rfl
 simp only [uZ, uS]
 refine tK 12 (i := 7) (v := .int .i64 g) rfl rfl (by kernel_rfl) ?_ hHeld ?_
 ·intro w hSw; clear hSw; go_simp; first | done | exact w1
 simp only [uZ, uS]
 refine tK 13 (i := 8) (v := .int .i64 k) rfl rfl (by kernel_rfl) ?_ hHeld ?_
 ·intro w hSw; clear hSw; go_simp; first | done | exact w2
 simp only [uZ, uS]
 refine wpAnyH_ready (rs := [9]) (by kernel_rfl) (by simp) ?_
 refine AllReadyH.cons rfl (fun K hK => ?_) AllReadyH.nil
 go_simp
 (with_reducible refine (CM0.out _).mono ?_)
 rintro e z1 ⟨rfl, hq⟩
 have HE_1 := Lib.hid (below_then HEd.out hq)
 have hS := hHeld.on hq
 clear hq
 refine hK.out _ _ (hS) (fun hHeld2 => ?_)
 try simp only [Act.put, uA, uZ, uS]
 clear hK K hHeld
 have hHeld := hHeld2
 clear hHeld2
 clear hS HEd
 refine tK 15 (i := 10) (v := .int .i64 (lo + a)) rfl rfl (by kernel_rfl) ?_ hHeld ?_
 ·intro w hSw; clear hSw; go_simp; first | done | exact w3
 simp only [uZ, uS]
 refine tK 4 (i := 11) (v := .int .i64 (lo + a)) rfl rfl (by kernel_rfl) ?_ hHeld ?_
 ·intro w hSw; clear hSw; go_simp; try with_reducible rfl
 simp only [uZ, uS]
 refine wpAnyH_done (by kernel_rfl) ?_ _
 clear hHeld
 go_wp2
 go_ret
 exact ⟨rfl, HE_1.out⟩

def spanS (a b x y : Int) : Int × Int := (a + x % (b - a + 1), a + x % (b - a + 1) + y % (min (b - (a + x % (b - a + 1))) 25 + 1))

set_option maxRecDepth 100000 in
set_option maxHeartbeats 4000000 in
theorem sspan_to (A : Option Addr) (n c : Nat) (ps : List P3) (x y : Int) (w : World) (hp : TabIn w A n ps) (h : tabOk ps = true) (hle : firstX ps ≤ lastX ps) (hlo : -1000000000 ≤ firstX ps) (hhi : lastX ps ≤ 1000000000) :
  Calls Tryz.prog 73 #[tv A n c, .int .i64 x, .int .i64 y] w fun e w' => e = .returned (rv (spanS (firstX ps) (lastX ps) x y).1 (spanS (firstX ps) (lastX ps) x y).2) ∧ Below w.heap.size w w' := by
 have FP : Hid (∀ W, Below w.heap.size w W → Calls Tryz.prog 15 #[tv A n c] W fun e w' => e = .returned (.int .i64 (firstX ps)) ∧ Below W.heap.size W w') := Lib.hid fun W hW => sFirst_tab A n c ps W (hp.below hW) h
 have LP : Hid (∀ W, Below w.heap.size w W → Calls Tryz.prog 16 #[tv A n c] W fun e w' => e = .returned (.int .i64 (lastX ps)) ∧ Below W.heap.size W w') := Lib.hid fun W hW => sLast_tab A n c ps W (hp.below hW) h
 clear hp h
 unfold spanS
 dsimp only
 generalize firstX ps = p at *
 generalize lastX ps = q at *
 have w1 : IntKind.i64.wrap (q - p) = q - p := IntWalk.i64_in _ ⟨by omega, by omega⟩
 obtain ⟨g, hg⟩ : ∃ g, q - p = g := ⟨_, rfl⟩
 replace w1 := w1.trans hg
 rw [hg]
 have w2 : IntKind.i64.wrap (g + 1) = g + 1 := IntWalk.i64_in _ ⟨by omega, by omega⟩
 obtain ⟨k, hk⟩ : ∃ k, g + 1 = k := ⟨_, rfl⟩
 replace w2 := w2.trans hk
 rw [hk]
 obtain ⟨b0, b1⟩ := emod_in x (show (0 : Int) < k by omega)
 obtain ⟨a, ha⟩ : ∃ z, x % k = z := ⟨_, rfl⟩
 rw [ha] at b0 b1 ⊢
 have w3 : IntKind.i64.wrap (p + a) = p + a := IntWalk.i64_in _ ⟨by omega, by omega⟩
 obtain ⟨t, ht⟩ : ∃ t, p + a = t := ⟨_, rfl⟩
 replace w3 := w3.trans ht
 rw [ht]
 have w4 : IntKind.i64.wrap (q - t) = q - t := IntWalk.i64_in _ ⟨by omega, by omega⟩
 obtain ⟨r, hr⟩ : ∃ r, q - t = r := ⟨_, rfl⟩
 replace w4 := w4.trans hr
 rw [hr]
 obtain ⟨u, hu⟩ : ∃ u, min r 25 = u := ⟨_, rfl⟩
 rw [hu]
 have w5 : IntKind.i64.wrap (u + 1) = u + 1 := IntWalk.i64_in _ ⟨by omega, by omega⟩
 obtain ⟨v, hv⟩ : ∃ v, u + 1 = v := ⟨_, rfl⟩
 replace w5 := w5.trans hv
 rw [hv]
 obtain ⟨b2, b3⟩ := emod_in y (show (0 : Int) < v by omega)
 obtain ⟨b, hb⟩ : ∃ z, y % v = z := ⟨_, rfl⟩
 rw [hb] at b2 b3 ⊢
 have w6 : IntKind.i64.wrap (t + b) = t + b := IntWalk.i64_in _ ⟨by omega, by omega⟩
 have CM0 : Hid (∀ W, Calls Tryz.prog 23 #[.int .i64 x, .int .i64 k] W fun e w' => e = .returned (.int .i64 a) ∧ Below W.heap.size W w') := Lib.hid fun W => int_to (smod_to x k W (by omega) (by omega)) ha
 have CM1 : Hid (∀ W, Calls Tryz.prog 23 #[.int .i64 y, .int .i64 v] W fun e w' => e = .returned (.int .i64 b) ∧ Below W.heap.size W w') := Lib.hid fun W => int_to (smod_to y v W (by omega) (by omega)) hb
 have HU := Lib.hid hu
 clear ha hb b0 b1 b2 b3 hv hr ht hk hg hle hlo hhi hu
 have HE := Lib.hid (show Below w.heap.size w ((w.alloc (.cells #[.slice A n c] 33)).alloc (.cells #[.int .i64 0, .int .i64 0] 30)) from below_a2 (Below.refl _ _))
 have HK := Lib.hid (boxes2' w 33 30 #[.slice A n c] #[.int .i64 0, .int .i64 0])
 go_enter Tryz.func73, Tryz.ntmps73
 go_upto_region 1 with fail
 obtain ⟨W0, hW0⟩ : ∃ W0 : World, ((w.alloc (.cells #[.slice A n c] 33)).alloc (.cells #[.int .i64 0, .int .i64 0] 30)) = W0 := ⟨_, rfl⟩
 rw [hW0] at HE HK ⊢
 clear hW0
 obtain ⟨G, hG⟩ : ∃ G, w.heap.size = G := ⟨_, rfl⟩
 rw [hG] at HK ⊢
 have HG := Lib.hid hG; clear hG
 have hS0 : Boxes W0.drew [(G + 1, 30, #[.int .i64 0, .int .i64 0]), (G, 33, #[.slice A n c])] := HK.out
 have HEd := Lib.hid HE.out.drew
 have HKd := Lib.hid hS0
 refine wp_region_held_drew (S := fun w' => Boxes w' [(G + 1, 30, #[.int .i64 0, .int .i64 0]), (G, 33, #[.slice A n c])]) (by kernel_rfl) hS0 (fun hHeld => ?_)
 obtain ⟨W1, hW⟩ : ∃ W', W0.drew = W' := ⟨_, rfl⟩
 rw [hW] at HEd HKd hHeld ⊢
 clear hW hS0 HE HK
 refine tK 9 (i := 0) (v := tv A n c) rfl rfl (by kernel_rfl) ?_ hHeld ?_
 ·intro w hSw; have hz := (hSw _ (.tail _ (.head _))); have c0 := hz.cell 0; simp at c0; clear hz hSw; go_simp; try with_reducible rfl
 simp only [uZ, uS]
 refine tK 11 (i := 2) (v := tv A n c) rfl rfl (by kernel_rfl) ?_ hHeld ?_
 ·intro w hSw; have hz := (hSw _ (.tail _ (.head _))); have c0 := hz.cell 0; simp at c0; clear hz hSw; go_simp; try with_reducible rfl
 simp only [uZ, uS]
 refine wpAnyH_ready (rs := [1]) (by kernel_rfl) (by simp) ?_
 refine AllReadyH.cons rfl (fun K hK => ?_) AllReadyH.nil
 go_simp
 (with_reducible refine (LP.out _ HEd.out).mono ?_)
 rintro e z1 ⟨rfl, hq⟩
 have HE_1 := Lib.hid (below_then HEd.out hq); have HK_1 := Lib.hid (HKd.out.on hq)
 have hS := hHeld.on hq
 clear hq
 refine hK.out _ _ (hS) (fun hHeld2 => ?_)
 try simp only [Act.put, uA, uZ, uS]
 clear hK K hHeld
 have hHeld := hHeld2
 clear hHeld2
 clear hS HEd HKd
 refine wpAnyH_ready (rs := [3]) (by kernel_rfl) (by simp) ?_
 refine AllReadyH.cons rfl (fun K hK => ?_) AllReadyH.nil
 go_simp
 (with_reducible refine (FP.out _ HE_1.out).mono ?_)
 rintro e z2 ⟨rfl, hq⟩
 have HE_2 := Lib.hid (below_then HE_1.out hq); have HK_2 := Lib.hid (HK_1.out.on hq)
 have hS := hHeld.on hq
 clear hq
 refine hK.out _ _ (hS) (fun hHeld2 => ?_)
 try simp only [Act.put, uA, uZ, uS]
 clear hK K hHeld
 have hHeld := hHeld2
 clear hHeld2
 clear hS HE_1 HK_1
 refine tK 13 (i := 4) (v := .int .i64 g) rfl rfl (by kernel_rfl) ?_ hHeld ?_
 ·intro w hSw; clear hSw; go_simp; first | done | exact w1
 simp only [uZ, uS]
 refine tK 14 (i := 5) (v := .int .i64 k) rfl rfl (by kernel_rfl) ?_ hHeld ?_
 ·intro w hSw; clear hSw; go_simp; first | done | exact w2
 simp only [uZ, uS]
 refine tK 7 (i := 6) (v := .int .i64 k) rfl rfl (by kernel_rfl) ?_ hHeld ?_
 ·intro w hSw; clear hSw; go_simp; try with_reducible rfl
 simp only [uZ, uS]
 refine wpAnyH_done (by kernel_rfl) ?_ _
 clear hHeld
 have t_ := HK_2.out _ (.tail _ (.head _))
 have t_0 := t_.cell 0
 simp at t_0
 clear t_
 go_wp2_with fail
 refine (FP.out _ HE_2.out).mono ?_
 rintro e y1 ⟨rfl, hq⟩
 have HE1 := Lib.hid (below_then HE_2.out hq); have HK1 := Lib.hid (HK_2.out.on hq)
 clear hq HE_2 HK_2 t_0 FP
 have t_ := HK1.out _ (.tail _ (.head _))
 have t_0 := t_.cell 0
 simp at t_0
 clear t_
 go_wp2_with fail
 refine (CM0.out _).mono ?_
 rintro e y2 ⟨rfl, hq⟩
 have HE2 := Lib.hid (below_then HE1.out hq); have HK2 := Lib.hid (HK1.out.on hq)
 clear hq HE1 HK1 t_0 CM0
 have t_ := HK2.out _ (.tail _ (.head _))
 have t_0 := t_.cell 0
 simp at t_0
 clear t_
 go_wp2_with fail
 refine (LP.out _ HE2.out).mono ?_
 rintro e y3 ⟨rfl, hq⟩
 have HE3 := Lib.hid (below_then HE2.out hq); have HK3 := Lib.hid (HK2.out.on hq)
 clear hq HE2 HK2 t_0 LP
 have hu := HU.out
 have t_ := HK3.out _ (.tail _ (.head _))
 have t_0 := t_.cell 0
 simp at t_0
 clear t_
 go_wp2_with fail
 refine (CM1.out _).mono ?_
 rintro e y4 ⟨rfl, hq⟩
 have HE4 := Lib.hid (below_then HE3.out hq); have HK4 := Lib.hid (HK3.out.on hq)
 clear hq HE3 HK3 t_0 CM1
 have t_ := HK4.out _ (.tail _ (.head _))
 have t_0 := t_.cell 0
 simp at t_0
 clear t_
 have z_ := HK4.out _ (.head _)
 have z_0 := z_.cell 0
 have z_f0 := z_.frozen 0
 have z_1 := z_.cell 1
 have z_f1 := z_.frozen 1
 have z_l := z_.lt
 simp at z_0 z_f0 z_1 z_f1
 clear z_
 go_wp2
 refine bodyPost_ret (v := rv t (t + b)) (by simp [results, Tryz.results73, go_sem, z_0, z_1]) rfl ⟨rfl, ?_⟩
 have hg := HG.out
 repeat (first | exact HE4.out | refine Below.setCell ?_ (by simp <;> omega) _)
end

end Go.Proofs.YtemlaaipnhmcoaaGreat
