/- The contracts of Volume, Mass, Moment, Heel and Height (the specification of layer 2). Their condition: the hold's tables lie in memory. -/
import Derived.Test.YtekkiedlajhaiaaGreatQ26
import Derived.Test.YtekkiedlajhaiaaGreatQ22
import Derived.Test.YtekkiedlajhaiaaGreatQ17
import Derived.Test.YtekkiedlajhaiaaGreatQ09
set_option linter.unusedVariables false
set_option linter.unusedSimpArgs false
set_option linter.constructorNameAsVariable false
namespace Go.Proofs.YtekkiedlajhaiaaGreat

section
open Go.RowKit

theorem dense_heavy (a b c d : Int) (h1 : 0 ≤ a) (h2 : a ≤ b) (h3 : b ≤ 1000000000) (h4 : 0 ≤ c) (h5 : c ≤ d) (h6 : d ≤ 2000) :
    (denseS a b c d).1 = (heavyS a b c d).1 ∧ (denseS a b c d).2.1 = (heavyS a b c d).2 := by
  have e1 : a * c ≤ a * d := Int.mul_le_mul_of_nonneg_left h5 h1
  have e2 : b * c ≤ b * d := Int.mul_le_mul_of_nonneg_left h5 (by omega)
  have e3 : a * c ≤ b * c := Int.mul_le_mul_of_nonneg_right h2 h4
  have e4 : a * d ≤ b * d := Int.mul_le_mul_of_nonneg_right h2 (by omega)
  have e5 : 0 ≤ a * c := Int.mul_nonneg h1 h4
  have e6 : b * d ≤ 1000000000 * 2000 := Int.mul_le_mul h3 h6 (by omega) (by omega)
  have v1 : vR a b = true := (vR_iff a b).2 (by omega)
  have v2 : vR c d = true := (vR_iff c d).2 (by omega)
  have m1 : min (min (min (a * c) (a * d)) (b * c)) (b * d) = a * c := by omega
  have m2 : max (max (max (a * c) (a * d)) (b * c)) (b * d) = b * d := by omega
  have v3 : vR (a * c) (b * d) = true := (vR_iff _ _).2 (by omega)
  have em : mulS a b c d = (a * c, b * d, 0) := by
    unfold mulS twoS
    rw [m1, m2]
    unfold bigS
    simp [v1, v2, v3]
  have v4 : vR (a * c * 1 / 1000) (-(-(b * d) * 1 / 1000)) = true := (vR_iff _ _).2 (by omega)
  have es : denseS a b c d = (a * c * 1 / 1000, -(-(b * d) * 1 / 1000), 0) := by
    unfold denseS
    rw [em]
    unfold scaleS
    dsimp only
    rw [if_pos v3, if_pos (by omega), if_neg (by omega)]
    unfold bigS
    rw [if_pos v4]
  rw [es]
  unfold heavyS
  dsimp only
  constructor <;> omega
end

section
open Go.RowKit

theorem foldG_all {lo hi : Int} : ∀ (l : List (Int × Int)) (s : Int × Int × Bool), s.2.2 = true → lo ≤ s.1 → s.1 ≤ s.2.1 → s.2.1 ≤ hi → (∀ r ∈ l, lo ≤ r.1 ∧ r.1 ≤ r.2 ∧ r.2 ≤ hi) →
    lo ≤ (l.foldl stepG s).1 ∧ (l.foldl stepG s).1 ≤ (l.foldl stepG s).2.1 ∧ (l.foldl stepG s).2.1 ≤ hi
  | [], s, _, h1, h2, h3, _ => ⟨h1, h2, h3⟩
  | z :: l, s, h, h1, h2, h3, hl => by
    rw [List.foldl_cons]
    have e : stepG s z = (min s.1 z.1, max s.2.1 z.2, true) := by unfold stepG; rw [if_pos h]
    rw [e]
    have hz := hl z (by simp)
    exact foldG_all l _ rfl (by dsimp only; omega) (by dsimp only; omega) (by dsimp only; omega) (fun r hr => hl r (by simp [hr]))
theorem foldG_in {lo hi : Int} {l : List (Int × Int)} (hne : l ≠ []) (hl : ∀ r ∈ l, lo ≤ r.1 ∧ r.1 ≤ r.2 ∧ r.2 ≤ hi) : lo ≤ (foldG l).1 ∧ (foldG l).1 ≤ (foldG l).2.1 ∧ (foldG l).2.1 ≤ hi := by
  cases l with
  | nil => exact absurd rfl hne
  | cons z l =>
    unfold foldG
    rw [List.foldl_cons]
    have e : stepG (0, 0, false) z = (z.1, z.2, true) := rfl
    rw [e]
    have hz := hl z (by simp)
    exact foldG_all l _ rfl hz.1 hz.2.1 hz.2.2 (fun r hr => hl r (by simp [hr]))
theorem atS_nonneg {ps : List P3} {x : Int} (hm : measuresS ps = true) (h1 : firstX ps ≤ x) (h2 : x ≤ lastX ps) : 0 ≤ (atS ps x).1 := by
  have ht := measures_ok hm
  have hp : ∀ p ∈ ps, 0 ≤ p.2.1 := by
    unfold measuresS at hm
    simp only [Bool.and_eq_true, List.all_eq_true, decide_eq_true_eq] at hm
    exact hm.2
  obtain ⟨i, pq, hi, b1, b2, _⟩ := piece_at ht h1 h2
  obtain ⟨m1, m2, m3⟩ := piece_mem ht hi
  have e := atS_any ht hi b1 b2
  have e1 := pAt_start pq.1 pq.2
  have e2 := atS_any ht hi m3 (Int.le_refl _)
  rw [atS_point ht m2] at e2
  have q1 := hp _ m1
  have q2 := hp _ m2
  rw [e]
  rcases pAt_low_way pq.1 pq.2 with w | w
  · have := w _ _ b1; rw [e1] at this; dsimp only at this; omega
  · have := w _ _ b2; rw [← e2] at this; dsimp only at this; omega
theorem over_in {ps : List P3} {a b : Int} (hm : measuresS ps = true) (h : inB a b (firstX ps) (lastX ps) = true) : 0 ≤ (overS ps a b).1 ∧ (overS ps a b).1 ≤ (overS ps a b).2.1 ∧ (overS ps a b).2.1 ≤ 1000000000 := by
  have ht := measures_ok hm
  simp only [inB, decide_eq_true_eq] at h
  have hall : ∀ r ∈ (cornersS ps a b).map (atS ps), (0 : Int) ≤ r.1 ∧ r.1 ≤ r.2 ∧ r.2 ≤ 1000000000 := by
    intro r hr
    obtain ⟨c, hc, rfl⟩ := List.mem_map.1 hr
    have hcb : a ≤ c ∧ c ≤ b := by
      rcases corners_mem hc with q | q <;> omega
    have q1 := atS_in ht (show firstX ps ≤ c by omega) (show c ≤ lastX ps by omega)
    have q2 := atS_nonneg hm (show firstX ps ≤ c by omega) (show c ≤ lastX ps by omega)
    simp only [inB, decide_eq_true_eq] at q1
    omega
  have hg := foldG_in (by simpa using corners_ne ps a b) hall
  unfold overS
  split
  · exact hg
  · dsimp only; omega
theorem hold_parts {h : HoldD} (e : holdS h = true) : (amountS h.t0 h.t1 = true ∧ amountS h.u0 h.u1 = true ∧ amountS h.v0 h.v1 = true ∧ amountS h.h0 h.h1 = true) ∧ (measuresS h.vol = true ∧ measuresS h.mom = true ∧ measuresS h.hei = true) ∧ (alongS h.vol h.mom = true ∧ alongS h.vol h.hei = true) ∧ (fallsS h.vol = true ∧ fallsS h.hei = true) := by
  unfold holdS amtRest ctRest at e
  simp only [Bool.and_eq_true] at e
  exact ⟨⟨e.2.1, e.2.2.1, e.2.2.2.1, e.2.2.2.2.1⟩, ⟨e.2.2.2.2.2.1, e.2.2.2.2.2.2.1.1, e.2.2.2.2.2.2.2.1.1⟩, ⟨e.2.2.2.2.2.2.1.2, e.2.2.2.2.2.2.2.1.2⟩, ⟨e.2.2.2.2.2.2.2.2.1, e.2.2.2.2.2.2.2.2.2⟩⟩
theorem fill_zero {h : HoldD} {f : FillD} (e : fillErr h f = 0) : holdS h = true ∧ fillS h f = true := by
  unfold fillErr at e
  split at e
  · rename_i g
    split at e
    · rename_i k
      exact ⟨g, k⟩
    · omega
  · omega
theorem fill_dens {h : HoldD} {f : FillD} (e : fillErr h f = 0) : 0 ≤ f.d0 ∧ f.d0 ≤ f.d1 ∧ f.d1 ≤ 2000 := by
  have g := (fill_zero e).2
  unfold fillS stateS densS at g
  simp only [Bool.and_eq_true, Bool.or_eq_true, decide_eq_true_eq, beq_iff_eq, inB] at g
  omega
theorem fill_place {h : HoldD} {f : FillD} (e : fillErr h f = 0) (s : 3 ≤ f.st) : inB f.x0 f.x1 (firstX h.vol) (lastX h.vol) = true := by
  have g := (fill_zero e).2
  unfold fillS stateS at g
  simp only [Bool.and_eq_true, Bool.or_eq_true, decide_eq_true_eq] at g
  rcases g.2 with q | q | q
  · omega
  · omega
  · exact q.2.1
def Amt (p : Int × Int) : Prop := 0 ≤ p.1 ∧ p.1 ≤ p.2 ∧ p.2 ≤ 1000000000
theorem amt_of {a b : Int} (h : amountS a b = true) : Amt (a, b) := by
  unfold amountS at h
  simp only [inB, decide_eq_true_eq] at h
  exact ⟨by dsimp only; omega, by dsimp only; omega, by dsimp only; omega⟩
theorem amt_zero : Amt (0, 0) := ⟨by decide, by decide, by decide⟩
theorem along_in {ps qs : List P3} {a b : Int} (h : alongS ps qs = true) (g : inB a b (firstX ps) (lastX ps) = true) : inB a b (firstX qs) (lastX qs) = true := by
  unfold alongS at h
  simp only [Bool.and_eq_true, decide_eq_true_eq] at h
  rw [← h.1, ← h.2]; exact g
theorem vol_amt {h : HoldD} {f : FillD} (e : fillErr h f = 0) : Amt (volS h f) := by
  obtain ⟨⟨a1, a2, a3, a4⟩, ⟨m1, m2, m3⟩, _, _⟩ := hold_parts (fill_zero e).1
  unfold volS
  split
  · exact amt_zero
  · split
    · exact amt_of a3
    · exact over_in m1 (fill_place e (by omega))
theorem mom_amt {h : HoldD} {f : FillD} (e : fillErr h f = 0) : Amt (momS h f) := by
  obtain ⟨⟨a1, a2, a3, a4⟩, ⟨m1, m2, m3⟩, ⟨l1, l2⟩, _⟩ := hold_parts (fill_zero e).1
  unfold momS
  split
  · exact amt_zero
  · split
    · exact amt_of a1
    · split
      · exact amt_of a2
      · split
        · exact over_in m2 (along_in l1 (fill_place e (by omega)))
        · exact amt_zero
theorem den_heavy {h : HoldD} {f : FillD} (e : fillErr h f = 0) {v : Int × Int} (hv : Amt v) : heavyS v.1 v.2 f.d0 f.d1 = denS h f v := by
  obtain ⟨d1, d2, d3⟩ := fill_dens e
  obtain ⟨q1, q2⟩ := dense_heavy v.1 v.2 f.d0 f.d1 hv.1 hv.2.1 hv.2.2 d1 d2 d3
  unfold denS
  rw [q1, q2]
theorem heavy_small {a d : Int} (h1 : 0 ≤ a) (h2 : a ≤ 1000000000) (h3 : 0 ≤ d) (h4 : d ≤ 2000) : 0 ≤ a * d ∧ a * d ≤ 1000000000000000 := by
  refine ⟨Int.mul_nonneg h1 h3, ?_⟩
  have := Int.mul_le_mul h2 h4 h3 (by omega)
  omega
end

section
open Go.RowKit

set_option maxRecDepth 100000 in
set_option maxHeartbeats 4000000 in
theorem sHeel_any (h : HoldD) (m : HoldM) (f : FillD) (w : World) (hi : HoldIn w h m) :
  Calls Tryz.prog 35 #[holdV h m, fillV f] w fun e w' => e = .returned (rt (tellS h f (denS h f (momS h f)))) ∧ Below w.heap.size w w' := by
 obtain ⟨E, hE⟩ : ∃ E, fillErr h f = E := ⟨_, rfl⟩
 obtain ⟨R, hR⟩ : ∃ R, tellS h f (denS h f (momS h f)) = R := ⟨_, rfl⟩
 obtain ⟨⟨va, vb⟩, hV⟩ : ∃ v, momS h f = v := ⟨_, rfl⟩
 obtain ⟨⟨ka, kb⟩, hD⟩ : ∃ k, denS h f (momS h f) = k := ⟨_, rfl⟩
 have HR : Hid ((if E = 0 then (ka, kb, 0) else (0, 0, E)) = R) := Lib.hid (by rw [← hR]; unfold tellS; rw [hE, hD])
 have C3 : Hid (E = 0 → ∀ W, Calls Tryz.prog 73 #[rv va vb, rv f.d0 f.d1] W fun e w' => e = .returned (rv ka kb) ∧ Below W.heap.size W w') := Lib.hid fun e W => by
  have hA : Amt (va, vb) := by rw [← hV]; exact mom_amt (hE.trans e)
  obtain ⟨d1, d2, d3⟩ := fill_dens (hE.trans e)
  have q := den_heavy (hE.trans e) hA
  rw [hV] at hD
  rw [hD] at q
  dsimp only at q
  have := sheavy_any va vb f.d0 f.d1 W (heavy_small hA.1 (by have := hA.2.1; have := hA.2.2; dsimp only at *; omega) d1 (by omega)) (heavy_small (by have := hA.1; have := hA.2.1; dsimp only at *; omega) hA.2.2 (by omega) d3)
  rw [q] at this
  exact this
 have C1 : Hid (∀ W, Below w.heap.size w W → Calls Tryz.prog 71 #[holdV h m, fillV f] W fun e w' => e = .returned (.int .i64 E) ∧ Below W.heap.size W w') := Lib.hid fun W hW => int_to (sCheckFill_any h m f W (hi.below hW)) hE
 have C2 : Hid (E = 0 → ∀ W, Below w.heap.size w W → Calls Tryz.prog 75 #[holdV h m, fillV f] W fun e w' => e = .returned (rv va vb) ∧ Below W.heap.size W w') := Lib.hid fun e W hW => by
  have := smom_to h m f W (hi.below hW) (fill_state (hE.trans e)).1 (fill_state (hE.trans e)).2
  rw [hV] at this; exact this
 rw [hR]
 clear hR hE hV hi hD
 obtain ⟨id, al, ah, vol, mom, hei, t0, t1, u0, u1, v0, v1, h0, h1⟩ := h
 obtain ⟨A, n, c, B, mm, d, C, l, ee⟩ := m
 obtain ⟨fh, st, x0, x1, d0, d1⟩ := f
 have HE := Lib.hid (show Below w.heap.size w (((w.alloc (.cells #[.int .i64 id, .int .i64 al, .int .i64 ah, .slice A n c, .slice B mm d, .slice C l ee, .int .i64 t0, .int .i64 t1, .int .i64 u0, .int .i64 u1, .int .i64 v0, .int .i64 v1, .int .i64 h0, .int .i64 h1] 50)).alloc (.cells #[.int .i64 fh, .int .i64 st, .int .i64 x0, .int .i64 x1, .int .i64 d0, .int .i64 d1] 53)).alloc (.cells #[.int .i64 0, .int .i64 0] 30)) from below_a3 (Below.refl _ _))
 have HK := Lib.hid (boxes3' w 50 53 30 #[.int .i64 id, .int .i64 al, .int .i64 ah, .slice A n c, .slice B mm d, .slice C l ee, .int .i64 t0, .int .i64 t1, .int .i64 u0, .int .i64 u1, .int .i64 v0, .int .i64 v1, .int .i64 h0, .int .i64 h1] #[.int .i64 fh, .int .i64 st, .int .i64 x0, .int .i64 x1, .int .i64 d0, .int .i64 d1] #[.int .i64 0, .int .i64 0])
 go_enter Tryz.func35, Tryz.ntmps35
 go_wp2_with fail
 obtain ⟨W0, hW0⟩ : ∃ W0, (((w.alloc (.cells #[.int .i64 id, .int .i64 al, .int .i64 ah, .slice A n c, .slice B mm d, .slice C l ee, .int .i64 t0, .int .i64 t1, .int .i64 u0, .int .i64 u1, .int .i64 v0, .int .i64 v1, .int .i64 h0, .int .i64 h1] 50)).alloc (.cells #[.int .i64 fh, .int .i64 st, .int .i64 x0, .int .i64 x1, .int .i64 d0, .int .i64 d1] 53)).alloc (.cells #[.int .i64 0, .int .i64 0] 30)) = W0 := ⟨_, rfl⟩
 rw [hW0] at HE HK ⊢
 clear hW0
 obtain ⟨G, hG⟩ : ∃ G, w.heap.size = G := ⟨_, rfl⟩
 rw [hG] at HK ⊢
 have HG := Lib.hid hG; clear hG
 refine (C1.out _ HE.out).mono ?_
 rintro e w1 ⟨rfl, hb⟩
 have HE1 := Lib.hid (below_then HE.out hb); have HK1 := Lib.hid (HK.out.on hb)
 clear hb HE HK C1
 by_cases g : E = 0
 ·have eR := HR.out
  rw [if_pos g] at eR
  subst eR
  have D2 := Lib.hid (C2.out g)
  clear HR C2
  have D3 := Lib.hid (C3.out g)
  clear C3
  subst g
  have hc := HK1.out _ (.tail _ (.tail _ (.head _)))
  have hc0 := hc.cell 0
  have hc1 := hc.cell 1
  have hc2 := hc.cell 2
  have hc3 := hc.cell 3
  have hc4 := hc.cell 4
  have hc5 := hc.cell 5
  have hc6 := hc.cell 6
  have hc7 := hc.cell 7
  have hc8 := hc.cell 8
  have hc9 := hc.cell 9
  have hc10 := hc.cell 10
  have hc11 := hc.cell 11
  have hc12 := hc.cell 12
  have hc13 := hc.cell 13
  simp at hc0 hc1 hc2 hc3 hc4 hc5 hc6 hc7 hc8 hc9 hc10 hc11 hc12 hc13
  clear hc
  have f := HK1.out _ (.tail _ (.head _))
  have f0 := f.cell 0
  have f1 := f.cell 1
  have f2 := f.cell 2
  have f3 := f.cell 3
  have f4 := f.cell 4
  have f5 := f.cell 5
  simp at f0 f1 f2 f3 f4 f5
  clear f
  go_wp2_with fail
  refine (D2.out _ HE1.out).mono ?_
  rintro e y1 ⟨rfl, hb⟩
  have HE2 := Lib.hid (below_then (below_then HE1.out hb) (below_alloc1 y1 (.cells #[.int .i64 va, .int .i64 vb] 30))); have HK2 := Lib.hid ((HK1.out.on hb).new 30 #[.int .i64 va, .int .i64 vb])
  clear hb HE1 HK1 D2 hc0 hc1 hc2 hc3 hc4 hc5 hc6 hc7 hc8 hc9 hc10 hc11 hc12 hc13 f0 f1 f2 f3 f4 f5
  go_upto_region 5 with fail
  obtain ⟨W2, hW⟩ : ∃ W2, y1.alloc (.cells #[.int .i64 va, .int .i64 vb] 30) = W2 := ⟨_, rfl⟩
  rw [hW] at HE2 HK2 ⊢
  clear hW
  obtain ⟨N2, hN⟩ : ∃ N, y1.heap.size = N := ⟨_, rfl⟩
  rw [hN] at HK2 ⊢
  clear hN
  have a := HK2.out _ (.head _)
  have a0 := a.cell 0
  have a1 := a.cell 1
  simp at a0 a1
  clear a
  have f := HK2.out _ (.tail _ (.tail _ (.head _)))
  have f4 := f.cell 4
  have f5 := f.cell 5
  simp at f4 f5
  clear f
  go_wp2_with fail
  refine (D3.out _).mono ?_
  rintro e y2 ⟨rfl, hb⟩
  have HE3 := Lib.hid (below_then HE2.out hb); have HK3 := Lib.hid (HK2.out.on hb)
  clear hb HE2 HK2 D3 a0 a1 f4 f5
  have z := HK3.out _ (.tail _ (.head _))
  have z0 := z.cell 0
  have zf0 := z.frozen 0
  have z1 := z.cell 1
  have zf1 := z.frozen 1
  have zl := z.lt
  simp at z0 zf0 z1 zf1
  clear z
  go_wp2
  refine bodyPost_ret (v := rt (ka, kb, 0)) (by simp [results, Tryz.results35, go_sem, z0, z1]) rfl ⟨rfl, ?_⟩
  have hg := HG.out
  repeat (first | exact HE3.out | refine Below.setCell ?_ (by simp <;> omega) _)
 ·have eR := HR.out
  rw [if_neg g] at eR
  subst eR
  clear HR C2 C3
  have z := HK1.out _ (.head _)
  have z0 := z.cell 0
  have zf0 := z.frozen 0
  have z1 := z.cell 1
  have zf1 := z.frozen 1
  have zl := z.lt
  simp at z0 zf0 z1 zf1
  clear z
  go_wp2
  refine bodyPost_ret (v := rt (0, 0, E)) (by simp [results, Tryz.results35, go_sem, z0, z1]) rfl ⟨rfl, ?_⟩
  have hg := HG.out
  repeat (first | exact HE1.out | refine Below.setCell ?_ (by simp <;> omega) _)
end

end Go.Proofs.YtekkiedlajhaiaaGreat
