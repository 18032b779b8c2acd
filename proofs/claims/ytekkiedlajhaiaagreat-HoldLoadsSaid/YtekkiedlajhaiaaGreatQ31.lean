/- checkLoad (hold). Its conditions: the four lists and what they point to lie in memory. -/
import Derived.Test.YtekkiedlajhaiaaGreatQ30
import Derived.Test.YtekkiedlajhaiaaGreatQ21
import Derived.Test.YtekkiedlajhaiaaGreatQ98
set_option linter.unusedVariables false
set_option linter.unusedSimpArgs false
set_option linter.constructorNameAsVariable false
namespace Go.Proofs.YtekkiedlajhaiaaGreat

section
open Go.RowKit

def errHold (L : List (HoldD × HoldM)) (fs : List FillD) (k : Nat) : Int := match L[k]?, fs[k]? with
  | some r, some f => if fillErr r.1 f = 20 ∨ hasHold (L.take k) r.1.id = true then 20 else fillErr r.1 f
  | _, _ => 0
def eachHold (L : List (HoldD × HoldM)) (fs : List FillD) : Int := firstErr (errHold L fs) 0 L.length

set_option maxRecDepth 100000 in
set_option maxHeartbeats 4000000 in
theorem checkEachHold_any (A B : Option Addr) (n c m d : Nat) (L : List (HoldD × HoldM)) (fs : List FillD) (w : World) (h : HoldsIn w A n L) (hf : FillsIn w B m fs) (hmn : m = n) (h9 : n ≤ 9) (hcap : n ≤ c) (hi : ∀ r ∈ L, HoldIn w r.1 r.2) :
  Calls Tryz.prog 65 #[.slice A n c, .slice B m d, fnV 66, fnV 67, .int .i64 20] w fun e w' => e = .returned (.int .i64 (eachHold L fs)) ∧ Below w.heap.size w w' := by
 obtain ⟨hn, hm1, hA⟩ := h
 obtain ⟨hm, hm2, hB0⟩ := hf
 subst hmn
 have HB1 : L = [] ∨ ∃ b o p q, A = some ⟨b, o, none⟩ ∧ b < w.heap.size ∧ HoldsMem w b o L ∧ B = some ⟨p, q, none⟩ ∧ p < w.heap.size ∧ FillsAt w p q fs := by
  rcases hA with e | ⟨b, o, a1, a2, a3⟩
  ·exact .inl e
  ·rcases hB0 with e | ⟨p, q, b1, b2, b3⟩
   ·left; subst e; exact List.length_eq_zero_iff.1 (by rw [← hn, hm]; rfl)
   ·exact .inr ⟨b, o, p, q, a1, a2, a3, b1, b2, b3⟩
 obtain ⟨R, hR⟩ : ∃ R, eachHold L fs = R := ⟨_, rfl⟩
 rw [hR]
 unfold eachHold at hR
 have HN := Lib.hid hn; have HM := Lib.hid hm; have HI := Lib.hid hi; have HD := Lib.hid HB1
 have HR := Lib.hid hR
 clear hA hB0 hm1 hm2 hn hm hi HB1 hR
 have HE := Lib.hid (show Below w.heap.size w (w.alloc (.cells #[fnV 67] 115)) from below_alloc1 w _)
 have HK := Lib.hid (boxes1' w 115 #[fnV 67])
 go_enter Tryz.func65, Tryz.ntmps65
 go_upto_region 1 with fail
 obtain ⟨W0, hW0⟩ : ∃ W0 : World, (w.alloc (.cells #[fnV 67] 115)) = W0 := ⟨_, rfl⟩
 rw [hW0] at HE HK ⊢
 clear hW0
 obtain ⟨G, hG⟩ : ∃ G, w.heap.size = G := ⟨_, rfl⟩
 rw [hG] at HK ⊢
 have HG := Lib.hid hG; clear hG
 go_wp2_with fail
 go_loopw [16] (fun i wr => ∃ k : Nat, k ≤ m ∧ i = .int .i64 k ∧ Below w.heap.size w wr ∧ Boxes wr [(G, 115, #[fnV 67])] ∧ firstErr (errHold L fs) k (m - k) = R) (fun i _ => m - (intOf i).toNat)
 case atStart => exact ⟨0, by omega, rfl, HE.out, HK.out, by rw [HN.out]; exact HR.out⟩
 case round =>
  obtain ⟨k, hj, rfl, hB, hX, hfe⟩ := hrel
  have HB := Lib.hid hB
  have HX := Lib.hid hX
  clear hB hX
  by_cases hlt : k < m
  rotate_left
  ·obtain rfl : k = m := by omega
   obtain rfl : R = 0 := by rw [← hfe, Nat.sub_self]; rfl
   clear hfe hj hlt HR HE HK HX
   go_wp2
   go_ret
   exact ⟨rfl, HB.out⟩
  have k1 : (k : Int) < (m : Int) := by omega
  have k2 : (k : Int) ≤ (c : Int) := by omega
  have k3 : (0 : Int) ≤ (k : Int) := by omega
  obtain ⟨b, o, p, q, rfl, lb, hA, rfl, lp, hF⟩ : ∃ b o p q, A = some ⟨b, o, none⟩ ∧ b < w.heap.size ∧ HoldsMem w b o L ∧ B = some ⟨p, q, none⟩ ∧ p < w.heap.size ∧ FillsAt w p q fs := by
   rcases HD.out with e | e
   ·exfalso; have := HN.out; rw [e] at this; simp at this; omega
   ·exact e
  obtain ⟨z, hz⟩ : ∃ z, L[k]? = some z := ⟨_, List.getElem?_eq_getElem (show k < L.length by rw [← HN.out]; omega)⟩
  obtain ⟨y, hy⟩ : ∃ y, fs[k]? = some y := ⟨_, List.getElem?_eq_getElem (show k < fs.length by rw [← HM.out]; omega)⟩
  obtain ⟨c0, c1, c2, c3, c4, c5, c6, c7, c8, c9, c10, c11, c12, c13⟩ := hA k z hz
  obtain ⟨f0, f1, f2, f3, f4, f5⟩ := hF k y hy
  have hge : errHold L fs k = if fillErr z.1 y = 20 ∨ hasHold (L.take k) z.1.id = true then 20 else fillErr z.1 y := by unfold errHold; rw [hz, hy]
  have hin := HI.out z (List.mem_of_getElem? hz)
  have hstep : (if errHold L fs k = 0 then firstErr (errHold L fs) (k + 1) (m - (k + 1)) else errHold L fs k) = R := by
   rw [← hfe, show m - k = (m - (k + 1)) + 1 by omega]; rfl
  rw [hge] at hstep
  have hchk : ∀ W, Below w.heap.size w W → Calls Tryz.prog 66 #[holdV z.1 z.2, fillV y] W fun e w' => e = .returned (.int .i64 (fillErr z.1 y)) ∧ Below W.heap.size W w' := fun W hW => checkFill_any z.1 z.2 y W (hin.below hW)
  obtain ⟨E, hE⟩ : ∃ E, fillErr z.1 y = E := ⟨_, rfl⟩
  obtain ⟨t, ht⟩ : ∃ t, hasHold (L.take k) z.1.id = t := ⟨_, rfl⟩
  rw [hE, ht] at hstep
  rw [hE] at hchk
  have CF : ∀ (W : World) (F H : Nat), Below w.heap.size w W → Blk W F 115 #[fnV 67] → Blk W H 50 (holdCells z.1 z.2) → Calls Tryz.prog 109 #[.slice (some ⟨b, o, none⟩) k c, .func (.func 110) #[] #[.pointer (some ⟨F, 0, none⟩), .pointer (some ⟨H, 0, none⟩)]] W fun e w' => e = .returned (.bool t) ∧ Below W.heap.size W w' := fun W F H hW h1 h2 => by
   rw [← ht]
   exact contHold (some ⟨b, o, none⟩) k c (L.take k) z.1.id z.1.al z.1.ah z.1.t0 z.1.t1 z.1.u0 z.1.u1 z.1.v0 z.1.v1 z.1.h0 z.1.h1 z.2.A z.2.B z.2.C z.2.n z.2.c z.2.m z.2.d z.2.l z.2.e F H W ⟨by rw [List.length_take, ← HN.out]; omega, by simp only [maxLen]; omega, .inr ⟨b, o, rfl, Nat.lt_of_lt_of_le lb hW.size, hA.take.below hW lb⟩⟩ (by omega) h1 h2
  clear hge hfe hE ht hin hz hy hA hF HD
  obtain ⟨⟨rid, ral, rah, vol, mom, hei, rt0, rt1, ru0, ru1, rv0, rv1, rh0, rh1⟩, ⟨rA, rn, rc, rB, rm, rd, rC, rl, re⟩⟩ := z
  obtain ⟨g0, g1, g2, g3, g4, g5⟩ := y
  dsimp only at c0 c1 c2 c3 c4 c5 c6 c7 c8 c9 c10 c11 c12 c13 f0 f1 f2 f3 f4 f5 hchk CF
  have HS := Lib.hid hstep; have C1 := Lib.hid hchk; have C2 := Lib.hid CF
  clear hstep hchk CF
  rw [← HB.out.cell (p := ⟨b, o + k * 14, none⟩) lb] at c0
  rw [← HB.out.cell (p := ⟨b, o + k * 14 + 1, none⟩) lb] at c1
  rw [← HB.out.cell (p := ⟨b, o + k * 14 + 2, none⟩) lb] at c2
  rw [← HB.out.cell (p := ⟨b, o + k * 14 + 3, none⟩) lb] at c3
  rw [← HB.out.cell (p := ⟨b, o + k * 14 + 4, none⟩) lb] at c4
  rw [← HB.out.cell (p := ⟨b, o + k * 14 + 5, none⟩) lb] at c5
  rw [← HB.out.cell (p := ⟨b, o + k * 14 + 6, none⟩) lb] at c6
  rw [← HB.out.cell (p := ⟨b, o + k * 14 + 7, none⟩) lb] at c7
  rw [← HB.out.cell (p := ⟨b, o + k * 14 + 8, none⟩) lb] at c8
  rw [← HB.out.cell (p := ⟨b, o + k * 14 + 9, none⟩) lb] at c9
  rw [← HB.out.cell (p := ⟨b, o + k * 14 + 10, none⟩) lb] at c10
  rw [← HB.out.cell (p := ⟨b, o + k * 14 + 11, none⟩) lb] at c11
  rw [← HB.out.cell (p := ⟨b, o + k * 14 + 12, none⟩) lb] at c12
  rw [← HB.out.cell (p := ⟨b, o + k * 14 + 13, none⟩) lb] at c13
  go_upto_region 4 with fail
  have HE1 := Lib.hid (below_then HB.out (below_alloc1 wr (.cells #[.int .i64 rid, .int .i64 ral, .int .i64 rah, .slice rA rn rc, .slice rB rm rd, .slice rC rl re, .int .i64 rt0, .int .i64 rt1, .int .i64 ru0, .int .i64 ru1, .int .i64 rv0, .int .i64 rv1, .int .i64 rh0, .int .i64 rh1] 50))); have HK1 := Lib.hid (HX.out.new 50 #[.int .i64 rid, .int .i64 ral, .int .i64 rah, .slice rA rn rc, .slice rB rm rd, .slice rC rl re, .int .i64 rt0, .int .i64 rt1, .int .i64 ru0, .int .i64 ru1, .int .i64 rv0, .int .i64 rv1, .int .i64 rh0, .int .i64 rh1])
  clear c0 c1 c2 c3 c4 c5 c6 c7 c8 c9 c10 c11 c12 c13 HB HX HE HK
  obtain ⟨W1, hW⟩ : ∃ W1 : World, wr.alloc (.cells #[.int .i64 rid, .int .i64 ral, .int .i64 rah, .slice rA rn rc, .slice rB rm rd, .slice rC rl re, .int .i64 rt0, .int .i64 rt1, .int .i64 ru0, .int .i64 ru1, .int .i64 rv0, .int .i64 rv1, .int .i64 rh0, .int .i64 rh1] 50) = W1 := ⟨_, rfl⟩
  rw [hW] at HE1 HK1 ⊢
  clear hW
  obtain ⟨N1, hN⟩ : ∃ N, wr.heap.size = N := ⟨_, rfl⟩
  rw [hN] at HK1 ⊢
  clear hN
  rw [← HE1.out.cell (p := ⟨p, q + k * 6, none⟩) lp] at f0
  rw [← HE1.out.cell (p := ⟨p, q + k * 6 + 1, none⟩) lp] at f1
  rw [← HE1.out.cell (p := ⟨p, q + k * 6 + 2, none⟩) lp] at f2
  rw [← HE1.out.cell (p := ⟨p, q + k * 6 + 3, none⟩) lp] at f3
  rw [← HE1.out.cell (p := ⟨p, q + k * 6 + 4, none⟩) lp] at f4
  rw [← HE1.out.cell (p := ⟨p, q + k * 6 + 5, none⟩) lp] at f5
  have hS0 : Boxes W1.drew [(N1, 50, #[.int .i64 rid, .int .i64 ral, .int .i64 rah, .slice rA rn rc, .slice rB rm rd, .slice rC rl re, .int .i64 rt0, .int .i64 rt1, .int .i64 ru0, .int .i64 ru1, .int .i64 rv0, .int .i64 rv1, .int .i64 rh0, .int .i64 rh1]), (G, 115, #[fnV 67])] ∧ (W1.drew.cell? ⟨p, q + k * 6, none⟩ = some (.int .i64 g0) ∧ W1.drew.cell? ⟨p, q + k * 6 + 1, none⟩ = some (.int .i64 g1) ∧ W1.drew.cell? ⟨p, q + k * 6 + 2, none⟩ = some (.int .i64 g2) ∧ W1.drew.cell? ⟨p, q + k * 6 + 3, none⟩ = some (.int .i64 g3) ∧ W1.drew.cell? ⟨p, q + k * 6 + 4, none⟩ = some (.int .i64 g4) ∧ W1.drew.cell? ⟨p, q + k * 6 + 5, none⟩ = some (.int .i64 g5)) := ⟨HK1.out, f0, f1, f2, f3, f4, f5⟩
  have HEd := Lib.hid HE1.out.drew
  refine wp_region_held_drew (S := fun w' => Boxes w' [(N1, 50, #[.int .i64 rid, .int .i64 ral, .int .i64 rah, .slice rA rn rc, .slice rB rm rd, .slice rC rl re, .int .i64 rt0, .int .i64 rt1, .int .i64 ru0, .int .i64 ru1, .int .i64 rv0, .int .i64 rv1, .int .i64 rh0, .int .i64 rh1]), (G, 115, #[fnV 67])] ∧ (w'.cell? ⟨p, q + k * 6, none⟩ = some (.int .i64 g0) ∧ w'.cell? ⟨p, q + k * 6 + 1, none⟩ = some (.int .i64 g1) ∧ w'.cell? ⟨p, q + k * 6 + 2, none⟩ = some (.int .i64 g2) ∧ w'.cell? ⟨p, q + k * 6 + 3, none⟩ = some (.int .i64 g3) ∧ w'.cell? ⟨p, q + k * 6 + 4, none⟩ = some (.int .i64 g4) ∧ w'.cell? ⟨p, q + k * 6 + 5, none⟩ = some (.int .i64 g5))) (by kernel_rfl) hS0 (fun hHeld => ?_)
  obtain ⟨W2, hW⟩ : ∃ W', W1.drew = W' := ⟨_, rfl⟩
  rw [hW] at HEd hHeld ⊢
  clear hW hS0 HE1 HK1 f0 f1 f2 f3 f4 f5
  refine tK 21 (i := 0) (v := fnV 66) rfl rfl (by kernel_rfl) ?_ hHeld ?_
  ·intro w hSw; clear hSw; go_simp; try with_reducible rfl
  simp only [uZ, uS]
  refine tK 22 (i := 1) (v := .agg #[.int .i64 rid, .int .i64 ral, .int .i64 rah, .slice rA rn rc, .slice rB rm rd, .slice rC rl re, .int .i64 rt0, .int .i64 rt1, .int .i64 ru0, .int .i64 ru1, .int .i64 rv0, .int .i64 rv1, .int .i64 rh0, .int .i64 rh1]) rfl rfl (by kernel_rfl) ?_ hHeld ?_
  ·intro w hSw; have hz := (hSw.1 _ (.head _)); have c0 := hz.cell 0; have c1 := hz.cell 1; have c2 := hz.cell 2; have c3 := hz.cell 3; have c4 := hz.cell 4; have c5 := hz.cell 5; have c6 := hz.cell 6; have c7 := hz.cell 7; have c8 := hz.cell 8; have c9 := hz.cell 9; have c10 := hz.cell 10; have c11 := hz.cell 11; have c12 := hz.cell 12; have c13 := hz.cell 13; simp at c0 c1 c2 c3 c4 c5 c6 c7 c8 c9 c10 c11 c12 c13; clear hz hSw; go_simp; try with_reducible rfl
  simp only [uZ, uS]
  refine tK 23 (i := 2) (v := .slice (some ⟨p, q, none⟩) m d) rfl rfl (by kernel_rfl) ?_ hHeld ?_
  ·intro w hSw; clear hSw; go_simp; try with_reducible rfl
  simp only [uZ, uS]
  refine tK 24 (i := 3) (v := .int .i64 k) rfl rfl (by kernel_rfl) ?_ hHeld ?_
  ·intro w hSw; clear hSw; go_simp; try with_reducible rfl
  simp only [uZ, uS]
  refine tK 25 (i := 4) (v := .pointer (some ⟨p, q + k * 6, none⟩)) rfl rfl (by kernel_rfl) ?_ hHeld ?_
  ·intro w hSw; clear hSw; go_simp; try with_reducible rfl
  simp only [uZ, uS]
  refine tK 26 (i := 5) (v := .agg #[.int .i64 g0, .int .i64 g1, .int .i64 g2, .int .i64 g3, .int .i64 g4, .int .i64 g5]) rfl rfl (by kernel_rfl) ?_ hHeld ?_
  ·intro w hSw; obtain ⟨_, e0, e1, e2, e3, e4, e5⟩ := hSw; go_simp; try with_reducible rfl
  simp only [uZ, uS]
  refine wpAnyH_ready (rs := [6]) (by kernel_rfl) (by simp) ?_
  refine AllReadyH.cons rfl (fun K hK => ?_) AllReadyH.nil
  go_simp
  (with_reducible refine (C1.out _ HEd.out).mono ?_)
  rintro e z1 ⟨rfl, hq⟩
  have HE_1 := Lib.hid (below_then HEd.out hq)
  have lq := Nat.lt_of_lt_of_le lp HEd.out.size
  have hS : Boxes z1 [(N1, 50, #[.int .i64 rid, .int .i64 ral, .int .i64 rah, .slice rA rn rc, .slice rB rm rd, .slice rC rl re, .int .i64 rt0, .int .i64 rt1, .int .i64 ru0, .int .i64 ru1, .int .i64 rv0, .int .i64 rv1, .int .i64 rh0, .int .i64 rh1]), (G, 115, #[fnV 67])] ∧ (z1.cell? ⟨p, q + k * 6, none⟩ = some (.int .i64 g0) ∧ z1.cell? ⟨p, q + k * 6 + 1, none⟩ = some (.int .i64 g1) ∧ z1.cell? ⟨p, q + k * 6 + 2, none⟩ = some (.int .i64 g2) ∧ z1.cell? ⟨p, q + k * 6 + 3, none⟩ = some (.int .i64 g3) ∧ z1.cell? ⟨p, q + k * 6 + 4, none⟩ = some (.int .i64 g4) ∧ z1.cell? ⟨p, q + k * 6 + 5, none⟩ = some (.int .i64 g5)) := ⟨hHeld.1.on hq, (hq.cell (p := ⟨p, q + k * 6, none⟩) lq).trans hHeld.2.1, (hq.cell (p := ⟨p, q + k * 6 + 1, none⟩) lq).trans hHeld.2.2.1, (hq.cell (p := ⟨p, q + k * 6 + 2, none⟩) lq).trans hHeld.2.2.2.1, (hq.cell (p := ⟨p, q + k * 6 + 3, none⟩) lq).trans hHeld.2.2.2.2.1, (hq.cell (p := ⟨p, q + k * 6 + 4, none⟩) lq).trans hHeld.2.2.2.2.2.1, (hq.cell (p := ⟨p, q + k * 6 + 5, none⟩) lq).trans hHeld.2.2.2.2.2.2⟩
  have HX1 := Lib.hid hS.1
  clear hq
  refine hK.out _ _ (hS) (fun hHeld2 => ?_)
  try simp only [Act.put, uA, uZ, uS]
  clear hK K hHeld
  have hHeld := hHeld2
  clear hHeld2
  clear hS HEd C1
  refine tK 13 (i := 7) (v := .int .i64 E) rfl rfl (by kernel_rfl) ?_ hHeld ?_
  ·intro w hSw; clear hSw; go_simp; try with_reducible rfl
  simp only [uZ, uS]
  refine wpAnyH_done (by kernel_rfl) ?_ _
  clear hHeld
  by_cases hb : E = 20
  ·have b1 : (E == 20) = true := by simp [hb]
   have q1 : E = 20 ∨ t = true := .inl hb
   obtain rfl : R = 20 := by rw [← HS.out, if_pos q1, if_neg (by decide)]
   clear q1
   have HBB := Lib.hid hb
   clear HS HR C2 HX1 hb
   go_wp2
   go_ret
   exact ⟨rfl, HE_1.out⟩
  have b1 : (E == 20) = false := beq_eq_false_iff_ne.2 hb
  have HBB := Lib.hid hb
  clear hb
  go_wp2_with fail
  refine (C2.out _ _ _ HE_1.out (HX1.out _ (.tail _ (.head _))) (HX1.out _ (.head _))).mono ?_
  rintro e z2 ⟨rfl, hq⟩
  have HE_2 := Lib.hid (below_then HE_1.out hq); have HX2 := Lib.hid (HX1.out.on hq)
  clear hq HE_1 HX1 C2
  cases t
  rotate_left
  ·have q1 : E = 20 ∨ true = true := .inr rfl
   obtain rfl : R = 20 := by rw [← HS.out, if_pos q1, if_neg (by decide)]
   clear q1
   clear HS HR HX2
   go_wp2
   go_ret
   exact ⟨rfl, HE_2.out⟩
  have hs := HS.out
  have q1 : ¬ (E = 20 ∨ false = true) := fun q => q.elim HBB.out (fun q => by cases q)
  rw [if_neg q1] at hs
  clear q1
  by_cases hE : E = 0
  ·rw [if_pos hE] at hs
   have HS2 := Lib.hid hs
   have b2 : (E == 0) = true := by simp [hE]
   have b3 : (E != 0) = false := by simp [hE]
   clear hs HS hE
   go_wp2
   go_roundw
   case rel => exact ⟨k + 1, by omega, by go_num, HE_2.out, fun p hp => HX2.out p (.tail _ hp), HS2.out⟩
   case measure => simp [intOf]; omega
  ·rw [if_neg hE] at hs
   subst hs
   have b2 : (E == 0) = false := beq_eq_false_iff_ne.2 hE
   have b3 : (E != 0) = true := bne_iff_ne.2 hE
   clear HS HR HX2 hE
   go_wp2
   go_ret
   exact ⟨rfl, HE_2.out⟩

def errTank (L : List (TankD × HoldM)) (fs : List LevelD) (k : Nat) : Int := match L[k]?, fs[k]? with
  | some r, some f => if levelErr r.1 f = 21 ∨ hasTank (L.take k) r.1.id = true then 21 else levelErr r.1 f
  | _, _ => 0
def eachTank (L : List (TankD × HoldM)) (fs : List LevelD) : Int := firstErr (errTank L fs) 0 L.length

set_option maxRecDepth 100000 in
set_option maxHeartbeats 4000000 in
theorem checkEachTank_any (A B : Option Addr) (n c m d : Nat) (L : List (TankD × HoldM)) (fs : List LevelD) (w : World) (h : TanksIn w A n L) (hf : LevelsIn w B m fs) (hmn : m = n) (h9 : n ≤ 9) (hcap : n ≤ c) (hi : ∀ r ∈ L, TankIn w r.1 r.2) :
  Calls Tryz.prog 68 #[.slice A n c, .slice B m d, fnV 59, fnV 69, .int .i64 21] w fun e w' => e = .returned (.int .i64 (eachTank L fs)) ∧ Below w.heap.size w w' := by
 obtain ⟨hn, hm1, hA⟩ := h
 obtain ⟨hm, hm2, hB0⟩ := hf
 subst hmn
 have HB1 : L = [] ∨ ∃ b o p q, A = some ⟨b, o, none⟩ ∧ b < w.heap.size ∧ TanksMem w b o L ∧ B = some ⟨p, q, none⟩ ∧ p < w.heap.size ∧ LevelsAt w p q fs := by
  rcases hA with e | ⟨b, o, a1, a2, a3⟩
  ·exact .inl e
  ·rcases hB0 with e | ⟨p, q, b1, b2, b3⟩
   ·left; subst e; exact List.length_eq_zero_iff.1 (by rw [← hn, hm]; rfl)
   ·exact .inr ⟨b, o, p, q, a1, a2, a3, b1, b2, b3⟩
 obtain ⟨R, hR⟩ : ∃ R, eachTank L fs = R := ⟨_, rfl⟩
 rw [hR]
 unfold eachTank at hR
 have HN := Lib.hid hn; have HM := Lib.hid hm; have HI := Lib.hid hi; have HD := Lib.hid HB1
 have HR := Lib.hid hR
 clear hA hB0 hm1 hm2 hn hm hi HB1 hR
 have HE := Lib.hid (show Below w.heap.size w (w.alloc (.cells #[fnV 69] 117)) from below_alloc1 w _)
 have HK := Lib.hid (boxes1' w 117 #[fnV 69])
 go_enter Tryz.func68, Tryz.ntmps68
 go_upto_region 1 with fail
 obtain ⟨W0, hW0⟩ : ∃ W0 : World, (w.alloc (.cells #[fnV 69] 117)) = W0 := ⟨_, rfl⟩
 rw [hW0] at HE HK ⊢
 clear hW0
 obtain ⟨G, hG⟩ : ∃ G, w.heap.size = G := ⟨_, rfl⟩
 rw [hG] at HK ⊢
 have HG := Lib.hid hG; clear hG
 go_wp2_with fail
 go_loopw [16] (fun i wr => ∃ k : Nat, k ≤ m ∧ i = .int .i64 k ∧ Below w.heap.size w wr ∧ Boxes wr [(G, 117, #[fnV 69])] ∧ firstErr (errTank L fs) k (m - k) = R) (fun i _ => m - (intOf i).toNat)
 case atStart => exact ⟨0, by omega, rfl, HE.out, HK.out, by rw [HN.out]; exact HR.out⟩
 case round =>
  obtain ⟨k, hj, rfl, hB, hX, hfe⟩ := hrel
  have HB := Lib.hid hB
  have HX := Lib.hid hX
  clear hB hX
  by_cases hlt : k < m
  rotate_left
  ·obtain rfl : k = m := by omega
   obtain rfl : R = 0 := by rw [← hfe, Nat.sub_self]; rfl
   clear hfe hj hlt HR HE HK HX
   go_wp2
   go_ret
   exact ⟨rfl, HB.out⟩
  have k1 : (k : Int) < (m : Int) := by omega
  have k2 : (k : Int) ≤ (c : Int) := by omega
  have k3 : (0 : Int) ≤ (k : Int) := by omega
  obtain ⟨b, o, p, q, rfl, lb, hA, rfl, lp, hF⟩ : ∃ b o p q, A = some ⟨b, o, none⟩ ∧ b < w.heap.size ∧ TanksMem w b o L ∧ B = some ⟨p, q, none⟩ ∧ p < w.heap.size ∧ LevelsAt w p q fs := by
   rcases HD.out with e | e
   ·exfalso; have := HN.out; rw [e] at this; simp at this; omega
   ·exact e
  obtain ⟨z, hz⟩ : ∃ z, L[k]? = some z := ⟨_, List.getElem?_eq_getElem (show k < L.length by rw [← HN.out]; omega)⟩
  obtain ⟨y, hy⟩ : ∃ y, fs[k]? = some y := ⟨_, List.getElem?_eq_getElem (show k < fs.length by rw [← HM.out]; omega)⟩
  obtain ⟨c0, c1, c2, c3, c4, c5⟩ := hA k z hz
  obtain ⟨f0, f1, f2, f3, f4, f5⟩ := hF k y hy
  have hge : errTank L fs k = if levelErr z.1 y = 21 ∨ hasTank (L.take k) z.1.id = true then 21 else levelErr z.1 y := by unfold errTank; rw [hz, hy]
  have hin := HI.out z (List.mem_of_getElem? hz)
  have hstep : (if errTank L fs k = 0 then firstErr (errTank L fs) (k + 1) (m - (k + 1)) else errTank L fs k) = R := by
   rw [← hfe, show m - k = (m - (k + 1)) + 1 by omega]; rfl
  rw [hge] at hstep
  have hchk : ∀ W, Below w.heap.size w W → Calls Tryz.prog 59 #[tankV z.1 z.2, levelV y] W fun e w' => e = .returned (.int .i64 (levelErr z.1 y)) ∧ Below W.heap.size W w' := fun W hW => checkLevel_any z.1 z.2 y W (hin.below hW)
  obtain ⟨E, hE⟩ : ∃ E, levelErr z.1 y = E := ⟨_, rfl⟩
  obtain ⟨t, ht⟩ : ∃ t, hasTank (L.take k) z.1.id = t := ⟨_, rfl⟩
  rw [hE, ht] at hstep
  rw [hE] at hchk
  have CF : ∀ (W : World) (F H : Nat), Below w.heap.size w W → Blk W F 117 #[fnV 69] → Blk W H 69 (tankCells z.1 z.2) → Calls Tryz.prog 111 #[.slice (some ⟨b, o, none⟩) k c, .func (.func 112) #[] #[.pointer (some ⟨F, 0, none⟩), .pointer (some ⟨H, 0, none⟩)]] W fun e w' => e = .returned (.bool t) ∧ Below W.heap.size W w' := fun W F H hW h1 h2 => by
   rw [← ht]
   exact contTank (some ⟨b, o, none⟩) k c (L.take k) z.1.id z.1.al z.1.ah z.2.A z.2.B z.2.C z.2.n z.2.c z.2.m z.2.d z.2.l z.2.e F H W ⟨by rw [List.length_take, ← HN.out]; omega, by simp only [maxLen]; omega, .inr ⟨b, o, rfl, Nat.lt_of_lt_of_le lb hW.size, hA.take.below hW lb⟩⟩ (by omega) h1 h2
  clear hge hfe hE ht hin hz hy hA hF HD
  obtain ⟨⟨rid, ral, rah, vol, sur, hei⟩, ⟨rA, rn, rc, rB, rm, rd, rC, rl, re⟩⟩ := z
  obtain ⟨g0, g1, g2, g3, g4, g5⟩ := y
  dsimp only at c0 c1 c2 c3 c4 c5 f0 f1 f2 f3 f4 f5 hchk CF
  have HS := Lib.hid hstep; have C1 := Lib.hid hchk; have C2 := Lib.hid CF
  clear hstep hchk CF
  rw [← HB.out.cell (p := ⟨b, o + k * 6, none⟩) lb] at c0
  rw [← HB.out.cell (p := ⟨b, o + k * 6 + 1, none⟩) lb] at c1
  rw [← HB.out.cell (p := ⟨b, o + k * 6 + 2, none⟩) lb] at c2
  rw [← HB.out.cell (p := ⟨b, o + k * 6 + 3, none⟩) lb] at c3
  rw [← HB.out.cell (p := ⟨b, o + k * 6 + 4, none⟩) lb] at c4
  rw [← HB.out.cell (p := ⟨b, o + k * 6 + 5, none⟩) lb] at c5
  go_upto_region 4 with fail
  have HE1 := Lib.hid (below_then HB.out (below_alloc1 wr (.cells #[.int .i64 rid, .int .i64 ral, .int .i64 rah, .slice rA rn rc, .slice rB rm rd, .slice rC rl re] 69))); have HK1 := Lib.hid (HX.out.new 69 #[.int .i64 rid, .int .i64 ral, .int .i64 rah, .slice rA rn rc, .slice rB rm rd, .slice rC rl re])
  clear c0 c1 c2 c3 c4 c5 HB HX HE HK
  obtain ⟨W1, hW⟩ : ∃ W1 : World, wr.alloc (.cells #[.int .i64 rid, .int .i64 ral, .int .i64 rah, .slice rA rn rc, .slice rB rm rd, .slice rC rl re] 69) = W1 := ⟨_, rfl⟩
  rw [hW] at HE1 HK1 ⊢
  clear hW
  obtain ⟨N1, hN⟩ : ∃ N, wr.heap.size = N := ⟨_, rfl⟩
  rw [hN] at HK1 ⊢
  clear hN
  rw [← HE1.out.cell (p := ⟨p, q + k * 6, none⟩) lp] at f0
  rw [← HE1.out.cell (p := ⟨p, q + k * 6 + 1, none⟩) lp] at f1
  rw [← HE1.out.cell (p := ⟨p, q + k * 6 + 2, none⟩) lp] at f2
  rw [← HE1.out.cell (p := ⟨p, q + k * 6 + 3, none⟩) lp] at f3
  rw [← HE1.out.cell (p := ⟨p, q + k * 6 + 4, none⟩) lp] at f4
  rw [← HE1.out.cell (p := ⟨p, q + k * 6 + 5, none⟩) lp] at f5
  have hS0 : Boxes W1.drew [(N1, 69, #[.int .i64 rid, .int .i64 ral, .int .i64 rah, .slice rA rn rc, .slice rB rm rd, .slice rC rl re]), (G, 117, #[fnV 69])] ∧ (W1.drew.cell? ⟨p, q + k * 6, none⟩ = some (.int .i64 g0) ∧ W1.drew.cell? ⟨p, q + k * 6 + 1, none⟩ = some (.bool g1) ∧ W1.drew.cell? ⟨p, q + k * 6 + 2, none⟩ = some (.int .i64 g2) ∧ W1.drew.cell? ⟨p, q + k * 6 + 3, none⟩ = some (.int .i64 g3) ∧ W1.drew.cell? ⟨p, q + k * 6 + 4, none⟩ = some (.int .i64 g4) ∧ W1.drew.cell? ⟨p, q + k * 6 + 5, none⟩ = some (.int .i64 g5)) := ⟨HK1.out, f0, f1, f2, f3, f4, f5⟩
  have HEd := Lib.hid HE1.out.drew
  refine wp_region_held_drew (S := fun w' => Boxes w' [(N1, 69, #[.int .i64 rid, .int .i64 ral, .int .i64 rah, .slice rA rn rc, .slice rB rm rd, .slice rC rl re]), (G, 117, #[fnV 69])] ∧ (w'.cell? ⟨p, q + k * 6, none⟩ = some (.int .i64 g0) ∧ w'.cell? ⟨p, q + k * 6 + 1, none⟩ = some (.bool g1) ∧ w'.cell? ⟨p, q + k * 6 + 2, none⟩ = some (.int .i64 g2) ∧ w'.cell? ⟨p, q + k * 6 + 3, none⟩ = some (.int .i64 g3) ∧ w'.cell? ⟨p, q + k * 6 + 4, none⟩ = some (.int .i64 g4) ∧ w'.cell? ⟨p, q + k * 6 + 5, none⟩ = some (.int .i64 g5))) (by kernel_rfl) hS0 (fun hHeld => ?_)
  obtain ⟨W2, hW⟩ : ∃ W', W1.drew = W' := ⟨_, rfl⟩
  rw [hW] at HEd hHeld ⊢
  clear hW hS0 HE1 HK1 f0 f1 f2 f3 f4 f5
  refine tK 21 (i := 0) (v := fnV 59) rfl rfl (by kernel_rfl) ?_ hHeld ?_
  ·intro w hSw; clear hSw; go_simp; try with_reducible rfl
  simp only [uZ, uS]
  refine tK 22 (i := 1) (v := .agg #[.int .i64 rid, .int .i64 ral, .int .i64 rah, .slice rA rn rc, .slice rB rm rd, .slice rC rl re]) rfl rfl (by kernel_rfl) ?_ hHeld ?_
  ·intro w hSw; have hz := (hSw.1 _ (.head _)); have c0 := hz.cell 0; have c1 := hz.cell 1; have c2 := hz.cell 2; have c3 := hz.cell 3; have c4 := hz.cell 4; have c5 := hz.cell 5; simp at c0 c1 c2 c3 c4 c5; clear hz hSw; go_simp; try with_reducible rfl
  simp only [uZ, uS]
  refine tK 23 (i := 2) (v := .slice (some ⟨p, q, none⟩) m d) rfl rfl (by kernel_rfl) ?_ hHeld ?_
  ·intro w hSw; clear hSw; go_simp; try with_reducible rfl
  simp only [uZ, uS]
  refine tK 24 (i := 3) (v := .int .i64 k) rfl rfl (by kernel_rfl) ?_ hHeld ?_
  ·intro w hSw; clear hSw; go_simp; try with_reducible rfl
  simp only [uZ, uS]
  refine tK 25 (i := 4) (v := .pointer (some ⟨p, q + k * 6, none⟩)) rfl rfl (by kernel_rfl) ?_ hHeld ?_
  ·intro w hSw; clear hSw; go_simp; try with_reducible rfl
  simp only [uZ, uS]
  refine tK 26 (i := 5) (v := .agg #[.int .i64 g0, .bool g1, .int .i64 g2, .int .i64 g3, .int .i64 g4, .int .i64 g5]) rfl rfl (by kernel_rfl) ?_ hHeld ?_
  ·intro w hSw; obtain ⟨_, e0, e1, e2, e3, e4, e5⟩ := hSw; go_simp; try with_reducible rfl
  simp only [uZ, uS]
  refine wpAnyH_ready (rs := [6]) (by kernel_rfl) (by simp) ?_
  refine AllReadyH.cons rfl (fun K hK => ?_) AllReadyH.nil
  go_simp
  (with_reducible refine (C1.out _ HEd.out).mono ?_)
  rintro e z1 ⟨rfl, hq⟩
  have HE_1 := Lib.hid (below_then HEd.out hq)
  have lq := Nat.lt_of_lt_of_le lp HEd.out.size
  have hS : Boxes z1 [(N1, 69, #[.int .i64 rid, .int .i64 ral, .int .i64 rah, .slice rA rn rc, .slice rB rm rd, .slice rC rl re]), (G, 117, #[fnV 69])] ∧ (z1.cell? ⟨p, q + k * 6, none⟩ = some (.int .i64 g0) ∧ z1.cell? ⟨p, q + k * 6 + 1, none⟩ = some (.bool g1) ∧ z1.cell? ⟨p, q + k * 6 + 2, none⟩ = some (.int .i64 g2) ∧ z1.cell? ⟨p, q + k * 6 + 3, none⟩ = some (.int .i64 g3) ∧ z1.cell? ⟨p, q + k * 6 + 4, none⟩ = some (.int .i64 g4) ∧ z1.cell? ⟨p, q + k * 6 + 5, none⟩ = some (.int .i64 g5)) := ⟨hHeld.1.on hq, (hq.cell (p := ⟨p, q + k * 6, none⟩) lq).trans hHeld.2.1, (hq.cell (p := ⟨p, q + k * 6 + 1, none⟩) lq).trans hHeld.2.2.1, (hq.cell (p := ⟨p, q + k * 6 + 2, none⟩) lq).trans hHeld.2.2.2.1, (hq.cell (p := ⟨p, q + k * 6 + 3, none⟩) lq).trans hHeld.2.2.2.2.1, (hq.cell (p := ⟨p, q + k * 6 + 4, none⟩) lq).trans hHeld.2.2.2.2.2.1, (hq.cell (p := ⟨p, q + k * 6 + 5, none⟩) lq).trans hHeld.2.2.2.2.2.2⟩
  have HX1 := Lib.hid hS.1
  clear hq
  refine hK.out _ _ (hS) (fun hHeld2 => ?_)
  try simp only [Act.put, uA, uZ, uS]
  clear hK K hHeld
  have hHeld := hHeld2
  clear hHeld2
  clear hS HEd C1
  refine tK 13 (i := 7) (v := .int .i64 E) rfl rfl (by kernel_rfl) ?_ hHeld ?_
  ·intro w hSw; clear hSw; go_simp; try with_reducible rfl
  simp only [uZ, uS]
  refine wpAnyH_done (by kernel_rfl) ?_ _
  clear hHeld
  by_cases hb : E = 21
  ·have b1 : (E == 21) = true := by simp [hb]
   have q1 : E = 21 ∨ t = true := .inl hb
   obtain rfl : R = 21 := by rw [← HS.out, if_pos q1, if_neg (by decide)]
   clear q1
   have HBB := Lib.hid hb
   clear HS HR C2 HX1 hb
   go_wp2
   go_ret
   exact ⟨rfl, HE_1.out⟩
  have b1 : (E == 21) = false := beq_eq_false_iff_ne.2 hb
  have HBB := Lib.hid hb
  clear hb
  go_wp2_with fail
  refine (C2.out _ _ _ HE_1.out (HX1.out _ (.tail _ (.head _))) (HX1.out _ (.head _))).mono ?_
  rintro e z2 ⟨rfl, hq⟩
  have HE_2 := Lib.hid (below_then HE_1.out hq); have HX2 := Lib.hid (HX1.out.on hq)
  clear hq HE_1 HX1 C2
  cases t
  rotate_left
  ·have q1 : E = 21 ∨ true = true := .inr rfl
   obtain rfl : R = 21 := by rw [← HS.out, if_pos q1, if_neg (by decide)]
   clear q1
   clear HS HR HX2
   go_wp2
   go_ret
   exact ⟨rfl, HE_2.out⟩
  have hs := HS.out
  have q1 : ¬ (E = 21 ∨ false = true) := fun q => q.elim HBB.out (fun q => by cases q)
  rw [if_neg q1] at hs
  clear q1
  by_cases hE : E = 0
  ·rw [if_pos hE] at hs
   have HS2 := Lib.hid hs
   have b2 : (E == 0) = true := by simp [hE]
   have b3 : (E != 0) = false := by simp [hE]
   clear hs HS hE
   go_wp2
   go_roundw
   case rel => exact ⟨k + 1, by omega, by go_num, HE_2.out, fun p hp => HX2.out p (.tail _ hp), HS2.out⟩
   case measure => simp [intOf]; omega
  ·rw [if_neg hE] at hs
   subst hs
   have b2 : (E == 0) = false := beq_eq_false_iff_ne.2 hE
   have b3 : (E != 0) = true := bne_iff_ne.2 hE
   clear HS HR HX2 hE
   go_wp2
   go_ret
   exact ⟨rfl, HE_2.out⟩
end

section
open Go.RowKit
def loadErr (L : List (HoldD × HoldM)) (fs : List FillD) (T : List (TankD × HoldM)) (ls : List LevelD) : Int :=
  if 9 < L.length ∨ 9 < T.length then 2 else if ¬ fs.length = L.length ∨ ¬ ls.length = T.length then 1 else if eachHold L fs = 0 then eachTank T ls else eachHold L fs

set_option maxRecDepth 100000 in
set_option maxHeartbeats 4000000 in
theorem checkLoad_any (A B C D : Option Addr) (n c m d l e r s : Nat) (L : List (HoldD × HoldM)) (fs : List FillD) (T : List (TankD × HoldM)) (ls : List LevelD) (w : World) (hL : HoldsIn w A n L) (hF : FillsIn w B m fs) (hT : TanksIn w C l T) (hV : LevelsIn w D r ls) (hc : n ≤ c) (he : l ≤ e) (iL : ∀ r ∈ L, HoldIn w r.1 r.2) (iT : ∀ r ∈ T, TankIn w r.1 r.2) :
  Calls Tryz.prog 32 #[.slice A n c, .slice B m d, .slice C l e, .slice D r s] w fun x w' => x = .returned (.int .i64 (loadErr L fs T ls)) ∧ Below w.heap.size w w' := by
 obtain ⟨R, hR⟩ : ∃ R, loadErr L fs T ls = R := ⟨_, rfl⟩
 obtain ⟨X, hX⟩ : ∃ X, eachHold L fs = X := ⟨_, rfl⟩
 obtain ⟨Y, hY⟩ : ∃ Y, eachTank T ls = Y := ⟨_, rfl⟩
 have hN := hL.1; have hM := hF.1; have hK := hT.1; have hJ := hV.1
 have HR : Hid ((if 9 < n ∨ 9 < l then (2 : Int) else if ¬ m = n ∨ ¬ r = l then 1 else if X = 0 then Y else X) = R) := Lib.hid (by rw [← hR, ← hX, ← hY, hN, hM, hK, hJ]; rfl)
 rw [hR]
 have C1 : Hid (m = n → n ≤ 9 → ∀ W, Below w.heap.size w W → Calls Tryz.prog 65 #[.slice A n c, .slice B m d, fnV 66, fnV 67, .int .i64 20] W fun x w' => x = .returned (.int .i64 X) ∧ Below W.heap.size W w') := Lib.hid fun h1 h2 W hW => by
  rw [← hX]; exact checkEachHold_any A B n c m d L fs W (hL.below hW) (hF.below hW) h1 h2 hc (fun z hz => (iL z hz).below hW)
 have C2 : Hid (r = l → l ≤ 9 → ∀ W, Below w.heap.size w W → Calls Tryz.prog 68 #[.slice C l e, .slice D r s, fnV 59, fnV 69, .int .i64 21] W fun x w' => x = .returned (.int .i64 Y) ∧ Below W.heap.size W w') := Lib.hid fun h1 h2 W hW => by
  rw [← hY]; exact checkEachTank_any C D l e r s T ls W (hT.below hW) (hV.below hW) h1 h2 he (fun z hz => (iT z hz).below hW)
 clear hL hF hT hV hc he iL iT hR hX hY hN hM hK hJ
 go_enter Tryz.func32, Tryz.ntmps32
 by_cases a1 : 9 < n
 ·obtain rfl : R = 2 := by rw [← HR.out, if_pos (Or.inl a1)]
  have a2 : (9 : Int) < (n : Int) := by omega
  clear HR C1 C2
  go_wp2
  go_ret
  exact ⟨rfl, Below.refl _ _⟩
 have a2 : ¬ (9 : Int) < (n : Int) := by omega
 by_cases a3 : 9 < l
 ·obtain rfl : R = 2 := by rw [← HR.out, if_pos (Or.inr a3)]
  have a4 : (9 : Int) < (l : Int) := by omega
  clear HR C1 C2
  go_wp2
  go_ret
  exact ⟨rfl, Below.refl _ _⟩
 have a4 : ¬ (9 : Int) < (l : Int) := by omega
 have q1 : ¬ (9 < n ∨ 9 < l) := by omega
 by_cases b1 : m = n
 rotate_left
 ·obtain rfl : R = 1 := by rw [← HR.out, if_neg q1, if_pos (Or.inl b1)]
  have b2 : ((m : Int) != (n : Int)) = true := bne_iff_ne.2 (by omega)
  have b3 : ((m : Int) == (n : Int)) = false := beq_eq_false_iff_ne.2 (by omega)
  clear HR C1 C2
  go_wp2
  go_ret
  exact ⟨rfl, Below.refl _ _⟩
 have b2 : ((m : Int) != (n : Int)) = false := by simp [b1]
 have b3 : ((m : Int) == (n : Int)) = true := by simp [b1]
 by_cases c1 : r = l
 rotate_left
 ·obtain rfl : R = 1 := by rw [← HR.out, if_neg q1, if_pos (Or.inr c1)]
  have c2 : ((r : Int) != (l : Int)) = true := bne_iff_ne.2 (by omega)
  have c3 : ((r : Int) == (l : Int)) = false := beq_eq_false_iff_ne.2 (by omega)
  have B1 := Lib.hid b1
  clear HR C1 C2 b1
  go_wp2
  go_ret
  exact ⟨rfl, Below.refl _ _⟩
 have c2 : ((r : Int) != (l : Int)) = false := by simp [c1]
 have c3 : ((r : Int) == (l : Int)) = true := by simp [c1]
 have q2 : ¬ (¬ m = n ∨ ¬ r = l) := by omega
 have HR2 : Hid ((if X = 0 then Y else X) = R) := Lib.hid (by rw [← HR.out, if_neg q1, if_neg q2])
 have D1 := Lib.hid (C1.out b1 (by omega)); have D2 := Lib.hid (C2.out c1 (by omega))
 clear HR C1 C2 q1 q2 b1 c1
 go_wp2_with fail
 refine (D1.out _ (Below.refl _ _)).mono ?_
 rintro x w2 ⟨rfl, hq⟩
 have HE2 := Lib.hid hq
 clear hq D1
 by_cases x0 : X = 0
 ·have x1 : (X == 0) = true := by simp [x0]
  have x2 : (X != 0) = false := by simp [x0]
  obtain rfl : R = Y := by rw [← HR2.out, if_pos x0]
  clear x0 HR2
  go_wp2_with fail
  refine (D2.out _ HE2.out).mono ?_
  rintro x w3 ⟨rfl, hq⟩
  have HE3 := Lib.hid (below_then HE2.out hq)
  clear hq D2
  go_wp2
  go_ret
  exact ⟨rfl, HE3.out⟩
 ·have x1 : (X == 0) = false := beq_eq_false_iff_ne.2 x0
  have x2 : (X != 0) = true := bne_iff_ne.2 x0
  obtain rfl : R = X := by rw [← HR2.out, if_neg x0]
  clear x0 HR2 D2
  go_wp2
  go_ret
  exact ⟨rfl, HE2.out⟩
end

end Go.Proofs.YtekkiedlajhaiaaGreat
