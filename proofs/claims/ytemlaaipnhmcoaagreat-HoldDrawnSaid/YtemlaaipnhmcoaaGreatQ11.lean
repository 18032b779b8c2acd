/- HoldDrawn: whatever numbers come in, the law returns true and leaves its arguments as they were. No conditions. -/
import Derived.Test.YtemlaaipnhmcoaaGreatR44
import Derived.Test.YtemlaaipnhmcoaaGreatR48
import Derived.Test.YtemlaaipnhmcoaaGreatR45
import Derived.Test.YtemlaaipnhmcoaaGreatR43
import Derived.Test.YtemlaaipnhmcoaaGreatR49
import Derived.Test.YtemlaaipnhmcoaaGreatR39
import Derived.Test.YtemlaaipnhmcoaaGreatR47
import Derived.Test.YtemlaaipnhmcoaaGreatQ98
set_option linter.unusedVariables false
set_option linter.unusedSimpArgs false
set_option linter.constructorNameAsVariable false
namespace Go.Proofs.YtemlaaipnhmcoaaGreat

section
open Go.RowKit

theorem around_gen {n d : Int} (hd : 0 < d) (h0 : 0 ≤ n) (h1 : n ≤ 2000000000 * d) : 0 ≤ (aroundS n d).1 ∧ (aroundS n d).1 ≤ (aroundS n d).2 ∧ (aroundS n d).2 ≤ 2000000001 := by
  have gh := around_hi (n := n) hd
  have lo : (aroundS n d).1 = n / d := rfl
  have q0 : 0 ≤ n / d := Int.ediv_nonneg h0 (by omega)
  have q1 : n / d ≤ 2000000000 := by
    refine Int.not_lt.1 fun g => ?_
    have := Int.mul_le_mul_of_nonneg_right (show 2000000001 ≤ n / d by omega) (show 0 ≤ d by omega)
    have e := Int.ediv_mul_le n (show d ≠ 0 by omega)
    omega
  rw [lo, gh]
  refine ⟨q0, ?_, ?_⟩
  · split <;> omega
  · split <;> omega
theorem diff_in {a b i j r : Int} (h1 : 0 < b ∧ b ≤ 1000 ∧ 0 ≤ a ∧ a ≤ 20000000000) (h2 : 0 < j ∧ j ≤ 1000 ∧ 0 ≤ i ∧ i ≤ 20000000000) (ha : a ≤ 1000000000 * b) (hl : 0 ≤ a * j - i * b) (r0 : 0 ≤ r) (r2 : r ≤ 2000) :
    0 ≤ (a * j - i * b) * r ∧ (a * j - i * b) * r ≤ 40000000000000000 ∧ 0 < 1000 * b * j ∧ 1000 * b * j ≤ 1000000000 ∧ (a * j - i * b) * r ≤ 2000000000 * (1000 * b * j) ∧ 1000 * b * j = 1000 * (b * j) := by
  obtain ⟨m1, m2, m3, m4, m5, m6⟩ := made_more h1 h2
  have e : 1000 * b * j = 1000 * (b * j) := Int.mul_assoc _ _ _
  have k1 := Int.mul_le_mul_of_nonneg_right ha (show 0 ≤ j by omega)
  have e2 : 1000000000 * b * j = 1000000000 * (b * j) := Int.mul_assoc _ _ _
  rw [e2] at k1
  have k2 : (a * j - i * b) * r ≤ (1000000000 * (b * j)) * 2000 := Int.mul_le_mul (by omega) r2 r0 (by omega)
  have k3 : (a * j - i * b) * r ≤ 20000000000000 * 2000 := Int.mul_le_mul (by omega) r2 r0 (by omega)
  have k4 := Int.mul_nonneg hl r0
  rw [e]
  omega
theorem diff_in' {a b i j r : Int} (h1 : 0 < b ∧ b ≤ 1000 ∧ 0 ≤ a ∧ a ≤ 20000000000) (h2 : 0 < j ∧ j ≤ 1000 ∧ 0 ≤ i ∧ i ≤ 20000000000) (ha : i ≤ 1000000000 * j) (hl : 0 ≤ i * b - a * j) (r0 : 0 ≤ r) (r2 : r ≤ 2000) :
    0 ≤ (i * b - a * j) * r ∧ (i * b - a * j) * r ≤ 40000000000000000 ∧ 0 < 1000 * b * j ∧ 1000 * b * j ≤ 1000000000 ∧ (i * b - a * j) * r ≤ 2000000000 * (1000 * b * j) ∧ 1000 * b * j = 1000 * (b * j) := by
  obtain ⟨g1, g2, g3, g4, g5, g6⟩ := diff_in h2 h1 ha hl r0 r2
  have e : 1000 * j * b = 1000 * b * j := by rw [Int.mul_assoc, Int.mul_assoc, Int.mul_comm j b]
  rw [e] at g3 g4 g5
  exact ⟨g1, g2, g3, g4, g5, Int.mul_assoc _ _ _⟩
theorem drawn_all {h : HoldD} {f : FillD} {cs : List Int} {u tw a b i j r : Int} (e : fillErr h f = 0) (s3 : f.st = 3) (hi : InTab h.vol cs) (hu : f.x0 ≤ u ∧ u ≤ f.x1) (V1 : ValOf h.vol cs u a b) (ht : u ≤ tw ∧ tw ≤ lastX h.vol) (V2 : ValOf h.vol cs tw i j)
    (h1 : 0 < b ∧ b ≤ 1000 ∧ 0 ≤ a ∧ a ≤ 20000000000) (h2 : 0 < j ∧ j ≤ 1000 ∧ 0 ≤ i ∧ i ≤ 20000000000) (hl : 0 ≤ a * j - i * b) (r1 : f.d0 ≤ r) (r2 : r ≤ f.d1) :
    (0 ≤ (a * j - i * b) * r ∧ (a * j - i * b) * r ≤ 40000000000000000 ∧ 0 < 1000 * b * j ∧ 1000 * b * j ≤ 1000000000) ∧
    ∃ p q, drawS h f (aroundS ((a * j - i * b) * r) (1000 * b * j)).1 (aroundS ((a * j - i * b) * r) (1000 * b * j)).2 = (⟨h.id, 3, p, q, f.d0, f.d1⟩, 0) ∧ p ≤ tw ∧ tw ≤ q := by
  obtain ⟨hS, hF⟩ := fill_zero e
  have hm := (hold_parts hS).2.1.1
  have pl := fill_place e (show 3 ≤ f.st by omega)
  simp only [inB, decide_eq_true_eq] at pl
  have hd := fill_dens e
  have ha := val_le hm hi V1 (by omega) (by omega)
  obtain ⟨g1, g2, g3, g4, g5, g6⟩ := diff_in h1 h2 ha hl (show 0 ≤ r by omega) (show r ≤ 2000 by omega)
  obtain ⟨q1, q2, q3⟩ := around_gen g3 g1 g5
  obtain ⟨b1, b2⟩ := around_has (n := (a * j - i * b) * r) g3
  refine ⟨⟨g1, g2, g3, g4⟩, drawn_has e s3 hi hu V1 ht V2 ((vR_iff _ _).2 (by omega)) q1 hl ?_ ?_ r1 r2⟩
  · rw [← g6]; exact b1
  · rw [← g6]; exact b2
theorem poured_all {h : HoldD} {f : FillD} {cs : List Int} {u tw a b i j e0 e1 r : Int} (e : fillErr h f = 0) (s3 : f.st = 3) (hi : InTab h.vol cs) (hu : f.x0 ≤ u ∧ u ≤ f.x1) (V1 : ValOf h.vol cs u a b) (ht : firstX h.vol ≤ tw ∧ tw ≤ u) (V2 : ValOf h.vol cs tw i j)
    (h1 : 0 < b ∧ b ≤ 1000 ∧ 0 ≤ a ∧ a ≤ 20000000000) (h2 : 0 < j ∧ j ≤ 1000 ∧ 0 ≤ i ∧ i ≤ 20000000000) (hl : 0 ≤ i * b - a * j) (hd : 100 ≤ e0 ∧ e0 ≤ e1 ∧ e1 ≤ 2000) (r1 : e0 ≤ r) (r2 : r ≤ e1) :
    (0 ≤ (i * b - a * j) * r ∧ (i * b - a * j) * r ≤ 40000000000000000 ∧ 0 < 1000 * b * j ∧ 1000 * b * j ≤ 1000000000) ∧
    ∃ p q, pourS h f (aroundS ((i * b - a * j) * r) (1000 * b * j)).1 (aroundS ((i * b - a * j) * r) (1000 * b * j)).2 e0 e1 = (⟨h.id, 3, p, q, (mixS f.d0 f.d1 e0 e1).1, (mixS f.d0 f.d1 e0 e1).2⟩, 0) ∧ p ≤ tw ∧ tw ≤ q := by
  obtain ⟨hS, hF⟩ := fill_zero e
  have hm := (hold_parts hS).2.1.1
  have pl := fill_place e (show 3 ≤ f.st by omega)
  simp only [inB, decide_eq_true_eq] at pl
  have ha := val_le hm hi V2 (by omega) (by omega)
  obtain ⟨g1, g2, g3, g4, g5, g6⟩ := diff_in' h1 h2 ha hl (show 0 ≤ r by omega) (show r ≤ 2000 by omega)
  obtain ⟨q1, q2, q3⟩ := around_gen g3 g1 g5
  obtain ⟨b1, b2⟩ := around_has (n := (i * b - a * j) * r) g3
  have hmass : massErr (aroundS ((i * b - a * j) * r) (1000 * b * j)).1 (aroundS ((i * b - a * j) * r) (1000 * b * j)).2 e0 e1 = 0 := by
    unfold massErr
    rw [if_pos ((vR_iff _ _).2 (by omega)), if_pos (by unfold densS; simp only [inB, decide_eq_true_eq]; omega)]
  refine ⟨⟨g1, g2, g3, g4⟩, poured_has e s3 hi hu V1 ht V2 hmass q1 hl ?_ ?_ r1 r2⟩
  · rw [← g6]; exact b1
  · rw [← g6]; exact b2
theorem fill_dens3 {h : HoldD} {f : FillD} (e : fillErr h f = 0) (s : f.st = 3) : densS f.d0 f.d1 = true := by
  have hF := (fill_zero e).2
  unfold fillS stateS at hF
  simp only [Bool.and_eq_true, Bool.or_eq_true, decide_eq_true_eq, beq_iff_eq] at hF
  obtain ⟨_, h | h | h⟩ := hF
  · omega
  · omega
  · first | exact h.2.1 | exact h.2.2 | exact h.1
theorem mix_holds {a b c d : Int} (h1 : densS a b = true) (h2 : densS c d = true) : ((mixS a b c d).1 ≤ a ∧ b ≤ (mixS a b c d).2) ∧ ((mixS a b c d).1 ≤ c ∧ d ≤ (mixS a b c d).2) := by
  obtain ⟨p1, p2, p3⟩ := dens_in h1
  obtain ⟨q1, q2, q3⟩ := dens_in h2
  have v1 : vR a b = true := (vR_iff a b).2 (by omega)
  have v2 : vR c d = true := (vR_iff c d).2 (by omega)
  have e : mixS a b c d = (min a c, max b d) := by
    unfold mixS
    rw [if_neg (by simp; omega), if_neg (by simp; omega)]
    unfold hulS hullS
    rw [twoS_yes (by rw [v1, v2]; rfl)]
  rw [e]
  dsimp only
  omega
end

section
open Go.RowKit
attribute [local go_sem ↓] eqlRange neqRange

set_option maxRecDepth 100000 in
set_option maxHeartbeats 4000000 in
theorem holdDrawn_walk (r : RawD) (m : RawM) (x0 x1 x2 x3 x4 : Int) (Ca Cb Cc : Option Addr) (na ca nb cb nc cc : Nat) (k0 k1 k2 : List Int) (pl de : Int) (w : World) (hi : RawIn w r m) (hka : LstIn w Ca na k0) :
  Calls Tryz.prog 5 #[rawV r m, .agg #[.int .i64 x0, .int .i64 x1, .int .i64 x2, .int .i64 x3, .int .i64 x4], .agg #[.slice Ca na ca, .slice Cb nb cb, .slice Cc nc cc, .int .i64 pl, .int .i64 de]] w fun e w' => e = .returned (.bool true) ∧ Below w.heap.size w w' := by
 obtain ⟨h, hh⟩ : ∃ h, madeH r = h := ⟨_, rfl⟩
 have C1 := fun (W : World) (hW : Below w.heap.size w W) => smadeHold r m W (hi.below hW)
 have hS : holdS h = true := by rw [← hh]; exact made_valid r
 have MV := fun (cs : List Int) (x num den : Int) => @made_val r cs x num den
 rw [hh] at C1 MV
 have hle := hold_first hS
 have htv := hold_tab hS
 have hpl := tab_places htv
 have hf := madeF_ok hS hle x0 x1 x2 x3 x4
 have CF := fun (W : World) (mm : HoldM) (hm : HoldIn W h mm) => sfill_to h mm x0 x1 x2 x3 x4 W hm htv hle hpl.1 hpl.2
 obtain ⟨f, hff⟩ : ∃ f, madeF h x0 x1 x2 x3 x4 = f := ⟨_, rfl⟩
 rw [hff] at hf CF
 obtain ⟨id, fi, st, vs⟩ := r
 obtain ⟨S, sn, sc, V, vn, vc⟩ := m
 have HKA := Lib.hid hka; have HSV := Lib.hid hS; have HF0 := Lib.hid hf; have MV := Lib.hid MV
 have C1 := Lib.hid C1; have CF := Lib.hid CF
 clear hi hka hh hle htv hpl hff hS hf
 have HE := Lib.hid (show Below w.heap.size w (((w.alloc (.cells #[.int .i64 id, .int .i64 fi, .slice S sn sc, .slice V vn vc] 24)).alloc (.cells #[.int .i64 x0, .int .i64 x1, .int .i64 x2, .int .i64 x3, .int .i64 x4] 53)).alloc (.cells #[.slice Ca na ca, .slice Cb nb cb, .slice Cc nc cc, .int .i64 pl, .int .i64 de] 27)) from below_a3 (Below.refl _ _))
 have HK := Lib.hid (boxes3' w 24 53 27 #[.int .i64 id, .int .i64 fi, .slice S sn sc, .slice V vn vc] #[.int .i64 x0, .int .i64 x1, .int .i64 x2, .int .i64 x3, .int .i64 x4] #[.slice Ca na ca, .slice Cb nb cb, .slice Cc nc cc, .int .i64 pl, .int .i64 de])
 go_enter Tryz.func5, Tryz.ntmps5
 go_upto_region 1 with fail
 obtain ⟨W0, hW0⟩ : ∃ W0 : World, (((w.alloc (.cells #[.int .i64 id, .int .i64 fi, .slice S sn sc, .slice V vn vc] 24)).alloc (.cells #[.int .i64 x0, .int .i64 x1, .int .i64 x2, .int .i64 x3, .int .i64 x4] 53)).alloc (.cells #[.slice Ca na ca, .slice Cb nb cb, .slice Cc nc cc, .int .i64 pl, .int .i64 de] 27)) = W0 := ⟨_, rfl⟩
 rw [hW0] at HE HK ⊢
 clear hW0
 obtain ⟨G, hG⟩ : ∃ G, w.heap.size = G := ⟨_, rfl⟩
 rw [hG] at HK ⊢
 have HG := Lib.hid hG; clear hG
 have fa_ := HK.out _ (.tail _ (.tail _ (.head _)))
 have fa_0 := fa_.cell 0
 have fa_1 := fa_.cell 1
 have fa_2 := fa_.cell 2
 have fa_3 := fa_.cell 3
 simp at fa_0 fa_1 fa_2 fa_3
 clear fa_
 go_wp2_with fail
 refine (C1.out _ HE.out).mono ?_
 rintro e z1 ⟨⟨mh, rfl, hinh⟩, hq⟩
 obtain ⟨hid, al, ah, vol, mom, hei, t0, t1, u0, u1, v0, v1, h0, h1⟩ := h
 obtain ⟨A, n, c, B, mm, d, C, l, ee⟩ := mh
 obtain ⟨fh, fs, p0, p1, d0, d1⟩ := f
 have HIN := Lib.hid hinh
 have C2 : Hid (∀ W, Below z1.heap.size z1 W → Calls Tryz.prog 27 #[.agg #[.int .i64 hid, .int .i64 al, .int .i64 ah, .slice A n c, .slice B mm d, .slice C l ee, .int .i64 t0, .int .i64 t1, .int .i64 u0, .int .i64 u1, .int .i64 v0, .int .i64 v1, .int .i64 h0, .int .i64 h1], .agg #[.int .i64 x0, .int .i64 x1, .int .i64 x2, .int .i64 x3, .int .i64 x4]] W fun e w' => e = .returned (.agg #[.int .i64 fh, .int .i64 fs, .int .i64 p0, .int .i64 p1, .int .i64 d0, .int .i64 d1]) ∧ Below W.heap.size W w') := Lib.hid fun W hW => CF.out W ⟨A, n, c, B, mm, d, C, l, ee⟩ (HIN.out.below hW)
 clear hinh
 have HQ_1 := Lib.hid (below_then HE.out hq)
 have HX_1 := Lib.hid ((HK.out.on hq).new 35 #[.int .i64 hid, .int .i64 al, .int .i64 ah, .slice A n c, .slice B mm d, .slice C l ee, .int .i64 t0, .int .i64 t1, .int .i64 u0, .int .i64 u1, .int .i64 v0, .int .i64 v1, .int .i64 h0, .int .i64 h1]); have HB_1 := Lib.hid (below_alloc1 z1 (.cells #[.int .i64 hid, .int .i64 al, .int .i64 ah, .slice A n c, .slice B mm d, .slice C l ee, .int .i64 t0, .int .i64 t1, .int .i64 u0, .int .i64 u1, .int .i64 v0, .int .i64 v1, .int .i64 h0, .int .i64 h1] 35))
 clear hq HK HE fa_0 fa_1 fa_2 fa_3 C1 CF
 go_upto_region 2 with fail
 obtain ⟨V1, hW⟩ : ∃ W', z1.alloc (.cells #[.int .i64 hid, .int .i64 al, .int .i64 ah, .slice A n c, .slice B mm d, .slice C l ee, .int .i64 t0, .int .i64 t1, .int .i64 u0, .int .i64 u1, .int .i64 v0, .int .i64 v1, .int .i64 h0, .int .i64 h1] 35) = W' := ⟨_, rfl⟩
 rw [hW] at HX_1 HB_1  ⊢
 clear hW
 obtain ⟨MH, hN⟩ : ∃ n, z1.heap.size = n := ⟨_, rfl⟩
 rw [hN] at HX_1  ⊢
 clear hN
 have fa_ := HX_1.out _ (.tail _ (.tail _ (.head _)))
 have fa_0 := fa_.cell 0
 have fa_1 := fa_.cell 1
 have fa_2 := fa_.cell 2
 have fa_3 := fa_.cell 3
 have fa_4 := fa_.cell 4
 simp at fa_0 fa_1 fa_2 fa_3 fa_4
 clear fa_
 have fb_ := HX_1.out _ (.head _)
 have fb_0 := fb_.cell 0
 have fb_1 := fb_.cell 1
 have fb_2 := fb_.cell 2
 have fb_3 := fb_.cell 3
 have fb_4 := fb_.cell 4
 have fb_5 := fb_.cell 5
 have fb_6 := fb_.cell 6
 have fb_7 := fb_.cell 7
 have fb_8 := fb_.cell 8
 have fb_9 := fb_.cell 9
 have fb_10 := fb_.cell 10
 have fb_11 := fb_.cell 11
 have fb_12 := fb_.cell 12
 have fb_13 := fb_.cell 13
 simp at fb_0 fb_1 fb_2 fb_3 fb_4 fb_5 fb_6 fb_7 fb_8 fb_9 fb_10 fb_11 fb_12 fb_13
 clear fb_
 go_wp2_with fail
 refine (C2.out _ HB_1.out).mono ?_
 rintro e z2 ⟨rfl, hq⟩
 have HX_2 := Lib.hid ((HX_1.out.on hq).new 55 #[.int .i64 fh, .int .i64 fs, .int .i64 p0, .int .i64 p1, .int .i64 d0, .int .i64 d1]); have HB_2 := Lib.hid (below_then (below_then HB_1.out hq) (below_alloc1 z2 (.cells #[.int .i64 fh, .int .i64 fs, .int .i64 p0, .int .i64 p1, .int .i64 d0, .int .i64 d1] 55)))
 clear hq HX_1 HB_1 fa_0 fa_1 fa_2 fa_3 fa_4 fb_0 fb_1 fb_2 fb_3 fb_4 fb_5 fb_6 fb_7 fb_8 fb_9 fb_10 fb_11 fb_12 fb_13 C2
 go_upto_region 3 with fail
 obtain ⟨V2, hW⟩ : ∃ W', z2.alloc (.cells #[.int .i64 fh, .int .i64 fs, .int .i64 p0, .int .i64 p1, .int .i64 d0, .int .i64 d1] 55) = W' := ⟨_, rfl⟩
 rw [hW] at HX_2 HB_2  ⊢
 clear hW
 obtain ⟨MF, hN⟩ : ∃ n, z2.heap.size = n := ⟨_, rfl⟩
 rw [hN] at HX_2  ⊢
 clear hN
 by_cases s3 : fs = 3
 rotate_left
 ·have b1 : (fs != 3) = true := by simpa using s3
  have fa_ := HX_2.out _ (.head _)
  have fa_1 := fa_.cell 1
  simp at fa_1
  clear fa_
  clear s3
  go_wp2_with fail
  refine (msane_any _).mono ?_
  rintro e zz ⟨rfl, hq⟩
  have HBz := Lib.hid (below_then HB_2.out hq)
  clear hq
  go_wp2
  go_ret
  exact ⟨rfl, below_then HQ_1.out HBz.out⟩
 subst s3
 have fa_ := HX_2.out _ (.head _)
 have fa_1 := fa_.cell 1
 simp at fa_1
 clear fa_
 go_upto_region 5 with fail
 clear fa_1
 have hm0 : measuresS vol = true := (hold_parts HSV.out).2.1.1
 have ht0 := measures_ok hm0
 have hp0 := tab_places ht0
 have hT0 := Lib.hid (fun (W : World) (hW : Below z1.heap.size z1 W) => show TabIn W A n vol from (HIN.out.below hW).1)
 have CF0 := Lib.hid (fun (W : World) (hW : Below z1.heap.size z1 W) => sFirst_tab A n c vol W (hT0.out W hW) ht0)
 have CL0 := Lib.hid (fun (W : World) (hW : Below z1.heap.size z1 W) => sLast_tab A n c vol W (hT0.out W hW) ht0)
 have K0 := Lib.hid (fun (W : World) (hW : Below z1.heap.size z1 W) => curve_c (c := c) (ca := ca) (hT0.out W hW) ht0 (HKA.out.below (below_then HQ_1.out hW)))
 have I0 := Lib.hid (curve_in k0 HIN.out.1 ht0 (measures_len hm0))
 have L0 := Lib.hid (fun (W : World) (x : Int) (cb cc' : Nat) (g1 : firstX vol ≤ x) (g2 : x ≤ lastX vol) (hW : Below z1.heap.size z1 W) (hc : IntsP W (some ⟨cb, 0, none⟩) (curveTo vol k0 n)) => value_c (c := c) (cc := cc') (hT0.out W hW) ht0 (measures_len hm0) hc g1 g2)
 have hpi := fill_place HF0.out (show (3 : Int) ≤ 3 by omega)
 simp only [inB, decide_eq_true_eq] at hpi
 have hdi := fill_dens HF0.out
 dsimp only at hpi hdi
 obtain ⟨u, hu⟩ : ∃ z, p0 + pl % (p1 - p0 + 1) = z := ⟨_, rfl⟩
 have hu2 := some_inZ pl (show p0 ≤ p1 by omega)
 rw [hu] at hu2
 obtain ⟨q3, hq3⟩ : ∃ z, IntKind.i64.wrap (Int.tdiv pl 3) = z := ⟨_, rfl⟩
 obtain ⟨tw, htw⟩ : ∃ z, u + q3 % (lastX vol - u + 1) = z := ⟨_, rfl⟩
 have ht2 := some_inZ q3 (show u ≤ lastX vol by omega)
 rw [htw] at ht2
 obtain ⟨dd, hdd⟩ : ∃ z, d0 + de % (d1 - d0 + 1) = z := ⟨_, rfl⟩
 have hd2 := some_inZ de hdi.2.1
 rw [hdd] at hd2
 have CSU : Hid (∀ W, Calls Tryz.prog 17 #[rv p0 p1, .int .i64 pl] W fun e w' => e = .returned (.int .i64 u) ∧ Below W.heap.size W w') := Lib.hid fun W => int_to (msomewhere_to _ _ pl W (by omega) (by omega) (by omega)) hu
 have CST : Hid (∀ W, Calls Tryz.prog 17 #[rv u (lastX vol), .int .i64 q3] W fun e w' => e = .returned (.int .i64 tw) ∧ Below W.heap.size W w') := Lib.hid fun W => int_to (msomewhere_to _ _ q3 W (by omega) (by omega) (by omega)) htw
 have CDE : Hid (∀ W, Calls Tryz.prog 19 #[rv d0 d1, .int .i64 de] W fun e w' => e = .returned (.int .i64 dd) ∧ Below W.heap.size W w') := Lib.hid fun W => int_to (mdense_to _ _ de W hdi.2.1 (by omega) (by omega)) hdd
 have LU := Lib.hid (fun (W : World) (cb cc' : Nat) => L0.out W u cb cc' (by omega) (by omega))
 have LT := Lib.hid (fun (W : World) (cb cc' : Nat) => L0.out W tw cb cc' (by omega) (by omega))
 have DA := Lib.hid (fun (a b i j : Int) (V1 : ValOf vol (curveTo vol k0 n) u a b) (V2 : ValOf vol (curveTo vol k0 n) tw i j) (hl : 0 ≤ a * j - i * b) => drawn_all (r := dd) HF0.out rfl I0.out.1 hu2 V1 ht2 V2 (MV.out _ _ _ _ I0.out.1 V1) (MV.out _ _ _ _ I0.out.1 V2) hl hd2.1 hd2.2)
 have BO := Lib.hid (fun (a b i j : Int) (V1 : ValOf vol (curveTo vol k0 n) u a b) (V2 : ValOf vol (curveTo vol k0 n) tw i j) => And.intro (MV.out _ _ _ _ I0.out.1 V1) (And.intro (MV.out _ _ _ _ I0.out.1 V2) (made_more (MV.out _ _ _ _ I0.out.1 V1) (MV.out _ _ _ _ I0.out.1 V2))))
 have HQ3 := Lib.hid hq3; have HDD := Lib.hid (show 0 ≤ dd ∧ dd ≤ 2000 by omega)
 clear hm0 ht0 hp0 hpi hdi hu hu2 hq3 htw ht2 hdd hd2 hT0 HKA L0 MV CF0 HF0 HSV
 generalize lastX vol = f1 at *
 have fa_ := HX_2.out _ (.tail _ (.tail _ (.head _)))
 have fa_3 := fa_.cell 3
 simp at fa_3
 clear fa_
 have fb_ := HX_2.out _ (.head _)
 have fb_2 := fb_.cell 2
 have fb_3 := fb_.cell 3
 simp at fb_2 fb_3
 clear fb_
 go_wp2_with fail
 refine (CSU.out _).mono ?_
 rintro e z3 ⟨rfl, hq⟩
 have HX_3 := Lib.hid (HX_2.out.on hq); have HB_3 := Lib.hid (below_then HB_2.out hq)
 clear hq HX_2 HB_2 fa_3 fb_2 fb_3 CSU
 go_upto_region 6 with fail
 obtain ⟨LB, hLB⟩ : ∃ x, ([(MF, 55, #[.int .i64 fh, .int .i64 3, .int .i64 p0, .int .i64 p1, .int .i64 d0, .int .i64 d1]), (MH, 35, #[.int .i64 hid, .int .i64 al, .int .i64 ah, .slice A n c, .slice B mm d, .slice C l ee, .int .i64 t0, .int .i64 t1, .int .i64 u0, .int .i64 u1, .int .i64 v0, .int .i64 v1, .int .i64 h0, .int .i64 h1]), ((G + 1 + 1), 27, #[.slice Ca na ca, .slice Cb nb cb, .slice Cc nc cc, .int .i64 pl, .int .i64 de]), ((G + 1), 53, #[.int .i64 x0, .int .i64 x1, .int .i64 x2, .int .i64 x3, .int .i64 x4]), (G, 24, #[.int .i64 id, .int .i64 fi, .slice S sn sc, .slice V vn vc])] : List (Nat × TypeId × Array Value)) = x := ⟨_, rfl⟩
 have hl0 : (MF, 55, #[.int .i64 fh, .int .i64 3, .int .i64 p0, .int .i64 p1, .int .i64 d0, .int .i64 d1]) ∈ LB ∧ (MH, 35, #[.int .i64 hid, .int .i64 al, .int .i64 ah, .slice A n c, .slice B mm d, .slice C l ee, .int .i64 t0, .int .i64 t1, .int .i64 u0, .int .i64 u1, .int .i64 v0, .int .i64 v1, .int .i64 h0, .int .i64 h1]) ∈ LB ∧ ((G + 1 + 1), 27, #[.slice Ca na ca, .slice Cb nb cb, .slice Cc nc cc, .int .i64 pl, .int .i64 de]) ∈ LB ∧ ((G + 1), 53, #[.int .i64 x0, .int .i64 x1, .int .i64 x2, .int .i64 x3, .int .i64 x4]) ∈ LB ∧ (G, 24, #[.int .i64 id, .int .i64 fi, .slice S sn sc, .slice V vn vc]) ∈ LB ∧ True := by rw [← hLB]; simp
 have HL0 := Lib.hid hl0
 have hS0 : BB2 z1 LB z3.drew := ⟨by rw [← hLB]; exact HX_3.out, HB_3.out.drew⟩
 have HLB := Lib.hid hLB
 clear hLB hl0
 refine wp_region_held_drew (S := BB2 z1 LB) (by kernel_rfl) hS0 (fun hHeld => ?_)
 obtain ⟨yq, hW⟩ : ∃ W', z3.drew = W' := ⟨_, rfl⟩
 rw [hW] at hHeld ⊢
 clear hW hS0 HB_3 HX_3 
 refine tK 34 (i := 0) (v := .int .i64 u) rfl rfl (by kernel_rfl) ?_ hHeld ?_
 ·intro w hSw; clear hSw; go_simp; try with_reducible rfl
 simp only [uZ, uS]
 refine tK 35 (i := 1) (v := .pointer (some ⟨MH, 3, none⟩)) rfl rfl (by kernel_rfl) ?_ hHeld ?_
 ·intro w hSw; clear hSw; go_simp; try with_reducible rfl
 simp only [uZ, uS]
 refine tK 36 (i := 2) (v := tv A n c) rfl rfl (by kernel_rfl) ?_ hHeld ?_
 ·intro w hSw; have hz := hSw.1 _ HL0.out.2.1; have c3 := hz.cell 3; simp at c3; clear hz hSw; go_simp; try with_reducible rfl
 simp only [uZ, uS]
 refine tK 39 (i := 5) (v := .pointer (some ⟨(G + 1 + 1), 3, none⟩)) rfl rfl (by kernel_rfl) ?_ hHeld ?_
 ·intro w hSw; clear hSw; go_simp; try with_reducible rfl
 simp only [uZ, uS]
 refine tK 40 (i := 6) (v := .int .i64 pl) rfl rfl (by kernel_rfl) ?_ hHeld ?_
 ·intro w hSw; have hz := hSw.1 _ HL0.out.2.2.1; have c3 := hz.cell 3; simp at c3; clear hz hSw; go_simp; try with_reducible rfl
 simp only [uZ, uS]
 refine tK 41 (i := 7) (v := .int .i64 q3) rfl rfl (by kernel_rfl) ?_ hHeld ?_
 ·intro w hSw; clear hSw; go_simp; first | done | exact HQ3.out
 simp only [uZ, uS]
 refine wpAnyH_ready (rs := [3]) (by kernel_rfl) (by simp) ?_
 refine AllReadyH.cons rfl (fun K hK => ?_) AllReadyH.nil
 go_simp
 (with_reducible refine (CL0.out _ hHeld.be2).mono ?_)
 rintro x y ⟨rfl, hq⟩
 refine hK.out _ _ ⟨hHeld.1.on hq, below_then hHeld.2 hq⟩ (fun hHeld2 => ?_)
 clear hq
 try simp only [Act.put, uA, uZ, uS]
 clear hK K hHeld
 have hHeld := hHeld2
 clear hHeld2
 refine tK 38 (i := 4) (v := rv u f1) rfl rfl (by kernel_rfl) ?_ hHeld ?_
 ·intro w hSw; clear hSw; go_simp; try with_reducible rfl
 simp only [uZ, uS]
 refine wpAnyH_ready (rs := [8]) (by kernel_rfl) (by simp) ?_
 refine AllReadyH.cons rfl (fun K hK => ?_) AllReadyH.nil
 go_simp
 (with_reducible refine (CST.out _).mono ?_)
 rintro x y ⟨rfl, hq⟩
 refine hK.out _ _ ⟨hHeld.1.on hq, below_then hHeld.2 hq⟩ (fun hHeld2 => ?_)
 clear hq
 try simp only [Act.put, uA, uZ, uS]
 clear hK K hHeld
 have hHeld := hHeld2
 clear hHeld2
 refine tK 10 (i := 9) (v := .int .i64 tw) rfl rfl (by kernel_rfl) ?_ hHeld ?_
 ·intro w hSw; clear hSw; go_simp; try with_reducible rfl
 simp only [uZ, uS]
 refine wpAnyH_done (by kernel_rfl) ?_ _
 rename World => zd4
 have HX_4 := Lib.hid (show Boxes zd4 LB from hHeld.1); have HB_4 := Lib.hid hHeld.2
 clear hHeld
 rw [← HLB.out] at HX_4
 clear HLB HL0
 clear CL0 CST HQ3
 go_upto_region 7 with fail
 have fa_ := HX_4.out _ (.tail _ (.tail _ (.head _)))
 have fa_0 := fa_.cell 0
 simp at fa_0
 clear fa_
 have fb_ := HX_4.out _ (.tail _ (.head _))
 have fb_3 := fb_.cell 3
 simp at fb_3
 clear fb_
 go_wp2_with fail
 refine (K0.out _ HB_4.out).mono ?_
 rintro e z5 ⟨cv, rfl, ho, hq⟩
 obtain ⟨qb, qc, rfl, _, clt, hcm⟩ := own_ints_memN ho I0.out.2.1 I0.out.2.2
 have HCI := Lib.hid (show IntsP z5 (some ⟨qb, 0, none⟩) (curveTo vol k0 n) from .inr ⟨qb, 0, rfl, clt, hcm⟩)
 clear ho clt hcm
 have HX_5 := Lib.hid (HX_4.out.on hq); have HB_5 := Lib.hid (below_then HB_4.out hq)
 clear hq HX_4 HB_4 fa_0 fb_3 K0
 go_upto_region 8 with fail
 have fa_ := HX_5.out _ (.tail _ (.head _))
 have fa_3 := fa_.cell 3
 simp at fa_3
 clear fa_
 go_wp2_with fail
 refine (LU.out _ qb qc HB_5.out HCI.out).mono ?_
 rintro e z6 ⟨⟨a, b, rfl, hval⟩, hq⟩
 have HV1 := Lib.hid hval
 have HCI := Lib.hid (HCI.out.below hq)
 clear hval
 have HX_6 := Lib.hid (HX_5.out.on hq); have HB_6 := Lib.hid (below_then HB_5.out hq)
 clear hq HX_5 HB_5 fa_3 LU
 go_upto_region 9 with fail
 have fa_ := HX_6.out _ (.tail _ (.head _))
 have fa_3 := fa_.cell 3
 simp at fa_3
 clear fa_
 go_wp2_with fail
 refine (LT.out _ qb qc HB_6.out HCI.out).mono ?_
 rintro e z7 ⟨⟨i, j, rfl, hval⟩, hq⟩
 have HV2 := Lib.hid hval
 clear hval
 have HX_7 := Lib.hid (HX_6.out.on hq); have HB_7 := Lib.hid (below_then HB_6.out hq)
 clear hq HX_6 HB_6 fa_3 LT HCI
 go_upto_region 10 with fail
 obtain ⟨o1, o2, o3, o4, o5, o6, o7, o8⟩ := BO.out a b i j HV1.out HV2.out
 have hDA := DA.out a b i j HV1.out HV2.out
 have w1 : IntKind.i64.wrap (a * j) = a * j := IntWalk.i64_in _ ⟨by omega, by omega⟩
 have w2 : IntKind.i64.wrap (i * b) = i * b := IntWalk.i64_in _ ⟨by omega, by omega⟩
 have w3 : IntKind.i64.wrap (a * j - i * b) = a * j - i * b := IntWalk.i64_in _ ⟨by omega, by omega⟩
 have ee1 : 1000 * b * j = 1000 * (b * j) := Int.mul_assoc _ _ _
 have w4 : IntKind.i64.wrap (1000 * b) = 1000 * b := IntWalk.i64_in _ ⟨by omega, by omega⟩
 have w5 : IntKind.i64.wrap (1000 * b * j) = 1000 * b * j := IntWalk.i64_in _ ⟨by omega, by omega⟩
 obtain ⟨y1, hy1⟩ : ∃ z, 1000 * b = z := ⟨_, rfl⟩
 rw [hy1] at w5 hDA
 replace w4 := w4.trans hy1
 obtain ⟨y2, hy2⟩ : ∃ z, y1 * j = z := ⟨_, rfl⟩
 rw [hy2] at hDA
 replace w5 := w5.trans hy2
 obtain ⟨n1, hn1⟩ : ∃ z, a * j = z := ⟨_, rfl⟩
 obtain ⟨n2, hn2⟩ : ∃ z, i * b = z := ⟨_, rfl⟩
 rw [hn1, hn2] at w3 hDA
 replace w1 := w1.trans hn1
 replace w2 := w2.trans hn2
 obtain ⟨ls, hls⟩ : ∃ z, n1 - n2 = z := ⟨_, rfl⟩
 rw [hls] at hDA
 replace w3 := w3.trans hls
 have HDA := Lib.hid hDA
 have HW45 := Lib.hid (And.intro w4 w5)
 clear o1 o2 o3 o4 o5 o6 o7 o8 hDA w4 w5 ee1 hy1 hy2 hn1 hn2 hls HV1 HV2 BO DA I0
 go_upto_region 11 with fail
 clear w1 w2 w3
 by_cases gl : ls < 0
 ·have b1 : decide (ls < 0) = true := decide_eq_true gl
  go_wp2_with fail
  refine (msane_any _).mono ?_
  rintro e zz ⟨rfl, hq⟩
  have HBz := Lib.hid (below_then HB_7.out hq)
  clear hq
  go_wp2
  go_ret
  exact ⟨rfl, below_then HQ_1.out HBz.out⟩
 have b1 : decide (ls < 0) = false := decide_eq_false gl
 obtain ⟨⟨g1, g2, g3, g4⟩, p, q, hpq, hlo, hhi⟩ := HDA.out (by omega)
 have w6 : IntKind.i64.wrap (ls * dd) = ls * dd := IntWalk.i64_in _ ⟨by omega, by omega⟩
 have CAR := Lib.hid (fun (W : World) => maround_S (ls * dd) y2 W g1 (by omega) g3 (by omega))
 have CDR := Lib.hid (fun (W : World) (hW : Below z1.heap.size z1 W) => hDraw_any ⟨hid, al, ah, vol, mom, hei, t0, t1, u0, u1, v0, v1, h0, h1⟩ ⟨A, n, c, B, mm, d, C, l, ee⟩ ⟨fh, 3, p0, p1, d0, d1⟩ (aroundS (ls * dd) y2).1 (aroundS (ls * dd) y2).2 W (HIN.out.below hW))
 rw [hpq] at CDR
 obtain ⟨x1', hx1⟩ : ∃ z, ls * dd = z := ⟨_, rfl⟩
 replace w6 := w6.trans hx1
 rw [hx1] at CAR CDR
 obtain ⟨⟨c0, c1⟩, hc⟩ : ∃ z, aroundS x1' y2 = z := ⟨_, rfl⟩
 rw [hc] at CAR CDR
 dsimp only [holdV, holdCells, fillV, ft] at CAR CDR
 have HW6 := Lib.hid w6; have HLO := Lib.hid hlo; have HHI := Lib.hid hhi
 clear HDA g1 g2 g3 g4 w6 hx1 hc hpq hlo hhi HIN gl HDD
 go_upto_region 13 with fail
 clear b1
 have fa_ := HX_7.out _ (.tail _ (.tail _ (.head _)))
 have fa_4 := fa_.cell 4
 simp at fa_4
 clear fa_
 have fb_ := HX_7.out _ (.head _)
 have fb_4 := fb_.cell 4
 have fb_5 := fb_.cell 5
 simp at fb_4 fb_5
 clear fb_
 go_wp2_with fail
 refine (CDE.out _).mono ?_
 rintro e z8 ⟨rfl, hq⟩
 have HX_8 := Lib.hid (HX_7.out.on hq); have HB_8 := Lib.hid (below_then HB_7.out hq)
 clear hq HX_7 HB_7 fa_4 fb_4 fb_5 CDE
 go_upto_region 14 with fail
 obtain ⟨w4, w5⟩ := HW45.out
 have HW4 := Lib.hid w4; have HW5 := Lib.hid w5
 clear w4 w5 HW45
 go_cut [18, 19] (fun s18 s19 wx => ∃ N, s18 = .pointer (some ⟨N, 0, none⟩) ∧ s19 = .int .i64 0 ∧ Boxes wx ((N, 55, #[.int .i64 hid, .int .i64 3, .int .i64 p, .int .i64 q, .int .i64 d0, .int .i64 d1]) :: [(MF, 55, #[.int .i64 fh, .int .i64 3, .int .i64 p0, .int .i64 p1, .int .i64 d0, .int .i64 d1]), (MH, 35, #[.int .i64 hid, .int .i64 al, .int .i64 ah, .slice A n c, .slice B mm d, .slice C l ee, .int .i64 t0, .int .i64 t1, .int .i64 u0, .int .i64 u1, .int .i64 v0, .int .i64 v1, .int .i64 h0, .int .i64 h1]), ((G + 1 + 1), 27, #[.slice Ca na ca, .slice Cb nb cb, .slice Cc nc cc, .int .i64 pl, .int .i64 de]), ((G + 1), 53, #[.int .i64 x0, .int .i64 x1, .int .i64 x2, .int .i64 x3, .int .i64 x4]), (G, 24, #[.int .i64 id, .int .i64 fi, .slice S sn sc, .slice V vn vc])]) ∧ Below z1.heap.size z1 wx)
 case first =>
  obtain ⟨LB, hLB⟩ : ∃ x, ([(MF, 55, #[.int .i64 fh, .int .i64 3, .int .i64 p0, .int .i64 p1, .int .i64 d0, .int .i64 d1]), (MH, 35, #[.int .i64 hid, .int .i64 al, .int .i64 ah, .slice A n c, .slice B mm d, .slice C l ee, .int .i64 t0, .int .i64 t1, .int .i64 u0, .int .i64 u1, .int .i64 v0, .int .i64 v1, .int .i64 h0, .int .i64 h1]), ((G + 1 + 1), 27, #[.slice Ca na ca, .slice Cb nb cb, .slice Cc nc cc, .int .i64 pl, .int .i64 de]), ((G + 1), 53, #[.int .i64 x0, .int .i64 x1, .int .i64 x2, .int .i64 x3, .int .i64 x4]), (G, 24, #[.int .i64 id, .int .i64 fi, .slice S sn sc, .slice V vn vc])] : List (Nat × TypeId × Array Value)) = x := ⟨_, rfl⟩
  have hl0 : (MF, 55, #[.int .i64 fh, .int .i64 3, .int .i64 p0, .int .i64 p1, .int .i64 d0, .int .i64 d1]) ∈ LB ∧ (MH, 35, #[.int .i64 hid, .int .i64 al, .int .i64 ah, .slice A n c, .slice B mm d, .slice C l ee, .int .i64 t0, .int .i64 t1, .int .i64 u0, .int .i64 u1, .int .i64 v0, .int .i64 v1, .int .i64 h0, .int .i64 h1]) ∈ LB ∧ ((G + 1 + 1), 27, #[.slice Ca na ca, .slice Cb nb cb, .slice Cc nc cc, .int .i64 pl, .int .i64 de]) ∈ LB ∧ ((G + 1), 53, #[.int .i64 x0, .int .i64 x1, .int .i64 x2, .int .i64 x3, .int .i64 x4]) ∈ LB ∧ (G, 24, #[.int .i64 id, .int .i64 fi, .slice S sn sc, .slice V vn vc]) ∈ LB ∧ True := by rw [← hLB]; simp
  have HL0 := Lib.hid hl0
  have hS0 : BB2 z1 LB z8.drew := ⟨by rw [← hLB]; exact HX_8.out, HB_8.out.drew⟩
  have HLB := Lib.hid hLB
  clear hLB hl0
  refine wp_region_held_drew (S := BB2 z1 LB) (by kernel_rfl) hS0 (fun hHeld => ?_)
  obtain ⟨yq, hW⟩ : ∃ W', z8.drew = W' := ⟨_, rfl⟩
  rw [hW] at hHeld ⊢
  clear hW hS0 HB_8 HX_8 
  refine tK 81 (i := 0) (v := .agg #[.int .i64 hid, .int .i64 al, .int .i64 ah, .slice A n c, .slice B mm d, .slice C l ee, .int .i64 t0, .int .i64 t1, .int .i64 u0, .int .i64 u1, .int .i64 v0, .int .i64 v1, .int .i64 h0, .int .i64 h1]) rfl rfl (by kernel_rfl) ?_ hHeld ?_
  ·intro w hSw; have hz := hSw.1 _ HL0.out.2.1; have c0 := hz.cell 0; have c1 := hz.cell 1; have c2 := hz.cell 2; have c3 := hz.cell 3; have c4 := hz.cell 4; have c5 := hz.cell 5; have c6 := hz.cell 6; have c7 := hz.cell 7; have c8 := hz.cell 8; have c9 := hz.cell 9; have c10 := hz.cell 10; have c11 := hz.cell 11; have c12 := hz.cell 12; have c13 := hz.cell 13; simp at c0 c1 c2 c3 c4 c5 c6 c7 c8 c9 c10 c11 c12 c13; clear hz hSw; go_simp; try with_reducible rfl
  simp only [uZ, uS]
  refine tK 82 (i := 1) (v := .agg #[.int .i64 fh, .int .i64 3, .int .i64 p0, .int .i64 p1, .int .i64 d0, .int .i64 d1]) rfl rfl (by kernel_rfl) ?_ hHeld ?_
  ·intro w hSw; have hz := hSw.1 _ HL0.out.1; have c0 := hz.cell 0; have c1 := hz.cell 1; have c2 := hz.cell 2; have c3 := hz.cell 3; have c4 := hz.cell 4; have c5 := hz.cell 5; simp at c0 c1 c2 c3 c4 c5; clear hz hSw; go_simp; try with_reducible rfl
  simp only [uZ, uS]
  refine tK 83 (i := 2) (v := .int .i64 ls) rfl rfl (by kernel_rfl) ?_ hHeld ?_
  ·intro w hSw; clear hSw; go_simp; try with_reducible rfl
  simp only [uZ, uS]
  refine tK 84 (i := 3) (v := .int .i64 dd) rfl rfl (by kernel_rfl) ?_ hHeld ?_
  ·intro w hSw; clear hSw; go_simp; try with_reducible rfl
  simp only [uZ, uS]
  refine tK 85 (i := 4) (v := .int .i64 x1') rfl rfl (by kernel_rfl) ?_ hHeld ?_
  ·intro w hSw; clear hSw; go_simp; first | done | exact HW6.out
  simp only [uZ, uS]
  refine tK 86 (i := 5) (v := .int .i64 b) rfl rfl (by kernel_rfl) ?_ hHeld ?_
  ·intro w hSw; clear hSw; go_simp; try with_reducible rfl
  simp only [uZ, uS]
  refine tK 87 (i := 6) (v := .int .i64 y1) rfl rfl (by kernel_rfl) ?_ hHeld ?_
  ·intro w hSw; clear hSw; go_simp; first | done | exact HW4.out
  simp only [uZ, uS]
  refine tK 88 (i := 7) (v := .int .i64 j) rfl rfl (by kernel_rfl) ?_ hHeld ?_
  ·intro w hSw; clear hSw; go_simp; try with_reducible rfl
  simp only [uZ, uS]
  refine tK 89 (i := 8) (v := .int .i64 y2) rfl rfl (by kernel_rfl) ?_ hHeld ?_
  ·intro w hSw; clear hSw; go_simp; first | done | exact HW5.out
  simp only [uZ, uS]
  refine wpAnyH_ready (rs := [9, 14]) (by kernel_rfl) (by simp) ?_
  refine AllReadyH.cons rfl (fun K hK => ?_) (AllReadyH.cons rfl (fun K hK => ?_) AllReadyH.nil)
  ·skip
   go_simp
   (with_reducible refine (CAR.out _).mono ?_)
   rintro x y ⟨rfl, hq⟩
   refine hK.out _ _ ⟨hHeld.1.on hq, below_then hHeld.2 hq⟩ (fun hHeld2 => ?_)
   clear hq
   try simp only [Act.put, uA, uZ, uS]
   clear hK K hHeld
   have hHeld := hHeld2
   clear hHeld2
   refine wpAnyH_ready (rs := [10, 14]) (by kernel_rfl) (by simp) ?_
   refine AllReadyH.cons rfl (fun K hK => ?_) (AllReadyH.cons rfl (fun K hK => ?_) AllReadyH.nil)
   ·skip
    go_simp
    (with_reducible refine (CDR.out _ hHeld.be2).mono ?_)
    rintro x y ⟨rfl, hq⟩
    refine hK.out _ _ ⟨hHeld.1.on hq, below_then hHeld.2 hq⟩ (fun hHeld2 => ?_)
    clear hq
    try simp only [Act.put, uA, uZ, uS]
    clear hK K hHeld
    have hHeld := hHeld2
    clear hHeld2
    refine tK 80 (i := 11) (v := .tuple #[.agg #[.int .i64 hid, .int .i64 3, .int .i64 p, .int .i64 q, .int .i64 d0, .int .i64 d1], .int .i64 0]) rfl rfl (by kernel_rfl) ?_ hHeld ?_
    ·intro w hSw; clear hSw; go_simp; try with_reducible rfl
    simp only [uZ, uS]
    refine tK 92 (i := 12) (v := .agg #[.int .i64 hid, .int .i64 3, .int .i64 p, .int .i64 q, .int .i64 d0, .int .i64 d1]) rfl rfl (by kernel_rfl) ?_ hHeld ?_
    ·intro w hSw; clear hSw; go_simp; try with_reducible rfl
    simp only [uZ, uS]
    refine tK 93 (i := 13) (v := .int .i64 0) rfl rfl (by kernel_rfl) ?_ hHeld ?_
    ·intro w hSw; clear hSw; go_simp; try with_reducible rfl
    simp only [uZ, uS]
    refine wpAnyH_ready (rs := [14]) (by kernel_rfl) (by simp) ?_
    refine AllReadyH.cons rfl (fun K hK => ?_) AllReadyH.nil
    rename World => yq
    go_simp
    have HDN := Lib.hid (boxes_lt hHeld.1); have HZN := Lib.hid hHeld.2.size; have HY := Lib.hid (hHeld.1.new 55 #[.int .i64 0, .int .i64 0, .int .i64 0, .int .i64 0, .int .i64 0, .int .i64 0])
    refine hK.out _ _ ⟨hHeld.1.on (below_alloc1 _ _), below_then hHeld.2 (below_alloc1 _ _)⟩ (fun hHeld2 => ?_)
    try simp only [Act.put, uA, uZ, uS]
    clear hK K hHeld
    have hHeld := hHeld2
    clear hHeld2
    obtain ⟨yr, hW⟩ : ∃ W', yq.alloc (.cells #[.int .i64 0, .int .i64 0, .int .i64 0, .int .i64 0, .int .i64 0, .int .i64 0] 55) = W' := ⟨_, rfl⟩
    rw [hW] at HY hHeld ⊢
    clear hW
    obtain ⟨N9, hN⟩ : ∃ N, yq.heap.size = N := ⟨_, rfl⟩
    rw [hN] at HY HDN HZN ⊢
    clear hN
    refine wpAnyH_ready (rs := [15]) (by kernel_rfl) (by simp) ?_
    refine AllReadyH.cons rfl (fun K hK => ?_) AllReadyH.nil
    rw [if_pos (by kernel_rfl)]
    rename World => yq
    have HXs : Hid (Boxes (yq.setRow N9 #[.int .i64 hid, .int .i64 3, .int .i64 p, .int .i64 q, .int .i64 d0, .int .i64 d1]) ((N9, 55, #[.int .i64 hid, .int .i64 3, .int .i64 p, .int .i64 q, .int .i64 d0, .int .i64 d1]) :: LB)) := Lib.hid (Boxes.row HY.out (.head _) (fun p hp => ⟨.tail _ hp, HDN.out p hp⟩) #[.int .i64 hid, .int .i64 3, .int .i64 p, .int .i64 q, .int .i64 d0, .int .i64 d1])
    have HEs := Lib.hid (below_setRow hHeld.2 (show z1.heap.size ≤ N9 from HZN.out) #[.int .i64 hid, .int .i64 3, .int .i64 p, .int .i64 q, .int .i64 d0, .int .i64 d1])
    refine wp_store_row 55 (.tmp 18) (.tmp 92) rfl N9 #[.int .i64 hid, .int .i64 3, .int .i64 p, .int .i64 q, .int .i64 d0, .int .i64 d1] rfl rfl 55 _ (HY.out _ (.head _)) (by kernel_rfl) rfl (by kernel_rfl) ?_
    refine hK.out _ _ ⟨hHeld.1.farRow (g := N9) HDN.out _, HEs.out⟩ (fun hHeld2 => ?_)
    try simp only [Act.put, uA, uZ, uS]
    clear hK K hHeld
    have hHeld := hHeld2
    clear hHeld2
    refine tK 19 (i := 16) (v := .int .i64 0) rfl rfl (by kernel_rfl) ?_ hHeld ?_
    ·intro w hSw; clear hSw; go_simp; try with_reducible rfl
    simp only [uZ, uS]
    refine wpAnyH_done (by kernel_rfl) ?_ _
    clear hHeld
    go_wp2_with fail
    go_meet
    rw [← HLB.out] at HXs
    exact ⟨N9, rfl, rfl, HXs.out, HEs.out⟩
   ·skip
    rename World => yq
    go_simp
    have HDN := Lib.hid (boxes_lt hHeld.1); have HZN := Lib.hid hHeld.2.size; have HY := Lib.hid (hHeld.1.new 55 #[.int .i64 0, .int .i64 0, .int .i64 0, .int .i64 0, .int .i64 0, .int .i64 0])
    refine hK.out _ _ ⟨hHeld.1.on (below_alloc1 _ _), below_then hHeld.2 (below_alloc1 _ _)⟩ (fun hHeld2 => ?_)
    try simp only [Act.put, uA, uZ, uS]
    clear hK K hHeld
    have hHeld := hHeld2
    clear hHeld2
    obtain ⟨yr, hW⟩ : ∃ W', yq.alloc (.cells #[.int .i64 0, .int .i64 0, .int .i64 0, .int .i64 0, .int .i64 0, .int .i64 0] 55) = W' := ⟨_, rfl⟩
    rw [hW] at HY hHeld ⊢
    clear hW
    obtain ⟨N9, hN⟩ : ∃ N, yq.heap.size = N := ⟨_, rfl⟩
    rw [hN] at HY HDN HZN ⊢
    clear hN
    refine wpAnyH_ready (rs := [10]) (by kernel_rfl) (by simp) ?_
    refine AllReadyH.cons rfl (fun K hK => ?_) AllReadyH.nil
    go_simp
    (with_reducible refine (CDR.out _ hHeld.be2).mono ?_)
    rintro x y ⟨rfl, hq⟩
    have HY := Lib.hid (HY.out.on hq)
    refine hK.out _ _ ⟨hHeld.1.on hq, below_then hHeld.2 hq⟩ (fun hHeld2 => ?_)
    clear hq
    try simp only [Act.put, uA, uZ, uS]
    clear hK K hHeld
    have hHeld := hHeld2
    clear hHeld2
    refine tK 80 (i := 11) (v := .tuple #[.agg #[.int .i64 hid, .int .i64 3, .int .i64 p, .int .i64 q, .int .i64 d0, .int .i64 d1], .int .i64 0]) rfl rfl (by kernel_rfl) ?_ hHeld ?_
    ·intro w hSw; clear hSw; go_simp; try with_reducible rfl
    simp only [uZ, uS]
    refine tK 92 (i := 12) (v := .agg #[.int .i64 hid, .int .i64 3, .int .i64 p, .int .i64 q, .int .i64 d0, .int .i64 d1]) rfl rfl (by kernel_rfl) ?_ hHeld ?_
    ·intro w hSw; clear hSw; go_simp; try with_reducible rfl
    simp only [uZ, uS]
    refine tK 93 (i := 13) (v := .int .i64 0) rfl rfl (by kernel_rfl) ?_ hHeld ?_
    ·intro w hSw; clear hSw; go_simp; try with_reducible rfl
    simp only [uZ, uS]
    refine wpAnyH_ready (rs := [15]) (by kernel_rfl) (by simp) ?_
    refine AllReadyH.cons rfl (fun K hK => ?_) AllReadyH.nil
    rw [if_pos (by kernel_rfl)]
    rename World => yq
    have HXs : Hid (Boxes (yq.setRow N9 #[.int .i64 hid, .int .i64 3, .int .i64 p, .int .i64 q, .int .i64 d0, .int .i64 d1]) ((N9, 55, #[.int .i64 hid, .int .i64 3, .int .i64 p, .int .i64 q, .int .i64 d0, .int .i64 d1]) :: LB)) := Lib.hid (Boxes.row HY.out (.head _) (fun p hp => ⟨.tail _ hp, HDN.out p hp⟩) #[.int .i64 hid, .int .i64 3, .int .i64 p, .int .i64 q, .int .i64 d0, .int .i64 d1])
    have HEs := Lib.hid (below_setRow hHeld.2 (show z1.heap.size ≤ N9 from HZN.out) #[.int .i64 hid, .int .i64 3, .int .i64 p, .int .i64 q, .int .i64 d0, .int .i64 d1])
    refine wp_store_row 55 (.tmp 18) (.tmp 92) rfl N9 #[.int .i64 hid, .int .i64 3, .int .i64 p, .int .i64 q, .int .i64 d0, .int .i64 d1] rfl rfl 55 _ (HY.out _ (.head _)) (by kernel_rfl) rfl (by kernel_rfl) ?_
    refine hK.out _ _ ⟨hHeld.1.farRow (g := N9) HDN.out _, HEs.out⟩ (fun hHeld2 => ?_)
    try simp only [Act.put, uA, uZ, uS]
    clear hK K hHeld
    have hHeld := hHeld2
    clear hHeld2
    refine tK 19 (i := 16) (v := .int .i64 0) rfl rfl (by kernel_rfl) ?_ hHeld ?_
    ·intro w hSw; clear hSw; go_simp; try with_reducible rfl
    simp only [uZ, uS]
    refine wpAnyH_done (by kernel_rfl) ?_ _
    clear hHeld
    go_wp2_with fail
    go_meet
    rw [← HLB.out] at HXs
    exact ⟨N9, rfl, rfl, HXs.out, HEs.out⟩
  ·skip
   rename World => yq
   go_simp
   have HDN := Lib.hid (boxes_lt hHeld.1); have HZN := Lib.hid hHeld.2.size; have HY := Lib.hid (hHeld.1.new 55 #[.int .i64 0, .int .i64 0, .int .i64 0, .int .i64 0, .int .i64 0, .int .i64 0])
   refine hK.out _ _ ⟨hHeld.1.on (below_alloc1 _ _), below_then hHeld.2 (below_alloc1 _ _)⟩ (fun hHeld2 => ?_)
   try simp only [Act.put, uA, uZ, uS]
   clear hK K hHeld
   have hHeld := hHeld2
   clear hHeld2
   obtain ⟨yr, hW⟩ : ∃ W', yq.alloc (.cells #[.int .i64 0, .int .i64 0, .int .i64 0, .int .i64 0, .int .i64 0, .int .i64 0] 55) = W' := ⟨_, rfl⟩
   rw [hW] at HY hHeld ⊢
   clear hW
   obtain ⟨N9, hN⟩ : ∃ N, yq.heap.size = N := ⟨_, rfl⟩
   rw [hN] at HY HDN HZN ⊢
   clear hN
   refine wpAnyH_ready (rs := [9]) (by kernel_rfl) (by simp) ?_
   refine AllReadyH.cons rfl (fun K hK => ?_) AllReadyH.nil
   go_simp
   (with_reducible refine (CAR.out _).mono ?_)
   rintro x y ⟨rfl, hq⟩
   have HY := Lib.hid (HY.out.on hq)
   refine hK.out _ _ ⟨hHeld.1.on hq, below_then hHeld.2 hq⟩ (fun hHeld2 => ?_)
   clear hq
   try simp only [Act.put, uA, uZ, uS]
   clear hK K hHeld
   have hHeld := hHeld2
   clear hHeld2
   refine wpAnyH_ready (rs := [10]) (by kernel_rfl) (by simp) ?_
   refine AllReadyH.cons rfl (fun K hK => ?_) AllReadyH.nil
   go_simp
   (with_reducible refine (CDR.out _ hHeld.be2).mono ?_)
   rintro x y ⟨rfl, hq⟩
   have HY := Lib.hid (HY.out.on hq)
   refine hK.out _ _ ⟨hHeld.1.on hq, below_then hHeld.2 hq⟩ (fun hHeld2 => ?_)
   clear hq
   try simp only [Act.put, uA, uZ, uS]
   clear hK K hHeld
   have hHeld := hHeld2
   clear hHeld2
   refine tK 80 (i := 11) (v := .tuple #[.agg #[.int .i64 hid, .int .i64 3, .int .i64 p, .int .i64 q, .int .i64 d0, .int .i64 d1], .int .i64 0]) rfl rfl (by kernel_rfl) ?_ hHeld ?_
   ·intro w hSw; clear hSw; go_simp; try with_reducible rfl
   simp only [uZ, uS]
   refine tK 92 (i := 12) (v := .agg #[.int .i64 hid, .int .i64 3, .int .i64 p, .int .i64 q, .int .i64 d0, .int .i64 d1]) rfl rfl (by kernel_rfl) ?_ hHeld ?_
   ·intro w hSw; clear hSw; go_simp; try with_reducible rfl
   simp only [uZ, uS]
   refine tK 93 (i := 13) (v := .int .i64 0) rfl rfl (by kernel_rfl) ?_ hHeld ?_
   ·intro w hSw; clear hSw; go_simp; try with_reducible rfl
   simp only [uZ, uS]
   refine wpAnyH_ready (rs := [15]) (by kernel_rfl) (by simp) ?_
   refine AllReadyH.cons rfl (fun K hK => ?_) AllReadyH.nil
   rw [if_pos (by kernel_rfl)]
   rename World => yq
   have HXs : Hid (Boxes (yq.setRow N9 #[.int .i64 hid, .int .i64 3, .int .i64 p, .int .i64 q, .int .i64 d0, .int .i64 d1]) ((N9, 55, #[.int .i64 hid, .int .i64 3, .int .i64 p, .int .i64 q, .int .i64 d0, .int .i64 d1]) :: LB)) := Lib.hid (Boxes.row HY.out (.head _) (fun p hp => ⟨.tail _ hp, HDN.out p hp⟩) #[.int .i64 hid, .int .i64 3, .int .i64 p, .int .i64 q, .int .i64 d0, .int .i64 d1])
   have HEs := Lib.hid (below_setRow hHeld.2 (show z1.heap.size ≤ N9 from HZN.out) #[.int .i64 hid, .int .i64 3, .int .i64 p, .int .i64 q, .int .i64 d0, .int .i64 d1])
   refine wp_store_row 55 (.tmp 18) (.tmp 92) rfl N9 #[.int .i64 hid, .int .i64 3, .int .i64 p, .int .i64 q, .int .i64 d0, .int .i64 d1] rfl rfl 55 _ (HY.out _ (.head _)) (by kernel_rfl) rfl (by kernel_rfl) ?_
   refine hK.out _ _ ⟨hHeld.1.farRow (g := N9) HDN.out _, HEs.out⟩ (fun hHeld2 => ?_)
   try simp only [Act.put, uA, uZ, uS]
   clear hK K hHeld
   have hHeld := hHeld2
   clear hHeld2
   refine tK 19 (i := 16) (v := .int .i64 0) rfl rfl (by kernel_rfl) ?_ hHeld ?_
   ·intro w hSw; clear hSw; go_simp; try with_reducible rfl
   simp only [uZ, uS]
   refine wpAnyH_done (by kernel_rfl) ?_ _
   clear hHeld
   go_wp2_with fail
   go_meet
   rw [← HLB.out] at HXs
   exact ⟨N9, rfl, rfl, HXs.out, HEs.out⟩
 case rest =>
  obtain ⟨MG, rfl, rfl, hX, hB⟩ := hcut
  have HX_10 := Lib.hid hX; have HB_10 := Lib.hid hB
  clear hX hB HX_8 HB_8 CAR CDR HW6 HW4 HW5
  rename World => zr10
  have fa_ := HX_10.out _ (.tail _ (.head _))
  have fa_4 := fa_.cell 4
  have fa_5 := fa_.cell 5
  simp at fa_4 fa_5
  clear fa_
  have fb_ := HX_10.out _ (.head _)
  have fb_0 := fb_.cell 0
  have fb_1 := fb_.cell 1
  have fb_2 := fb_.cell 2
  have fb_3 := fb_.cell 3
  have fb_4 := fb_.cell 4
  have fb_5 := fb_.cell 5
  simp at fb_0 fb_1 fb_2 fb_3 fb_4 fb_5
  clear fb_
  have l1 : decide (p ≤ tw) = true := decide_eq_true HLO.out
  have l2 : decide (tw ≤ q) = true := decide_eq_true HHI.out
  go_wp2_with fail
  refine (msane_any _).mono ?_
  rintro e zz ⟨rfl, hq⟩
  have HBz := Lib.hid (below_then HB_10.out hq)
  clear hq
  go_wp2
  go_ret
  exact ⟨rfl, below_then HQ_1.out HBz.out⟩
end

section
open Go.ChangeShapes Go.WideShapes Go.ChangeAt Go.RowKit Go.Joins

set_option maxRecDepth 100000 in
theorem holdDrawn_lifted (os : Os) (started : os.Started) (H : Type) (enc : TypeId × Value → H) :
    ReturnsInHanded {} Tryz.checked os 5 .any (Rows.holdDrawnSpec.pre6 enc Tryz.prog Tryz.f5 Rows.holdDrawnRow.domain false) (Rows.holdDrawnSpec.post enc Tryz.prog Tryz.f5 false true false false) := by
  refine returnsInHanded_of_change_sized (C := Tryz.checked) own started (by kernel_rfl) Tryz.func5
    (ChangeSpec.witness6 (enc := enc) (C := Tryz.checked) false ⟨#[], #[.agg #[.int .i64 0, .int .i64 0, .slice none 0 0, .slice none 0 0], .agg #[.int .i64 0, .int .i64 0, .int .i64 0, .int .i64 0, .int .i64 0], .agg #[.slice none 0 0, .slice none 0 0, .slice none 0 0, .int .i64 0, .int .i64 0]], []⟩ 8 (by kernel_rfl) (by kernel_rfl) (by kernel_rfl) (by kernel_rfl)) ?_
  intro W base args ds gs before hval0 hW hcnd hsz _
  have hval : ∀ (j : Nat) t v, Tryz.f5.params[j]? = some t → args[j]? = some v → Value.okWide Tryz.prog W .any base t v := hval0
  have hW' := hW
  obtain ⟨p, q, hA0, hV, rfl, hfz, hnd⟩ := hW
  have hA : DataW.TrodAll enc Tryz.prog W 0 (fun _ => true) true Tryz.f5.params.toList args.toList ds p := hA0
  rw [Tryz.params5] at hA hval
  have hsz2 : (DataW.weightsEach Tryz.prog (Tryz.f5.params.toList ++ Rows.holdDrawnSpec.plain.varTypes Tryz.prog) (ds ++ gs)).all (· ≤ reachBytes) = true := hsz
  rw [Tryz.params5] at hsz2
  obtain ⟨v0, v1, v2, d0, d1, d2, p0, p1, p2, hargs, rfl, rfl, h0, h1, h2⟩ := trodAll_three hA
  obtain rfl : args = #[v0, v1, v2] := by cases args; simp_all
  obtain ⟨rfl, rfl⟩ := trodVars_none hV
  have light : ∀ (j : Nat) (t : TypeId) (d : DataW H), ([24, 53, 27] : List TypeId)[j]? = some t → ([d0, d1, d2] : List (DataW H))[j]? = some d → Light t d := fun j t d ht hd n hn => by
    have q := List.all_eq_true.1 hsz2 n (DataW.weights_mem_each (j := j) (t := t) (d := d) (by
      have := List.getElem?_eq_some_iff.1 ht
      obtain ⟨hl, _⟩ := this
      rw [List.getElem?_append_left (by simpa using hl)]
      simpa using ht) (by
      have := List.getElem?_eq_some_iff.1 hd
      obtain ⟨hl, _⟩ := this
      rw [List.getElem?_append_left (by simpa using hl)]
      simpa using hd) n hn)
    simpa using q
  obtain ⟨r, m, rfl, hi⟩ := open_raw (hval 0 24 v0 rfl rfl) h0 (light 0 _ d0 rfl rfl)
  obtain ⟨x0, x1, x2, x3, x4, rfl⟩ := open_five (hval 1 53 v1 rfl rfl) h1
  obtain ⟨Ca, Cb, Cc, na, ca, nb, cb, nc, cc, k0, k1, k2, pl, de, rfl, hka, hkb, hkc⟩ := open_truth (hval 2 27 v2 rfl rfl) h2 (light 2 _ d2 rfl rfl)
  refine (holdDrawn_walk r m x0 x1 x2 x3 x4 Ca Cb Cc na ca nb cb nc cc k0 k1 k2 pl de W hi hka).mono fun e W' ⟨he, hb⟩ => ?_
  subst he
  exact ⟨_, rfl, law_post rfl rfl (by intro t ht; rw [Tryz.params5] at ht
                                      have : t = 24 ∨ t = 53 ∨ t = 27 := by simpa using ht
                                      rcases this with rfl | rfl | rfl <;> exact ⟨by kernel_rfl, of_decide_eq_true (by kernel_rfl)⟩) hW' rfl rfl rfl hb⟩

theorem holdDrawn_holds : Rows.HoldDrawnSaid :=
  OpenClaim.holds_of_wide 5 Tryz.f5 rfl rfl rfl rfl rfl rfl rfl ⟨rfl, rfl, rfl, rfl, rfl⟩ rfl rfl rfl rfl rfl (by kernel_rfl) Tryz.func5 (by kernel_rfl)
    (of_decide_eq_true (by kernel_rfl)) (by unfold Func.isWrapper; rw [if_neg (of_decide_eq_false (by kernel_rfl))]; exact ⟨rfl, rfl⟩)
    (fun os started H enc _ => holdDrawn_lifted os started H enc)
end

end Go.Proofs.YtemlaaipnhmcoaaGreat
