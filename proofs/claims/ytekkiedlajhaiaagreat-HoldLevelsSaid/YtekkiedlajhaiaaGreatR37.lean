/- The walk of HoldLevels: whatever numbers come in, the law returns true. Its conditions: the lists lie in memory and have no more than 2 ^ 62 numbers each. -/
import Derived.Test.YtekkiedlajhaiaaGreatR36
import Derived.Test.YtekkiedlajhaiaaGreatR29
import Derived.Test.YtekkiedlajhaiaaGreatQ98
set_option linter.unusedVariables false
set_option linter.unusedSimpArgs false
set_option linter.constructorNameAsVariable false
namespace Go.Proofs.YtekkiedlajhaiaaGreat

section
open Go.RowKit
attribute [local go_sem ↓] eqlRange neqRange
theorem tank_first {t : TankD} (e : tankS t = true) : firstX t.vol ≤ lastX t.vol := by
  have ht := measures_ok (tank_parts e).1.1
  have hr := rising_pts t.vol (-1) (tabOk_pts ht) (by omega)
  have hl := tabOk_len ht
  have q1 : firstX t.vol = (t.vol[0]'(by omega)).1 := by unfold firstX; rw [List.head?_eq_getElem?, List.getElem?_eq_getElem (show 0 < t.vol.length by omega)]; rfl
  have q2 : lastX t.vol = (t.vol[t.vol.length - 1]'(by omega)).1 := by unfold lastX; rw [List.getLast?_eq_getElem?, List.getElem?_eq_getElem (show t.vol.length - 1 < t.vol.length by omega)]; rfl
  rw [q1, q2]
  rcases Nat.lt_or_ge 1 t.vol.length with g | g
  · exact Int.le_of_lt (List.pairwise_iff_getElem.1 hr 0 (t.vol.length - 1) (by omega) (by omega) (by omega))
  · have : t.vol.length = 1 := by omega
    simp [this]

set_option maxRecDepth 100000 in
set_option maxHeartbeats 4000000 in
theorem holdLevels_walk (r : RawD) (m : RawM) (x0 x1 x2 x3 x4 : Int) (Ca Cb Cc : Option Addr) (na ca nb cb nc cc : Nat) (k0 k1 k2 : List Int) (pl de : Int) (w : World) (hi : RawIn w r m) (hka : na = k0.length ∧ na ≤ 4611686018427387904 ∧ IntsP w Ca k0) (hkb : nb = k1.length ∧ nb ≤ 4611686018427387904 ∧ IntsP w Cb k1) (hkc : nc = k2.length ∧ nc ≤ 4611686018427387904 ∧ IntsP w Cc k2) :
  Calls Tryz.prog 5 #[rawV r m, .agg #[.int .i64 x0, .int .i64 x1, .int .i64 x2, .int .i64 x3, .int .i64 x4], .agg #[.slice Ca na ca, .slice Cb nb cb, .slice Cc nc cc, .int .i64 pl, .int .i64 de]] w fun e w' => e = .returned (.bool true) ∧ Below w.heap.size w w' := by
 obtain ⟨t, hh⟩ : ∃ t, madeT r = t := ⟨_, rfl⟩
 have hS : tankS t = true := by rw [← hh]; exact madeT_valid r
 have C1 := fun (W : World) (hW : Below w.heap.size w W) => smadeTank r m W (hi.below hW)
 rw [hh] at C1
 have hle := tank_first hS
 have htv := measures_ok (tank_parts hS).1.1
 have hpl := tab_places htv
 have hf := madeL_ok hS hle x0 x1 x2 x3 x4
 have CF := fun (W : World) (mm : HoldM) (hm : TankIn W t mm) => slevel_to t mm x0 x1 x2 x3 x4 W hm htv hle hpl.1 hpl.2
 obtain ⟨f, hff⟩ : ∃ f, madeL t x0 x1 x2 x3 x4 = f := ⟨_, rfl⟩
 rw [hff] at hf CF
 obtain ⟨id, fi, st, vs⟩ := r
 obtain ⟨S, sn, sc, V, vn, vc⟩ := m
 have HKA := Lib.hid hka; have HKB := Lib.hid hkb; have HKC := Lib.hid hkc; have HSV := Lib.hid hS; have HF0 := Lib.hid hf
 have C1 := Lib.hid C1; have CF := Lib.hid CF
 clear hi hka hkb hkc hh hle htv hpl hff hS hf
 have HE := Lib.hid (show Below w.heap.size w (((w.alloc (.cells #[.int .i64 id, .int .i64 fi, .slice S sn sc, .slice V vn vc] 41)).alloc (.cells #[.int .i64 x0, .int .i64 x1, .int .i64 x2, .int .i64 x3, .int .i64 x4] 42)).alloc (.cells #[.slice Ca na ca, .slice Cb nb cb, .slice Cc nc cc, .int .i64 pl, .int .i64 de] 45)) from below_a3 (Below.refl _ _))
 have HK := Lib.hid (boxes3' w 41 42 45 #[.int .i64 id, .int .i64 fi, .slice S sn sc, .slice V vn vc] #[.int .i64 x0, .int .i64 x1, .int .i64 x2, .int .i64 x3, .int .i64 x4] #[.slice Ca na ca, .slice Cb nb cb, .slice Cc nc cc, .int .i64 pl, .int .i64 de])
 go_enter Tryz.func5, Tryz.ntmps5
 go_upto_region 1 with fail
 obtain ⟨W0, hW0⟩ : ∃ W0 : World, (((w.alloc (.cells #[.int .i64 id, .int .i64 fi, .slice S sn sc, .slice V vn vc] 41)).alloc (.cells #[.int .i64 x0, .int .i64 x1, .int .i64 x2, .int .i64 x3, .int .i64 x4] 42)).alloc (.cells #[.slice Ca na ca, .slice Cb nb cb, .slice Cc nc cc, .int .i64 pl, .int .i64 de] 45)) = W0 := ⟨_, rfl⟩
 rw [hW0] at HE HK ⊢
 clear hW0
 obtain ⟨G, hG⟩ : ∃ G, w.heap.size = G := ⟨_, rfl⟩
 rw [hG] at HK ⊢
 have HG := Lib.hid hG; clear hG
 have r_ := HK.out _ (.tail _ (.tail _ (.head _)))
 have r_0 := r_.cell 0
 have r_1 := r_.cell 1
 have r_2 := r_.cell 2
 have r_3 := r_.cell 3
 simp at r_0 r_1 r_2 r_3
 clear r_
 go_wp2_with fail
 refine (C1.out _ HE.out).mono ?_
 rintro e y1 ⟨⟨mm, rfl, hin⟩, hq⟩
 have C2 : Hid (∀ W, Below y1.heap.size y1 W → Calls Tryz.prog 26 #[tankV t mm, .agg #[.int .i64 x0, .int .i64 x1, .int .i64 x2, .int .i64 x3, .int .i64 x4]] W fun e w' => e = .returned (levelV f) ∧ Below W.heap.size W w') := Lib.hid fun W hW => CF.out W mm (hin.below hW)
 have D0 : Hid (∀ W, Below y1.heap.size y1 W → Calls Tryz.prog 27 #[tankV t mm, levelV f] W fun e w' => e = .returned (rt ((denL f (ovL t.vol f)).1, (denL f (ovL t.vol f)).2, 0)) ∧ Below W.heap.size W w') := Lib.hid fun W hW => by
  have q := hLiquid_any t mm f W (hin.below hW)
  rw [liq_ok HF0.out] at q
  exact q
 have D1 : Hid (∀ W, Below y1.heap.size y1 W → Calls Tryz.prog 28 #[tankV t mm, levelV f] W fun e w' => e = .returned (rt ((srfB t f).1, (srfB t f).2, 0)) ∧ Below W.heap.size W w') := Lib.hid fun W hW => by
  have q := hSurface_any t mm f W (hin.below hW)
  rw [srf_ok HF0.out] at q
  exact q
 have D2 : Hid (∀ W, Below y1.heap.size y1 W → Calls Tryz.prog 29 #[tankV t mm, levelV f] W fun e w' => e = .returned (wt (denL f (ovL t.vol f)).1 (denL f (ovL t.vol f)).2 t.al t.ah (ovL t.hei f).1 (ovL t.hei f).2 0) ∧ Below W.heap.size W w') := Lib.hid fun W hW => by
  have q := hBallast_any t mm f W (hin.below hW)
  rw [bal_ok HF0.out] at q
  exact q
 have htt0 : tabOk t.vol = true := measures_ok (tank_parts HSV.out).1.1
 have hl2_0 : 2 ≤ t.vol.length := by
  have q := (tank_parts HSV.out).1.1
  unfold measuresS at q
  simp only [Bool.and_eq_true, decide_eq_true_eq] at q
  exact q.1.2
 have K0 : Hid (∀ W, Below y1.heap.size y1 W → Calls Tryz.prog 17 #[tv mm.A mm.n mm.c, .slice Ca na ca] W (GivesInts W (curveTo t.vol k0 mm.n))) := Lib.hid fun W hW => scurve_to mm.A Ca mm.n mm.c na ca t.vol k0 W ((hin.below hW).1) (by have := ((hin.below hW).1).1; have := (tabOk_len htt0).2; omega) (tab_wide htt0) HKA.out.1 HKA.out.2.1 (HKA.out.2.2.below (below_then HE.out (below_then hq hW)))
 have L0 : Hid (∀ (W : World) (u : Int) (cb : Nat) (cc' : Nat), Below y1.heap.size y1 W → IntsP W (some ⟨cb, 0, none⟩) (curveTo t.vol k0 mm.n) → firstX t.vol ≤ u → u ≤ lastX t.vol → Calls Tryz.prog 16 #[tv mm.A mm.n mm.c, .slice (some ⟨cb, 0, none⟩) mm.n cc', .int .i64 u] W fun e w' => (∃ num den, e = .returned (.tuple #[.int .i64 num, .int .i64 den]) ∧ ValOf t.vol (curveTo t.vol k0 mm.n) u num den) ∧ Below W.heap.size W w') := Lib.hid fun W u cb cc' hW hc g1 g2 => by
  have hT := (hin.below hW).1
  exact svalue_to mm.A (some ⟨cb, 0, none⟩) mm.n mm.c mm.n cc' t.vol (curveTo t.vol k0 mm.n) u W hT htt0 (by have := hT.1; omega) (by rw [curveTo_len _ _ _ (Nat.le_of_eq hT.1)]) hc (curve_inTabS k0 htt0 hT.1) g1 g2
 have I0 : Hid (InTab t.vol (curveTo t.vol k0 mm.n) ∧ (curveTo t.vol k0 mm.n).length = mm.n ∧ 0 < mm.n) := Lib.hid ⟨curve_inTabS k0 htt0 hin.1.1, curveTo_len _ _ _ (Nat.le_of_eq hin.1.1), by have := hin.1.1; omega⟩
 have htt1 : tabOk t.sur = true := measures_ok (tank_parts HSV.out).1.2.1
 have hl2_1 : 2 ≤ t.sur.length := by
  have q := (tank_parts HSV.out).1.2.1
  unfold measuresS at q
  simp only [Bool.and_eq_true, decide_eq_true_eq] at q
  exact q.1.2
 have K1 : Hid (∀ W, Below y1.heap.size y1 W → Calls Tryz.prog 17 #[tv mm.B mm.m mm.d, .slice Cb nb cb] W (GivesInts W (curveTo t.sur k1 mm.m))) := Lib.hid fun W hW => scurve_to mm.B Cb mm.m mm.d nb cb t.sur k1 W ((hin.below hW).2.1) (by have := ((hin.below hW).2.1).1; have := (tabOk_len htt1).2; omega) (tab_wide htt1) HKB.out.1 HKB.out.2.1 (HKB.out.2.2.below (below_then HE.out (below_then hq hW)))
 have L1 : Hid (∀ (W : World) (u : Int) (cb : Nat) (cc' : Nat), Below y1.heap.size y1 W → IntsP W (some ⟨cb, 0, none⟩) (curveTo t.sur k1 mm.m) → firstX t.sur ≤ u → u ≤ lastX t.sur → Calls Tryz.prog 16 #[tv mm.B mm.m mm.d, .slice (some ⟨cb, 0, none⟩) mm.m cc', .int .i64 u] W fun e w' => (∃ num den, e = .returned (.tuple #[.int .i64 num, .int .i64 den]) ∧ ValOf t.sur (curveTo t.sur k1 mm.m) u num den) ∧ Below W.heap.size W w') := Lib.hid fun W u cb cc' hW hc g1 g2 => by
  have hT := (hin.below hW).2.1
  exact svalue_to mm.B (some ⟨cb, 0, none⟩) mm.m mm.d mm.m cc' t.sur (curveTo t.sur k1 mm.m) u W hT htt1 (by have := hT.1; omega) (by rw [curveTo_len _ _ _ (Nat.le_of_eq hT.1)]) hc (curve_inTabS k1 htt1 hT.1) g1 g2
 have I1 : Hid (InTab t.sur (curveTo t.sur k1 mm.m) ∧ (curveTo t.sur k1 mm.m).length = mm.m ∧ 0 < mm.m) := Lib.hid ⟨curve_inTabS k1 htt1 hin.2.1.1, curveTo_len _ _ _ (Nat.le_of_eq hin.2.1.1), by have := hin.2.1.1; omega⟩
 have htt2 : tabOk t.hei = true := measures_ok (tank_parts HSV.out).1.2.2
 have hl2_2 : 2 ≤ t.hei.length := by
  have q := (tank_parts HSV.out).1.2.2
  unfold measuresS at q
  simp only [Bool.and_eq_true, decide_eq_true_eq] at q
  exact q.1.2
 have K2 : Hid (∀ W, Below y1.heap.size y1 W → Calls Tryz.prog 17 #[tv mm.C mm.l mm.e, .slice Cc nc cc] W (GivesInts W (curveTo t.hei k2 mm.l))) := Lib.hid fun W hW => scurve_to mm.C Cc mm.l mm.e nc cc t.hei k2 W ((hin.below hW).2.2) (by have := ((hin.below hW).2.2).1; have := (tabOk_len htt2).2; omega) (tab_wide htt2) HKC.out.1 HKC.out.2.1 (HKC.out.2.2.below (below_then HE.out (below_then hq hW)))
 have L2 : Hid (∀ (W : World) (u : Int) (cb : Nat) (cc' : Nat), Below y1.heap.size y1 W → IntsP W (some ⟨cb, 0, none⟩) (curveTo t.hei k2 mm.l) → firstX t.hei ≤ u → u ≤ lastX t.hei → Calls Tryz.prog 16 #[tv mm.C mm.l mm.e, .slice (some ⟨cb, 0, none⟩) mm.l cc', .int .i64 u] W fun e w' => (∃ num den, e = .returned (.tuple #[.int .i64 num, .int .i64 den]) ∧ ValOf t.hei (curveTo t.hei k2 mm.l) u num den) ∧ Below W.heap.size W w') := Lib.hid fun W u cb cc' hW hc g1 g2 => by
  have hT := (hin.below hW).2.2
  exact svalue_to mm.C (some ⟨cb, 0, none⟩) mm.l mm.e mm.l cc' t.hei (curveTo t.hei k2 mm.l) u W hT htt2 (by have := hT.1; omega) (by rw [curveTo_len _ _ _ (Nat.le_of_eq hT.1)]) hc (curve_inTabS k2 htt2 hT.1) g1 g2
 have I2 : Hid (InTab t.hei (curveTo t.hei k2 mm.l) ∧ (curveTo t.hei k2 mm.l).length = mm.l ∧ 0 < mm.l) := Lib.hid ⟨curve_inTabS k2 htt2 hin.2.2.1, curveTo_len _ _ _ (Nat.le_of_eq hin.2.2.1), by have := hin.2.2.1; omega⟩
 have PL : Hid (firstX t.vol = firstX t.sur ∧ lastX t.vol = lastX t.sur ∧ firstX t.vol = firstX t.hei ∧ lastX t.vol = lastX t.hei ∧ 0 ≤ firstX t.vol ∧ lastX t.vol ≤ 1000000) := Lib.hid (by
  have q1 := (tank_parts HSV.out).2.1; have q2 := (tank_parts HSV.out).2.2
  have q3 := tab_places htt0
  unfold alongS at q1 q2
  simp only [Bool.and_eq_true, decide_eq_true_eq] at q1 q2
  omega)
 have BA : Hid (∀ u d n1 e1 n2 e2 n3 e3 : Int, f.s0 ≤ u ∧ u ≤ f.s1 → f.d0 ≤ d ∧ d ≤ f.d1 → ValOf t.vol (curveTo t.vol k0 mm.n) u n1 e1 → ValOf t.sur (curveTo t.sur k1 mm.m) u n2 e2 → ValOf t.hei (curveTo t.hei k2 mm.l) u n3 e3 → _) := Lib.hid fun u d n1 e1 n2 e2 n3 e3 hu hd g1 g2 g3 => levels_all HF0.out hu hd I0.out.1 g1 I1.out.1 g2 I2.out.1 g3
 have FD : Hid (inB f.s0 f.s1 (firstX t.vol) (lastX t.vol) = true ∧ (100 ≤ f.d0 ∧ f.d0 ≤ f.d1 ∧ f.d1 ≤ 2000)) := Lib.hid ⟨level_place HF0.out, dens_in (level_dens HF0.out)⟩
 have HK1 := Lib.hid ((HK.out.on hq).new 69 (tankCells t mm)); have HY1 := Lib.hid (below_alloc1 y1 (.cells (tankCells t mm) 69))
 have HE1 := Lib.hid (below_then HE.out hq)
 clear hq hin htt0 htt1 htt2 hl2_0 hl2_1 hl2_2 C1 CF HSV HF0 HE HK r_0 r_1 r_2 r_3 HKA HKB HKC
 generalize denL f (ovL t.vol f) = MA at *
 generalize srfB t f = SB at *
 generalize ovL t.hei f = HO at *
 obtain ⟨tid, al, ah, vol, sur, hei⟩ := t
 obtain ⟨A, n, c, B, mm, d, C, l, ee⟩ := mm
 obtain ⟨tk, pr, p0, p1, d0, d1⟩ := f
 obtain ⟨ma, mb⟩ := MA
 obtain ⟨sa, sb⟩ := SB
 obtain ⟨ia, ib⟩ := HO
 dsimp only at C2 D0 D1 D2 K0 K1 K2 L0 L1 L2 I0 I1 I2 PL BA FD HK1
 go_upto_region 2 with fail
 obtain ⟨W1, hW⟩ : ∃ W', y1.alloc (.cells #[.int .i64 tid, .int .i64 al, .int .i64 ah, .slice A n c, .slice B mm d, .slice C l ee] 69) = W' := ⟨_, rfl⟩
 rw [hW] at HK1 HY1 ⊢
 clear hW
 obtain ⟨N7, hN⟩ : ∃ n, y1.heap.size = n := ⟨_, rfl⟩
 rw [hN] at HK1 ⊢
 clear hN
 have h_ := HK1.out _ (.head _)
 have h_0 := h_.cell 0
 have h_1 := h_.cell 1
 have h_2 := h_.cell 2
 have h_3 := h_.cell 3
 have h_4 := h_.cell 4
 have h_5 := h_.cell 5
 simp at h_0 h_1 h_2 h_3 h_4 h_5
 clear h_
 have x_ := HK1.out _ (.tail _ (.tail _ (.head _)))
 have x_0 := x_.cell 0
 have x_1 := x_.cell 1
 have x_2 := x_.cell 2
 have x_3 := x_.cell 3
 have x_4 := x_.cell 4
 simp at x_0 x_1 x_2 x_3 x_4
 clear x_
 go_wp2_with fail
 refine (C2.out _ HY1.out).mono ?_
 rintro e y2 ⟨rfl, hq⟩
 have HK3 := Lib.hid ((HK1.out.on hq).new 72 #[.int .i64 tk, .bool pr, .int .i64 p0, .int .i64 p1, .int .i64 d0, .int .i64 d1]); have HY3 := Lib.hid (below_then (below_then HY1.out hq) (below_alloc1 y2 (.cells #[.int .i64 tk, .bool pr, .int .i64 p0, .int .i64 p1, .int .i64 d0, .int .i64 d1] 72)))
 clear hq HK1 HY1 C2 h_0 h_1 h_2 h_3 h_4 h_5 x_0 x_1 x_2 x_3 x_4
 go_upto_region 3 with fail
 obtain ⟨W2, hW⟩ : ∃ W', y2.alloc (.cells #[.int .i64 tk, .bool pr, .int .i64 p0, .int .i64 p1, .int .i64 d0, .int .i64 d1] 72) = W' := ⟨_, rfl⟩
 rw [hW] at HK3 HY3 ⊢
 clear hW
 obtain ⟨N8, hN⟩ : ∃ n, y2.heap.size = n := ⟨_, rfl⟩
 rw [hN] at HK3 ⊢
 clear hN
 have pab := FD.out.1
 simp only [inB, decide_eq_true_eq] at pab
 have dab := FD.out.2
 have plq := PL.out
 obtain ⟨u, hu⟩ : ∃ u, p0 + pl % (p1 - p0 + 1) = u := ⟨_, rfl⟩
 obtain ⟨dd, hdd⟩ : ∃ u, d0 + de % (d1 - d0 + 1) = u := ⟨_, rfl⟩
 obtain ⟨b0, c0⟩ := emod_in pl (show (0 : Int) < p1 - p0 + 1 by omega)
 obtain ⟨b1, c1⟩ := emod_in de (show (0 : Int) < d1 - d0 + 1 by omega)
 have HU : Hid (p0 ≤ u ∧ u ≤ p1 ∧ firstX vol ≤ u ∧ u ≤ lastX vol ∧ firstX sur ≤ u ∧ u ≤ lastX sur ∧ firstX hei ≤ u ∧ u ≤ lastX hei) := Lib.hid (by omega)
 have HDD : Hid (d0 ≤ dd ∧ dd ≤ d1) := Lib.hid (by omega)
 have CSO : Hid (∀ W, Calls Tryz.prog 14 #[rv p0 p1, .int .i64 pl] W fun e w' => e = .returned (.int .i64 u) ∧ Below W.heap.size W w') := Lib.hid fun W => int_to (msomewhere_to p0 p1 pl W (by omega) (by omega) (by omega)) hu
 have CDE : Hid (∀ W, Calls Tryz.prog 15 #[rv d0 d1, .int .i64 de] W fun e w' => e = .returned (.int .i64 dd) ∧ Below W.heap.size W w') := Lib.hid fun W => int_to (mdense_to d0 d1 de W (by omega) (by omega) (by omega)) hdd
 clear pab dab plq hu hdd b0 b1 c0 c1
 have f_ := HK3.out _ (.head _)
 have f_2 := f_.cell 2
 have f_3 := f_.cell 3
 simp at f_2 f_3
 clear f_
 have y_ := HK3.out _ (.tail _ (.tail _ (.head _)))
 have y_3 := y_.cell 3
 simp at y_3
 clear y_
 go_wp2_with fail
 refine (CSO.out _).mono ?_
 rintro e y4 ⟨rfl, hq⟩
 have HK4 := Lib.hid (HK3.out.on hq); have HY4 := Lib.hid (below_then HY3.out hq)
 clear hq CSO HK3 HY3 f_2 f_3 y_3
 have f_ := HK4.out _ (.head _)
 have f_4 := f_.cell 4
 have f_5 := f_.cell 5
 simp at f_4 f_5
 clear f_
 have y_ := HK4.out _ (.tail _ (.tail _ (.head _)))
 have y_4 := y_.cell 4
 simp at y_4
 clear y_
 go_wp2_with fail
 refine (CDE.out _).mono ?_
 rintro e y5 ⟨rfl, hq⟩
 have HK5 := Lib.hid (HK4.out.on hq); have HY5 := Lib.hid (below_then HY4.out hq)
 clear hq CDE HK4 HY4 f_4 f_5 y_4
 go_upto_region 5 with fail
 rename World => z0
 obtain ⟨LB, hLB⟩ : ∃ x, ([(N8, 72, #[.int .i64 tk, .bool pr, .int .i64 p0, .int .i64 p1, .int .i64 d0, .int .i64 d1]), (N7, 69, #[.int .i64 tid, .int .i64 al, .int .i64 ah, .slice A n c, .slice B mm d, .slice C l ee]), (G + 1 + 1, 45, #[.slice Ca na ca, .slice Cb nb cb, .slice Cc nc cc, .int .i64 pl, .int .i64 de]), (G + 1, 42, #[.int .i64 x0, .int .i64 x1, .int .i64 x2, .int .i64 x3, .int .i64 x4]), (G, 41, #[.int .i64 id, .int .i64 fi, .slice S sn sc, .slice V vn vc])] : List (Nat × TypeId × Array Value)) = x := ⟨_, rfl⟩
 have hl0 : (N7, 69, #[.int .i64 tid, .int .i64 al, .int .i64 ah, .slice A n c, .slice B mm d, .slice C l ee]) ∈ LB ∧ (G + 1 + 1, 45, #[.slice Ca na ca, .slice Cb nb cb, .slice Cc nc cc, .int .i64 pl, .int .i64 de]) ∈ LB := by rw [← hLB]; simp
 have HL0 := Lib.hid hl0
 have HX0 := Lib.hid (show Boxes z0 LB by rw [← hLB]; exact HK5.out); have HB0 := HY5
 have HLB := Lib.hid hLB
 clear HK5 HY5 hl0 hLB
 have hS0 : BB2 y1 LB z0.drew := ⟨HX0.out, HB0.out.drew⟩
 refine wp_region_held_drew (S := BB2 y1 LB) (by kernel_rfl) hS0 (fun hHeld => ?_)
 obtain ⟨yq, hW⟩ : ∃ W', z0.drew = W' := ⟨_, rfl⟩
 rw [hW] at hHeld ⊢
 clear hW hS0 HX0 HB0
 refine tK 39 (i := 0) (v := .pointer (some ⟨N7, 3, none⟩)) rfl rfl (by kernel_rfl) ?_ hHeld ?_
 ·intro w hSw; clear hSw; go_simp; try with_reducible rfl
 simp only [uZ, uS]
 refine tK 40 (i := 1) (v := tv A n c) rfl rfl (by kernel_rfl) ?_ hHeld ?_
 ·intro w hSw; have cx := (hSw.1 _ HL0.out.1).cell 3; simp at cx; clear hSw; go_simp; try with_reducible rfl
 simp only [uZ, uS]
 refine tK 41 (i := 2) (v := .pointer (some ⟨N7, 3, none⟩)) rfl rfl (by kernel_rfl) ?_ hHeld ?_
 ·intro w hSw; clear hSw; go_simp; try with_reducible rfl
 simp only [uZ, uS]
 refine tK 42 (i := 3) (v := tv A n c) rfl rfl (by kernel_rfl) ?_ hHeld ?_
 ·intro w hSw; have cx := (hSw.1 _ HL0.out.1).cell 3; simp at cx; clear hSw; go_simp; try with_reducible rfl
 simp only [uZ, uS]
 refine tK 43 (i := 4) (v := .pointer (some ⟨G + 1 + 1, 0, none⟩)) rfl rfl (by kernel_rfl) ?_ hHeld ?_
 ·intro w hSw; clear hSw; go_simp; try with_reducible rfl
 simp only [uZ, uS]
 refine tK 44 (i := 5) (v := .pointer (some ⟨G + 1 + 1, 0, none⟩)) rfl rfl (by kernel_rfl) ?_ hHeld ?_
 ·intro w hSw; clear hSw; go_simp; try with_reducible rfl
 simp only [uZ, uS]
 refine tK 45 (i := 6) (v := .slice Ca na ca) rfl rfl (by kernel_rfl) ?_ hHeld ?_
 ·intro w hSw; have cx := (hSw.1 _ HL0.out.2).cell 0; simp at cx; clear hSw; go_simp; try with_reducible rfl
 simp only [uZ, uS]
 refine tK 47 (i := 8) (v := .int .i64 u) rfl rfl (by kernel_rfl) ?_ hHeld ?_
 ·intro w hSw; clear hSw; go_simp; try with_reducible rfl
 simp only [uZ, uS]
 refine wpAnyH_ready (rs := [7]) (by kernel_rfl) (by simp) ?_
 refine AllReadyH.cons rfl (fun K hK => ?_) AllReadyH.nil
 go_simp
 (with_reducible refine (K0.out _ hHeld.be2).mono ?_)
 rintro x y ⟨cv, rfl, ho, hq⟩
 obtain ⟨qb, qc, rfl, _, clt, hcm⟩ := own_ints_memN ho I0.out.2.1 I0.out.2.2
 have HCI := Lib.hid (show IntsP y (some ⟨qb, 0, none⟩) (curveTo vol k0 n) from .inr ⟨qb, 0, rfl, clt, hcm⟩)
 refine hK.out _ _ ⟨hHeld.1.on hq, below_then hHeld.2 hq⟩ (fun hHeld2 => ?_)
 clear hq ho clt hcm
 try simp only [Act.put, uA, uZ, uS]
 clear hK K hHeld
 have hHeld := hHeld2
 clear hHeld2
 refine wpAnyH_ready (rs := [9]) (by kernel_rfl) (by simp) ?_
 refine AllReadyH.cons rfl (fun K hK => ?_) AllReadyH.nil
 go_simp
 (with_reducible refine (L0.out _ u qb qc hHeld.be2 HCI.out HU.out.2.2.1 HU.out.2.2.2.1).mono ?_)
 rintro x y ⟨⟨n1, e1, rfl, hval⟩, hq⟩
 have HV0 := Lib.hid hval
 refine hK.out _ _ ⟨hHeld.1.on hq, below_then hHeld.2 hq⟩ (fun hHeld2 => ?_)
 clear hq hval HCI
 try simp only [Act.put, uA, uZ, uS]
 clear hK K hHeld
 have hHeld := hHeld2
 clear hHeld2
 refine tK 38 (i := 10) (v := .tuple #[.int .i64 n1, .int .i64 e1]) rfl rfl (by kernel_rfl) ?_ hHeld ?_
 ·intro w hSw; clear hSw; go_simp; try with_reducible rfl
 simp only [uZ, uS]
 refine tK 49 (i := 11) (v := .int .i64 n1) rfl rfl (by kernel_rfl) ?_ hHeld ?_
 ·intro w hSw; clear hSw; go_simp; try with_reducible rfl
 simp only [uZ, uS]
 refine tK 50 (i := 12) (v := .int .i64 e1) rfl rfl (by kernel_rfl) ?_ hHeld ?_
 ·intro w hSw; clear hSw; go_simp; try with_reducible rfl
 simp only [uZ, uS]
 refine tK 11 (i := 13) (v := .int .i64 n1) rfl rfl (by kernel_rfl) ?_ hHeld ?_
 ·intro w hSw; clear hSw; go_simp; try with_reducible rfl
 simp only [uZ, uS]
 refine tK 12 (i := 14) (v := .int .i64 e1) rfl rfl (by kernel_rfl) ?_ hHeld ?_
 ·intro w hSw; clear hSw; go_simp; try with_reducible rfl
 simp only [uZ, uS]
 refine wpAnyH_done (by kernel_rfl) ?_ _
 rename World => z1
 have HX1 := Lib.hid (show Boxes z1 LB from hHeld.1); have HB1 := Lib.hid hHeld.2
 clear hHeld K0 L0 I0
 go_upto_region 6 with fail
 have hS0 : BB2 y1 LB z1.drew := ⟨HX1.out, HB1.out.drew⟩
 refine wp_region_held_drew (S := BB2 y1 LB) (by kernel_rfl) hS0 (fun hHeld => ?_)
 obtain ⟨yq, hW⟩ : ∃ W', z1.drew = W' := ⟨_, rfl⟩
 rw [hW] at hHeld ⊢
 clear hW hS0 HX1 HB1
 refine tK 52 (i := 0) (v := .pointer (some ⟨N7, 4, none⟩)) rfl rfl (by kernel_rfl) ?_ hHeld ?_
 ·intro w hSw; clear hSw; go_simp; try with_reducible rfl
 simp only [uZ, uS]
 refine tK 53 (i := 1) (v := tv B mm d) rfl rfl (by kernel_rfl) ?_ hHeld ?_
 ·intro w hSw; have cx := (hSw.1 _ HL0.out.1).cell 4; simp at cx; clear hSw; go_simp; try with_reducible rfl
 simp only [uZ, uS]
 refine tK 54 (i := 2) (v := .pointer (some ⟨N7, 4, none⟩)) rfl rfl (by kernel_rfl) ?_ hHeld ?_
 ·intro w hSw; clear hSw; go_simp; try with_reducible rfl
 simp only [uZ, uS]
 refine tK 55 (i := 3) (v := tv B mm d) rfl rfl (by kernel_rfl) ?_ hHeld ?_
 ·intro w hSw; have cx := (hSw.1 _ HL0.out.1).cell 4; simp at cx; clear hSw; go_simp; try with_reducible rfl
 simp only [uZ, uS]
 refine tK 56 (i := 4) (v := .pointer (some ⟨G + 1 + 1, 0, none⟩)) rfl rfl (by kernel_rfl) ?_ hHeld ?_
 ·intro w hSw; clear hSw; go_simp; try with_reducible rfl
 simp only [uZ, uS]
 refine tK 57 (i := 5) (v := .pointer (some ⟨G + 1 + 1, 1, none⟩)) rfl rfl (by kernel_rfl) ?_ hHeld ?_
 ·intro w hSw; clear hSw; go_simp; try with_reducible rfl
 simp only [uZ, uS]
 refine tK 58 (i := 6) (v := .slice Cb nb cb) rfl rfl (by kernel_rfl) ?_ hHeld ?_
 ·intro w hSw; have cx := (hSw.1 _ HL0.out.2).cell 1; simp at cx; clear hSw; go_simp; try with_reducible rfl
 simp only [uZ, uS]
 refine tK 60 (i := 8) (v := .int .i64 u) rfl rfl (by kernel_rfl) ?_ hHeld ?_
 ·intro w hSw; clear hSw; go_simp; try with_reducible rfl
 simp only [uZ, uS]
 refine wpAnyH_ready (rs := [7]) (by kernel_rfl) (by simp) ?_
 refine AllReadyH.cons rfl (fun K hK => ?_) AllReadyH.nil
 go_simp
 (with_reducible refine (K1.out _ hHeld.be2).mono ?_)
 rintro x y ⟨cv, rfl, ho, hq⟩
 obtain ⟨qb, qc, rfl, _, clt, hcm⟩ := own_ints_memN ho I1.out.2.1 I1.out.2.2
 have HCI := Lib.hid (show IntsP y (some ⟨qb, 0, none⟩) (curveTo sur k1 mm) from .inr ⟨qb, 0, rfl, clt, hcm⟩)
 refine hK.out _ _ ⟨hHeld.1.on hq, below_then hHeld.2 hq⟩ (fun hHeld2 => ?_)
 clear hq ho clt hcm
 try simp only [Act.put, uA, uZ, uS]
 clear hK K hHeld
 have hHeld := hHeld2
 clear hHeld2
 refine wpAnyH_ready (rs := [9]) (by kernel_rfl) (by simp) ?_
 refine AllReadyH.cons rfl (fun K hK => ?_) AllReadyH.nil
 go_simp
 (with_reducible refine (L1.out _ u qb qc hHeld.be2 HCI.out HU.out.2.2.2.2.1 HU.out.2.2.2.2.2.1).mono ?_)
 rintro x y ⟨⟨n2, e2, rfl, hval⟩, hq⟩
 have HV1 := Lib.hid hval
 refine hK.out _ _ ⟨hHeld.1.on hq, below_then hHeld.2 hq⟩ (fun hHeld2 => ?_)
 clear hq hval HCI
 try simp only [Act.put, uA, uZ, uS]
 clear hK K hHeld
 have hHeld := hHeld2
 clear hHeld2
 refine tK 51 (i := 10) (v := .tuple #[.int .i64 n2, .int .i64 e2]) rfl rfl (by kernel_rfl) ?_ hHeld ?_
 ·intro w hSw; clear hSw; go_simp; try with_reducible rfl
 simp only [uZ, uS]
 refine tK 62 (i := 11) (v := .int .i64 n2) rfl rfl (by kernel_rfl) ?_ hHeld ?_
 ·intro w hSw; clear hSw; go_simp; try with_reducible rfl
 simp only [uZ, uS]
 refine tK 63 (i := 12) (v := .int .i64 e2) rfl rfl (by kernel_rfl) ?_ hHeld ?_
 ·intro w hSw; clear hSw; go_simp; try with_reducible rfl
 simp only [uZ, uS]
 refine tK 13 (i := 13) (v := .int .i64 n2) rfl rfl (by kernel_rfl) ?_ hHeld ?_
 ·intro w hSw; clear hSw; go_simp; try with_reducible rfl
 simp only [uZ, uS]
 refine tK 14 (i := 14) (v := .int .i64 e2) rfl rfl (by kernel_rfl) ?_ hHeld ?_
 ·intro w hSw; clear hSw; go_simp; try with_reducible rfl
 simp only [uZ, uS]
 refine wpAnyH_done (by kernel_rfl) ?_ _
 rename World => z2
 have HX2 := Lib.hid (show Boxes z2 LB from hHeld.1); have HB2 := Lib.hid hHeld.2
 clear hHeld K1 L1 I1
 go_upto_region 7 with fail
 have hS0 : BB2 y1 LB z2.drew := ⟨HX2.out, HB2.out.drew⟩
 refine wp_region_held_drew (S := BB2 y1 LB) (by kernel_rfl) hS0 (fun hHeld => ?_)
 obtain ⟨yq, hW⟩ : ∃ W', z2.drew = W' := ⟨_, rfl⟩
 rw [hW] at hHeld ⊢
 clear hW hS0 HX2 HB2
 refine tK 65 (i := 0) (v := .pointer (some ⟨N7, 5, none⟩)) rfl rfl (by kernel_rfl) ?_ hHeld ?_
 ·intro w hSw; clear hSw; go_simp; try with_reducible rfl
 simp only [uZ, uS]
 refine tK 66 (i := 1) (v := tv C l ee) rfl rfl (by kernel_rfl) ?_ hHeld ?_
 ·intro w hSw; have cx := (hSw.1 _ HL0.out.1).cell 5; simp at cx; clear hSw; go_simp; try with_reducible rfl
 simp only [uZ, uS]
 refine tK 67 (i := 2) (v := .pointer (some ⟨N7, 5, none⟩)) rfl rfl (by kernel_rfl) ?_ hHeld ?_
 ·intro w hSw; clear hSw; go_simp; try with_reducible rfl
 simp only [uZ, uS]
 refine tK 68 (i := 3) (v := tv C l ee) rfl rfl (by kernel_rfl) ?_ hHeld ?_
 ·intro w hSw; have cx := (hSw.1 _ HL0.out.1).cell 5; simp at cx; clear hSw; go_simp; try with_reducible rfl
 simp only [uZ, uS]
 refine tK 69 (i := 4) (v := .pointer (some ⟨G + 1 + 1, 0, none⟩)) rfl rfl (by kernel_rfl) ?_ hHeld ?_
 ·intro w hSw; clear hSw; go_simp; try with_reducible rfl
 simp only [uZ, uS]
 refine tK 70 (i := 5) (v := .pointer (some ⟨G + 1 + 1, 2, none⟩)) rfl rfl (by kernel_rfl) ?_ hHeld ?_
 ·intro w hSw; clear hSw; go_simp; try with_reducible rfl
 simp only [uZ, uS]
 refine tK 71 (i := 6) (v := .slice Cc nc cc) rfl rfl (by kernel_rfl) ?_ hHeld ?_
 ·intro w hSw; have cx := (hSw.1 _ HL0.out.2).cell 2; simp at cx; clear hSw; go_simp; try with_reducible rfl
 simp only [uZ, uS]
 refine tK 73 (i := 8) (v := .int .i64 u) rfl rfl (by kernel_rfl) ?_ hHeld ?_
 ·intro w hSw; clear hSw; go_simp; try with_reducible rfl
 simp only [uZ, uS]
 refine wpAnyH_ready (rs := [7]) (by kernel_rfl) (by simp) ?_
 refine AllReadyH.cons rfl (fun K hK => ?_) AllReadyH.nil
 go_simp
 (with_reducible refine (K2.out _ hHeld.be2).mono ?_)
 rintro x y ⟨cv, rfl, ho, hq⟩
 obtain ⟨qb, qc, rfl, _, clt, hcm⟩ := own_ints_memN ho I2.out.2.1 I2.out.2.2
 have HCI := Lib.hid (show IntsP y (some ⟨qb, 0, none⟩) (curveTo hei k2 l) from .inr ⟨qb, 0, rfl, clt, hcm⟩)
 refine hK.out _ _ ⟨hHeld.1.on hq, below_then hHeld.2 hq⟩ (fun hHeld2 => ?_)
 clear hq ho clt hcm
 try simp only [Act.put, uA, uZ, uS]
 clear hK K hHeld
 have hHeld := hHeld2
 clear hHeld2
 refine wpAnyH_ready (rs := [9]) (by kernel_rfl) (by simp) ?_
 refine AllReadyH.cons rfl (fun K hK => ?_) AllReadyH.nil
 go_simp
 (with_reducible refine (L2.out _ u qb qc hHeld.be2 HCI.out HU.out.2.2.2.2.2.2.1 HU.out.2.2.2.2.2.2.2).mono ?_)
 rintro x y ⟨⟨n3, e3, rfl, hval⟩, hq⟩
 have HV2 := Lib.hid hval
 refine hK.out _ _ ⟨hHeld.1.on hq, below_then hHeld.2 hq⟩ (fun hHeld2 => ?_)
 clear hq hval HCI
 try simp only [Act.put, uA, uZ, uS]
 clear hK K hHeld
 have hHeld := hHeld2
 clear hHeld2
 refine tK 64 (i := 10) (v := .tuple #[.int .i64 n3, .int .i64 e3]) rfl rfl (by kernel_rfl) ?_ hHeld ?_
 ·intro w hSw; clear hSw; go_simp; try with_reducible rfl
 simp only [uZ, uS]
 refine tK 75 (i := 11) (v := .int .i64 n3) rfl rfl (by kernel_rfl) ?_ hHeld ?_
 ·intro w hSw; clear hSw; go_simp; try with_reducible rfl
 simp only [uZ, uS]
 refine tK 76 (i := 12) (v := .int .i64 e3) rfl rfl (by kernel_rfl) ?_ hHeld ?_
 ·intro w hSw; clear hSw; go_simp; try with_reducible rfl
 simp only [uZ, uS]
 refine tK 15 (i := 13) (v := .int .i64 n3) rfl rfl (by kernel_rfl) ?_ hHeld ?_
 ·intro w hSw; clear hSw; go_simp; try with_reducible rfl
 simp only [uZ, uS]
 refine tK 16 (i := 14) (v := .int .i64 e3) rfl rfl (by kernel_rfl) ?_ hHeld ?_
 ·intro w hSw; clear hSw; go_simp; try with_reducible rfl
 simp only [uZ, uS]
 refine wpAnyH_done (by kernel_rfl) ?_ _
 rename World => z3
 have HX3 := Lib.hid (show Boxes z3 LB from hHeld.1); have HB3 := Lib.hid hHeld.2
 clear hHeld K2 L2 I2
 rw [← HLB.out] at HX3
 obtain ⟨M, hM, a1, a2, a3, s1, s2, s3, q1, q2, q3, dn, dx, m1, m2, hz⟩ := BA.out u dd n1 e1 n2 e2 n3 e3 ⟨HU.out.1, HU.out.2.1⟩ HDD.out HV0.out HV1.out HV2.out
 unfold Amt at q1
 unfold WgtY at q2 q3
 dsimp only at hM a1 a2 a3 q1 q2 q3 hz
 have HM := Lib.hid hM; have HZ := Lib.hid hz
 clear hM hz HV0 HV1 HV2 BA HU HDD HL0 HLB PL FD
 have r1 := prod_le q1.1 (Int.le_trans q1.2.1 q1.2.2) (Int.le_of_lt s3.1) s3.2
 have r2 := prod_le (show 0 ≤ ib by omega) q1.2.2 (Int.le_of_lt s3.1) s3.2
 have r7 := prod_le m1.1 m1.2 dn dx
 have r8 := prod_le m2.1 m2.2 dn dx
 have r9 := prod_le q2.1 (Int.le_trans q2.2.1 q2.2.2) (show 0 ≤ 1000 * e1 by omega) (show 1000 * e1 ≤ 1000000000 by omega)
 have r10 := prod_le (show 0 ≤ mb by omega) q2.2.2 (show 0 ≤ 1000 * e1 by omega) (show 1000 * e1 ≤ 1000000000 by omega)
 have r11 := prod_le q3.1 (Int.le_trans q3.2.1 q3.2.2) (show 0 ≤ 1000 * e2 by omega) (show 1000 * e2 ≤ 1000000000 by omega)
 have r12 := prod_le (show 0 ≤ sb by omega) q3.2.2 (show 0 ≤ 1000 * e2 by omega) (show 1000 * e2 ≤ 1000000000 by omega)
 have W1 : Hid (∀ W, Calls Tryz.prog 24 #[rv ma mb, .int .i64 (n1 * dd), .int .i64 (1000 * e1)] W fun e w' => e = .returned (.bool true) ∧ Below W.heap.size W w') := Lib.hid fun W => swithin_yes ma mb (n1 * dd) (1000 * e1) W a1.1 a1.2 (by omega) (by omega) (by omega)
 have W2 : Hid (∀ W, Calls Tryz.prog 24 #[rv ia ib, .int .i64 n3, .int .i64 e3] W fun e w' => e = .returned (.bool true) ∧ Below W.heap.size W w') := Lib.hid fun W => swithin_yes ia ib n3 e3 W a3.1 a3.2 (by omega) (by omega) (by omega)
 have W3 : Hid (∀ W, Calls Tryz.prog 24 #[rv sa sb, .int .i64 (M * dd), .int .i64 (1000 * e2)] W fun e w' => e = .returned (.bool true) ∧ Below W.heap.size W w') := Lib.hid fun W => swithin_yes sa sb (M * dd) (1000 * e2) W a2.1 a2.2 (by omega) (by omega) (by omega)
 have g1 : IntKind.i64.wrap (n1 * dd) = n1 * dd := IntWalk.i64_in _ ⟨by omega, by omega⟩
 have g2 : IntKind.i64.wrap (1000 * e1) = 1000 * e1 := IntWalk.i64_in _ ⟨by omega, by omega⟩
 have g3 : IntKind.i64.wrap (M * dd) = M * dd := IntWalk.i64_in _ ⟨by omega, by omega⟩
 have g4 : IntKind.i64.wrap (1000 * e2) = 1000 * e2 := IntWalk.i64_in _ ⟨by omega, by omega⟩
 obtain ⟨nd, hnd⟩ : ∃ z, n1 * dd = z := ⟨_, rfl⟩
 obtain ⟨te1, hte1⟩ : ∃ z, 1000 * e1 = z := ⟨_, rfl⟩
 obtain ⟨md, hmd⟩ : ∃ z, M * dd = z := ⟨_, rfl⟩
 obtain ⟨te2, hte2⟩ : ∃ z, 1000 * e2 = z := ⟨_, rfl⟩
 rw [hnd, hte1] at W1
 rw [hmd, hte2] at W3
 replace g1 := g1.trans hnd
 replace g2 := g2.trans hte1
 replace g3 := g3.trans hmd
 replace g4 := g4.trans hte2
 have G12 := Lib.hid (And.intro g1 g2); have G34 := Lib.hid (And.intro g3 g4)
 clear a1 a2 a3 s1 s2 s3 q1 q2 q3 dn dx m1 m2 r1 r2 r7 r8 r9 r10 r11 r12 g1 g2 g3 g4 hnd hte1 hmd hte2
 go_upto_region 8 with fail
 have f_ := HX3.out _ (.head _)
 have f_0 := f_.cell 0
 have f_1 := f_.cell 1
 have f_2 := f_.cell 2
 have f_3 := f_.cell 3
 have f_4 := f_.cell 4
 have f_5 := f_.cell 5
 simp at f_0 f_1 f_2 f_3 f_4 f_5
 clear f_
 have h_ := HX3.out _ (.tail _ (.head _))
 have h_0 := h_.cell 0
 have h_1 := h_.cell 1
 have h_2 := h_.cell 2
 have h_3 := h_.cell 3
 have h_4 := h_.cell 4
 have h_5 := h_.cell 5
 simp at h_0 h_1 h_2 h_3 h_4 h_5
 clear h_
 go_wp2_with fail
 refine (D0.out _ HB3.out).mono ?_
 rintro e v0 ⟨rfl, hq⟩
 have HXn := Lib.hid ((HX3.out.on hq).new 30 #[.int .i64 ma, .int .i64 mb]); have HBn := Lib.hid (below_then (below_then HB3.out hq) (below_alloc1 v0 (.cells #[.int .i64 ma, .int .i64 mb] 30)))
 clear hq HX3 HB3 D0 f_0 f_1 f_2 f_3 f_4 f_5 h_0 h_1 h_2 h_3 h_4 h_5
 go_upto_region 9 with fail
 obtain ⟨V0, hW⟩ : ∃ W', v0.alloc (.cells #[.int .i64 ma, .int .i64 mb] 30) = W' := ⟨_, rfl⟩
 rw [hW] at HXn HBn ⊢
 clear hW
 obtain ⟨M0, hN⟩ : ∃ n, v0.heap.size = n := ⟨_, rfl⟩
 rw [hN] at HXn ⊢
 clear hN
 have HX_0 := HXn; have HB_0 := HBn
 clear HXn HBn
 have f_ := HX_0.out _ (.tail _ (.head _))
 have f_0 := f_.cell 0
 have f_1 := f_.cell 1
 have f_2 := f_.cell 2
 have f_3 := f_.cell 3
 have f_4 := f_.cell 4
 have f_5 := f_.cell 5
 simp at f_0 f_1 f_2 f_3 f_4 f_5
 clear f_
 have h_ := HX_0.out _ (.tail _ (.tail _ (.head _)))
 have h_0 := h_.cell 0
 have h_1 := h_.cell 1
 have h_2 := h_.cell 2
 have h_3 := h_.cell 3
 have h_4 := h_.cell 4
 have h_5 := h_.cell 5
 simp at h_0 h_1 h_2 h_3 h_4 h_5
 clear h_
 go_wp2_with fail
 refine (D1.out _ HB_0.out).mono ?_
 rintro e v1 ⟨rfl, hq⟩
 have HXn := Lib.hid ((HX_0.out.on hq).new 30 #[.int .i64 sa, .int .i64 sb]); have HBn := Lib.hid (below_then (below_then HB_0.out hq) (below_alloc1 v1 (.cells #[.int .i64 sa, .int .i64 sb] 30)))
 clear hq HX_0 HB_0 D1 f_0 f_1 f_2 f_3 f_4 f_5 h_0 h_1 h_2 h_3 h_4 h_5
 go_upto_region 10 with fail
 obtain ⟨V1, hW⟩ : ∃ W', v1.alloc (.cells #[.int .i64 sa, .int .i64 sb] 30) = W' := ⟨_, rfl⟩
 rw [hW] at HXn HBn ⊢
 clear hW
 obtain ⟨M1, hN⟩ : ∃ n, v1.heap.size = n := ⟨_, rfl⟩
 rw [hN] at HXn ⊢
 clear hN
 have HX_1 := HXn; have HB_1 := HBn
 clear HXn HBn
 have f_ := HX_1.out _ (.tail _ (.tail _ (.head _)))
 have f_0 := f_.cell 0
 have f_1 := f_.cell 1
 have f_2 := f_.cell 2
 have f_3 := f_.cell 3
 have f_4 := f_.cell 4
 have f_5 := f_.cell 5
 simp at f_0 f_1 f_2 f_3 f_4 f_5
 clear f_
 have h_ := HX_1.out _ (.tail _ (.tail _ (.tail _ (.head _))))
 have h_0 := h_.cell 0
 have h_1 := h_.cell 1
 have h_2 := h_.cell 2
 have h_3 := h_.cell 3
 have h_4 := h_.cell 4
 have h_5 := h_.cell 5
 simp at h_0 h_1 h_2 h_3 h_4 h_5
 clear h_
 go_wp2_with fail
 refine (D2.out _ HB_1.out).mono ?_
 rintro e v2 ⟨rfl, hq⟩
 have HXn := Lib.hid ((HX_1.out.on hq).new 63 #[.int .i64 ma, .int .i64 mb, .int .i64 al, .int .i64 ah, .int .i64 ia, .int .i64 ib]); have HBn := Lib.hid (below_then (below_then HB_1.out hq) (below_alloc1 v2 (.cells #[.int .i64 ma, .int .i64 mb, .int .i64 al, .int .i64 ah, .int .i64 ia, .int .i64 ib] 63)))
 clear hq HX_1 HB_1 D2 f_0 f_1 f_2 f_3 f_4 f_5 h_0 h_1 h_2 h_3 h_4 h_5
 go_upto_region 11 with fail
 obtain ⟨V2, hW⟩ : ∃ W', v2.alloc (.cells #[.int .i64 ma, .int .i64 mb, .int .i64 al, .int .i64 ah, .int .i64 ia, .int .i64 ib] 63) = W' := ⟨_, rfl⟩
 rw [hW] at HXn HBn ⊢
 clear hW
 obtain ⟨M2, hN⟩ : ∃ n, v2.heap.size = n := ⟨_, rfl⟩
 rw [hN] at HXn ⊢
 clear hN
 have HX_2 := HXn; have HB_2 := HBn
 clear HXn HBn
 have f_ := HX_2.out _ (.tail _ (.tail _ (.tail _ (.head _))))
 have f_1 := f_.cell 1
 simp at f_1
 clear f_
 go_upto_if 96 with fail
 clear f_1
 go_cut [13] (fun s wx => ∃ q : Int, s = .int .i64 q ∧ (if n1 = 0 then 0 else q) = M ∧ Boxes wx [(M2, 63, #[.int .i64 ma, .int .i64 mb, .int .i64 al, .int .i64 ah, .int .i64 ia, .int .i64 ib]), (M1, 30, #[.int .i64 sa, .int .i64 sb]), (M0, 30, #[.int .i64 ma, .int .i64 mb]), (N8, 72, #[.int .i64 tk, .bool pr, .int .i64 p0, .int .i64 p1, .int .i64 d0, .int .i64 d1]), (N7, 69, #[.int .i64 tid, .int .i64 al, .int .i64 ah, .slice A n c, .slice B mm d, .slice C l ee]), (G + 1 + 1, 45, #[.slice Ca na ca, .slice Cb nb cb, .slice Cc nc cc, .int .i64 pl, .int .i64 de]), (G + 1, 42, #[.int .i64 x0, .int .i64 x1, .int .i64 x2, .int .i64 x3, .int .i64 x4]), (G, 41, #[.int .i64 id, .int .i64 fi, .slice S sn sc, .slice V vn vc])] ∧ Below y1.heap.size y1 wx)
 case first =>
  cases pr
  ·have HMM : Hid ((if n1 = 0 then 0 else n2) = M) := Lib.hid (by have q := HM.out; simpa using q)
   go_wp2_with fail
   go_meet
   exact ⟨n2, rfl, HMM.out, HX_2.out, HB_2.out⟩
  ·have HMM : Hid ((if n1 = 0 then 0 else 0) = M) := Lib.hid (by have q := HM.out; simpa using q)
   go_wp2_with fail
   go_meet
   exact ⟨0, rfl, HMM.out, HX_2.out, HB_2.out⟩
 case rest =>
  obtain ⟨mq, rfl, hm, hX, hB⟩ := hcut
  have HX4 := Lib.hid hX; have HB4 := Lib.hid hB; have HMQ := Lib.hid hm
  clear hX hB hm HX_2 HB_2 HM
  rename World => z4
  obtain ⟨g1, g2⟩ := G12.out
  have a_ := HX4.out _ (.tail _ (.tail _ (.head _)))
  have a_0 := a_.cell 0
  have a_1 := a_.cell 1
  simp at a_0 a_1
  clear a_
  go_wp2_with fail
  refine (W1.out _).mono ?_
  rintro e c1 ⟨rfl, hq⟩
  have HXw1 := Lib.hid (HX4.out.on hq); have HBw1 := Lib.hid (below_then HB4.out hq)
  clear hq HX4 HB4 W1 a_0 a_1
  have w_ := HXw1.out _ (.head _)
  have w_0 := w_.cell 0
  have w_1 := w_.cell 1
  have w_2 := w_.cell 2
  have w_3 := w_.cell 3
  have w_4 := w_.cell 4
  have w_5 := w_.cell 5
  simp at w_0 w_1 w_2 w_3 w_4 w_5
  clear w_
  go_wp2_with fail
  refine (W2.out _).mono ?_
  rintro e c2 ⟨rfl, hq⟩
  have HXw2 := Lib.hid (HXw1.out.on hq); have HBw2 := Lib.hid (below_then HBw1.out hq)
  clear hq HXw1 HBw1 W2 w_0 w_1 w_2 w_3 w_4 w_5
  have w_ := HXw2.out _ (.head _)
  have w_0 := w_.cell 0
  have w_1 := w_.cell 1
  have w_2 := w_.cell 2
  have w_3 := w_.cell 3
  have w_4 := w_.cell 4
  have w_5 := w_.cell 5
  simp at w_0 w_1 w_2 w_3 w_4 w_5
  clear w_
  have m_ := HXw2.out _ (.tail _ (.tail _ (.head _)))
  have m_0 := m_.cell 0
  have m_1 := m_.cell 1
  simp at m_0 m_1
  clear m_
  have h_ := HXw2.out _ (.tail _ (.tail _ (.tail _ (.tail _ (.head _)))))
  have h_1 := h_.cell 1
  have h_2 := h_.cell 2
  simp at h_1 h_2
  clear h_
  go_upto_region 15 with fail
  clear g1 g2 w_0 w_1 w_2 w_3 w_4 w_5 m_0 m_1 h_1 h_2
  obtain ⟨g3, g4⟩ := G34.out
  obtain ⟨pz, hpz⟩ : ∃ z, (n1 == 0) = z := ⟨_, rfl⟩
  go_upto_if 139 with fail
  have HPZ := Lib.hid hpz
  clear hpz
  go_cut [13] (fun s wx => s = .int .i64 M ∧ Boxes wx [(M2, 63, #[.int .i64 ma, .int .i64 mb, .int .i64 al, .int .i64 ah, .int .i64 ia, .int .i64 ib]), (M1, 30, #[.int .i64 sa, .int .i64 sb]), (M0, 30, #[.int .i64 ma, .int .i64 mb]), (N8, 72, #[.int .i64 tk, .bool pr, .int .i64 p0, .int .i64 p1, .int .i64 d0, .int .i64 d1]), (N7, 69, #[.int .i64 tid, .int .i64 al, .int .i64 ah, .slice A n c, .slice B mm d, .slice C l ee]), (G + 1 + 1, 45, #[.slice Ca na ca, .slice Cb nb cb, .slice Cc nc cc, .int .i64 pl, .int .i64 de]), (G + 1, 42, #[.int .i64 x0, .int .i64 x1, .int .i64 x2, .int .i64 x3, .int .i64 x4]), (G, 41, #[.int .i64 id, .int .i64 fi, .slice S sn sc, .slice V vn vc])] ∧ Below y1.heap.size y1 wx)
  case first =>
   by_cases gz : n1 = 0
   ·obtain rfl : pz = true := by rw [← HPZ.out]; simp [gz]
    have HMM : Hid (0 = M) := Lib.hid (by rw [← HMQ.out, if_pos gz])
    clear gz
    go_wp2_with fail
    go_meet
    exact ⟨by rw [← HMM.out], HXw2.out, HBw2.out⟩
   ·obtain rfl : pz = false := by rw [← HPZ.out]; exact beq_eq_false_iff_ne.2 gz
    have HMM : Hid (mq = M) := Lib.hid (by rw [← HMQ.out, if_neg gz])
    clear gz
    go_wp2_with fail
    go_meet
    exact ⟨by rw [HMM.out], HXw2.out, HBw2.out⟩
  case rest =>
   obtain ⟨rfl, hX, hB⟩ := hcut
   have HX5 := Lib.hid hX; have HB5 := Lib.hid hB
   clear hX hB HXw2 HBw2 HMQ
   rename World => z5
   have a_ := HX5.out _ (.tail _ (.head _))
   have a_0 := a_.cell 0
   have a_1 := a_.cell 1
   simp at a_0 a_1
   clear a_
   go_wp2_with fail
   refine (W3.out _).mono ?_
   rintro e c3 ⟨rfl, hq⟩
   have HXw3 := Lib.hid (HX5.out.on hq); have HBw3 := Lib.hid (below_then HB5.out hq)
   clear hq HX5 HB5 W3 a_0 a_1
   cases pr
   ·skip
    have a_ := HXw3.out _ (.tail _ (.head _))
    have a_0 := a_.cell 0
    have a_1 := a_.cell 1
    simp at a_0 a_1
    clear a_
    have f_ := HXw3.out _ (.tail _ (.tail _ (.tail _ (.head _))))
    have f_1 := f_.cell 1
    simp at f_1
    clear f_
    go_wp2_with fail
    refine (msane_any _).mono ?_
    rintro e c6 ⟨rfl, hq⟩
    have HBz := Lib.hid (below_then HBw3.out hq)
    clear hq
    go_wp2
    go_ret
    exact ⟨rfl, below_then HE1.out HBz.out⟩
   have hz := HZ.out rfl
   injection hz with hz1 hz2
   subst hz1 hz2
   have a_ := HXw3.out _ (.tail _ (.head _))
   have a_0 := a_.cell 0
   have a_1 := a_.cell 1
   simp at a_0 a_1
   clear a_
   have f_ := HXw3.out _ (.tail _ (.tail _ (.tail _ (.head _))))
   have f_1 := f_.cell 1
   simp at f_1
   clear f_
   go_wp2_with fail
   refine (msane_any _).mono ?_
   rintro e c6 ⟨rfl, hq⟩
   have HBz := Lib.hid (below_then HBw3.out hq)
   clear hq
   go_wp2
   go_ret
   exact ⟨rfl, below_then HE1.out HBz.out⟩
end

end Go.Proofs.YtekkiedlajhaiaaGreat
