/- HoldPoured: whatever numbers come in, the law returns true and leaves its arguments as they were. No conditions. -/
import Derived.Test.YtemlaaipnhmcoaaGreatR39
import Derived.Test.YtemlaaipnhmcoaaGreatQ11
import Derived.Test.YtemlaaipnhmcoaaGreatR45
import Derived.Test.YtemlaaipnhmcoaaGreatR43
import Derived.Test.YtemlaaipnhmcoaaGreatR49
import Derived.Test.YtemlaaipnhmcoaaGreatR47
import Derived.Test.YtemlaaipnhmcoaaGreatQ98
set_option linter.unusedVariables false
set_option linter.unusedSimpArgs false
set_option linter.constructorNameAsVariable false
namespace Go.Proofs.YtemlaaipnhmcoaaGreat

section
open Go.RowKit

theorem sInside_yes (a b c d : Int) (w : World) (h1 : c ≤ a) (h2 : b ≤ d) :
  Calls Tryz.prog 29 #[rv a b, rv c d] w fun e w' => e = .returned (.bool true) ∧ Below w.heap.size w w' := by
 have b1 : decide (c ≤ a) = true := decide_eq_true h1
 have b2 : decide (b ≤ d) = true := decide_eq_true h2
 clear h1 h2
 go_enter Tryz.func29, Tryz.ntmps29
 go_wp2
 go_ret
 exact ⟨rfl, below_a2 (Below.refl _ _)⟩
end

section
open Go.RowKit
attribute [local go_sem ↓] eqlRange neqRange

set_option maxRecDepth 100000 in
set_option maxHeartbeats 4000000 in
theorem holdPoured_walk (r : RawD) (m : RawM) (x0 x1 x2 x3 x4 : Int) (Ca Cb Cc : Option Addr) (na ca nb cb nc cc : Nat) (k0 k1 k2 : List Int) (pl de : Int) (w : World) (hi : RawIn w r m) (hka : LstIn w Ca na k0) :
  Calls Tryz.prog 4 #[rawV r m, .agg #[.int .i64 x0, .int .i64 x1, .int .i64 x2, .int .i64 x3, .int .i64 x4], .agg #[.slice Ca na ca, .slice Cb nb cb, .slice Cc nc cc, .int .i64 pl, .int .i64 de]] w fun e w' => e = .returned (.bool true) ∧ Below w.heap.size w w' := by
 obtain ⟨h, hh⟩ : ∃ h, madeH r = h := ⟨_, rfl⟩
 have C1 := fun (W : World) (hW : Below w.heap.size w W) => smadeHold r m W (hi.below hW)
 have hS : holdS h = true := by rw [← hh]; exact made_valid r
 have MV := fun (cs : List Int) (x num den : Int) => @made_val r cs x num den
 rw [hh] at C1 MV
 have hle := hold_first hS
 have htv := hold_tab hS
 have hpl := tab_places htv
 have hf := madeF_ok hS hle x0 x1 x2 x3 x4
 have CF := fun (W : World) (mm : HoldM) (hm : HoldIn W h mm) => sfill_to h mm x0 x1 x2 x3 x4 W hm htv hle hpl.1 hpl.2
 obtain ⟨f, hff⟩ : ∃ f, madeF h x0 x1 x2 x3 x4 = f := ⟨_, rfl⟩
 rw [hff] at hf CF
 obtain ⟨id, fi, st, vs⟩ := r
 obtain ⟨S, sn, sc, V, vn, vc⟩ := m
 have HKA := Lib.hid hka; have HSV := Lib.hid hS; have HF0 := Lib.hid hf; have MV := Lib.hid MV
 have C1 := Lib.hid C1; have CF := Lib.hid CF
 clear hi hka hh hle htv hpl hff hS hf
 have HE := Lib.hid (show Below w.heap.size w (((w.alloc (.cells #[.int .i64 id, .int .i64 fi, .slice S sn sc, .slice V vn vc] 24)).alloc (.cells #[.int .i64 x0, .int .i64 x1, .int .i64 x2, .int .i64 x3, .int .i64 x4] 53)).alloc (.cells #[.slice Ca na ca, .slice Cb nb cb, .slice Cc nc cc, .int .i64 pl, .int .i64 de] 27)) from below_a3 (Below.refl _ _))
 have HK := Lib.hid (boxes3' w 24 53 27 #[.int .i64 id, .int .i64 fi, .slice S sn sc, .slice V vn vc] #[.int .i64 x0, .int .i64 x1, .int .i64 x2, .int .i64 x3, .int .i64 x4] #[.slice Ca na ca, .slice Cb nb cb, .slice Cc nc cc, .int .i64 pl, .int .i64 de])
 go_enter Tryz.func4, Tryz.ntmps4
 go_upto_region 1 with fail
 obtain ⟨W0, hW0⟩ : ∃ W0 : World, (((w.alloc (.cells #[.int .i64 id, .int .i64 fi, .slice S sn sc, .slice V vn vc] 24)).alloc (.cells #[.int .i64 x0, .int .i64 x1, .int .i64 x2, .int .i64 x3, .int .i64 x4] 53)).alloc (.cells #[.slice Ca na ca, .slice Cb nb cb, .slice Cc nc cc, .int .i64 pl, .int .i64 de] 27)) = W0 := ⟨_, rfl⟩
 rw [hW0] at HE HK ⊢
 clear hW0
 obtain ⟨G, hG⟩ : ∃ G, w.heap.size = G := ⟨_, rfl⟩
 rw [hG] at HK ⊢
 have HG := Lib.hid hG; clear hG
 have fa_ := HK.out _ (.tail _ (.tail _ (.head _)))
 have fa_0 := fa_.cell 0
 have fa_1 := fa_.cell 1
 have fa_2 := fa_.cell 2
 have fa_3 := fa_.cell 3
 simp at fa_0 fa_1 fa_2 fa_3
 clear fa_
 go_wp2_with fail
 refine (C1.out _ HE.out).mono ?_
 rintro e z1 ⟨⟨mh, rfl, hinh⟩, hq⟩
 obtain ⟨hid, al, ah, vol, mom, hei, t0, t1, u0, u1, v0, v1, h0, h1⟩ := h
 obtain ⟨A, n, c, B, mm, d, C, l, ee⟩ := mh
 obtain ⟨fh, fs, p0, p1, d0, d1⟩ := f
 have HIN := Lib.hid hinh
 have C2 : Hid (∀ W, Below z1.heap.size z1 W → Calls Tryz.prog 27 #[.agg #[.int .i64 hid, .int .i64 al, .int .i64 ah, .slice A n c, .slice B mm d, .slice C l ee, .int .i64 t0, .int .i64 t1, .int .i64 u0, .int .i64 u1, .int .i64 v0, .int .i64 v1, .int .i64 h0, .int .i64 h1], .agg #[.int .i64 x0, .int .i64 x1, .int .i64 x2, .int .i64 x3, .int .i64 x4]] W fun e w' => e = .returned (.agg #[.int .i64 fh, .int .i64 fs, .int .i64 p0, .int .i64 p1, .int .i64 d0, .int .i64 d1]) ∧ Below W.heap.size W w') := Lib.hid fun W hW => CF.out W ⟨A, n, c, B, mm, d, C, l, ee⟩ (HIN.out.below hW)
 clear hinh
 have HQ_1 := Lib.hid (below_then HE.out hq)
 have HX_1 := Lib.hid ((HK.out.on hq).new 35 #[.int .i64 hid, .int .i64 al, .int .i64 ah, .slice A n c, .slice B mm d, .slice C l ee, .int .i64 t0, .int .i64 t1, .int .i64 u0, .int .i64 u1, .int .i64 v0, .int .i64 v1, .int .i64 h0, .int .i64 h1]); have HB_1 := Lib.hid (below_alloc1 z1 (.cells #[.int .i64 hid, .int .i64 al, .int .i64 ah, .slice A n c, .slice B mm d, .slice C l ee, .int .i64 t0, .int .i64 t1, .int .i64 u0, .int .i64 u1, .int .i64 v0, .int .i64 v1, .int .i64 h0, .int .i64 h1] 35))
 clear hq HK HE fa_0 fa_1 fa_2 fa_3 C1 CF
 go_upto_region 2 with fail
 obtain ⟨V1, hW⟩ : ∃ W', z1.alloc (.cells #[.int .i64 hid, .int .i64 al, .int .i64 ah, .slice A n c, .slice B mm d, .slice C l ee, .int .i64 t0, .int .i64 t1, .int .i64 u0, .int .i64 u1, .int .i64 v0, .int .i64 v1, .int .i64 h0, .int .i64 h1] 35) = W' := ⟨_, rfl⟩
 rw [hW] at HX_1 HB_1  ⊢
 clear hW
 obtain ⟨MH, hN⟩ : ∃ n, z1.heap.size = n := ⟨_, rfl⟩
 rw [hN] at HX_1  ⊢
 clear hN
 have fa_ := HX_1.out _ (.tail _ (.tail _ (.head _)))
 have fa_0 := fa_.cell 0
 have fa_1 := fa_.cell 1
 have fa_2 := fa_.cell 2
 have fa_3 := fa_.cell 3
 have fa_4 := fa_.cell 4
 simp at fa_0 fa_1 fa_2 fa_3 fa_4
 clear fa_
 have fb_ := HX_1.out _ (.head _)
 have fb_0 := fb_.cell 0
 have fb_1 := fb_.cell 1
 have fb_2 := fb_.cell 2
 have fb_3 := fb_.cell 3
 have fb_4 := fb_.cell 4
 have fb_5 := fb_.cell 5
 have fb_6 := fb_.cell 6
 have fb_7 := fb_.cell 7
 have fb_8 := fb_.cell 8
 have fb_9 := fb_.cell 9
 have fb_10 := fb_.cell 10
 have fb_11 := fb_.cell 11
 have fb_12 := fb_.cell 12
 have fb_13 := fb_.cell 13
 simp at fb_0 fb_1 fb_2 fb_3 fb_4 fb_5 fb_6 fb_7 fb_8 fb_9 fb_10 fb_11 fb_12 fb_13
 clear fb_
 go_wp2_with fail
 refine (C2.out _ HB_1.out).mono ?_
 rintro e z2 ⟨rfl, hq⟩
 have HX_2 := Lib.hid ((HX_1.out.on hq).new 55 #[.int .i64 fh, .int .i64 fs, .int .i64 p0, .int .i64 p1, .int .i64 d0, .int .i64 d1]); have HB_2 := Lib.hid (below_then (below_then HB_1.out hq) (below_alloc1 z2 (.cells #[.int .i64 fh, .int .i64 fs, .int .i64 p0, .int .i64 p1, .int .i64 d0, .int .i64 d1] 55)))
 have HFAR_MF := Lib.hid (boxes_lt (HX_1.out.on hq)); have HGE_MF := Lib.hid (below_then HB_1.out hq).size
 clear hq HX_1 HB_1 fa_0 fa_1 fa_2 fa_3 fa_4 fb_0 fb_1 fb_2 fb_3 fb_4 fb_5 fb_6 fb_7 fb_8 fb_9 fb_10 fb_11 fb_12 fb_13 C2
 go_upto_region 3 with fail
 obtain ⟨V2, hW⟩ : ∃ W', z2.alloc (.cells #[.int .i64 fh, .int .i64 fs, .int .i64 p0, .int .i64 p1, .int .i64 d0, .int .i64 d1] 55) = W' := ⟨_, rfl⟩
 rw [hW] at HX_2 HB_2  ⊢
 clear hW
 obtain ⟨MF, hN⟩ : ∃ n, z2.heap.size = n := ⟨_, rfl⟩
 rw [hN] at HX_2 HFAR_MF HGE_MF ⊢
 clear hN
 have m_ := HX_2.out _ (.head _)
 have m_1 := m_.cell 1
 have m_f1 := m_.frozen 1
 simp at m_1 m_f1
 clear m_
 go_upto_region 4 with fail
 have HXq0 : Hid (Boxes (V2.setCell ⟨MF, 1, none⟩ (.int .i64 3)) [(MF, 55, #[.int .i64 fh, .int .i64 3, .int .i64 p0, .int .i64 p1, .int .i64 d0, .int .i64 d1]), (MH, 35, #[.int .i64 hid, .int .i64 al, .int .i64 ah, .slice A n c, .slice B mm d, .slice C l ee, .int .i64 t0, .int .i64 t1, .int .i64 u0, .int .i64 u1, .int .i64 v0, .int .i64 v1, .int .i64 h0, .int .i64 h1]), ((G + 1 + 1), 27, #[.slice Ca na ca, .slice Cb nb cb, .slice Cc nc cc, .int .i64 pl, .int .i64 de]), ((G + 1), 53, #[.int .i64 x0, .int .i64 x1, .int .i64 x2, .int .i64 x3, .int .i64 x4]), (G, 24, #[.int .i64 id, .int .i64 fi, .slice S sn sc, .slice V vn vc])]) := Lib.hid (HX_2.out.set1 HFAR_MF.out 1 (.int .i64 3) _ rfl)
 have HBq0 := Lib.hid ((HB_2.out).setCell (p := ⟨MF, 1, none⟩) (by have := HGE_MF.out; simp; omega) (.int .i64 3))
 have HX_3 := HXq0; have HB_3 := HBq0
 clear HXq0 HBq0 HX_2 HB_2 m_1 m_f1
 obtain ⟨Vs3, hW⟩ : ∃ W', (V2.setCell ⟨MF, 1, none⟩ (.int .i64 3)) = W' := ⟨_, rfl⟩
 rw [hW] at HX_3 HB_3 ⊢
 clear hW
 have hm0 : measuresS vol = true := (hold_parts HSV.out).2.1.1
 have ht0 := measures_ok hm0
 have hp0 := tab_places ht0
 have hT0 := Lib.hid (fun (W : World) (hW : Below z1.heap.size z1 W) => show TabIn W A n vol from (HIN.out.below hW).1)
 have CF0 := Lib.hid (fun (W : World) (hW : Below z1.heap.size z1 W) => sFirst_tab A n c vol W (hT0.out W hW) ht0)
 have CL0 := Lib.hid (fun (W : World) (hW : Below z1.heap.size z1 W) => sLast_tab A n c vol W (hT0.out W hW) ht0)
 have K0 := Lib.hid (fun (W : World) (hW : Below z1.heap.size z1 W) => curve_c (c := c) (ca := ca) (hT0.out W hW) ht0 (HKA.out.below (below_then HQ_1.out hW)))
 have I0 := Lib.hid (curve_in k0 HIN.out.1 ht0 (measures_len hm0))
 have L0 := Lib.hid (fun (W : World) (x : Int) (cb cc' : Nat) (g1 : firstX vol ≤ x) (g2 : x ≤ lastX vol) (hW : Below z1.heap.size z1 W) (hc : IntsP W (some ⟨cb, 0, none⟩) (curveTo vol k0 n)) => value_c (c := c) (cc := cc') (hT0.out W hW) ht0 (measures_len hm0) hc g1 g2)
 have hpf := part_ok HF0.out x3 x4
 obtain ⟨pf, hPF⟩ : ∃ g, partF (⟨hid, al, ah, vol, mom, hei, t0, t1, u0, u1, v0, v1, h0, h1⟩ : HoldD) (⟨fh, fs, p0, p1, d0, d1⟩ : FillD) x3 x4 = g := ⟨_, rfl⟩
 rw [hPF] at hpf
 obtain ⟨gh, gs, P0, P1, D0, D1⟩ := pf
 unfold partF at hPF
 injection hPF with e1 e2 e3 e4 e5 e6
 dsimp only at e1 e2 e3 e4 e5 e6
 subst e1 e2
 have hdn := density_in x3 x4
 have CDN := Lib.hid (fun (W : World) => sDensityN_to x3 x4 W)
 obtain ⟨⟨r0, r1⟩, hr⟩ : ∃ z, densityS x3 x4 = z := ⟨_, rfl⟩
 rw [hr] at CDN hdn e5 e6
 dsimp only at CDN hdn e5 e6
 obtain ⟨pz, hpz⟩ : ∃ z, (d0 == 0 && d1 == 0) = z := ⟨_, rfl⟩
 obtain ⟨py, hpy⟩ : ∃ z, (p0 == 0 && p1 == 0) = z := ⟨_, rfl⟩
 rw [hpz] at e5 e6
 rw [hpy] at e3 e4
 have hpi := fill_place hpf (show (3 : Int) ≤ 3 by omega)
 simp only [inB, decide_eq_true_eq] at hpi
 have hdi := fill_dens hpf
 dsimp only at hpi hdi
 obtain ⟨u, hu⟩ : ∃ z, P0 + pl % (P1 - P0 + 1) = z := ⟨_, rfl⟩
 have hu2 := some_inZ pl (show P0 ≤ P1 by omega)
 rw [hu] at hu2
 obtain ⟨q3, hq3⟩ : ∃ z, IntKind.i64.wrap (Int.tdiv pl 3) = z := ⟨_, rfl⟩
 obtain ⟨tw, htw⟩ : ∃ z, firstX vol + q3 % (u - firstX vol + 1) = z := ⟨_, rfl⟩
 have ht2 := some_inZ q3 (show firstX vol ≤ u by omega)
 rw [htw] at ht2
 obtain ⟨q5, hq5⟩ : ∃ z, IntKind.i64.wrap (Int.tdiv de 5) = z := ⟨_, rfl⟩
 obtain ⟨q11, hq11⟩ : ∃ z, IntKind.i64.wrap (Int.tdiv de 11) = z := ⟨_, rfl⟩
 have hrn := density_in de q5
 have CRN := Lib.hid (fun (W : World) => sDensityN_to de q5 W)
 obtain ⟨⟨s0, s1⟩, hs⟩ : ∃ z, densityS de q5 = z := ⟨_, rfl⟩
 rw [hs] at CRN hrn
 dsimp only at CRN hrn
 obtain ⟨dd, hdd⟩ : ∃ z, s0 + q11 % (s1 - s0 + 1) = z := ⟨_, rfl⟩
 have hd2 := some_inZ q11 hrn.2.1
 rw [hdd] at hd2
 have CSU : Hid (∀ W, Calls Tryz.prog 17 #[rv P0 P1, .int .i64 pl] W fun e w' => e = .returned (.int .i64 u) ∧ Below W.heap.size W w') := Lib.hid fun W => int_to (msomewhere_to _ _ pl W (by omega) (by omega) (by omega)) hu
 have CST : Hid (∀ W, Calls Tryz.prog 17 #[rv (firstX vol) u, .int .i64 q3] W fun e w' => e = .returned (.int .i64 tw) ∧ Below W.heap.size W w') := Lib.hid fun W => int_to (msomewhere_to _ _ q3 W (by omega) (by omega) (by omega)) htw
 have CDE : Hid (∀ W, Calls Tryz.prog 19 #[rv s0 s1, .int .i64 q11] W fun e w' => e = .returned (.int .i64 dd) ∧ Below W.heap.size W w') := Lib.hid fun W => int_to (mdense_to _ _ q11 W hrn.2.1 (by omega) (by omega)) hdd
 have LU := Lib.hid (fun (W : World) (cb cc' : Nat) => L0.out W u cb cc' (by omega) (by omega))
 have LT := Lib.hid (fun (W : World) (cb cc' : Nat) => L0.out W tw cb cc' (by omega) (by omega))
 have DA := Lib.hid (fun (a b i j : Int) (V1 : ValOf vol (curveTo vol k0 n) u a b) (V2 : ValOf vol (curveTo vol k0 n) tw i j) (hl : 0 ≤ i * b - a * j) => poured_all (r := dd) hpf rfl I0.out.1 hu2 V1 ht2 V2 (MV.out _ _ _ _ I0.out.1 V1) (MV.out _ _ _ _ I0.out.1 V2) hl (show 100 ≤ s0 ∧ s0 ≤ s1 ∧ s1 ≤ 2000 by omega) hd2.1 hd2.2)
 have BO := Lib.hid (fun (a b i j : Int) (V1 : ValOf vol (curveTo vol k0 n) u a b) (V2 : ValOf vol (curveTo vol k0 n) tw i j) => And.intro (MV.out _ _ _ _ I0.out.1 V1) (And.intro (MV.out _ _ _ _ I0.out.1 V2) (made_more (MV.out _ _ _ _ I0.out.1 V1) (MV.out _ _ _ _ I0.out.1 V2))))
 have MX : Hid (((mixS D0 D1 s0 s1).1 ≤ D0 ∧ D1 ≤ (mixS D0 D1 s0 s1).2) ∧ ((mixS D0 D1 s0 s1).1 ≤ s0 ∧ s1 ≤ (mixS D0 D1 s0 s1).2)) := Lib.hid (mix_holds (fill_dens3 hpf rfl) (show densS s0 s1 = true by unfold densS; simp only [inB, decide_eq_true_eq]; omega))
 have HQ3 := Lib.hid hq3; have HQ5 := Lib.hid hq5; have HQ11 := Lib.hid hq11; have HDD := Lib.hid (show 0 ≤ dd ∧ dd ≤ 2000 by omega)
 have HPZ := Lib.hid hpz; have HPY := Lib.hid hpy; have HE34 := Lib.hid (And.intro e3 e4); have HE56 := Lib.hid (And.intro e5 e6)
 clear hm0 ht0 hp0 hpi hdi hu hu2 hq3 hq5 hq11 htw ht2 hdd hd2 hT0 HKA L0 MV HF0 HSV hpf hdn hr hrn hs hpz hpy e3 e4 e5 e6
 generalize firstX vol = f0 at *
 generalize lastX vol = f1 at *
 have hpz := HPZ.out
 have fa_ := HX_3.out _ (.head _)
 have fa_4 := fa_.cell 4
 have fa_5 := fa_.cell 5
 simp at fa_4 fa_5
 clear fa_
 go_upto_if 30 with fail
 clear fa_4 fa_5 hpz HPZ
 go_cut [] (fun wx => Boxes wx [(MF, 55, #[.int .i64 fh, .int .i64 3, .int .i64 p0, .int .i64 p1, .int .i64 D0, .int .i64 D1]), (MH, 35, #[.int .i64 hid, .int .i64 al, .int .i64 ah, .slice A n c, .slice B mm d, .slice C l ee, .int .i64 t0, .int .i64 t1, .int .i64 u0, .int .i64 u1, .int .i64 v0, .int .i64 v1, .int .i64 h0, .int .i64 h1]), ((G + 1 + 1), 27, #[.slice Ca na ca, .slice Cb nb cb, .slice Cc nc cc, .int .i64 pl, .int .i64 de]), ((G + 1), 53, #[.int .i64 x0, .int .i64 x1, .int .i64 x2, .int .i64 x3, .int .i64 x4]), (G, 24, #[.int .i64 id, .int .i64 fi, .slice S sn sc, .slice V vn vc])] ∧ Below z1.heap.size z1 wx)
 case first =>
  obtain ⟨e5, e6⟩ := HE56.out
  cases pz
  ·rw [if_neg (by decide)] at e5 e6
   subst e5 e6
   go_wp2_with fail
   go_meet
   exact ⟨HX_3.out, HB_3.out⟩
  rw [if_pos rfl] at e5 e6
  subst e5 e6
  have fa_ := HX_3.out _ (.tail _ (.tail _ (.tail _ (.head _))))
  have fa_3 := fa_.cell 3
  have fa_4 := fa_.cell 4
  simp at fa_3 fa_4
  clear fa_
  go_wp2_with fail
  refine (CDN.out _).mono ?_
  rintro e zq ⟨rfl, hq⟩
  have HX_q := Lib.hid (HX_3.out.on hq); have HB_q := Lib.hid (below_then HB_3.out hq)
  clear hq fa_3 fa_4
  have m_ := HX_q.out _ (.head _)
  have m_4 := m_.cell 4
  have m_f4 := m_.frozen 4
  have m_5 := m_.cell 5
  have m_f5 := m_.frozen 5
  simp at m_4 m_f4 m_5 m_f5
  clear m_
  go_wp2_with fail
  go_meet
  have HXa : Hid (Boxes (zq.setCell ⟨MF, 4, none⟩ (.int .i64 r0)) [(MF, 55, #[.int .i64 fh, .int .i64 3, .int .i64 p0, .int .i64 p1, .int .i64 r0, .int .i64 d1]), (MH, 35, #[.int .i64 hid, .int .i64 al, .int .i64 ah, .slice A n c, .slice B mm d, .slice C l ee, .int .i64 t0, .int .i64 t1, .int .i64 u0, .int .i64 u1, .int .i64 v0, .int .i64 v1, .int .i64 h0, .int .i64 h1]), ((G + 1 + 1), 27, #[.slice Ca na ca, .slice Cb nb cb, .slice Cc nc cc, .int .i64 pl, .int .i64 de]), ((G + 1), 53, #[.int .i64 x0, .int .i64 x1, .int .i64 x2, .int .i64 x3, .int .i64 x4]), (G, 24, #[.int .i64 id, .int .i64 fi, .slice S sn sc, .slice V vn vc])]) := Lib.hid (HX_q.out.set1 HFAR_MF.out 4 (.int .i64 r0) _ rfl)
  exact ⟨HXa.out.set1 HFAR_MF.out 5 (.int .i64 r1) _ rfl, (HB_q.out.setCell (p := ⟨MF, 4, none⟩) (by have := HGE_MF.out; simp; omega) (.int .i64 r0)).setCell (p := ⟨MF, 5, none⟩) (by have := HGE_MF.out; simp; omega) (.int .i64 r1)⟩
 case rest =>
  obtain ⟨hX, hB⟩ := hcut
  have HX_4 := Lib.hid hX; have HB_4 := Lib.hid hB
  clear hX hB HX_3 HB_3 CDN HE56
  rename World => zr4
  have hpy := HPY.out
  have fa_ := HX_4.out _ (.head _)
  have fa_2 := fa_.cell 2
  have fa_3 := fa_.cell 3
  simp at fa_2 fa_3
  clear fa_
  go_upto_if 40 with fail
  clear fa_2 fa_3 hpy HPY
  go_cut [] (fun wx => Boxes wx [(MF, 55, #[.int .i64 fh, .int .i64 3, .int .i64 P0, .int .i64 P1, .int .i64 D0, .int .i64 D1]), (MH, 35, #[.int .i64 hid, .int .i64 al, .int .i64 ah, .slice A n c, .slice B mm d, .slice C l ee, .int .i64 t0, .int .i64 t1, .int .i64 u0, .int .i64 u1, .int .i64 v0, .int .i64 v1, .int .i64 h0, .int .i64 h1]), ((G + 1 + 1), 27, #[.slice Ca na ca, .slice Cb nb cb, .slice Cc nc cc, .int .i64 pl, .int .i64 de]), ((G + 1), 53, #[.int .i64 x0, .int .i64 x1, .int .i64 x2, .int .i64 x3, .int .i64 x4]), (G, 24, #[.int .i64 id, .int .i64 fi, .slice S sn sc, .slice V vn vc])] ∧ Below z1.heap.size z1 wx)
  case first =>
   obtain ⟨e3, e4⟩ := HE34.out
   cases py
   ·rw [if_neg (by decide)] at e3 e4
    subst e3 e4
    go_wp2_with fail
    go_meet
    exact ⟨HX_4.out, HB_4.out⟩
   rw [if_pos rfl] at e3 e4
   obtain rfl := e3
   have e4' : f1 = P1 := e4
   subst e4'
   go_upto_region 7 with fail
   obtain ⟨LB, hLB⟩ : ∃ x, ([(MH, 35, #[.int .i64 hid, .int .i64 al, .int .i64 ah, .slice A n c, .slice B mm d, .slice C l ee, .int .i64 t0, .int .i64 t1, .int .i64 u0, .int .i64 u1, .int .i64 v0, .int .i64 v1, .int .i64 h0, .int .i64 h1]), ((G + 1 + 1), 27, #[.slice Ca na ca, .slice Cb nb cb, .slice Cc nc cc, .int .i64 pl, .int .i64 de]), ((G + 1), 53, #[.int .i64 x0, .int .i64 x1, .int .i64 x2, .int .i64 x3, .int .i64 x4]), (G, 24, #[.int .i64 id, .int .i64 fi, .slice S sn sc, .slice V vn vc])] : List (Nat × TypeId × Array Value)) = x := ⟨_, rfl⟩
   have hl0 : (MH, 35, #[.int .i64 hid, .int .i64 al, .int .i64 ah, .slice A n c, .slice B mm d, .slice C l ee, .int .i64 t0, .int .i64 t1, .int .i64 u0, .int .i64 u1, .int .i64 v0, .int .i64 v1, .int .i64 h0, .int .i64 h1]) ∈ LB ∧ ((G + 1 + 1), 27, #[.slice Ca na ca, .slice Cb nb cb, .slice Cc nc cc, .int .i64 pl, .int .i64 de]) ∈ LB ∧ ((G + 1), 53, #[.int .i64 x0, .int .i64 x1, .int .i64 x2, .int .i64 x3, .int .i64 x4]) ∈ LB ∧ (G, 24, #[.int .i64 id, .int .i64 fi, .slice S sn sc, .slice V vn vc]) ∈ LB ∧ True := by rw [← hLB]; simp
   have HL0 := Lib.hid hl0
   have HFL := HFAR_MF
   rw [hLB] at HFL
   have hS0 : BB2 z1 LB zr4.drew := ⟨by rw [← hLB]; exact HX_4.out.sub (fun p hp => .tail _ hp), HB_4.out.drew⟩
   have HLB := Lib.hid hLB
   clear hLB hl0
   have HW := Lib.hid (below_drew1 zr4)
   refine wp_region_held_drew (S := BB2 z1 LB) (by kernel_rfl) hS0 (fun hHeld => ?_)
   obtain ⟨yq, hW⟩ : ∃ W', zr4.drew = W' := ⟨_, rfl⟩
   rw [hW] at hHeld HW ⊢
   clear hW hS0 HB_4 
   refine tK 41 (i := 0) (v := .pointer (some ⟨MH, 3, none⟩)) rfl rfl (by kernel_rfl) ?_ hHeld ?_
   ·intro w hSw; clear hSw; go_simp; try with_reducible rfl
   simp only [uZ, uS]
   refine tK 42 (i := 1) (v := tv A n c) rfl rfl (by kernel_rfl) ?_ hHeld ?_
   ·intro w hSw; have hz := hSw.1 _ HL0.out.1; have c3 := hz.cell 3; simp at c3; clear hz hSw; go_simp; try with_reducible rfl
   simp only [uZ, uS]
   refine tK 44 (i := 3) (v := .pointer (some ⟨MH, 3, none⟩)) rfl rfl (by kernel_rfl) ?_ hHeld ?_
   ·intro w hSw; clear hSw; go_simp; try with_reducible rfl
   simp only [uZ, uS]
   refine tK 45 (i := 4) (v := tv A n c) rfl rfl (by kernel_rfl) ?_ hHeld ?_
   ·intro w hSw; have hz := hSw.1 _ HL0.out.1; have c3 := hz.cell 3; simp at c3; clear hz hSw; go_simp; try with_reducible rfl
   simp only [uZ, uS]
   refine wpAnyH_ready (rs := [2]) (by kernel_rfl) (by simp) ?_
   refine AllReadyH.cons rfl (fun K hK => ?_) AllReadyH.nil
   go_simp
   (with_reducible refine (CL0.out _ hHeld.be2).mono ?_)
   rintro x y ⟨rfl, hq⟩
   have HW := Lib.hid (below_then HW.out hq)
   refine hK.out _ _ ⟨hHeld.1.on hq, below_then hHeld.2 hq⟩ (fun hHeld2 => ?_)
   clear hq
   try simp only [Act.put, uA, uZ, uS]
   clear hK K hHeld
   have hHeld := hHeld2
   clear hHeld2
   refine wpAnyH_ready (rs := [5]) (by kernel_rfl) (by simp) ?_
   refine AllReadyH.cons rfl (fun K hK => ?_) AllReadyH.nil
   go_simp
   (with_reducible refine (CL0.out _ hHeld.be2).mono ?_)
   rintro x y ⟨rfl, hq⟩
   have HW := Lib.hid (below_then HW.out hq)
   refine hK.out _ _ ⟨hHeld.1.on hq, below_then hHeld.2 hq⟩ (fun hHeld2 => ?_)
   clear hq
   try simp only [Act.put, uA, uZ, uS]
   clear hK K hHeld
   have hHeld := hHeld2
   clear hHeld2
   refine tK 47 (i := 6) (v := rv f1 f1) rfl rfl (by kernel_rfl) ?_ hHeld ?_
   ·intro w hSw; clear hSw; go_simp; try with_reducible rfl
   simp only [uZ, uS]
   refine tK 48 (i := 7) (v := .pointer (some ⟨MF, 2, none⟩)) rfl rfl (by kernel_rfl) ?_ hHeld ?_
   ·intro w hSw; clear hSw; go_simp; try with_reducible rfl
   simp only [uZ, uS]
   refine wpAnyH_ready (rs := [8]) (by kernel_rfl) (by simp) ?_
   refine AllReadyH.cons rfl (fun K hK => ?_) AllReadyH.nil
   rename World => yq
   have HXq := Lib.hid (HX_4.out.on HW.out)
   have m_ := HXq.out _ (.head _)
   have m_2 := m_.cell 2
   have m_f2 := m_.frozen 2
   have m_3 := m_.cell 3
   have m_f3 := m_.frozen 3
   simp at m_2 m_f2 m_3 m_f3
   clear m_
   go_simp
   have HXs0 : Hid (Boxes (yq.setCell ⟨MF, 2, none⟩ (.int .i64 f1)) [(MF, 55, #[.int .i64 fh, .int .i64 3, .int .i64 f1, .int .i64 p1, .int .i64 D0, .int .i64 D1]), (MH, 35, #[.int .i64 hid, .int .i64 al, .int .i64 ah, .slice A n c, .slice B mm d, .slice C l ee, .int .i64 t0, .int .i64 t1, .int .i64 u0, .int .i64 u1, .int .i64 v0, .int .i64 v1, .int .i64 h0, .int .i64 h1]), ((G + 1 + 1), 27, #[.slice Ca na ca, .slice Cb nb cb, .slice Cc nc cc, .int .i64 pl, .int .i64 de]), ((G + 1), 53, #[.int .i64 x0, .int .i64 x1, .int .i64 x2, .int .i64 x3, .int .i64 x4]), (G, 24, #[.int .i64 id, .int .i64 fi, .slice S sn sc, .slice V vn vc])]) := Lib.hid (HXq.out.set1 HFAR_MF.out 2 (.int .i64 f1) _ rfl)
   have HBs0 := Lib.hid ((hHeld.2).setCell (p := ⟨MF, 2, none⟩) (by have := HGE_MF.out; simp; omega) (.int .i64 f1))
   have HXs1 : Hid (Boxes ((yq.setCell ⟨MF, 2, none⟩ (.int .i64 f1)).setCell ⟨MF, 3, none⟩ (.int .i64 f1)) [(MF, 55, #[.int .i64 fh, .int .i64 3, .int .i64 f1, .int .i64 f1, .int .i64 D0, .int .i64 D1]), (MH, 35, #[.int .i64 hid, .int .i64 al, .int .i64 ah, .slice A n c, .slice B mm d, .slice C l ee, .int .i64 t0, .int .i64 t1, .int .i64 u0, .int .i64 u1, .int .i64 v0, .int .i64 v1, .int .i64 h0, .int .i64 h1]), ((G + 1 + 1), 27, #[.slice Ca na ca, .slice Cb nb cb, .slice Cc nc cc, .int .i64 pl, .int .i64 de]), ((G + 1), 53, #[.int .i64 x0, .int .i64 x1, .int .i64 x2, .int .i64 x3, .int .i64 x4]), (G, 24, #[.int .i64 id, .int .i64 fi, .slice S sn sc, .slice V vn vc])]) := Lib.hid (HXs0.out.set1 HFAR_MF.out 3 (.int .i64 f1) _ rfl)
   have HBs1 := Lib.hid ((HBs0.out).setCell (p := ⟨MF, 3, none⟩) (by have := HGE_MF.out; simp; omega) (.int .i64 f1))
   have HXs := HXs1; have HBs := HBs1
   refine hK.out _ _ ⟨((hHeld.1).farCell (g := MF) HFL.out 2 (.int .i64 f1)).farCell (g := MF) HFL.out 3 (.int .i64 f1), HBs.out⟩ (fun hHeld2 => ?_)
   try simp only [Act.put, uA, uZ, uS]
   clear hK K hHeld
   have hHeld := hHeld2
   clear hHeld2
   refine wpAnyH_done (by kernel_rfl) ?_ _
   clear hHeld
   go_wp2_with fail
   go_meet
   exact ⟨HXs.out, HBs.out⟩
  case rest =>
   obtain ⟨hX, hB⟩ := hcut
   have HX_6 := Lib.hid hX; have HB_6 := Lib.hid hB
   clear hX hB HX_4 HB_4 HE34 CL0 HFAR_MF HGE_MF
   rename World => zr6
   go_upto_region 8 with fail
   have fa_ := HX_6.out _ (.tail _ (.tail _ (.head _)))
   have fa_3 := fa_.cell 3
   simp at fa_3
   clear fa_
   have fb_ := HX_6.out _ (.head _)
   have fb_2 := fb_.cell 2
   have fb_3 := fb_.cell 3
   simp at fb_2 fb_3
   clear fb_
   go_wp2_with fail
   refine (CSU.out _).mono ?_
   rintro e z7 ⟨rfl, hq⟩
   have HX_7 := Lib.hid (HX_6.out.on hq); have HB_7 := Lib.hid (below_then HB_6.out hq)
   clear hq HX_6 HB_6 fa_3 fb_2 fb_3 CSU
   go_upto_region 9 with fail
   obtain ⟨LB, hLB⟩ : ∃ x, ([(MF, 55, #[.int .i64 fh, .int .i64 3, .int .i64 P0, .int .i64 P1, .int .i64 D0, .int .i64 D1]), (MH, 35, #[.int .i64 hid, .int .i64 al, .int .i64 ah, .slice A n c, .slice B mm d, .slice C l ee, .int .i64 t0, .int .i64 t1, .int .i64 u0, .int .i64 u1, .int .i64 v0, .int .i64 v1, .int .i64 h0, .int .i64 h1]), ((G + 1 + 1), 27, #[.slice Ca na ca, .slice Cb nb cb, .slice Cc nc cc, .int .i64 pl, .int .i64 de]), ((G + 1), 53, #[.int .i64 x0, .int .i64 x1, .int .i64 x2, .int .i64 x3, .int .i64 x4]), (G, 24, #[.int .i64 id, .int .i64 fi, .slice S sn sc, .slice V vn vc])] : List (Nat × TypeId × Array Value)) = x := ⟨_, rfl⟩
   have hl0 : (MF, 55, #[.int .i64 fh, .int .i64 3, .int .i64 P0, .int .i64 P1, .int .i64 D0, .int .i64 D1]) ∈ LB ∧ (MH, 35, #[.int .i64 hid, .int .i64 al, .int .i64 ah, .slice A n c, .slice B mm d, .slice C l ee, .int .i64 t0, .int .i64 t1, .int .i64 u0, .int .i64 u1, .int .i64 v0, .int .i64 v1, .int .i64 h0, .int .i64 h1]) ∈ LB ∧ ((G + 1 + 1), 27, #[.slice Ca na ca, .slice Cb nb cb, .slice Cc nc cc, .int .i64 pl, .int .i64 de]) ∈ LB ∧ ((G + 1), 53, #[.int .i64 x0, .int .i64 x1, .int .i64 x2, .int .i64 x3, .int .i64 x4]) ∈ LB ∧ (G, 24, #[.int .i64 id, .int .i64 fi, .slice S sn sc, .slice V vn vc]) ∈ LB ∧ True := by rw [← hLB]; simp
   have HL0 := Lib.hid hl0
   have hS0 : BB2 z1 LB z7.drew := ⟨by rw [← hLB]; exact HX_7.out, HB_7.out.drew⟩
   have HLB := Lib.hid hLB
   clear hLB hl0
   refine wp_region_held_drew (S := BB2 z1 LB) (by kernel_rfl) hS0 (fun hHeld => ?_)
   obtain ⟨yq, hW⟩ : ∃ W', z7.drew = W' := ⟨_, rfl⟩
   rw [hW] at hHeld ⊢
   clear hW hS0 HB_7 HX_7 
   refine tK 54 (i := 0) (v := .pointer (some ⟨MH, 3, none⟩)) rfl rfl (by kernel_rfl) ?_ hHeld ?_
   ·intro w hSw; clear hSw; go_simp; try with_reducible rfl
   simp only [uZ, uS]
   refine tK 55 (i := 1) (v := tv A n c) rfl rfl (by kernel_rfl) ?_ hHeld ?_
   ·intro w hSw; have hz := hSw.1 _ HL0.out.2.1; have c3 := hz.cell 3; simp at c3; clear hz hSw; go_simp; try with_reducible rfl
   simp only [uZ, uS]
   refine tK 57 (i := 3) (v := .int .i64 u) rfl rfl (by kernel_rfl) ?_ hHeld ?_
   ·intro w hSw; clear hSw; go_simp; try with_reducible rfl
   simp only [uZ, uS]
   refine tK 59 (i := 5) (v := .pointer (some ⟨(G + 1 + 1), 3, none⟩)) rfl rfl (by kernel_rfl) ?_ hHeld ?_
   ·intro w hSw; clear hSw; go_simp; try with_reducible rfl
   simp only [uZ, uS]
   refine tK 60 (i := 6) (v := .int .i64 pl) rfl rfl (by kernel_rfl) ?_ hHeld ?_
   ·intro w hSw; have hz := hSw.1 _ HL0.out.2.2.1; have c3 := hz.cell 3; simp at c3; clear hz hSw; go_simp; try with_reducible rfl
   simp only [uZ, uS]
   refine tK 61 (i := 7) (v := .int .i64 q3) rfl rfl (by kernel_rfl) ?_ hHeld ?_
   ·intro w hSw; clear hSw; go_simp; first | done | exact HQ3.out
   simp only [uZ, uS]
   refine wpAnyH_ready (rs := [2]) (by kernel_rfl) (by simp) ?_
   refine AllReadyH.cons rfl (fun K hK => ?_) AllReadyH.nil
   go_simp
   (with_reducible refine (CF0.out _ hHeld.be2).mono ?_)
   rintro x y ⟨rfl, hq⟩
   refine hK.out _ _ ⟨hHeld.1.on hq, below_then hHeld.2 hq⟩ (fun hHeld2 => ?_)
   clear hq
   try simp only [Act.put, uA, uZ, uS]
   clear hK K hHeld
   have hHeld := hHeld2
   clear hHeld2
   refine tK 58 (i := 4) (v := rv f0 u) rfl rfl (by kernel_rfl) ?_ hHeld ?_
   ·intro w hSw; clear hSw; go_simp; try with_reducible rfl
   simp only [uZ, uS]
   refine wpAnyH_ready (rs := [8]) (by kernel_rfl) (by simp) ?_
   refine AllReadyH.cons rfl (fun K hK => ?_) AllReadyH.nil
   go_simp
   (with_reducible refine (CST.out _).mono ?_)
   rintro x y ⟨rfl, hq⟩
   refine hK.out _ _ ⟨hHeld.1.on hq, below_then hHeld.2 hq⟩ (fun hHeld2 => ?_)
   clear hq
   try simp only [Act.put, uA, uZ, uS]
   clear hK K hHeld
   have hHeld := hHeld2
   clear hHeld2
   refine tK 10 (i := 9) (v := .int .i64 tw) rfl rfl (by kernel_rfl) ?_ hHeld ?_
   ·intro w hSw; clear hSw; go_simp; try with_reducible rfl
   simp only [uZ, uS]
   refine wpAnyH_done (by kernel_rfl) ?_ _
   rename World => zd8
   have HX_8 := Lib.hid (show Boxes zd8 LB from hHeld.1); have HB_8 := Lib.hid hHeld.2
   clear hHeld
   rw [← HLB.out] at HX_8
   clear HLB HL0
   clear CF0 CST HQ3
   go_upto_region 10 with fail
   have fa_ := HX_8.out _ (.tail _ (.tail _ (.head _)))
   have fa_0 := fa_.cell 0
   simp at fa_0
   clear fa_
   have fb_ := HX_8.out _ (.tail _ (.head _))
   have fb_3 := fb_.cell 3
   simp at fb_3
   clear fb_
   go_wp2_with fail
   refine (K0.out _ HB_8.out).mono ?_
   rintro e z9 ⟨cv, rfl, ho, hq⟩
   obtain ⟨qb, qc, rfl, _, clt, hcm⟩ := own_ints_memN ho I0.out.2.1 I0.out.2.2
   have HCI := Lib.hid (show IntsP z9 (some ⟨qb, 0, none⟩) (curveTo vol k0 n) from .inr ⟨qb, 0, rfl, clt, hcm⟩)
   clear ho clt hcm
   have HX_9 := Lib.hid (HX_8.out.on hq); have HB_9 := Lib.hid (below_then HB_8.out hq)
   clear hq HX_8 HB_8 fa_0 fb_3 K0
   go_upto_region 11 with fail
   have fa_ := HX_9.out _ (.tail _ (.head _))
   have fa_3 := fa_.cell 3
   simp at fa_3
   clear fa_
   go_wp2_with fail
   refine (LU.out _ qb qc HB_9.out HCI.out).mono ?_
   rintro e z10 ⟨⟨a, b, rfl, hval⟩, hq⟩
   have HV1 := Lib.hid hval
   have HCI := Lib.hid (HCI.out.below hq)
   clear hval
   have HX_10 := Lib.hid (HX_9.out.on hq); have HB_10 := Lib.hid (below_then HB_9.out hq)
   clear hq HX_9 HB_9 fa_3 LU
   go_upto_region 12 with fail
   have fa_ := HX_10.out _ (.tail _ (.head _))
   have fa_3 := fa_.cell 3
   simp at fa_3
   clear fa_
   go_wp2_with fail
   refine (LT.out _ qb qc HB_10.out HCI.out).mono ?_
   rintro e z11 ⟨⟨i, j, rfl, hval⟩, hq⟩
   have HV2 := Lib.hid hval
   clear hval
   have HX_11 := Lib.hid (HX_10.out.on hq); have HB_11 := Lib.hid (below_then HB_10.out hq)
   clear hq HX_10 HB_10 fa_3 LT HCI
   go_upto_region 13 with fail
   obtain ⟨o1, o2, o3, o4, o5, o6, o7, o8⟩ := BO.out a b i j HV1.out HV2.out
   have hDA := DA.out a b i j HV1.out HV2.out
   have w1 : IntKind.i64.wrap (i * b) = i * b := IntWalk.i64_in _ ⟨by omega, by omega⟩
   have w2 : IntKind.i64.wrap (a * j) = a * j := IntWalk.i64_in _ ⟨by omega, by omega⟩
   have w3 : IntKind.i64.wrap (i * b - a * j) = i * b - a * j := IntWalk.i64_in _ ⟨by omega, by omega⟩
   have ee1 : 1000 * b * j = 1000 * (b * j) := Int.mul_assoc _ _ _
   have w4 : IntKind.i64.wrap (1000 * b) = 1000 * b := IntWalk.i64_in _ ⟨by omega, by omega⟩
   have w5 : IntKind.i64.wrap (1000 * b * j) = 1000 * b * j := IntWalk.i64_in _ ⟨by omega, by omega⟩
   obtain ⟨y1, hy1⟩ : ∃ z, 1000 * b = z := ⟨_, rfl⟩
   rw [hy1] at w5 hDA
   replace w4 := w4.trans hy1
   obtain ⟨y2, hy2⟩ : ∃ z, y1 * j = z := ⟨_, rfl⟩
   rw [hy2] at hDA
   replace w5 := w5.trans hy2
   obtain ⟨n1, hn1⟩ : ∃ z, i * b = z := ⟨_, rfl⟩
   obtain ⟨n2, hn2⟩ : ∃ z, a * j = z := ⟨_, rfl⟩
   rw [hn1, hn2] at w3 hDA
   replace w1 := w1.trans hn1
   replace w2 := w2.trans hn2
   obtain ⟨ls, hls⟩ : ∃ z, n1 - n2 = z := ⟨_, rfl⟩
   rw [hls] at hDA
   replace w3 := w3.trans hls
   have HDA := Lib.hid hDA
   have HW45 := Lib.hid (And.intro w4 w5)
   clear o1 o2 o3 o4 o5 o6 o7 o8 hDA w4 w5 ee1 hy1 hy2 hn1 hn2 hls HV1 HV2 BO DA I0
   go_upto_region 14 with fail
   clear w1 w2 w3
   by_cases gl : ls < 0
   ·have b1 : decide (ls < 0) = true := decide_eq_true gl
    go_wp2_with fail
    refine (msane_any _).mono ?_
    rintro e zz ⟨rfl, hq⟩
    have HBz := Lib.hid (below_then HB_11.out hq)
    clear hq
    go_wp2
    go_ret
    exact ⟨rfl, below_then HQ_1.out HBz.out⟩
   have b1 : decide (ls < 0) = false := decide_eq_false gl
   obtain ⟨⟨g1, g2, g3, g4⟩, p, q, hpq, hlo, hhi⟩ := HDA.out (by omega)
   have w6 : IntKind.i64.wrap (ls * dd) = ls * dd := IntWalk.i64_in _ ⟨by omega, by omega⟩
   have CAR := Lib.hid (fun (W : World) => maround_S (ls * dd) y2 W g1 (by omega) g3 (by omega))
   have CDR := Lib.hid (fun (W : World) (hW : Below z1.heap.size z1 W) => hPour_any ⟨hid, al, ah, vol, mom, hei, t0, t1, u0, u1, v0, v1, h0, h1⟩ ⟨A, n, c, B, mm, d, C, l, ee⟩ ⟨fh, 3, P0, P1, D0, D1⟩ (aroundS (ls * dd) y2).1 (aroundS (ls * dd) y2).2 s0 s1 W (HIN.out.below hW))
   rw [hpq] at CDR
   obtain ⟨x1', hx1⟩ : ∃ z, ls * dd = z := ⟨_, rfl⟩
   replace w6 := w6.trans hx1
   rw [hx1] at CAR CDR
   obtain ⟨⟨c0, c1⟩, hc⟩ : ∃ z, aroundS x1' y2 = z := ⟨_, rfl⟩
   rw [hc] at CAR CDR
   obtain ⟨⟨j0, j1⟩, hj⟩ : ∃ z, mixS D0 D1 s0 s1 = z := ⟨_, rfl⟩
   rw [hj] at MX CDR
   dsimp only [holdV, holdCells, fillV, ft] at CAR CDR MX
   have CI1 := Lib.hid (fun (W : World) => sInside_yes D0 D1 j0 j1 W MX.out.1.1 MX.out.1.2)
   have CI2 := Lib.hid (fun (W : World) => sInside_yes s0 s1 j0 j1 W MX.out.2.1 MX.out.2.2)
   have HW6 := Lib.hid w6; have HLO := Lib.hid hlo; have HHI := Lib.hid hhi
   clear HDA g1 g2 g3 g4 w6 hx1 hc hj hpq hlo hhi HIN gl HDD MX
   go_upto_region 16 with fail
   clear b1
   have fa_ := HX_11.out _ (.tail _ (.tail _ (.head _)))
   have fa_4 := fa_.cell 4
   simp at fa_4
   clear fa_
   have hq5 := HQ5.out
   go_wp2_with fail
   refine (CRN.out _).mono ?_
   rintro e z12 ⟨rfl, hq⟩
   have HX_12 := Lib.hid ((HX_11.out.on hq).new 30 #[.int .i64 s0, .int .i64 s1]); have HB_12 := Lib.hid (below_then (below_then HB_11.out hq) (below_alloc1 z12 (.cells #[.int .i64 s0, .int .i64 s1] 30)))
   clear hq HX_11 HB_11 fa_4 CRN hq5 HQ5
   go_upto_region 17 with fail
   obtain ⟨V12, hW⟩ : ∃ W', z12.alloc (.cells #[.int .i64 s0, .int .i64 s1] 30) = W' := ⟨_, rfl⟩
   rw [hW] at HX_12 HB_12  ⊢
   clear hW
   obtain ⟨MR, hN⟩ : ∃ n, z12.heap.size = n := ⟨_, rfl⟩
   rw [hN] at HX_12  ⊢
   clear hN
   have fa_ := HX_12.out _ (.tail _ (.tail _ (.tail _ (.head _))))
   have fa_4 := fa_.cell 4
   simp at fa_4
   clear fa_
   have fb_ := HX_12.out _ (.head _)
   have fb_0 := fb_.cell 0
   have fb_1 := fb_.cell 1
   simp at fb_0 fb_1
   clear fb_
   have hq11 := HQ11.out
   go_wp2_with fail
   refine (CDE.out _).mono ?_
   rintro e z13 ⟨rfl, hq⟩
   have HX_13 := Lib.hid (HX_12.out.on hq); have HB_13 := Lib.hid (below_then HB_12.out hq)
   clear hq HX_12 HB_12 fa_4 fb_0 fb_1 CDE hq11 HQ11
   go_upto_region 18 with fail
   obtain ⟨w4, w5⟩ := HW45.out
   have HW4 := Lib.hid w4; have HW5 := Lib.hid w5
   clear w4 w5 HW45
   go_cut [19, 20] (fun s19 s20 wx => ∃ N, s19 = .pointer (some ⟨N, 0, none⟩) ∧ s20 = .int .i64 0 ∧ Boxes wx ((N, 55, #[.int .i64 hid, .int .i64 3, .int .i64 p, .int .i64 q, .int .i64 j0, .int .i64 j1]) :: [(MR, 30, #[.int .i64 s0, .int .i64 s1]), (MF, 55, #[.int .i64 fh, .int .i64 3, .int .i64 P0, .int .i64 P1, .int .i64 D0, .int .i64 D1]), (MH, 35, #[.int .i64 hid, .int .i64 al, .int .i64 ah, .slice A n c, .slice B mm d, .slice C l ee, .int .i64 t0, .int .i64 t1, .int .i64 u0, .int .i64 u1, .int .i64 v0, .int .i64 v1, .int .i64 h0, .int .i64 h1]), ((G + 1 + 1), 27, #[.slice Ca na ca, .slice Cb nb cb, .slice Cc nc cc, .int .i64 pl, .int .i64 de]), ((G + 1), 53, #[.int .i64 x0, .int .i64 x1, .int .i64 x2, .int .i64 x3, .int .i64 x4]), (G, 24, #[.int .i64 id, .int .i64 fi, .slice S sn sc, .slice V vn vc])]) ∧ Below z1.heap.size z1 wx)
   case first =>
    obtain ⟨LB, hLB⟩ : ∃ x, ([(MR, 30, #[.int .i64 s0, .int .i64 s1]), (MF, 55, #[.int .i64 fh, .int .i64 3, .int .i64 P0, .int .i64 P1, .int .i64 D0, .int .i64 D1]), (MH, 35, #[.int .i64 hid, .int .i64 al, .int .i64 ah, .slice A n c, .slice B mm d, .slice C l ee, .int .i64 t0, .int .i64 t1, .int .i64 u0, .int .i64 u1, .int .i64 v0, .int .i64 v1, .int .i64 h0, .int .i64 h1]), ((G + 1 + 1), 27, #[.slice Ca na ca, .slice Cb nb cb, .slice Cc nc cc, .int .i64 pl, .int .i64 de]), ((G + 1), 53, #[.int .i64 x0, .int .i64 x1, .int .i64 x2, .int .i64 x3, .int .i64 x4]), (G, 24, #[.int .i64 id, .int .i64 fi, .slice S sn sc, .slice V vn vc])] : List (Nat × TypeId × Array Value)) = x := ⟨_, rfl⟩
    have hl0 : (MR, 30, #[.int .i64 s0, .int .i64 s1]) ∈ LB ∧ (MF, 55, #[.int .i64 fh, .int .i64 3, .int .i64 P0, .int .i64 P1, .int .i64 D0, .int .i64 D1]) ∈ LB ∧ (MH, 35, #[.int .i64 hid, .int .i64 al, .int .i64 ah, .slice A n c, .slice B mm d, .slice C l ee, .int .i64 t0, .int .i64 t1, .int .i64 u0, .int .i64 u1, .int .i64 v0, .int .i64 v1, .int .i64 h0, .int .i64 h1]) ∈ LB ∧ ((G + 1 + 1), 27, #[.slice Ca na ca, .slice Cb nb cb, .slice Cc nc cc, .int .i64 pl, .int .i64 de]) ∈ LB ∧ ((G + 1), 53, #[.int .i64 x0, .int .i64 x1, .int .i64 x2, .int .i64 x3, .int .i64 x4]) ∈ LB ∧ (G, 24, #[.int .i64 id, .int .i64 fi, .slice S sn sc, .slice V vn vc]) ∈ LB ∧ True := by rw [← hLB]; simp
    have HL0 := Lib.hid hl0
    have hS0 : BB2 z1 LB z13.drew := ⟨by rw [← hLB]; exact HX_13.out, HB_13.out.drew⟩
    have HLB := Lib.hid hLB
    clear hLB hl0
    refine wp_region_held_drew (S := BB2 z1 LB) (by kernel_rfl) hS0 (fun hHeld => ?_)
    obtain ⟨yq, hW⟩ : ∃ W', z13.drew = W' := ⟨_, rfl⟩
    rw [hW] at hHeld ⊢
    clear hW hS0 HB_13 HX_13 
    refine tK 107 (i := 0) (v := .agg #[.int .i64 hid, .int .i64 al, .int .i64 ah, .slice A n c, .slice B mm d, .slice C l ee, .int .i64 t0, .int .i64 t1, .int .i64 u0, .int .i64 u1, .int .i64 v0, .int .i64 v1, .int .i64 h0, .int .i64 h1]) rfl rfl (by kernel_rfl) ?_ hHeld ?_
    ·intro w hSw; have hz := hSw.1 _ HL0.out.2.2.1; have c0 := hz.cell 0; have c1 := hz.cell 1; have c2 := hz.cell 2; have c3 := hz.cell 3; have c4 := hz.cell 4; have c5 := hz.cell 5; have c6 := hz.cell 6; have c7 := hz.cell 7; have c8 := hz.cell 8; have c9 := hz.cell 9; have c10 := hz.cell 10; have c11 := hz.cell 11; have c12 := hz.cell 12; have c13 := hz.cell 13; simp at c0 c1 c2 c3 c4 c5 c6 c7 c8 c9 c10 c11 c12 c13; clear hz hSw; go_simp; try with_reducible rfl
    simp only [uZ, uS]
    refine tK 108 (i := 1) (v := .agg #[.int .i64 fh, .int .i64 3, .int .i64 P0, .int .i64 P1, .int .i64 D0, .int .i64 D1]) rfl rfl (by kernel_rfl) ?_ hHeld ?_
    ·intro w hSw; have hz := hSw.1 _ HL0.out.2.1; have c0 := hz.cell 0; have c1 := hz.cell 1; have c2 := hz.cell 2; have c3 := hz.cell 3; have c4 := hz.cell 4; have c5 := hz.cell 5; simp at c0 c1 c2 c3 c4 c5; clear hz hSw; go_simp; try with_reducible rfl
    simp only [uZ, uS]
    refine tK 109 (i := 2) (v := .int .i64 ls) rfl rfl (by kernel_rfl) ?_ hHeld ?_
    ·intro w hSw; clear hSw; go_simp; try with_reducible rfl
    simp only [uZ, uS]
    refine tK 110 (i := 3) (v := .int .i64 dd) rfl rfl (by kernel_rfl) ?_ hHeld ?_
    ·intro w hSw; clear hSw; go_simp; try with_reducible rfl
    simp only [uZ, uS]
    refine tK 111 (i := 4) (v := .int .i64 x1') rfl rfl (by kernel_rfl) ?_ hHeld ?_
    ·intro w hSw; clear hSw; go_simp; first | done | exact HW6.out
    simp only [uZ, uS]
    refine tK 112 (i := 5) (v := .int .i64 b) rfl rfl (by kernel_rfl) ?_ hHeld ?_
    ·intro w hSw; clear hSw; go_simp; try with_reducible rfl
    simp only [uZ, uS]
    refine tK 113 (i := 6) (v := .int .i64 y1) rfl rfl (by kernel_rfl) ?_ hHeld ?_
    ·intro w hSw; clear hSw; go_simp; first | done | exact HW4.out
    simp only [uZ, uS]
    refine tK 114 (i := 7) (v := .int .i64 j) rfl rfl (by kernel_rfl) ?_ hHeld ?_
    ·intro w hSw; clear hSw; go_simp; try with_reducible rfl
    simp only [uZ, uS]
    refine tK 115 (i := 8) (v := .int .i64 y2) rfl rfl (by kernel_rfl) ?_ hHeld ?_
    ·intro w hSw; clear hSw; go_simp; first | done | exact HW5.out
    simp only [uZ, uS]
    refine tK 117 (i := 10) (v := rv s0 s1) rfl rfl (by kernel_rfl) ?_ hHeld ?_
    ·intro w hSw; have hz := hSw.1 _ HL0.out.1; have c0 := hz.cell 0; have c1 := hz.cell 1; simp at c0 c1; clear hz hSw; go_simp; try with_reducible rfl
    simp only [uZ, uS]
    refine wpAnyH_ready (rs := [9, 15]) (by kernel_rfl) (by simp) ?_
    refine AllReadyH.cons rfl (fun K hK => ?_) (AllReadyH.cons rfl (fun K hK => ?_) AllReadyH.nil)
    ·skip
     go_simp
     (with_reducible refine (CAR.out _).mono ?_)
     rintro x y ⟨rfl, hq⟩
     refine hK.out _ _ ⟨hHeld.1.on hq, below_then hHeld.2 hq⟩ (fun hHeld2 => ?_)
     clear hq
     try simp only [Act.put, uA, uZ, uS]
     clear hK K hHeld
     have hHeld := hHeld2
     clear hHeld2
     refine wpAnyH_ready (rs := [11, 15]) (by kernel_rfl) (by simp) ?_
     refine AllReadyH.cons rfl (fun K hK => ?_) (AllReadyH.cons rfl (fun K hK => ?_) AllReadyH.nil)
     ·skip
      go_simp
      (with_reducible refine (CDR.out _ hHeld.be2).mono ?_)
      rintro x y ⟨rfl, hq⟩
      refine hK.out _ _ ⟨hHeld.1.on hq, below_then hHeld.2 hq⟩ (fun hHeld2 => ?_)
      clear hq
      try simp only [Act.put, uA, uZ, uS]
      clear hK K hHeld
      have hHeld := hHeld2
      clear hHeld2
      refine tK 106 (i := 12) (v := .tuple #[.agg #[.int .i64 hid, .int .i64 3, .int .i64 p, .int .i64 q, .int .i64 j0, .int .i64 j1], .int .i64 0]) rfl rfl (by kernel_rfl) ?_ hHeld ?_
      ·intro w hSw; clear hSw; go_simp; try with_reducible rfl
      simp only [uZ, uS]
      refine tK 119 (i := 13) (v := .agg #[.int .i64 hid, .int .i64 3, .int .i64 p, .int .i64 q, .int .i64 j0, .int .i64 j1]) rfl rfl (by kernel_rfl) ?_ hHeld ?_
      ·intro w hSw; clear hSw; go_simp; try with_reducible rfl
      simp only [uZ, uS]
      refine tK 120 (i := 14) (v := .int .i64 0) rfl rfl (by kernel_rfl) ?_ hHeld ?_
      ·intro w hSw; clear hSw; go_simp; try with_reducible rfl
      simp only [uZ, uS]
      refine wpAnyH_ready (rs := [15]) (by kernel_rfl) (by simp) ?_
      refine AllReadyH.cons rfl (fun K hK => ?_) AllReadyH.nil
      rename World => yq
      go_simp
      have HDN := Lib.hid (boxes_lt hHeld.1); have HZN := Lib.hid hHeld.2.size; have HY := Lib.hid (hHeld.1.new 55 #[.int .i64 0, .int .i64 0, .int .i64 0, .int .i64 0, .int .i64 0, .int .i64 0])
      refine hK.out _ _ ⟨hHeld.1.on (below_alloc1 _ _), below_then hHeld.2 (below_alloc1 _ _)⟩ (fun hHeld2 => ?_)
      try simp only [Act.put, uA, uZ, uS]
      clear hK K hHeld
      have hHeld := hHeld2
      clear hHeld2
      obtain ⟨yr, hW⟩ : ∃ W', yq.alloc (.cells #[.int .i64 0, .int .i64 0, .int .i64 0, .int .i64 0, .int .i64 0, .int .i64 0] 55) = W' := ⟨_, rfl⟩
      rw [hW] at HY hHeld ⊢
      clear hW
      obtain ⟨N14, hN⟩ : ∃ N, yq.heap.size = N := ⟨_, rfl⟩
      rw [hN] at HY HDN HZN ⊢
      clear hN
      refine wpAnyH_ready (rs := [16]) (by kernel_rfl) (by simp) ?_
      refine AllReadyH.cons rfl (fun K hK => ?_) AllReadyH.nil
      rw [if_pos (by kernel_rfl)]
      rename World => yq
      have HXs : Hid (Boxes (yq.setRow N14 #[.int .i64 hid, .int .i64 3, .int .i64 p, .int .i64 q, .int .i64 j0, .int .i64 j1]) ((N14, 55, #[.int .i64 hid, .int .i64 3, .int .i64 p, .int .i64 q, .int .i64 j0, .int .i64 j1]) :: LB)) := Lib.hid (Boxes.row HY.out (.head _) (fun p hp => ⟨.tail _ hp, HDN.out p hp⟩) #[.int .i64 hid, .int .i64 3, .int .i64 p, .int .i64 q, .int .i64 j0, .int .i64 j1])
      have HEs := Lib.hid (below_setRow hHeld.2 (show z1.heap.size ≤ N14 from HZN.out) #[.int .i64 hid, .int .i64 3, .int .i64 p, .int .i64 q, .int .i64 j0, .int .i64 j1])
      refine wp_store_row 55 (.tmp 19) (.tmp 119) rfl N14 #[.int .i64 hid, .int .i64 3, .int .i64 p, .int .i64 q, .int .i64 j0, .int .i64 j1] rfl rfl 55 _ (HY.out _ (.head _)) (by kernel_rfl) rfl (by kernel_rfl) ?_
      refine hK.out _ _ ⟨hHeld.1.farRow (g := N14) HDN.out _, HEs.out⟩ (fun hHeld2 => ?_)
      try simp only [Act.put, uA, uZ, uS]
      clear hK K hHeld
      have hHeld := hHeld2
      clear hHeld2
      refine tK 20 (i := 17) (v := .int .i64 0) rfl rfl (by kernel_rfl) ?_ hHeld ?_
      ·intro w hSw; clear hSw; go_simp; try with_reducible rfl
      simp only [uZ, uS]
      refine wpAnyH_done (by kernel_rfl) ?_ _
      clear hHeld
      go_wp2_with fail
      go_meet
      rw [← HLB.out] at HXs
      exact ⟨N14, rfl, rfl, HXs.out, HEs.out⟩
     ·skip
      rename World => yq
      go_simp
      have HDN := Lib.hid (boxes_lt hHeld.1); have HZN := Lib.hid hHeld.2.size; have HY := Lib.hid (hHeld.1.new 55 #[.int .i64 0, .int .i64 0, .int .i64 0, .int .i64 0, .int .i64 0, .int .i64 0])
      refine hK.out _ _ ⟨hHeld.1.on (below_alloc1 _ _), below_then hHeld.2 (below_alloc1 _ _)⟩ (fun hHeld2 => ?_)
      try simp only [Act.put, uA, uZ, uS]
      clear hK K hHeld
      have hHeld := hHeld2
      clear hHeld2
      obtain ⟨yr, hW⟩ : ∃ W', yq.alloc (.cells #[.int .i64 0, .int .i64 0, .int .i64 0, .int .i64 0, .int .i64 0, .int .i64 0] 55) = W' := ⟨_, rfl⟩
      rw [hW] at HY hHeld ⊢
      clear hW
      obtain ⟨N14, hN⟩ : ∃ N, yq.heap.size = N := ⟨_, rfl⟩
      rw [hN] at HY HDN HZN ⊢
      clear hN
      refine wpAnyH_ready (rs := [11]) (by kernel_rfl) (by simp) ?_
      refine AllReadyH.cons rfl (fun K hK => ?_) AllReadyH.nil
      go_simp
      (with_reducible refine (CDR.out _ hHeld.be2).mono ?_)
      rintro x y ⟨rfl, hq⟩
      have HY := Lib.hid (HY.out.on hq)
      refine hK.out _ _ ⟨hHeld.1.on hq, below_then hHeld.2 hq⟩ (fun hHeld2 => ?_)
      clear hq
      try simp only [Act.put, uA, uZ, uS]
      clear hK K hHeld
      have hHeld := hHeld2
      clear hHeld2
      refine tK 106 (i := 12) (v := .tuple #[.agg #[.int .i64 hid, .int .i64 3, .int .i64 p, .int .i64 q, .int .i64 j0, .int .i64 j1], .int .i64 0]) rfl rfl (by kernel_rfl) ?_ hHeld ?_
      ·intro w hSw; clear hSw; go_simp; try with_reducible rfl
      simp only [uZ, uS]
      refine tK 119 (i := 13) (v := .agg #[.int .i64 hid, .int .i64 3, .int .i64 p, .int .i64 q, .int .i64 j0, .int .i64 j1]) rfl rfl (by kernel_rfl) ?_ hHeld ?_
      ·intro w hSw; clear hSw; go_simp; try with_reducible rfl
      simp only [uZ, uS]
      refine tK 120 (i := 14) (v := .int .i64 0) rfl rfl (by kernel_rfl) ?_ hHeld ?_
      ·intro w hSw; clear hSw; go_simp; try with_reducible rfl
      simp only [uZ, uS]
      refine wpAnyH_ready (rs := [16]) (by kernel_rfl) (by simp) ?_
      refine AllReadyH.cons rfl (fun K hK => ?_) AllReadyH.nil
      rw [if_pos (by kernel_rfl)]
      rename World => yq
      have HXs : Hid (Boxes (yq.setRow N14 #[.int .i64 hid, .int .i64 3, .int .i64 p, .int .i64 q, .int .i64 j0, .int .i64 j1]) ((N14, 55, #[.int .i64 hid, .int .i64 3, .int .i64 p, .int .i64 q, .int .i64 j0, .int .i64 j1]) :: LB)) := Lib.hid (Boxes.row HY.out (.head _) (fun p hp => ⟨.tail _ hp, HDN.out p hp⟩) #[.int .i64 hid, .int .i64 3, .int .i64 p, .int .i64 q, .int .i64 j0, .int .i64 j1])
      have HEs := Lib.hid (below_setRow hHeld.2 (show z1.heap.size ≤ N14 from HZN.out) #[.int .i64 hid, .int .i64 3, .int .i64 p, .int .i64 q, .int .i64 j0, .int .i64 j1])
      refine wp_store_row 55 (.tmp 19) (.tmp 119) rfl N14 #[.int .i64 hid, .int .i64 3, .int .i64 p, .int .i64 q, .int .i64 j0, .int .i64 j1] rfl rfl 55 _ (HY.out _ (.head _)) (by kernel_rfl) rfl (by kernel_rfl) ?_
      refine hK.out _ _ ⟨hHeld.1.farRow (g := N14) HDN.out _, HEs.out⟩ (fun hHeld2 => ?_)
      try simp only [Act.put, uA, uZ, uS]
      clear hK K hHeld
      have hHeld := hHeld2
      clear hHeld2
      refine tK 20 (i := 17) (v := .int .i64 0) rfl rfl (by kernel_rfl) ?_ hHeld ?_
      ·intro w hSw; clear hSw; go_simp; try with_reducible rfl
      simp only [uZ, uS]
      refine wpAnyH_done (by kernel_rfl) ?_ _
      clear hHeld
      go_wp2_with fail
      go_meet
      rw [← HLB.out] at HXs
      exact ⟨N14, rfl, rfl, HXs.out, HEs.out⟩
    ·skip
     rename World => yq
     go_simp
     have HDN := Lib.hid (boxes_lt hHeld.1); have HZN := Lib.hid hHeld.2.size; have HY := Lib.hid (hHeld.1.new 55 #[.int .i64 0, .int .i64 0, .int .i64 0, .int .i64 0, .int .i64 0, .int .i64 0])
     refine hK.out _ _ ⟨hHeld.1.on (below_alloc1 _ _), below_then hHeld.2 (below_alloc1 _ _)⟩ (fun hHeld2 => ?_)
     try simp only [Act.put, uA, uZ, uS]
     clear hK K hHeld
     have hHeld := hHeld2
     clear hHeld2
     obtain ⟨yr, hW⟩ : ∃ W', yq.alloc (.cells #[.int .i64 0, .int .i64 0, .int .i64 0, .int .i64 0, .int .i64 0, .int .i64 0] 55) = W' := ⟨_, rfl⟩
     rw [hW] at HY hHeld ⊢
     clear hW
     obtain ⟨N14, hN⟩ : ∃ N, yq.heap.size = N := ⟨_, rfl⟩
     rw [hN] at HY HDN HZN ⊢
     clear hN
     refine wpAnyH_ready (rs := [9]) (by kernel_rfl) (by simp) ?_
     refine AllReadyH.cons rfl (fun K hK => ?_) AllReadyH.nil
     go_simp
     (with_reducible refine (CAR.out _).mono ?_)
     rintro x y ⟨rfl, hq⟩
     have HY := Lib.hid (HY.out.on hq)
     refine hK.out _ _ ⟨hHeld.1.on hq, below_then hHeld.2 hq⟩ (fun hHeld2 => ?_)
     clear hq
     try simp only [Act.put, uA, uZ, uS]
     clear hK K hHeld
     have hHeld := hHeld2
     clear hHeld2
     refine wpAnyH_ready (rs := [11]) (by kernel_rfl) (by simp) ?_
     refine AllReadyH.cons rfl (fun K hK => ?_) AllReadyH.nil
     go_simp
     (with_reducible refine (CDR.out _ hHeld.be2).mono ?_)
     rintro x y ⟨rfl, hq⟩
     have HY := Lib.hid (HY.out.on hq)
     refine hK.out _ _ ⟨hHeld.1.on hq, below_then hHeld.2 hq⟩ (fun hHeld2 => ?_)
     clear hq
     try simp only [Act.put, uA, uZ, uS]
     clear hK K hHeld
     have hHeld := hHeld2
     clear hHeld2
     refine tK 106 (i := 12) (v := .tuple #[.agg #[.int .i64 hid, .int .i64 3, .int .i64 p, .int .i64 q, .int .i64 j0, .int .i64 j1], .int .i64 0]) rfl rfl (by kernel_rfl) ?_ hHeld ?_
     ·intro w hSw; clear hSw; go_simp; try with_reducible rfl
     simp only [uZ, uS]
     refine tK 119 (i := 13) (v := .agg #[.int .i64 hid, .int .i64 3, .int .i64 p, .int .i64 q, .int .i64 j0, .int .i64 j1]) rfl rfl (by kernel_rfl) ?_ hHeld ?_
     ·intro w hSw; clear hSw; go_simp; try with_reducible rfl
     simp only [uZ, uS]
     refine tK 120 (i := 14) (v := .int .i64 0) rfl rfl (by kernel_rfl) ?_ hHeld ?_
     ·intro w hSw; clear hSw; go_simp; try with_reducible rfl
     simp only [uZ, uS]
     refine wpAnyH_ready (rs := [16]) (by kernel_rfl) (by simp) ?_
     refine AllReadyH.cons rfl (fun K hK => ?_) AllReadyH.nil
     rw [if_pos (by kernel_rfl)]
     rename World => yq
     have HXs : Hid (Boxes (yq.setRow N14 #[.int .i64 hid, .int .i64 3, .int .i64 p, .int .i64 q, .int .i64 j0, .int .i64 j1]) ((N14, 55, #[.int .i64 hid, .int .i64 3, .int .i64 p, .int .i64 q, .int .i64 j0, .int .i64 j1]) :: LB)) := Lib.hid (Boxes.row HY.out (.head _) (fun p hp => ⟨.tail _ hp, HDN.out p hp⟩) #[.int .i64 hid, .int .i64 3, .int .i64 p, .int .i64 q, .int .i64 j0, .int .i64 j1])
     have HEs := Lib.hid (below_setRow hHeld.2 (show z1.heap.size ≤ N14 from HZN.out) #[.int .i64 hid, .int .i64 3, .int .i64 p, .int .i64 q, .int .i64 j0, .int .i64 j1])
     refine wp_store_row 55 (.tmp 19) (.tmp 119) rfl N14 #[.int .i64 hid, .int .i64 3, .int .i64 p, .int .i64 q, .int .i64 j0, .int .i64 j1] rfl rfl 55 _ (HY.out _ (.head _)) (by kernel_rfl) rfl (by kernel_rfl) ?_
     refine hK.out _ _ ⟨hHeld.1.farRow (g := N14) HDN.out _, HEs.out⟩ (fun hHeld2 => ?_)
     try simp only [Act.put, uA, uZ, uS]
     clear hK K hHeld
     have hHeld := hHeld2
     clear hHeld2
     refine tK 20 (i := 17) (v := .int .i64 0) rfl rfl (by kernel_rfl) ?_ hHeld ?_
     ·intro w hSw; clear hSw; go_simp; try with_reducible rfl
     simp only [uZ, uS]
     refine wpAnyH_done (by kernel_rfl) ?_ _
     clear hHeld
     go_wp2_with fail
     go_meet
     rw [← HLB.out] at HXs
     exact ⟨N14, rfl, rfl, HXs.out, HEs.out⟩
   case rest =>
    obtain ⟨MG, rfl, rfl, hX, hB⟩ := hcut
    have HX_15 := Lib.hid hX; have HB_15 := Lib.hid hB
    clear hX hB HX_13 HB_13 CAR CDR HW6 HW4 HW5
    rename World => zr15
    have fa_ := HX_15.out _ (.tail _ (.tail _ (.head _)))
    have fa_4 := fa_.cell 4
    have fa_5 := fa_.cell 5
    simp at fa_4 fa_5
    clear fa_
    have fb_ := HX_15.out _ (.head _)
    have fb_0 := fb_.cell 0
    have fb_1 := fb_.cell 1
    have fb_2 := fb_.cell 2
    have fb_3 := fb_.cell 3
    have fb_4 := fb_.cell 4
    have fb_5 := fb_.cell 5
    simp at fb_0 fb_1 fb_2 fb_3 fb_4 fb_5
    clear fb_
    have fc_ := HX_15.out _ (.tail _ (.head _))
    have fc_0 := fc_.cell 0
    have fc_1 := fc_.cell 1
    simp at fc_0 fc_1
    clear fc_
    have l1 : decide (p ≤ tw) = true := decide_eq_true HLO.out
    have l2 : decide (tw ≤ q) = true := decide_eq_true HHI.out
    go_wp2_with fail
    refine (CI1.out _).mono ?_
    rintro e zi ⟨rfl, hq⟩
    have HX_i := Lib.hid (HX_15.out.on hq); have HB_i := Lib.hid (below_then HB_15.out hq)
    clear hq fa_4 fa_5 fb_0 fb_1 fb_2 fb_3 fb_4 fb_5 fc_0 fc_1
    have fa_ := HX_i.out _ (.head _)
    have fa_0 := fa_.cell 0
    have fa_1 := fa_.cell 1
    have fa_2 := fa_.cell 2
    have fa_3 := fa_.cell 3
    have fa_4 := fa_.cell 4
    have fa_5 := fa_.cell 5
    simp at fa_0 fa_1 fa_2 fa_3 fa_4 fa_5
    clear fa_
    have fb_ := HX_i.out _ (.tail _ (.head _))
    have fb_0 := fb_.cell 0
    have fb_1 := fb_.cell 1
    simp at fb_0 fb_1
    clear fb_
    go_wp2_with fail
    refine (CI2.out _).mono ?_
    rintro e zj ⟨rfl, hq⟩
    have HB_j := Lib.hid (below_then HB_i.out hq)
    clear hq fa_0 fa_1 fa_2 fa_3 fa_4 fa_5 fb_0 fb_1
    go_wp2_with fail
    refine (msane_any _).mono ?_
    rintro e zz ⟨rfl, hq⟩
    have HBz := Lib.hid (below_then HB_j.out hq)
    clear hq
    go_wp2
    go_ret
    exact ⟨rfl, below_then HQ_1.out HBz.out⟩
end

section
open Go.ChangeShapes Go.WideShapes Go.ChangeAt Go.RowKit Go.Joins

set_option maxRecDepth 100000 in
theorem holdPoured_lifted (os : Os) (started : os.Started) (H : Type) (enc : TypeId × Value → H) :
    ReturnsInHanded {} Tryz.checked os 4 .any (Rows.holdPouredSpec.pre6 enc Tryz.prog Tryz.f4 Rows.holdPouredRow.domain false) (Rows.holdPouredSpec.post enc Tryz.prog Tryz.f4 false true false false) := by
  refine returnsInHanded_of_change_sized (C := Tryz.checked) own started (by kernel_rfl) Tryz.func4
    (ChangeSpec.witness6 (enc := enc) (C := Tryz.checked) false ⟨#[], #[.agg #[.int .i64 0, .int .i64 0, .slice none 0 0, .slice none 0 0], .agg #[.int .i64 0, .int .i64 0, .int .i64 0, .int .i64 0, .int .i64 0], .agg #[.slice none 0 0, .slice none 0 0, .slice none 0 0, .int .i64 0, .int .i64 0]], []⟩ 8 (by kernel_rfl) (by kernel_rfl) (by kernel_rfl) (by kernel_rfl)) ?_
  intro W base args ds gs before hval0 hW hcnd hsz _
  have hval : ∀ (j : Nat) t v, Tryz.f4.params[j]? = some t → args[j]? = some v → Value.okWide Tryz.prog W .any base t v := hval0
  have hW' := hW
  obtain ⟨p, q, hA0, hV, rfl, hfz, hnd⟩ := hW
  have hA : DataW.TrodAll enc Tryz.prog W 0 (fun _ => true) true Tryz.f4.params.toList args.toList ds p := hA0
  rw [Tryz.params4] at hA hval
  have hsz2 : (DataW.weightsEach Tryz.prog (Tryz.f4.params.toList ++ Rows.holdPouredSpec.plain.varTypes Tryz.prog) (ds ++ gs)).all (· ≤ reachBytes) = true := hsz
  rw [Tryz.params4] at hsz2
  obtain ⟨v0, v1, v2, d0, d1, d2, p0, p1, p2, hargs, rfl, rfl, h0, h1, h2⟩ := trodAll_three hA
  obtain rfl : args = #[v0, v1, v2] := by cases args; simp_all
  obtain ⟨rfl, rfl⟩ := trodVars_none hV
  have light : ∀ (j : Nat) (t : TypeId) (d : DataW H), ([24, 53, 27] : List TypeId)[j]? = some t → ([d0, d1, d2] : List (DataW H))[j]? = some d → Light t d := fun j t d ht hd n hn => by
    have q := List.all_eq_true.1 hsz2 n (DataW.weights_mem_each (j := j) (t := t) (d := d) (by
      have := List.getElem?_eq_some_iff.1 ht
      obtain ⟨hl, _⟩ := this
      rw [List.getElem?_append_left (by simpa using hl)]
      simpa using ht) (by
      have := List.getElem?_eq_some_iff.1 hd
      obtain ⟨hl, _⟩ := this
      rw [List.getElem?_append_left (by simpa using hl)]
      simpa using hd) n hn)
    simpa using q
  obtain ⟨r, m, rfl, hi⟩ := open_raw (hval 0 24 v0 rfl rfl) h0 (light 0 _ d0 rfl rfl)
  obtain ⟨x0, x1, x2, x3, x4, rfl⟩ := open_five (hval 1 53 v1 rfl rfl) h1
  obtain ⟨Ca, Cb, Cc, na, ca, nb, cb, nc, cc, k0, k1, k2, pl, de, rfl, hka, hkb, hkc⟩ := open_truth (hval 2 27 v2 rfl rfl) h2 (light 2 _ d2 rfl rfl)
  refine (holdPoured_walk r m x0 x1 x2 x3 x4 Ca Cb Cc na ca nb cb nc cc k0 k1 k2 pl de W hi hka).mono fun e W' ⟨he, hb⟩ => ?_
  subst he
  exact ⟨_, rfl, law_post rfl rfl (by intro t ht; rw [Tryz.params4] at ht
                                      have : t = 24 ∨ t = 53 ∨ t = 27 := by simpa using ht
                                      rcases this with rfl | rfl | rfl <;> exact ⟨by kernel_rfl, of_decide_eq_true (by kernel_rfl)⟩) hW' rfl rfl rfl hb⟩

theorem holdPoured_holds : Rows.HoldPouredSaid :=
  OpenClaim.holds_of_wide 4 Tryz.f4 rfl rfl rfl rfl rfl rfl rfl ⟨rfl, rfl, rfl, rfl, rfl⟩ rfl rfl rfl rfl rfl (by kernel_rfl) Tryz.func4 (by kernel_rfl)
    (of_decide_eq_true (by kernel_rfl)) (by unfold Func.isWrapper; rw [if_neg (of_decide_eq_false (by kernel_rfl))]; exact ⟨rfl, rfl⟩)
    (fun os started H enc _ => holdPoured_lifted os started H enc)
end

end Go.Proofs.YtemlaaipnhmcoaaGreat
