/- HoldInverts: whatever numbers come in, the law returns true and leaves its arguments as they were. No conditions. -/
import Derived.Test.YtemlaaipnhmcoaaGreatR44
import Derived.Test.YtemlaaipnhmcoaaGreatR45
import Derived.Test.YtemlaaipnhmcoaaGreatR43
import Derived.Test.YtemlaaipnhmcoaaGreatR26
import Derived.Test.YtemlaaipnhmcoaaGreatR46
import Derived.Test.YtemlaaipnhmcoaaGreatR47
import Derived.Test.YtemlaaipnhmcoaaGreatQ98
set_option linter.unusedVariables false
set_option linter.unusedSimpArgs false
set_option linter.constructorNameAsVariable false
namespace Go.Proofs.YtemlaaipnhmcoaaGreat

section
open Go.RowKit
theorem tank_firstZ {t : TankD} (e : tankS t = true) : firstX t.vol ≤ lastX t.vol := by
  have ht := measures_ok (tank_parts e).1.1
  have hr := rising_pts t.vol (-1) (tabOk_pts ht) (by omega)
  have hl := tabOk_len ht
  have q1 : firstX t.vol = (t.vol[0]'(by omega)).1 := by unfold firstX; rw [List.head?_eq_getElem?, List.getElem?_eq_getElem (show 0 < t.vol.length by omega)]; rfl
  have q2 : lastX t.vol = (t.vol[t.vol.length - 1]'(by omega)).1 := by unfold lastX; rw [List.getLast?_eq_getElem?, List.getElem?_eq_getElem (show t.vol.length - 1 < t.vol.length by omega)]; rfl
  rw [q1, q2]
  rcases Nat.lt_or_ge 1 t.vol.length with g | g
  · exact Int.le_of_lt (List.pairwise_iff_getElem.1 hr 0 (t.vol.length - 1) (by omega) (by omega) (by omega))
  · have : t.vol.length = 1 := by omega
    simp [this]

set_option maxRecDepth 100000 in
set_option maxHeartbeats 4000000 in
theorem holdInverts_walk (r : RawD) (m : RawM) (Ca Cb Cc : Option Addr) (na ca nb cb nc cc : Nat) (k0 k1 k2 : List Int) (pl de g0 g1 : Int) (w : World) (hi : RawIn w r m) (hka : LstIn w Ca na k0) (hkb : LstIn w Cb nb k1) :
  Calls Tryz.prog 3 #[rawV r m, .agg #[.slice Ca na ca, .slice Cb nb cb, .slice Cc nc cc, .int .i64 pl, .int .i64 de], .agg #[.int .i64 g0, .int .i64 g1]] w fun e w' => e = .returned (.bool true) ∧ Below w.heap.size w w' := by
 obtain ⟨h, hh⟩ : ∃ h, madeH r = h := ⟨_, rfl⟩
 obtain ⟨t, htt⟩ : ∃ t, madeT r = t := ⟨_, rfl⟩
 have C1 := fun (W : World) (hW : Below w.heap.size w W) => smadeHold r m W (hi.below hW)
 have C2 := fun (W : World) (hW : Below w.heap.size w W) => smadeTank r m W (hi.below hW)
 have hHS : holdS h = true := by rw [← hh]; exact made_valid r
 have hTS : tankS t = true := by rw [← htt]; exact madeT_valid r
 rw [hh] at C1
 rw [htt] at C2
 obtain ⟨id, fi, st, vs⟩ := r
 obtain ⟨S, sn, sc, V, vn, vc⟩ := m
 have HKA := Lib.hid hka; have HKB := Lib.hid hkb; have HHS := Lib.hid hHS; have HTS := Lib.hid hTS
 have C1 := Lib.hid C1; have C2 := Lib.hid C2
 clear hi hka hkb hh htt hHS hTS
 have HE := Lib.hid (show Below w.heap.size w (((w.alloc (.cells #[.int .i64 id, .int .i64 fi, .slice S sn sc, .slice V vn vc] 24)).alloc (.cells #[.slice Ca na ca, .slice Cb nb cb, .slice Cc nc cc, .int .i64 pl, .int .i64 de] 27)).alloc (.cells #[.int .i64 g0, .int .i64 g1] 28)) from below_a3 (Below.refl _ _))
 have HK := Lib.hid (boxes3' w 24 27 28 #[.int .i64 id, .int .i64 fi, .slice S sn sc, .slice V vn vc] #[.slice Ca na ca, .slice Cb nb cb, .slice Cc nc cc, .int .i64 pl, .int .i64 de] #[.int .i64 g0, .int .i64 g1])
 go_enter Tryz.func3, Tryz.ntmps3
 go_upto_region 1 with fail
 obtain ⟨W0, hW0⟩ : ∃ W0 : World, (((w.alloc (.cells #[.int .i64 id, .int .i64 fi, .slice S sn sc, .slice V vn vc] 24)).alloc (.cells #[.slice Ca na ca, .slice Cb nb cb, .slice Cc nc cc, .int .i64 pl, .int .i64 de] 27)).alloc (.cells #[.int .i64 g0, .int .i64 g1] 28)) = W0 := ⟨_, rfl⟩
 rw [hW0] at HE HK ⊢
 clear hW0
 obtain ⟨G, hG⟩ : ∃ G, w.heap.size = G := ⟨_, rfl⟩
 rw [hG] at HK ⊢
 have HG := Lib.hid hG; clear hG
 have fa_ := HK.out _ (.tail _ (.tail _ (.head _)))
 have fa_0 := fa_.cell 0
 have fa_1 := fa_.cell 1
 have fa_2 := fa_.cell 2
 have fa_3 := fa_.cell 3
 simp at fa_0 fa_1 fa_2 fa_3
 clear fa_
 go_wp2_with fail
 refine (C1.out _ HE.out).mono ?_
 rintro e z1 ⟨⟨mh, rfl, hinh⟩, hq⟩
 obtain ⟨hid, al, ah, vol, mom, hei, t0, t1, u0, u1, v0, v1, h0, h1⟩ := h
 obtain ⟨A, n, c, B, mm, d, C, l, ee⟩ := mh
 have HIN := Lib.hid (hinh.below (below_alloc1 z1 (.cells #[.int .i64 hid, .int .i64 al, .int .i64 ah, .slice A n c, .slice B mm d, .slice C l ee, .int .i64 t0, .int .i64 t1, .int .i64 u0, .int .i64 u1, .int .i64 v0, .int .i64 v1, .int .i64 h0, .int .i64 h1] 35)))
 clear hinh
 have HX_1 := Lib.hid ((HK.out.on hq).new 35 #[.int .i64 hid, .int .i64 al, .int .i64 ah, .slice A n c, .slice B mm d, .slice C l ee, .int .i64 t0, .int .i64 t1, .int .i64 u0, .int .i64 u1, .int .i64 v0, .int .i64 v1, .int .i64 h0, .int .i64 h1]); have HB_1 := Lib.hid (below_then (below_then HE.out hq) (below_alloc1 z1 (.cells #[.int .i64 hid, .int .i64 al, .int .i64 ah, .slice A n c, .slice B mm d, .slice C l ee, .int .i64 t0, .int .i64 t1, .int .i64 u0, .int .i64 u1, .int .i64 v0, .int .i64 v1, .int .i64 h0, .int .i64 h1] 35)))
 clear hq HK HE fa_0 fa_1 fa_2 fa_3 C1
 go_upto_region 2 with fail
 obtain ⟨V1, hW⟩ : ∃ W', z1.alloc (.cells #[.int .i64 hid, .int .i64 al, .int .i64 ah, .slice A n c, .slice B mm d, .slice C l ee, .int .i64 t0, .int .i64 t1, .int .i64 u0, .int .i64 u1, .int .i64 v0, .int .i64 v1, .int .i64 h0, .int .i64 h1] 35) = W' := ⟨_, rfl⟩
 rw [hW] at HX_1 HB_1 HIN ⊢
 clear hW
 obtain ⟨MH, hN⟩ : ∃ n, z1.heap.size = n := ⟨_, rfl⟩
 rw [hN] at HX_1  ⊢
 clear hN
 have fa_ := HX_1.out _ (.tail _ (.tail _ (.tail _ (.head _))))
 have fa_0 := fa_.cell 0
 have fa_1 := fa_.cell 1
 have fa_2 := fa_.cell 2
 have fa_3 := fa_.cell 3
 simp at fa_0 fa_1 fa_2 fa_3
 clear fa_
 go_wp2_with fail
 refine (C2.out _ HB_1.out).mono ?_
 rintro e z2 ⟨⟨mt, rfl, hint⟩, hq⟩
 obtain ⟨tid, bl, bh, tv1, tv2, tv3⟩ := t
 obtain ⟨TA, tn, tc, TB, tm, td, TQ, tl, te⟩ := mt
 have HIT := Lib.hid hint
 have HIN := Lib.hid (HIN.out.below hq)
 clear hint
 have HQ_2 := Lib.hid (below_then HB_1.out hq)
 have HX_2 := Lib.hid ((HX_1.out.on hq).new 38 #[.int .i64 tid, .int .i64 bl, .int .i64 bh, .slice TA tn tc, .slice TB tm td, .slice TQ tl te]); have HB_2 := Lib.hid (below_alloc1 z2 (.cells #[.int .i64 tid, .int .i64 bl, .int .i64 bh, .slice TA tn tc, .slice TB tm td, .slice TQ tl te] 38))
 clear hq HX_1 HB_1 fa_0 fa_1 fa_2 fa_3 C2
 go_upto_region 3 with fail
 obtain ⟨V2, hW⟩ : ∃ W', z2.alloc (.cells #[.int .i64 tid, .int .i64 bl, .int .i64 bh, .slice TA tn tc, .slice TB tm td, .slice TQ tl te] 38) = W' := ⟨_, rfl⟩
 rw [hW] at HX_2 HB_2  ⊢
 clear hW
 obtain ⟨MT, hN⟩ : ∃ n, z2.heap.size = n := ⟨_, rfl⟩
 rw [hN] at HX_2  ⊢
 clear hN
 have hm0 : measuresS vol = true := (hold_parts HHS.out).2.1.1
 have hm1 : measuresS tv1 = true := (tank_parts HTS.out).1.1
 have ht0 := measures_ok hm0; have ht1 := measures_ok hm1
 have hf0 : firstX vol ≤ lastX vol := hold_first HHS.out
 have hf1 : firstX tv1 ≤ lastX tv1 := tank_firstZ HTS.out
 have hp0 := tab_places ht0; have hp1 := tab_places ht1
 have hT0 := Lib.hid (fun (W : World) (hW : Below z2.heap.size z2 W) => show TabIn W A n vol from (HIN.out.below hW).1)
 have hT1 := Lib.hid (fun (W : World) (hW : Below z2.heap.size z2 W) => show TabIn W TA tn tv1 from (HIT.out.below hW).1)
 have CF0 := Lib.hid (fun (W : World) (hW : Below z2.heap.size z2 W) => sFirst_tab A n c vol W (hT0.out W hW) ht0)
 have CL0 := Lib.hid (fun (W : World) (hW : Below z2.heap.size z2 W) => sLast_tab A n c vol W (hT0.out W hW) ht0)
 have CF1 := Lib.hid (fun (W : World) (hW : Below z2.heap.size z2 W) => sFirst_tab TA tn tc tv1 W (hT1.out W hW) ht1)
 have CL1 := Lib.hid (fun (W : World) (hW : Below z2.heap.size z2 W) => sLast_tab TA tn tc tv1 W (hT1.out W hW) ht1)
 have K0 := Lib.hid (fun (W : World) (hW : Below z2.heap.size z2 W) => curve_c (c := c) (ca := ca) (hT0.out W hW) ht0 (HKA.out.below (below_then HQ_2.out hW)))
 have K1 := Lib.hid (fun (W : World) (hW : Below z2.heap.size z2 W) => curve_c (c := tc) (ca := cb) (hT1.out W hW) ht1 (HKB.out.below (below_then HQ_2.out hW)))
 have I0 := Lib.hid (curve_in k0 HIN.out.1 ht0 (measures_len hm0))
 have I1 := Lib.hid (curve_in k1 HIT.out.1 ht1 (measures_len hm1))
 obtain ⟨u, hu⟩ : ∃ z, firstX vol + pl % (lastX vol - firstX vol + 1) = z := ⟨_, rfl⟩
 obtain ⟨s, hs⟩ : ∃ z, firstX tv1 + pl % (lastX tv1 - firstX tv1 + 1) = z := ⟨_, rfl⟩
 have hu2 := some_inZ pl hf0; have hs2 := some_inZ pl hf1
 rw [hu] at hu2
 rw [hs] at hs2
 have L0 := Lib.hid (fun (W : World) (cb cc' : Nat) (hW : Below z2.heap.size z2 W) (hc : IntsP W (some ⟨cb, 0, none⟩) (curveTo vol k0 n)) => value_c (c := c) (cc := cc') (hT0.out W hW) ht0 (measures_len hm0) hc hu2.1 hu2.2)
 have L1 := Lib.hid (fun (W : World) (cb cc' : Nat) (hW : Below z2.heap.size z2 W) (hc : IntsP W (some ⟨cb, 0, none⟩) (curveTo tv1 k1 tn)) => value_c (c := tc) (cc := cc') (hT1.out W hW) ht1 (measures_len hm1) hc hs2.1 hs2.2)
 have CS0 : Hid (∀ W, Calls Tryz.prog 17 #[rv (firstX vol) (lastX vol), .int .i64 pl] W fun e w' => e = .returned (.int .i64 u) ∧ Below W.heap.size W w') := Lib.hid fun W => int_to (msomewhere_to _ _ pl W hf0 (by omega) (by omega)) hu
 have CS1 : Hid (∀ W, Calls Tryz.prog 17 #[rv (firstX tv1) (lastX tv1), .int .i64 pl] W fun e w' => e = .returned (.int .i64 s) ∧ Below W.heap.size W w') := Lib.hid fun W => int_to (msomewhere_to _ _ pl W hf1 (by omega) (by omega)) hs
 have hd := density_in de g1
 have CDN := Lib.hid (fun (W : World) => sDensityN_to de g1 W)
 obtain ⟨⟨r0, r1⟩, hr⟩ : ∃ z, densityS de g1 = z := ⟨_, rfl⟩
 rw [hr] at hd CDN
 obtain ⟨q7, hq7⟩ : ∃ z, IntKind.i64.wrap (Int.tdiv de 7) = z := ⟨_, rfl⟩
 dsimp only at hd CDN
 obtain ⟨dd, hdd⟩ : ∃ z, r0 + q7 % (r1 - r0 + 1) = z := ⟨_, rfl⟩
 have hd2 := some_inZ q7 hd.2.1
 rw [hdd] at hd2
 have CDE : Hid (∀ W, Calls Tryz.prog 19 #[rv r0 r1, .int .i64 q7] W fun e w' => e = .returned (.int .i64 dd) ∧ Below W.heap.size W w') := Lib.hid fun W => int_to (mdense_to _ _ q7 W hd.2.1 (by omega) (by omega)) hdd
 obtain ⟨m1, m2⟩ := emod_in g0 (show (0 : Int) < 5 by omega)
 have CMO := Lib.hid (fun (W : World) => smod_to g0 5 W (by omega) (by omega))
 obtain ⟨g5, hg5⟩ : ∃ z, g0 % 5 = z := ⟨_, rfl⟩
 rw [hg5] at CMO m1 m2
 have HD : Hid (densS r0 r1 = true ∧ r0 ≤ dd ∧ dd ≤ r1 ∧ 0 ≤ dd ∧ dd ≤ 2000) := Lib.hid ⟨by unfold densS; simp only [inB, decide_eq_true_eq]; omega, by omega⟩
 have PV1 := Lib.hid (fun (a1 b1 : Int) (hv : ValOf vol (curveTo vol k0 n) u a1 b1) => And.intro (val_prod (r := dd) hm0 I0.out.1 hv hu2.1 hu2.2 HD.out.2.2.2.1 HD.out.2.2.2.2) (inverts_hold (k := g5) HHS.out I0.out.1 hv hu2.1 hu2.2 HD.out.1 HD.out.2.1 HD.out.2.2.1 m1 (by omega)))
 have PV2 := Lib.hid (fun (a1 b1 : Int) (hv : ValOf tv1 (curveTo tv1 k1 tn) s a1 b1) => And.intro (val_prod (r := dd) hm1 I1.out.1 hv hs2.1 hs2.2 HD.out.2.2.2.1 HD.out.2.2.2.2) (inverts_tank HTS.out I1.out.1 hv hs2.1 hs2.2 HD.out.1 HD.out.2.1 HD.out.2.2.1))
 have HM : Hid (0 ≤ g5 ∧ g5 < 5) := Lib.hid ⟨m1, m2⟩
 have HQ7 := Lib.hid hq7
 clear hm0 hm1 ht0 ht1 hf0 hf1 hp0 hp1 hu hs hu2 hs2 hd hr hq7 hdd hd2 m1 m2 hg5 HKA HKB hT0 hT1
 generalize firstX vol = f0 at *
 generalize lastX vol = f1 at *
 generalize firstX tv1 = e0 at *
 generalize lastX tv1 = e1 at *
 go_cut [9] (fun s9 wx => ∃ N, s9 = .pointer (some ⟨N, 0, none⟩) ∧ Boxes wx ((N, 30, #[.int .i64 f0, .int .i64 f1]) :: [(MT, 38, #[.int .i64 tid, .int .i64 bl, .int .i64 bh, .slice TA tn tc, .slice TB tm td, .slice TQ tl te]), (MH, 35, #[.int .i64 hid, .int .i64 al, .int .i64 ah, .slice A n c, .slice B mm d, .slice C l ee, .int .i64 t0, .int .i64 t1, .int .i64 u0, .int .i64 u1, .int .i64 v0, .int .i64 v1, .int .i64 h0, .int .i64 h1]), ((G + 1 + 1), 28, #[.int .i64 g0, .int .i64 g1]), ((G + 1), 27, #[.slice Ca na ca, .slice Cb nb cb, .slice Cc nc cc, .int .i64 pl, .int .i64 de]), (G, 24, #[.int .i64 id, .int .i64 fi, .slice S sn sc, .slice V vn vc])]) ∧ Below z2.heap.size z2 wx)
 case first =>
  obtain ⟨LB, hLB⟩ : ∃ x, ([(MT, 38, #[.int .i64 tid, .int .i64 bl, .int .i64 bh, .slice TA tn tc, .slice TB tm td, .slice TQ tl te]), (MH, 35, #[.int .i64 hid, .int .i64 al, .int .i64 ah, .slice A n c, .slice B mm d, .slice C l ee, .int .i64 t0, .int .i64 t1, .int .i64 u0, .int .i64 u1, .int .i64 v0, .int .i64 v1, .int .i64 h0, .int .i64 h1]), ((G + 1 + 1), 28, #[.int .i64 g0, .int .i64 g1]), ((G + 1), 27, #[.slice Ca na ca, .slice Cb nb cb, .slice Cc nc cc, .int .i64 pl, .int .i64 de]), (G, 24, #[.int .i64 id, .int .i64 fi, .slice S sn sc, .slice V vn vc])] : List (Nat × TypeId × Array Value)) = x := ⟨_, rfl⟩
  have hl0 : (MT, 38, #[.int .i64 tid, .int .i64 bl, .int .i64 bh, .slice TA tn tc, .slice TB tm td, .slice TQ tl te]) ∈ LB ∧ (MH, 35, #[.int .i64 hid, .int .i64 al, .int .i64 ah, .slice A n c, .slice B mm d, .slice C l ee, .int .i64 t0, .int .i64 t1, .int .i64 u0, .int .i64 u1, .int .i64 v0, .int .i64 v1, .int .i64 h0, .int .i64 h1]) ∈ LB ∧ ((G + 1 + 1), 28, #[.int .i64 g0, .int .i64 g1]) ∈ LB ∧ ((G + 1), 27, #[.slice Ca na ca, .slice Cb nb cb, .slice Cc nc cc, .int .i64 pl, .int .i64 de]) ∈ LB ∧ (G, 24, #[.int .i64 id, .int .i64 fi, .slice S sn sc, .slice V vn vc]) ∈ LB ∧ True := by rw [← hLB]; simp
  have HL0 := Lib.hid hl0
  have hS0 : BB2 z2 LB V2.drew := ⟨by rw [← hLB]; exact HX_2.out, HB_2.out.drew⟩
  have HLB := Lib.hid hLB
  clear hLB hl0
  refine wp_region_held_drew (S := BB2 z2 LB) (by kernel_rfl) hS0 (fun hHeld => ?_)
  obtain ⟨yq, hW⟩ : ∃ W', V2.drew = W' := ⟨_, rfl⟩
  rw [hW] at hHeld ⊢
  clear hW hS0 HB_2 HX_2 
  refine tK 27 (i := 0) (v := .pointer (some ⟨MH, 3, none⟩)) rfl rfl (by kernel_rfl) ?_ hHeld ?_
  ·intro w hSw; clear hSw; go_simp; try with_reducible rfl
  simp only [uZ, uS]
  refine tK 28 (i := 1) (v := tv A n c) rfl rfl (by kernel_rfl) ?_ hHeld ?_
  ·intro w hSw; have hz := hSw.1 _ HL0.out.2.1; have c3 := hz.cell 3; simp at c3; clear hz hSw; go_simp; try with_reducible rfl
  simp only [uZ, uS]
  refine tK 30 (i := 3) (v := .pointer (some ⟨MH, 3, none⟩)) rfl rfl (by kernel_rfl) ?_ hHeld ?_
  ·intro w hSw; clear hSw; go_simp; try with_reducible rfl
  simp only [uZ, uS]
  refine tK 31 (i := 4) (v := tv A n c) rfl rfl (by kernel_rfl) ?_ hHeld ?_
  ·intro w hSw; have hz := hSw.1 _ HL0.out.2.1; have c3 := hz.cell 3; simp at c3; clear hz hSw; go_simp; try with_reducible rfl
  simp only [uZ, uS]
  refine wpAnyH_ready (rs := [2, 7]) (by kernel_rfl) (by simp) ?_
  refine AllReadyH.cons rfl (fun K hK => ?_) (AllReadyH.cons rfl (fun K hK => ?_) AllReadyH.nil)
  ·skip
   go_simp
   (with_reducible refine (CF0.out _ hHeld.be2).mono ?_)
   rintro x y ⟨rfl, hq⟩
   refine hK.out _ _ ⟨hHeld.1.on hq, below_then hHeld.2 hq⟩ (fun hHeld2 => ?_)
   clear hq
   try simp only [Act.put, uA, uZ, uS]
   clear hK K hHeld
   have hHeld := hHeld2
   clear hHeld2
   refine wpAnyH_ready (rs := [5, 7]) (by kernel_rfl) (by simp) ?_
   refine AllReadyH.cons rfl (fun K hK => ?_) (AllReadyH.cons rfl (fun K hK => ?_) AllReadyH.nil)
   ·skip
    go_simp
    (with_reducible refine (CL0.out _ hHeld.be2).mono ?_)
    rintro x y ⟨rfl, hq⟩
    refine hK.out _ _ ⟨hHeld.1.on hq, below_then hHeld.2 hq⟩ (fun hHeld2 => ?_)
    clear hq
    try simp only [Act.put, uA, uZ, uS]
    clear hK K hHeld
    have hHeld := hHeld2
    clear hHeld2
    refine tK 33 (i := 6) (v := rv f0 f1) rfl rfl (by kernel_rfl) ?_ hHeld ?_
    ·intro w hSw; clear hSw; go_simp; try with_reducible rfl
    simp only [uZ, uS]
    refine wpAnyH_ready (rs := [7]) (by kernel_rfl) (by simp) ?_
    refine AllReadyH.cons rfl (fun K hK => ?_) AllReadyH.nil
    rename World => yq
    go_simp
    have HDN := Lib.hid (boxes_lt hHeld.1); have HZN := Lib.hid hHeld.2.size; have HY := Lib.hid (hHeld.1.new 30 #[.int .i64 0, .int .i64 0])
    refine hK.out _ _ ⟨hHeld.1.on (below_alloc1 _ _), below_then hHeld.2 (below_alloc1 _ _)⟩ (fun hHeld2 => ?_)
    try simp only [Act.put, uA, uZ, uS]
    clear hK K hHeld
    have hHeld := hHeld2
    clear hHeld2
    obtain ⟨yr, hW⟩ : ∃ W', yq.alloc (.cells #[.int .i64 0, .int .i64 0] 30) = W' := ⟨_, rfl⟩
    rw [hW] at HY hHeld ⊢
    clear hW
    obtain ⟨N3, hN⟩ : ∃ N, yq.heap.size = N := ⟨_, rfl⟩
    rw [hN] at HY HDN HZN ⊢
    clear hN
    refine wpAnyH_ready (rs := [8]) (by kernel_rfl) (by simp) ?_
    refine AllReadyH.cons rfl (fun K hK => ?_) AllReadyH.nil
    rw [if_pos (by kernel_rfl)]
    rename World => yq
    have HXs : Hid (Boxes (yq.setRow N3 #[.int .i64 f0, .int .i64 f1]) ((N3, 30, #[.int .i64 f0, .int .i64 f1]) :: LB)) := Lib.hid (Boxes.row HY.out (.head _) (fun p hp => ⟨.tail _ hp, HDN.out p hp⟩) #[.int .i64 f0, .int .i64 f1])
    have HEs := Lib.hid (below_setRow hHeld.2 (show z2.heap.size ≤ N3 from HZN.out) #[.int .i64 f0, .int .i64 f1])
    refine wp_store_row 30 (.tmp 9) (.tmp 33) rfl N3 #[.int .i64 f0, .int .i64 f1] rfl rfl 30 _ (HY.out _ (.head _)) (by kernel_rfl) rfl (by kernel_rfl) ?_
    refine hK.out _ _ ⟨hHeld.1.farRow (g := N3) HDN.out _, HEs.out⟩ (fun hHeld2 => ?_)
    try simp only [Act.put, uA, uZ, uS]
    clear hK K hHeld
    have hHeld := hHeld2
    clear hHeld2
    refine wpAnyH_done (by kernel_rfl) ?_ _
    clear hHeld
    go_wp2_with fail
    go_meet
    rw [← HLB.out] at HXs
    exact ⟨N3, rfl, HXs.out, HEs.out⟩
   ·skip
    rename World => yq
    go_simp
    have HDN := Lib.hid (boxes_lt hHeld.1); have HZN := Lib.hid hHeld.2.size; have HY := Lib.hid (hHeld.1.new 30 #[.int .i64 0, .int .i64 0])
    refine hK.out _ _ ⟨hHeld.1.on (below_alloc1 _ _), below_then hHeld.2 (below_alloc1 _ _)⟩ (fun hHeld2 => ?_)
    try simp only [Act.put, uA, uZ, uS]
    clear hK K hHeld
    have hHeld := hHeld2
    clear hHeld2
    obtain ⟨yr, hW⟩ : ∃ W', yq.alloc (.cells #[.int .i64 0, .int .i64 0] 30) = W' := ⟨_, rfl⟩
    rw [hW] at HY hHeld ⊢
    clear hW
    obtain ⟨N3, hN⟩ : ∃ N, yq.heap.size = N := ⟨_, rfl⟩
    rw [hN] at HY HDN HZN ⊢
    clear hN
    refine wpAnyH_ready (rs := [5]) (by kernel_rfl) (by simp) ?_
    refine AllReadyH.cons rfl (fun K hK => ?_) AllReadyH.nil
    go_simp
    (with_reducible refine (CL0.out _ hHeld.be2).mono ?_)
    rintro x y ⟨rfl, hq⟩
    have HY := Lib.hid (HY.out.on hq)
    refine hK.out _ _ ⟨hHeld.1.on hq, below_then hHeld.2 hq⟩ (fun hHeld2 => ?_)
    clear hq
    try simp only [Act.put, uA, uZ, uS]
    clear hK K hHeld
    have hHeld := hHeld2
    clear hHeld2
    refine tK 33 (i := 6) (v := rv f0 f1) rfl rfl (by kernel_rfl) ?_ hHeld ?_
    ·intro w hSw; clear hSw; go_simp; try with_reducible rfl
    simp only [uZ, uS]
    refine wpAnyH_ready (rs := [8]) (by kernel_rfl) (by simp) ?_
    refine AllReadyH.cons rfl (fun K hK => ?_) AllReadyH.nil
    rw [if_pos (by kernel_rfl)]
    rename World => yq
    have HXs : Hid (Boxes (yq.setRow N3 #[.int .i64 f0, .int .i64 f1]) ((N3, 30, #[.int .i64 f0, .int .i64 f1]) :: LB)) := Lib.hid (Boxes.row HY.out (.head _) (fun p hp => ⟨.tail _ hp, HDN.out p hp⟩) #[.int .i64 f0, .int .i64 f1])
    have HEs := Lib.hid (below_setRow hHeld.2 (show z2.heap.size ≤ N3 from HZN.out) #[.int .i64 f0, .int .i64 f1])
    refine wp_store_row 30 (.tmp 9) (.tmp 33) rfl N3 #[.int .i64 f0, .int .i64 f1] rfl rfl 30 _ (HY.out _ (.head _)) (by kernel_rfl) rfl (by kernel_rfl) ?_
    refine hK.out _ _ ⟨hHeld.1.farRow (g := N3) HDN.out _, HEs.out⟩ (fun hHeld2 => ?_)
    try simp only [Act.put, uA, uZ, uS]
    clear hK K hHeld
    have hHeld := hHeld2
    clear hHeld2
    refine wpAnyH_done (by kernel_rfl) ?_ _
    clear hHeld
    go_wp2_with fail
    go_meet
    rw [← HLB.out] at HXs
    exact ⟨N3, rfl, HXs.out, HEs.out⟩
  ·skip
   rename World => yq
   go_simp
   have HDN := Lib.hid (boxes_lt hHeld.1); have HZN := Lib.hid hHeld.2.size; have HY := Lib.hid (hHeld.1.new 30 #[.int .i64 0, .int .i64 0])
   refine hK.out _ _ ⟨hHeld.1.on (below_alloc1 _ _), below_then hHeld.2 (below_alloc1 _ _)⟩ (fun hHeld2 => ?_)
   try simp only [Act.put, uA, uZ, uS]
   clear hK K hHeld
   have hHeld := hHeld2
   clear hHeld2
   obtain ⟨yr, hW⟩ : ∃ W', yq.alloc (.cells #[.int .i64 0, .int .i64 0] 30) = W' := ⟨_, rfl⟩
   rw [hW] at HY hHeld ⊢
   clear hW
   obtain ⟨N3, hN⟩ : ∃ N, yq.heap.size = N := ⟨_, rfl⟩
   rw [hN] at HY HDN HZN ⊢
   clear hN
   refine wpAnyH_ready (rs := [2]) (by kernel_rfl) (by simp) ?_
   refine AllReadyH.cons rfl (fun K hK => ?_) AllReadyH.nil
   go_simp
   (with_reducible refine (CF0.out _ hHeld.be2).mono ?_)
   rintro x y ⟨rfl, hq⟩
   have HY := Lib.hid (HY.out.on hq)
   refine hK.out _ _ ⟨hHeld.1.on hq, below_then hHeld.2 hq⟩ (fun hHeld2 => ?_)
   clear hq
   try simp only [Act.put, uA, uZ, uS]
   clear hK K hHeld
   have hHeld := hHeld2
   clear hHeld2
   refine wpAnyH_ready (rs := [5]) (by kernel_rfl) (by simp) ?_
   refine AllReadyH.cons rfl (fun K hK => ?_) AllReadyH.nil
   go_simp
   (with_reducible refine (CL0.out _ hHeld.be2).mono ?_)
   rintro x y ⟨rfl, hq⟩
   have HY := Lib.hid (HY.out.on hq)
   refine hK.out _ _ ⟨hHeld.1.on hq, below_then hHeld.2 hq⟩ (fun hHeld2 => ?_)
   clear hq
   try simp only [Act.put, uA, uZ, uS]
   clear hK K hHeld
   have hHeld := hHeld2
   clear hHeld2
   refine tK 33 (i := 6) (v := rv f0 f1) rfl rfl (by kernel_rfl) ?_ hHeld ?_
   ·intro w hSw; clear hSw; go_simp; try with_reducible rfl
   simp only [uZ, uS]
   refine wpAnyH_ready (rs := [8]) (by kernel_rfl) (by simp) ?_
   refine AllReadyH.cons rfl (fun K hK => ?_) AllReadyH.nil
   rw [if_pos (by kernel_rfl)]
   rename World => yq
   have HXs : Hid (Boxes (yq.setRow N3 #[.int .i64 f0, .int .i64 f1]) ((N3, 30, #[.int .i64 f0, .int .i64 f1]) :: LB)) := Lib.hid (Boxes.row HY.out (.head _) (fun p hp => ⟨.tail _ hp, HDN.out p hp⟩) #[.int .i64 f0, .int .i64 f1])
   have HEs := Lib.hid (below_setRow hHeld.2 (show z2.heap.size ≤ N3 from HZN.out) #[.int .i64 f0, .int .i64 f1])
   refine wp_store_row 30 (.tmp 9) (.tmp 33) rfl N3 #[.int .i64 f0, .int .i64 f1] rfl rfl 30 _ (HY.out _ (.head _)) (by kernel_rfl) rfl (by kernel_rfl) ?_
   refine hK.out _ _ ⟨hHeld.1.farRow (g := N3) HDN.out _, HEs.out⟩ (fun hHeld2 => ?_)
   try simp only [Act.put, uA, uZ, uS]
   clear hK K hHeld
   have hHeld := hHeld2
   clear hHeld2
   refine wpAnyH_done (by kernel_rfl) ?_ _
   clear hHeld
   go_wp2_with fail
   go_meet
   rw [← HLB.out] at HXs
   exact ⟨N3, rfl, HXs.out, HEs.out⟩
 case rest =>
  obtain ⟨MA, rfl, hX, hB⟩ := hcut
  have HX_4 := Lib.hid hX; have HB_4 := Lib.hid hB
  clear hX hB HX_2 HB_2 
  rename World => zr4
  have fa_ := HX_4.out _ (.tail _ (.tail _ (.tail _ (.tail _ (.head _)))))
  have fa_3 := fa_.cell 3
  simp at fa_3
  clear fa_
  have fb_ := HX_4.out _ (.head _)
  have fb_0 := fb_.cell 0
  have fb_1 := fb_.cell 1
  simp at fb_0 fb_1
  clear fb_
  go_wp2_with fail
  refine (CS0.out _).mono ?_
  rintro e z5 ⟨rfl, hq⟩
  have HX_5 := Lib.hid (HX_4.out.on hq); have HB_5 := Lib.hid (below_then HB_4.out hq)
  clear hq HX_4 HB_4 fa_3 fb_0 fb_1 CS0
  have fa_ := HX_5.out _ (.tail _ (.tail _ (.tail _ (.head _))))
  have fa_1 := fa_.cell 1
  simp at fa_1
  clear fa_
  have fb_ := HX_5.out _ (.tail _ (.tail _ (.tail _ (.tail _ (.head _)))))
  have fb_4 := fb_.cell 4
  simp at fb_4
  clear fb_
  go_wp2_with fail
  refine (CDN.out _).mono ?_
  rintro e z6 ⟨rfl, hq⟩
  have HX_6 := Lib.hid ((HX_5.out.on hq).new 30 #[.int .i64 r0, .int .i64 r1]); have HB_6 := Lib.hid (below_then (below_then HB_5.out hq) (below_alloc1 z6 (.cells #[.int .i64 r0, .int .i64 r1] 30)))
  clear hq HX_5 HB_5 fa_1 fb_4 CDN
  go_upto_region 6 with fail
  obtain ⟨V6, hW⟩ : ∃ W', z6.alloc (.cells #[.int .i64 r0, .int .i64 r1] 30) = W' := ⟨_, rfl⟩
  rw [hW] at HX_6 HB_6  ⊢
  clear hW
  obtain ⟨MD, hN⟩ : ∃ n, z6.heap.size = n := ⟨_, rfl⟩
  rw [hN] at HX_6  ⊢
  clear hN
  have fa_ := HX_6.out _ (.tail _ (.tail _ (.tail _ (.tail _ (.tail _ (.head _))))))
  have fa_4 := fa_.cell 4
  simp at fa_4
  clear fa_
  have fb_ := HX_6.out _ (.head _)
  have fb_0 := fb_.cell 0
  have fb_1 := fb_.cell 1
  simp at fb_0 fb_1
  clear fb_
  have hq7 := HQ7.out
  go_wp2_with fail
  refine (CDE.out _).mono ?_
  rintro e z7 ⟨rfl, hq⟩
  have HX_7 := Lib.hid (HX_6.out.on hq); have HB_7 := Lib.hid (below_then HB_6.out hq)
  clear hq HX_6 HB_6 fa_4 fb_0 fb_1 CDE hq7 HQ7
  go_upto_region 7 with fail
  obtain ⟨LB, hLB⟩ : ∃ x, ([(MD, 30, #[.int .i64 r0, .int .i64 r1]), (MA, 30, #[.int .i64 f0, .int .i64 f1]), (MT, 38, #[.int .i64 tid, .int .i64 bl, .int .i64 bh, .slice TA tn tc, .slice TB tm td, .slice TQ tl te]), (MH, 35, #[.int .i64 hid, .int .i64 al, .int .i64 ah, .slice A n c, .slice B mm d, .slice C l ee, .int .i64 t0, .int .i64 t1, .int .i64 u0, .int .i64 u1, .int .i64 v0, .int .i64 v1, .int .i64 h0, .int .i64 h1]), ((G + 1 + 1), 28, #[.int .i64 g0, .int .i64 g1]), ((G + 1), 27, #[.slice Ca na ca, .slice Cb nb cb, .slice Cc nc cc, .int .i64 pl, .int .i64 de]), (G, 24, #[.int .i64 id, .int .i64 fi, .slice S sn sc, .slice V vn vc])] : List (Nat × TypeId × Array Value)) = x := ⟨_, rfl⟩
  have hl0 : (MD, 30, #[.int .i64 r0, .int .i64 r1]) ∈ LB ∧ (MA, 30, #[.int .i64 f0, .int .i64 f1]) ∈ LB ∧ (MT, 38, #[.int .i64 tid, .int .i64 bl, .int .i64 bh, .slice TA tn tc, .slice TB tm td, .slice TQ tl te]) ∈ LB ∧ (MH, 35, #[.int .i64 hid, .int .i64 al, .int .i64 ah, .slice A n c, .slice B mm d, .slice C l ee, .int .i64 t0, .int .i64 t1, .int .i64 u0, .int .i64 u1, .int .i64 v0, .int .i64 v1, .int .i64 h0, .int .i64 h1]) ∈ LB ∧ ((G + 1 + 1), 28, #[.int .i64 g0, .int .i64 g1]) ∈ LB ∧ ((G + 1), 27, #[.slice Ca na ca, .slice Cb nb cb, .slice Cc nc cc, .int .i64 pl, .int .i64 de]) ∈ LB ∧ (G, 24, #[.int .i64 id, .int .i64 fi, .slice S sn sc, .slice V vn vc]) ∈ LB ∧ True := by rw [← hLB]; simp
  have HL0 := Lib.hid hl0
  have hS0 : BB2 z2 LB z7.drew := ⟨by rw [← hLB]; exact HX_7.out, HB_7.out.drew⟩
  have HLB := Lib.hid hLB
  clear hLB hl0
  refine wp_region_held_drew (S := BB2 z2 LB) (by kernel_rfl) hS0 (fun hHeld => ?_)
  obtain ⟨yq, hW⟩ : ∃ W', z7.drew = W' := ⟨_, rfl⟩
  rw [hW] at hHeld ⊢
  clear hW hS0 HB_7 HX_7 
  refine tK 49 (i := 0) (v := .pointer (some ⟨MH, 3, none⟩)) rfl rfl (by kernel_rfl) ?_ hHeld ?_
  ·intro w hSw; clear hSw; go_simp; try with_reducible rfl
  simp only [uZ, uS]
  refine tK 50 (i := 1) (v := tv A n c) rfl rfl (by kernel_rfl) ?_ hHeld ?_
  ·intro w hSw; have hz := hSw.1 _ HL0.out.2.2.2.1; have c3 := hz.cell 3; simp at c3; clear hz hSw; go_simp; try with_reducible rfl
  simp only [uZ, uS]
  refine tK 51 (i := 2) (v := .pointer (some ⟨MH, 3, none⟩)) rfl rfl (by kernel_rfl) ?_ hHeld ?_
  ·intro w hSw; clear hSw; go_simp; try with_reducible rfl
  simp only [uZ, uS]
  refine tK 52 (i := 3) (v := tv A n c) rfl rfl (by kernel_rfl) ?_ hHeld ?_
  ·intro w hSw; have hz := hSw.1 _ HL0.out.2.2.2.1; have c3 := hz.cell 3; simp at c3; clear hz hSw; go_simp; try with_reducible rfl
  simp only [uZ, uS]
  refine tK 53 (i := 4) (v := .pointer (some ⟨(G + 1), 0, none⟩)) rfl rfl (by kernel_rfl) ?_ hHeld ?_
  ·intro w hSw; clear hSw; go_simp; try with_reducible rfl
  simp only [uZ, uS]
  refine tK 54 (i := 5) (v := .pointer (some ⟨(G + 1), 0, none⟩)) rfl rfl (by kernel_rfl) ?_ hHeld ?_
  ·intro w hSw; clear hSw; go_simp; try with_reducible rfl
  simp only [uZ, uS]
  refine tK 55 (i := 6) (v := .slice Ca na ca) rfl rfl (by kernel_rfl) ?_ hHeld ?_
  ·intro w hSw; have hz := hSw.1 _ HL0.out.2.2.2.2.2.1; have c0 := hz.cell 0; simp at c0; clear hz hSw; go_simp; try with_reducible rfl
  simp only [uZ, uS]
  refine tK 57 (i := 8) (v := .int .i64 u) rfl rfl (by kernel_rfl) ?_ hHeld ?_
  ·intro w hSw; clear hSw; go_simp; try with_reducible rfl
  simp only [uZ, uS]
  refine wpAnyH_ready (rs := [7]) (by kernel_rfl) (by simp) ?_
  refine AllReadyH.cons rfl (fun K hK => ?_) AllReadyH.nil
  go_simp
  (with_reducible refine (K0.out _ hHeld.be2).mono ?_)
  rintro x y ⟨cv, rfl, ho, hq⟩
  obtain ⟨qb, qc, rfl, _, clt, hcm⟩ := own_ints_memN ho I0.out.2.1 I0.out.2.2
  have HCI := Lib.hid (show IntsP y (some ⟨qb, 0, none⟩) (curveTo vol k0 n) from .inr ⟨qb, 0, rfl, clt, hcm⟩)
  clear ho clt hcm
  refine hK.out _ _ ⟨hHeld.1.on hq, below_then hHeld.2 hq⟩ (fun hHeld2 => ?_)
  clear hq
  try simp only [Act.put, uA, uZ, uS]
  clear hK K hHeld
  have hHeld := hHeld2
  clear hHeld2
  refine wpAnyH_ready (rs := [9]) (by kernel_rfl) (by simp) ?_
  refine AllReadyH.cons rfl (fun K hK => ?_) AllReadyH.nil
  go_simp
  (with_reducible refine (L0.out _ qb qc hHeld.be2 HCI.out).mono ?_)
  rintro x y ⟨⟨a1, b1, rfl, hval⟩, hq⟩
  have HV1 := Lib.hid hval
  clear hval HCI
  refine hK.out _ _ ⟨hHeld.1.on hq, below_then hHeld.2 hq⟩ (fun hHeld2 => ?_)
  clear hq
  try simp only [Act.put, uA, uZ, uS]
  clear hK K hHeld
  have hHeld := hHeld2
  clear hHeld2
  refine tK 48 (i := 10) (v := .tuple #[.int .i64 a1, .int .i64 b1]) rfl rfl (by kernel_rfl) ?_ hHeld ?_
  ·intro w hSw; clear hSw; go_simp; try with_reducible rfl
  simp only [uZ, uS]
  refine tK 59 (i := 11) (v := .int .i64 a1) rfl rfl (by kernel_rfl) ?_ hHeld ?_
  ·intro w hSw; clear hSw; go_simp; try with_reducible rfl
  simp only [uZ, uS]
  refine tK 60 (i := 12) (v := .int .i64 b1) rfl rfl (by kernel_rfl) ?_ hHeld ?_
  ·intro w hSw; clear hSw; go_simp; try with_reducible rfl
  simp only [uZ, uS]
  refine tK 13 (i := 13) (v := .int .i64 a1) rfl rfl (by kernel_rfl) ?_ hHeld ?_
  ·intro w hSw; clear hSw; go_simp; try with_reducible rfl
  simp only [uZ, uS]
  refine tK 14 (i := 14) (v := .int .i64 b1) rfl rfl (by kernel_rfl) ?_ hHeld ?_
  ·intro w hSw; clear hSw; go_simp; try with_reducible rfl
  simp only [uZ, uS]
  refine wpAnyH_done (by kernel_rfl) ?_ _
  rename World => zd8
  have HX_8 := Lib.hid (show Boxes zd8 LB from hHeld.1); have HB_8 := Lib.hid hHeld.2
  clear hHeld
  rw [← HLB.out] at HX_8
  clear HLB HL0
  clear K0 L0
  obtain ⟨⟨p1, p2, p3, p4, p5, p6, p7⟩, p, q, hpq, hlo, hhi⟩ := PV1.out a1 b1 HV1.out
  have CAR := Lib.hid (fun (W : World) => maround_S (a1 * dd) (1000 * b1) W p3 (by omega) (by omega) (by omega))
  have CUL := Lib.hid (fun (W : World) (hW : Below z2.heap.size z2 W) => hUllage_any ⟨hid, al, ah, vol, mom, hei, t0, t1, u0, u1, v0, v1, h0, h1⟩ ⟨A, n, c, B, mm, d, C, l, ee⟩ (aroundS (a1 * dd) (1000 * b1)).1 ((aroundS (a1 * dd) (1000 * b1)).2 + g5) r0 r1 W (HIN.out.below hW))
  rw [hpq] at CUL
  have w1 : IntKind.i64.wrap (a1 * dd) = a1 * dd := IntWalk.i64_in _ ⟨by omega, by omega⟩
  have w2 : IntKind.i64.wrap (1000 * b1) = 1000 * b1 := IntWalk.i64_in _ ⟨by omega, by omega⟩
  have w3 : IntKind.i64.wrap ((aroundS (a1 * dd) (1000 * b1)).2 + g5) = (aroundS (a1 * dd) (1000 * b1)).2 + g5 := IntWalk.i64_in _ ⟨by have := HM.out.1; omega, by have := HM.out.2; omega⟩
  obtain ⟨x1, hx1⟩ : ∃ z, a1 * dd = z := ⟨_, rfl⟩
  obtain ⟨y1, hy1⟩ : ∃ z, 1000 * b1 = z := ⟨_, rfl⟩
  obtain ⟨⟨c0, c1⟩, hc⟩ : ∃ z, aroundS (a1 * dd) (1000 * b1) = z := ⟨_, rfl⟩
  rw [hc] at CAR CUL w3
  rw [hx1] at CAR
  rw [hy1] at CAR
  replace w1 := w1.trans hx1
  replace w2 := w2.trans hy1
  dsimp only [holdV, holdCells, rt] at CAR CUL w3
  obtain ⟨c2, hc2⟩ : ∃ z, c1 + g5 = z := ⟨_, rfl⟩
  rw [hc2] at CUL
  replace w3 := w3.trans hc2
  have HW12 := Lib.hid (And.intro w1 w2); have HW3 := Lib.hid w3; have HLO := Lib.hid hlo; have HHI := Lib.hid hhi
  clear p1 p2 p3 p4 p5 p6 p7 w1 w2 w3 hx1 hy1 hc hc2 hpq hlo hhi HV1 HHS HIN I0 PV1
  go_upto_region 8 with fail
  obtain ⟨w1, w2⟩ := HW12.out
  go_wp2_with fail
  refine (CAR.out _).mono ?_
  rintro e z9 ⟨rfl, hq⟩
  have HX_9 := Lib.hid ((HX_8.out.on hq).new 30 #[.int .i64 c0, .int .i64 c1]); have HB_9 := Lib.hid (below_then (below_then HB_8.out hq) (below_alloc1 z9 (.cells #[.int .i64 c0, .int .i64 c1] 30)))
  have HFAR_MM := Lib.hid (boxes_lt (HX_8.out.on hq)); have HGE_MM := Lib.hid (below_then HB_8.out hq).size
  clear hq HX_8 HB_8  CAR w1 w2 HW12
  go_upto_region 9 with fail
  obtain ⟨V9, hW⟩ : ∃ W', z9.alloc (.cells #[.int .i64 c0, .int .i64 c1] 30) = W' := ⟨_, rfl⟩
  rw [hW] at HX_9 HB_9  ⊢
  clear hW
  obtain ⟨MM, hN⟩ : ∃ n, z9.heap.size = n := ⟨_, rfl⟩
  rw [hN] at HX_9 HFAR_MM HGE_MM ⊢
  clear hN
  go_cut [] (fun wx => Boxes wx [(MM, 30, #[.int .i64 c0, .int .i64 c2]), (MD, 30, #[.int .i64 r0, .int .i64 r1]), (MA, 30, #[.int .i64 f0, .int .i64 f1]), (MT, 38, #[.int .i64 tid, .int .i64 bl, .int .i64 bh, .slice TA tn tc, .slice TB tm td, .slice TQ tl te]), (MH, 35, #[.int .i64 hid, .int .i64 al, .int .i64 ah, .slice A n c, .slice B mm d, .slice C l ee, .int .i64 t0, .int .i64 t1, .int .i64 u0, .int .i64 u1, .int .i64 v0, .int .i64 v1, .int .i64 h0, .int .i64 h1]), ((G + 1 + 1), 28, #[.int .i64 g0, .int .i64 g1]), ((G + 1), 27, #[.slice Ca na ca, .slice Cb nb cb, .slice Cc nc cc, .int .i64 pl, .int .i64 de]), (G, 24, #[.int .i64 id, .int .i64 fi, .slice S sn sc, .slice V vn vc])] ∧ Below z2.heap.size z2 wx)
  case first =>
   obtain ⟨LB, hLB⟩ : ∃ x, ([(MD, 30, #[.int .i64 r0, .int .i64 r1]), (MA, 30, #[.int .i64 f0, .int .i64 f1]), (MT, 38, #[.int .i64 tid, .int .i64 bl, .int .i64 bh, .slice TA tn tc, .slice TB tm td, .slice TQ tl te]), (MH, 35, #[.int .i64 hid, .int .i64 al, .int .i64 ah, .slice A n c, .slice B mm d, .slice C l ee, .int .i64 t0, .int .i64 t1, .int .i64 u0, .int .i64 u1, .int .i64 v0, .int .i64 v1, .int .i64 h0, .int .i64 h1]), ((G + 1 + 1), 28, #[.int .i64 g0, .int .i64 g1]), ((G + 1), 27, #[.slice Ca na ca, .slice Cb nb cb, .slice Cc nc cc, .int .i64 pl, .int .i64 de]), (G, 24, #[.int .i64 id, .int .i64 fi, .slice S sn sc, .slice V vn vc])] : List (Nat × TypeId × Array Value)) = x := ⟨_, rfl⟩
   have hl0 : (MD, 30, #[.int .i64 r0, .int .i64 r1]) ∈ LB ∧ (MA, 30, #[.int .i64 f0, .int .i64 f1]) ∈ LB ∧ (MT, 38, #[.int .i64 tid, .int .i64 bl, .int .i64 bh, .slice TA tn tc, .slice TB tm td, .slice TQ tl te]) ∈ LB ∧ (MH, 35, #[.int .i64 hid, .int .i64 al, .int .i64 ah, .slice A n c, .slice B mm d, .slice C l ee, .int .i64 t0, .int .i64 t1, .int .i64 u0, .int .i64 u1, .int .i64 v0, .int .i64 v1, .int .i64 h0, .int .i64 h1]) ∈ LB ∧ ((G + 1 + 1), 28, #[.int .i64 g0, .int .i64 g1]) ∈ LB ∧ ((G + 1), 27, #[.slice Ca na ca, .slice Cb nb cb, .slice Cc nc cc, .int .i64 pl, .int .i64 de]) ∈ LB ∧ (G, 24, #[.int .i64 id, .int .i64 fi, .slice S sn sc, .slice V vn vc]) ∈ LB ∧ True := by rw [← hLB]; simp
   have HL0 := Lib.hid hl0
   have HFL := HFAR_MM
   rw [hLB] at HFL
   have hS0 : BB2 z2 LB V9.drew := ⟨by rw [← hLB]; exact HX_9.out.sub (fun p hp => .tail _ hp), HB_9.out.drew⟩
   have HLB := Lib.hid hLB
   clear hLB hl0
   have HW := Lib.hid (below_drew1 V9)
   refine wp_region_held_drew (S := BB2 z2 LB) (by kernel_rfl) hS0 (fun hHeld => ?_)
   obtain ⟨yq, hW⟩ : ∃ W', V9.drew = W' := ⟨_, rfl⟩
   rw [hW] at hHeld HW ⊢
   clear hW hS0 HB_9 
   refine tK 67 (i := 0) (v := .pointer (some ⟨MM, 1, none⟩)) rfl rfl (by kernel_rfl) ?_ hHeld ?_
   ·intro w hSw; clear hSw; go_simp; try with_reducible rfl
   simp only [uZ, uS]
   refine tK 69 (i := 2) (v := .pointer (some ⟨(G + 1 + 1), 0, none⟩)) rfl rfl (by kernel_rfl) ?_ hHeld ?_
   ·intro w hSw; clear hSw; go_simp; try with_reducible rfl
   simp only [uZ, uS]
   refine tK 70 (i := 3) (v := .int .i64 g0) rfl rfl (by kernel_rfl) ?_ hHeld ?_
   ·intro w hSw; have hz := hSw.1 _ HL0.out.2.2.2.2.1; have c0 := hz.cell 0; simp at c0; clear hz hSw; go_simp; try with_reducible rfl
   simp only [uZ, uS]
   refine wpAnyH_ready (rs := [1, 4]) (by kernel_rfl) (by simp) ?_
   refine AllReadyH.cons rfl (fun K hK => ?_) (AllReadyH.cons rfl (fun K hK => ?_) AllReadyH.nil)
   ·skip
    have c1 := (blkOn (HX_9.out _ (.head _)) HW.out).cell 1
    simp at c1
    go_simp
    refine hK.out _ _ hHeld (fun hHeld2 => ?_)
    clear c1
    try simp only [Act.put, uA, uZ, uS]
    clear hK K hHeld
    have hHeld := hHeld2
    clear hHeld2
    refine wpAnyH_ready (rs := [4]) (by kernel_rfl) (by simp) ?_
    refine AllReadyH.cons rfl (fun K hK => ?_) AllReadyH.nil
    go_simp
    (with_reducible refine (CMO.out _).mono ?_)
    rintro x y ⟨rfl, hq⟩
    have HW := Lib.hid (below_then HW.out hq)
    refine hK.out _ _ ⟨hHeld.1.on hq, below_then hHeld.2 hq⟩ (fun hHeld2 => ?_)
    clear hq
    try simp only [Act.put, uA, uZ, uS]
    clear hK K hHeld
    have hHeld := hHeld2
    clear hHeld2
    refine tK 72 (i := 5) (v := .int .i64 c2) rfl rfl (by kernel_rfl) ?_ hHeld ?_
    ·intro w hSw; clear hSw; go_simp; first | done | exact HW3.out
    simp only [uZ, uS]
    refine tK 73 (i := 6) (v := .pointer (some ⟨MM, 1, none⟩)) rfl rfl (by kernel_rfl) ?_ hHeld ?_
    ·intro w hSw; clear hSw; go_simp; try with_reducible rfl
    simp only [uZ, uS]
    refine wpAnyH_ready (rs := [7]) (by kernel_rfl) (by simp) ?_
    refine AllReadyH.cons rfl (fun K hK => ?_) AllReadyH.nil
    rename World => yq
    have HXq := Lib.hid (HX_9.out.on HW.out)
    have m_ := HXq.out _ (.head _)
    have m_1 := m_.cell 1
    have m_f1 := m_.frozen 1
    simp at m_1 m_f1
    clear m_
    go_simp
    have HXs0 : Hid (Boxes (yq.setCell ⟨MM, 1, none⟩ (.int .i64 c2)) [(MM, 30, #[.int .i64 c0, .int .i64 c2]), (MD, 30, #[.int .i64 r0, .int .i64 r1]), (MA, 30, #[.int .i64 f0, .int .i64 f1]), (MT, 38, #[.int .i64 tid, .int .i64 bl, .int .i64 bh, .slice TA tn tc, .slice TB tm td, .slice TQ tl te]), (MH, 35, #[.int .i64 hid, .int .i64 al, .int .i64 ah, .slice A n c, .slice B mm d, .slice C l ee, .int .i64 t0, .int .i64 t1, .int .i64 u0, .int .i64 u1, .int .i64 v0, .int .i64 v1, .int .i64 h0, .int .i64 h1]), ((G + 1 + 1), 28, #[.int .i64 g0, .int .i64 g1]), ((G + 1), 27, #[.slice Ca na ca, .slice Cb nb cb, .slice Cc nc cc, .int .i64 pl, .int .i64 de]), (G, 24, #[.int .i64 id, .int .i64 fi, .slice S sn sc, .slice V vn vc])]) := Lib.hid (HXq.out.set1 HFAR_MM.out 1 (.int .i64 c2) _ rfl)
    have HBs0 := Lib.hid ((hHeld.2).setCell (p := ⟨MM, 1, none⟩) (by have := HGE_MM.out; simp; omega) (.int .i64 c2))
    have HXs := HXs0; have HBs := HBs0
    refine hK.out _ _ ⟨(hHeld.1).farCell (g := MM) HFL.out 1 (.int .i64 c2), HBs.out⟩ (fun hHeld2 => ?_)
    try simp only [Act.put, uA, uZ, uS]
    clear hK K hHeld
    have hHeld := hHeld2
    clear hHeld2
    refine wpAnyH_done (by kernel_rfl) ?_ _
    clear hHeld
    go_wp2_with fail
    go_meet
    exact ⟨HXs.out, HBs.out⟩
   ·skip
    go_simp
    (with_reducible refine (CMO.out _).mono ?_)
    rintro x y ⟨rfl, hq⟩
    have HW := Lib.hid (below_then HW.out hq)
    refine hK.out _ _ ⟨hHeld.1.on hq, below_then hHeld.2 hq⟩ (fun hHeld2 => ?_)
    clear hq
    try simp only [Act.put, uA, uZ, uS]
    clear hK K hHeld
    have hHeld := hHeld2
    clear hHeld2
    refine wpAnyH_ready (rs := [1]) (by kernel_rfl) (by simp) ?_
    refine AllReadyH.cons rfl (fun K hK => ?_) AllReadyH.nil
    have c1 := (blkOn (HX_9.out _ (.head _)) HW.out).cell 1
    simp at c1
    go_simp
    refine hK.out _ _ hHeld (fun hHeld2 => ?_)
    clear c1
    try simp only [Act.put, uA, uZ, uS]
    clear hK K hHeld
    have hHeld := hHeld2
    clear hHeld2
    refine tK 72 (i := 5) (v := .int .i64 c2) rfl rfl (by kernel_rfl) ?_ hHeld ?_
    ·intro w hSw; clear hSw; go_simp; first | done | exact HW3.out
    simp only [uZ, uS]
    refine tK 73 (i := 6) (v := .pointer (some ⟨MM, 1, none⟩)) rfl rfl (by kernel_rfl) ?_ hHeld ?_
    ·intro w hSw; clear hSw; go_simp; try with_reducible rfl
    simp only [uZ, uS]
    refine wpAnyH_ready (rs := [7]) (by kernel_rfl) (by simp) ?_
    refine AllReadyH.cons rfl (fun K hK => ?_) AllReadyH.nil
    rename World => yq
    have HXq := Lib.hid (HX_9.out.on HW.out)
    have m_ := HXq.out _ (.head _)
    have m_1 := m_.cell 1
    have m_f1 := m_.frozen 1
    simp at m_1 m_f1
    clear m_
    go_simp
    have HXs0 : Hid (Boxes (yq.setCell ⟨MM, 1, none⟩ (.int .i64 c2)) [(MM, 30, #[.int .i64 c0, .int .i64 c2]), (MD, 30, #[.int .i64 r0, .int .i64 r1]), (MA, 30, #[.int .i64 f0, .int .i64 f1]), (MT, 38, #[.int .i64 tid, .int .i64 bl, .int .i64 bh, .slice TA tn tc, .slice TB tm td, .slice TQ tl te]), (MH, 35, #[.int .i64 hid, .int .i64 al, .int .i64 ah, .slice A n c, .slice B mm d, .slice C l ee, .int .i64 t0, .int .i64 t1, .int .i64 u0, .int .i64 u1, .int .i64 v0, .int .i64 v1, .int .i64 h0, .int .i64 h1]), ((G + 1 + 1), 28, #[.int .i64 g0, .int .i64 g1]), ((G + 1), 27, #[.slice Ca na ca, .slice Cb nb cb, .slice Cc nc cc, .int .i64 pl, .int .i64 de]), (G, 24, #[.int .i64 id, .int .i64 fi, .slice S sn sc, .slice V vn vc])]) := Lib.hid (HXq.out.set1 HFAR_MM.out 1 (.int .i64 c2) _ rfl)
    have HBs0 := Lib.hid ((hHeld.2).setCell (p := ⟨MM, 1, none⟩) (by have := HGE_MM.out; simp; omega) (.int .i64 c2))
    have HXs := HXs0; have HBs := HBs0
    refine hK.out _ _ ⟨(hHeld.1).farCell (g := MM) HFL.out 1 (.int .i64 c2), HBs.out⟩ (fun hHeld2 => ?_)
    try simp only [Act.put, uA, uZ, uS]
    clear hK K hHeld
    have hHeld := hHeld2
    clear hHeld2
    refine wpAnyH_done (by kernel_rfl) ?_ _
    clear hHeld
    go_wp2_with fail
    go_meet
    exact ⟨HXs.out, HBs.out⟩
  case rest =>
   obtain ⟨hX, hB⟩ := hcut
   have HX_11 := Lib.hid hX; have HB_11 := Lib.hid hB
   clear hX hB HX_9 HB_9 CMO
   rename World => zr11
   go_upto_region 10 with fail
   have fa_ := HX_11.out _ (.tail _ (.head _))
   have fa_0 := fa_.cell 0
   have fa_1 := fa_.cell 1
   simp at fa_0 fa_1
   clear fa_
   have fb_ := HX_11.out _ (.tail _ (.tail _ (.tail _ (.tail _ (.head _)))))
   have fb_0 := fb_.cell 0
   have fb_1 := fb_.cell 1
   have fb_2 := fb_.cell 2
   have fb_3 := fb_.cell 3
   have fb_4 := fb_.cell 4
   have fb_5 := fb_.cell 5
   have fb_6 := fb_.cell 6
   have fb_7 := fb_.cell 7
   have fb_8 := fb_.cell 8
   have fb_9 := fb_.cell 9
   have fb_10 := fb_.cell 10
   have fb_11 := fb_.cell 11
   have fb_12 := fb_.cell 12
   have fb_13 := fb_.cell 13
   simp at fb_0 fb_1 fb_2 fb_3 fb_4 fb_5 fb_6 fb_7 fb_8 fb_9 fb_10 fb_11 fb_12 fb_13
   clear fb_
   have fc_ := HX_11.out _ (.head _)
   have fc_0 := fc_.cell 0
   have fc_1 := fc_.cell 1
   simp at fc_0 fc_1
   clear fc_
   go_wp2_with fail
   refine (CUL.out _ HB_11.out).mono ?_
   rintro e z12 ⟨rfl, hq⟩
   have HX_12 := Lib.hid ((HX_11.out.on hq).new 30 #[.int .i64 p, .int .i64 q]); have HB_12 := Lib.hid (below_then (below_then HB_11.out hq) (below_alloc1 z12 (.cells #[.int .i64 p, .int .i64 q] 30)))
   clear hq HX_11 HB_11 fa_0 fa_1 fb_0 fb_1 fb_2 fb_3 fb_4 fb_5 fb_6 fb_7 fb_8 fb_9 fb_10 fb_11 fb_12 fb_13 fc_0 fc_1 CUL HFAR_MM HGE_MM
   go_upto_region 11 with fail
   obtain ⟨V12, hW⟩ : ∃ W', z12.alloc (.cells #[.int .i64 p, .int .i64 q] 30) = W' := ⟨_, rfl⟩
   rw [hW] at HX_12 HB_12  ⊢
   clear hW
   obtain ⟨MU, hN⟩ : ∃ n, z12.heap.size = n := ⟨_, rfl⟩
   rw [hN] at HX_12  ⊢
   clear hN
   obtain ⟨LB, hLB⟩ : ∃ x, ([(MU, 30, #[.int .i64 p, .int .i64 q]), (MM, 30, #[.int .i64 c0, .int .i64 c2]), (MD, 30, #[.int .i64 r0, .int .i64 r1]), (MA, 30, #[.int .i64 f0, .int .i64 f1]), (MT, 38, #[.int .i64 tid, .int .i64 bl, .int .i64 bh, .slice TA tn tc, .slice TB tm td, .slice TQ tl te]), (MH, 35, #[.int .i64 hid, .int .i64 al, .int .i64 ah, .slice A n c, .slice B mm d, .slice C l ee, .int .i64 t0, .int .i64 t1, .int .i64 u0, .int .i64 u1, .int .i64 v0, .int .i64 v1, .int .i64 h0, .int .i64 h1]), ((G + 1 + 1), 28, #[.int .i64 g0, .int .i64 g1]), ((G + 1), 27, #[.slice Ca na ca, .slice Cb nb cb, .slice Cc nc cc, .int .i64 pl, .int .i64 de]), (G, 24, #[.int .i64 id, .int .i64 fi, .slice S sn sc, .slice V vn vc])] : List (Nat × TypeId × Array Value)) = x := ⟨_, rfl⟩
   have hl0 : (MU, 30, #[.int .i64 p, .int .i64 q]) ∈ LB ∧ (MM, 30, #[.int .i64 c0, .int .i64 c2]) ∈ LB ∧ (MD, 30, #[.int .i64 r0, .int .i64 r1]) ∈ LB ∧ (MA, 30, #[.int .i64 f0, .int .i64 f1]) ∈ LB ∧ (MT, 38, #[.int .i64 tid, .int .i64 bl, .int .i64 bh, .slice TA tn tc, .slice TB tm td, .slice TQ tl te]) ∈ LB ∧ (MH, 35, #[.int .i64 hid, .int .i64 al, .int .i64 ah, .slice A n c, .slice B mm d, .slice C l ee, .int .i64 t0, .int .i64 t1, .int .i64 u0, .int .i64 u1, .int .i64 v0, .int .i64 v1, .int .i64 h0, .int .i64 h1]) ∈ LB ∧ ((G + 1 + 1), 28, #[.int .i64 g0, .int .i64 g1]) ∈ LB ∧ ((G + 1), 27, #[.slice Ca na ca, .slice Cb nb cb, .slice Cc nc cc, .int .i64 pl, .int .i64 de]) ∈ LB ∧ (G, 24, #[.int .i64 id, .int .i64 fi, .slice S sn sc, .slice V vn vc]) ∈ LB ∧ True := by rw [← hLB]; simp
   have HL0 := Lib.hid hl0
   have hS0 : BB2 z2 LB V12.drew := ⟨by rw [← hLB]; exact HX_12.out, HB_12.out.drew⟩
   have HLB := Lib.hid hLB
   clear hLB hl0
   refine wp_region_held_drew (S := BB2 z2 LB) (by kernel_rfl) hS0 (fun hHeld => ?_)
   obtain ⟨yq, hW⟩ : ∃ W', V12.drew = W' := ⟨_, rfl⟩
   rw [hW] at hHeld ⊢
   clear hW hS0 HB_12 HX_12 CF0 CL0
   refine tK 81 (i := 0) (v := .pointer (some ⟨MT, 3, none⟩)) rfl rfl (by kernel_rfl) ?_ hHeld ?_
   ·intro w hSw; clear hSw; go_simp; try with_reducible rfl
   simp only [uZ, uS]
   refine tK 82 (i := 1) (v := tv TA tn tc) rfl rfl (by kernel_rfl) ?_ hHeld ?_
   ·intro w hSw; have hz := hSw.1 _ HL0.out.2.2.2.2.1; have c3 := hz.cell 3; simp at c3; clear hz hSw; go_simp; try with_reducible rfl
   simp only [uZ, uS]
   refine tK 84 (i := 3) (v := .pointer (some ⟨MT, 3, none⟩)) rfl rfl (by kernel_rfl) ?_ hHeld ?_
   ·intro w hSw; clear hSw; go_simp; try with_reducible rfl
   simp only [uZ, uS]
   refine tK 85 (i := 4) (v := tv TA tn tc) rfl rfl (by kernel_rfl) ?_ hHeld ?_
   ·intro w hSw; have hz := hSw.1 _ HL0.out.2.2.2.2.1; have c3 := hz.cell 3; simp at c3; clear hz hSw; go_simp; try with_reducible rfl
   simp only [uZ, uS]
   refine tK 88 (i := 7) (v := .pointer (some ⟨(G + 1), 3, none⟩)) rfl rfl (by kernel_rfl) ?_ hHeld ?_
   ·intro w hSw; clear hSw; go_simp; try with_reducible rfl
   simp only [uZ, uS]
   refine tK 89 (i := 8) (v := .int .i64 pl) rfl rfl (by kernel_rfl) ?_ hHeld ?_
   ·intro w hSw; have hz := hSw.1 _ HL0.out.2.2.2.2.2.2.2.1; have c3 := hz.cell 3; simp at c3; clear hz hSw; go_simp; try with_reducible rfl
   simp only [uZ, uS]
   refine wpAnyH_ready (rs := [2]) (by kernel_rfl) (by simp) ?_
   refine AllReadyH.cons rfl (fun K hK => ?_) AllReadyH.nil
   go_simp
   (with_reducible refine (CF1.out _ hHeld.be2).mono ?_)
   rintro x y ⟨rfl, hq⟩
   refine hK.out _ _ ⟨hHeld.1.on hq, below_then hHeld.2 hq⟩ (fun hHeld2 => ?_)
   clear hq
   try simp only [Act.put, uA, uZ, uS]
   clear hK K hHeld
   have hHeld := hHeld2
   clear hHeld2
   refine wpAnyH_ready (rs := [5]) (by kernel_rfl) (by simp) ?_
   refine AllReadyH.cons rfl (fun K hK => ?_) AllReadyH.nil
   go_simp
   (with_reducible refine (CL1.out _ hHeld.be2).mono ?_)
   rintro x y ⟨rfl, hq⟩
   refine hK.out _ _ ⟨hHeld.1.on hq, below_then hHeld.2 hq⟩ (fun hHeld2 => ?_)
   clear hq
   try simp only [Act.put, uA, uZ, uS]
   clear hK K hHeld
   have hHeld := hHeld2
   clear hHeld2
   refine tK 87 (i := 6) (v := rv e0 e1) rfl rfl (by kernel_rfl) ?_ hHeld ?_
   ·intro w hSw; clear hSw; go_simp; try with_reducible rfl
   simp only [uZ, uS]
   refine wpAnyH_ready (rs := [9]) (by kernel_rfl) (by simp) ?_
   refine AllReadyH.cons rfl (fun K hK => ?_) AllReadyH.nil
   go_simp
   (with_reducible refine (CS1.out _).mono ?_)
   rintro x y ⟨rfl, hq⟩
   refine hK.out _ _ ⟨hHeld.1.on hq, below_then hHeld.2 hq⟩ (fun hHeld2 => ?_)
   clear hq
   try simp only [Act.put, uA, uZ, uS]
   clear hK K hHeld
   have hHeld := hHeld2
   clear hHeld2
   refine tK 18 (i := 10) (v := .int .i64 s) rfl rfl (by kernel_rfl) ?_ hHeld ?_
   ·intro w hSw; clear hSw; go_simp; try with_reducible rfl
   simp only [uZ, uS]
   refine wpAnyH_done (by kernel_rfl) ?_ _
   rename World => zd13
   have HX_13 := Lib.hid (show Boxes zd13 LB from hHeld.1); have HB_13 := Lib.hid hHeld.2
   clear hHeld
   rw [← HLB.out] at HX_13
   clear HLB HL0
   clear CF1 CL1 CS1
   go_upto_region 12 with fail
   obtain ⟨LB, hLB⟩ : ∃ x, ([(MU, 30, #[.int .i64 p, .int .i64 q]), (MM, 30, #[.int .i64 c0, .int .i64 c2]), (MD, 30, #[.int .i64 r0, .int .i64 r1]), (MA, 30, #[.int .i64 f0, .int .i64 f1]), (MT, 38, #[.int .i64 tid, .int .i64 bl, .int .i64 bh, .slice TA tn tc, .slice TB tm td, .slice TQ tl te]), (MH, 35, #[.int .i64 hid, .int .i64 al, .int .i64 ah, .slice A n c, .slice B mm d, .slice C l ee, .int .i64 t0, .int .i64 t1, .int .i64 u0, .int .i64 u1, .int .i64 v0, .int .i64 v1, .int .i64 h0, .int .i64 h1]), ((G + 1 + 1), 28, #[.int .i64 g0, .int .i64 g1]), ((G + 1), 27, #[.slice Ca na ca, .slice Cb nb cb, .slice Cc nc cc, .int .i64 pl, .int .i64 de]), (G, 24, #[.int .i64 id, .int .i64 fi, .slice S sn sc, .slice V vn vc])] : List (Nat × TypeId × Array Value)) = x := ⟨_, rfl⟩
   have hl0 : (MU, 30, #[.int .i64 p, .int .i64 q]) ∈ LB ∧ (MM, 30, #[.int .i64 c0, .int .i64 c2]) ∈ LB ∧ (MD, 30, #[.int .i64 r0, .int .i64 r1]) ∈ LB ∧ (MA, 30, #[.int .i64 f0, .int .i64 f1]) ∈ LB ∧ (MT, 38, #[.int .i64 tid, .int .i64 bl, .int .i64 bh, .slice TA tn tc, .slice TB tm td, .slice TQ tl te]) ∈ LB ∧ (MH, 35, #[.int .i64 hid, .int .i64 al, .int .i64 ah, .slice A n c, .slice B mm d, .slice C l ee, .int .i64 t0, .int .i64 t1, .int .i64 u0, .int .i64 u1, .int .i64 v0, .int .i64 v1, .int .i64 h0, .int .i64 h1]) ∈ LB ∧ ((G + 1 + 1), 28, #[.int .i64 g0, .int .i64 g1]) ∈ LB ∧ ((G + 1), 27, #[.slice Ca na ca, .slice Cb nb cb, .slice Cc nc cc, .int .i64 pl, .int .i64 de]) ∈ LB ∧ (G, 24, #[.int .i64 id, .int .i64 fi, .slice S sn sc, .slice V vn vc]) ∈ LB ∧ True := by rw [← hLB]; simp
   have HL0 := Lib.hid hl0
   have hS0 : BB2 z2 LB zd13.drew := ⟨by rw [← hLB]; exact HX_13.out, HB_13.out.drew⟩
   have HLB := Lib.hid hLB
   clear hLB hl0
   refine wp_region_held_drew (S := BB2 z2 LB) (by kernel_rfl) hS0 (fun hHeld => ?_)
   obtain ⟨yq, hW⟩ : ∃ W', zd13.drew = W' := ⟨_, rfl⟩
   rw [hW] at hHeld ⊢
   clear hW hS0 HB_13 HX_13 
   refine tK 92 (i := 0) (v := .pointer (some ⟨MT, 3, none⟩)) rfl rfl (by kernel_rfl) ?_ hHeld ?_
   ·intro w hSw; clear hSw; go_simp; try with_reducible rfl
   simp only [uZ, uS]
   refine tK 93 (i := 1) (v := tv TA tn tc) rfl rfl (by kernel_rfl) ?_ hHeld ?_
   ·intro w hSw; have hz := hSw.1 _ HL0.out.2.2.2.2.1; have c3 := hz.cell 3; simp at c3; clear hz hSw; go_simp; try with_reducible rfl
   simp only [uZ, uS]
   refine tK 94 (i := 2) (v := .pointer (some ⟨MT, 3, none⟩)) rfl rfl (by kernel_rfl) ?_ hHeld ?_
   ·intro w hSw; clear hSw; go_simp; try with_reducible rfl
   simp only [uZ, uS]
   refine tK 95 (i := 3) (v := tv TA tn tc) rfl rfl (by kernel_rfl) ?_ hHeld ?_
   ·intro w hSw; have hz := hSw.1 _ HL0.out.2.2.2.2.1; have c3 := hz.cell 3; simp at c3; clear hz hSw; go_simp; try with_reducible rfl
   simp only [uZ, uS]
   refine tK 96 (i := 4) (v := .pointer (some ⟨(G + 1), 0, none⟩)) rfl rfl (by kernel_rfl) ?_ hHeld ?_
   ·intro w hSw; clear hSw; go_simp; try with_reducible rfl
   simp only [uZ, uS]
   refine tK 97 (i := 5) (v := .pointer (some ⟨(G + 1), 1, none⟩)) rfl rfl (by kernel_rfl) ?_ hHeld ?_
   ·intro w hSw; clear hSw; go_simp; try with_reducible rfl
   simp only [uZ, uS]
   refine tK 98 (i := 6) (v := .slice Cb nb cb) rfl rfl (by kernel_rfl) ?_ hHeld ?_
   ·intro w hSw; have hz := hSw.1 _ HL0.out.2.2.2.2.2.2.2.1; have c1 := hz.cell 1; simp at c1; clear hz hSw; go_simp; try with_reducible rfl
   simp only [uZ, uS]
   refine tK 100 (i := 8) (v := .int .i64 s) rfl rfl (by kernel_rfl) ?_ hHeld ?_
   ·intro w hSw; clear hSw; go_simp; try with_reducible rfl
   simp only [uZ, uS]
   refine wpAnyH_ready (rs := [7]) (by kernel_rfl) (by simp) ?_
   refine AllReadyH.cons rfl (fun K hK => ?_) AllReadyH.nil
   go_simp
   (with_reducible refine (K1.out _ hHeld.be2).mono ?_)
   rintro x y ⟨cv, rfl, ho, hq⟩
   obtain ⟨qb, qc, rfl, _, clt, hcm⟩ := own_ints_memN ho I1.out.2.1 I1.out.2.2
   have HCI := Lib.hid (show IntsP y (some ⟨qb, 0, none⟩) (curveTo tv1 k1 tn) from .inr ⟨qb, 0, rfl, clt, hcm⟩)
   clear ho clt hcm
   refine hK.out _ _ ⟨hHeld.1.on hq, below_then hHeld.2 hq⟩ (fun hHeld2 => ?_)
   clear hq
   try simp only [Act.put, uA, uZ, uS]
   clear hK K hHeld
   have hHeld := hHeld2
   clear hHeld2
   refine wpAnyH_ready (rs := [9]) (by kernel_rfl) (by simp) ?_
   refine AllReadyH.cons rfl (fun K hK => ?_) AllReadyH.nil
   go_simp
   (with_reducible refine (L1.out _ qb qc hHeld.be2 HCI.out).mono ?_)
   rintro x y ⟨⟨a2, b2, rfl, hval⟩, hq⟩
   have HV2 := Lib.hid hval
   clear hval HCI
   refine hK.out _ _ ⟨hHeld.1.on hq, below_then hHeld.2 hq⟩ (fun hHeld2 => ?_)
   clear hq
   try simp only [Act.put, uA, uZ, uS]
   clear hK K hHeld
   have hHeld := hHeld2
   clear hHeld2
   refine tK 91 (i := 10) (v := .tuple #[.int .i64 a2, .int .i64 b2]) rfl rfl (by kernel_rfl) ?_ hHeld ?_
   ·intro w hSw; clear hSw; go_simp; try with_reducible rfl
   simp only [uZ, uS]
   refine tK 102 (i := 11) (v := .int .i64 a2) rfl rfl (by kernel_rfl) ?_ hHeld ?_
   ·intro w hSw; clear hSw; go_simp; try with_reducible rfl
   simp only [uZ, uS]
   refine tK 103 (i := 12) (v := .int .i64 b2) rfl rfl (by kernel_rfl) ?_ hHeld ?_
   ·intro w hSw; clear hSw; go_simp; try with_reducible rfl
   simp only [uZ, uS]
   refine tK 19 (i := 13) (v := .int .i64 a2) rfl rfl (by kernel_rfl) ?_ hHeld ?_
   ·intro w hSw; clear hSw; go_simp; try with_reducible rfl
   simp only [uZ, uS]
   refine tK 20 (i := 14) (v := .int .i64 b2) rfl rfl (by kernel_rfl) ?_ hHeld ?_
   ·intro w hSw; clear hSw; go_simp; try with_reducible rfl
   simp only [uZ, uS]
   refine wpAnyH_done (by kernel_rfl) ?_ _
   rename World => zd14
   have HX_14 := Lib.hid (show Boxes zd14 LB from hHeld.1); have HB_14 := Lib.hid hHeld.2
   clear hHeld
   rw [← HLB.out] at HX_14
   clear HLB HL0
   clear K1 L1
   obtain ⟨⟨p1, p2, p3, p4, p5, p6, p7⟩, p', q', hpq, hlo, hhi⟩ := PV2.out a2 b2 HV2.out
   have CAR := Lib.hid (fun (W : World) => maround_S (a2 * dd) (1000 * b2) W p3 (by omega) (by omega) (by omega))
   have CSD := Lib.hid (fun (W : World) (hW : Below z2.heap.size z2 W) => hSounding_any ⟨tid, bl, bh, tv1, tv2, tv3⟩ ⟨TA, tn, tc, TB, tm, td, TQ, tl, te⟩ (aroundS (a2 * dd) (1000 * b2)).1 (aroundS (a2 * dd) (1000 * b2)).2 r0 r1 W (HIT.out.below hW))
   rw [hpq] at CSD
   have w1 : IntKind.i64.wrap (a2 * dd) = a2 * dd := IntWalk.i64_in _ ⟨by omega, by omega⟩
   have w2 : IntKind.i64.wrap (1000 * b2) = 1000 * b2 := IntWalk.i64_in _ ⟨by omega, by omega⟩
   obtain ⟨x2, hx1⟩ : ∃ z, a2 * dd = z := ⟨_, rfl⟩
   obtain ⟨y2, hy1⟩ : ∃ z, 1000 * b2 = z := ⟨_, rfl⟩
   obtain ⟨⟨d0, d1⟩, hc⟩ : ∃ z, aroundS (a2 * dd) (1000 * b2) = z := ⟨_, rfl⟩
   rw [hc] at CAR CSD
   rw [hx1] at CAR
   rw [hy1] at CAR
   replace w1 := w1.trans hx1
   replace w2 := w2.trans hy1
   dsimp only [tankV, tankCells, rt] at CAR CSD
   have HW4 := Lib.hid w1; have HW5 := Lib.hid w2; have HLO2 := Lib.hid hlo; have HHI2 := Lib.hid hhi
   clear p1 p2 p3 p4 p5 p6 p7 w1 w2 hx1 hy1 hc hpq hlo hhi HV2 HTS HIT I1 HM HD PV2
   go_upto_region 13 with fail
   go_cut [21, 22] (fun s21 s22 wx => ∃ N, s21 = .pointer (some ⟨N, 0, none⟩) ∧ s22 = .int .i64 0 ∧ Boxes wx ((N, 30, #[.int .i64 p', .int .i64 q']) :: [(MU, 30, #[.int .i64 p, .int .i64 q]), (MM, 30, #[.int .i64 c0, .int .i64 c2]), (MD, 30, #[.int .i64 r0, .int .i64 r1]), (MA, 30, #[.int .i64 f0, .int .i64 f1]), (MT, 38, #[.int .i64 tid, .int .i64 bl, .int .i64 bh, .slice TA tn tc, .slice TB tm td, .slice TQ tl te]), (MH, 35, #[.int .i64 hid, .int .i64 al, .int .i64 ah, .slice A n c, .slice B mm d, .slice C l ee, .int .i64 t0, .int .i64 t1, .int .i64 u0, .int .i64 u1, .int .i64 v0, .int .i64 v1, .int .i64 h0, .int .i64 h1]), ((G + 1 + 1), 28, #[.int .i64 g0, .int .i64 g1]), ((G + 1), 27, #[.slice Ca na ca, .slice Cb nb cb, .slice Cc nc cc, .int .i64 pl, .int .i64 de]), (G, 24, #[.int .i64 id, .int .i64 fi, .slice S sn sc, .slice V vn vc])]) ∧ Below z2.heap.size z2 wx)
   case first =>
    obtain ⟨LB, hLB⟩ : ∃ x, ([(MU, 30, #[.int .i64 p, .int .i64 q]), (MM, 30, #[.int .i64 c0, .int .i64 c2]), (MD, 30, #[.int .i64 r0, .int .i64 r1]), (MA, 30, #[.int .i64 f0, .int .i64 f1]), (MT, 38, #[.int .i64 tid, .int .i64 bl, .int .i64 bh, .slice TA tn tc, .slice TB tm td, .slice TQ tl te]), (MH, 35, #[.int .i64 hid, .int .i64 al, .int .i64 ah, .slice A n c, .slice B mm d, .slice C l ee, .int .i64 t0, .int .i64 t1, .int .i64 u0, .int .i64 u1, .int .i64 v0, .int .i64 v1, .int .i64 h0, .int .i64 h1]), ((G + 1 + 1), 28, #[.int .i64 g0, .int .i64 g1]), ((G + 1), 27, #[.slice Ca na ca, .slice Cb nb cb, .slice Cc nc cc, .int .i64 pl, .int .i64 de]), (G, 24, #[.int .i64 id, .int .i64 fi, .slice S sn sc, .slice V vn vc])] : List (Nat × TypeId × Array Value)) = x := ⟨_, rfl⟩
    have hl0 : (MU, 30, #[.int .i64 p, .int .i64 q]) ∈ LB ∧ (MM, 30, #[.int .i64 c0, .int .i64 c2]) ∈ LB ∧ (MD, 30, #[.int .i64 r0, .int .i64 r1]) ∈ LB ∧ (MA, 30, #[.int .i64 f0, .int .i64 f1]) ∈ LB ∧ (MT, 38, #[.int .i64 tid, .int .i64 bl, .int .i64 bh, .slice TA tn tc, .slice TB tm td, .slice TQ tl te]) ∈ LB ∧ (MH, 35, #[.int .i64 hid, .int .i64 al, .int .i64 ah, .slice A n c, .slice B mm d, .slice C l ee, .int .i64 t0, .int .i64 t1, .int .i64 u0, .int .i64 u1, .int .i64 v0, .int .i64 v1, .int .i64 h0, .int .i64 h1]) ∈ LB ∧ ((G + 1 + 1), 28, #[.int .i64 g0, .int .i64 g1]) ∈ LB ∧ ((G + 1), 27, #[.slice Ca na ca, .slice Cb nb cb, .slice Cc nc cc, .int .i64 pl, .int .i64 de]) ∈ LB ∧ (G, 24, #[.int .i64 id, .int .i64 fi, .slice S sn sc, .slice V vn vc]) ∈ LB ∧ True := by rw [← hLB]; simp
    have HL0 := Lib.hid hl0
    have hS0 : BB2 z2 LB zd14.drew := ⟨by rw [← hLB]; exact HX_14.out, HB_14.out.drew⟩
    have HLB := Lib.hid hLB
    clear hLB hl0
    refine wp_region_held_drew (S := BB2 z2 LB) (by kernel_rfl) hS0 (fun hHeld => ?_)
    obtain ⟨yq, hW⟩ : ∃ W', zd14.drew = W' := ⟨_, rfl⟩
    rw [hW] at hHeld ⊢
    clear hW hS0 HB_14 HX_14 
    refine tK 105 (i := 0) (v := .agg #[.int .i64 tid, .int .i64 bl, .int .i64 bh, .slice TA tn tc, .slice TB tm td, .slice TQ tl te]) rfl rfl (by kernel_rfl) ?_ hHeld ?_
    ·intro w hSw; have hz := hSw.1 _ HL0.out.2.2.2.2.1; have c0 := hz.cell 0; have c1 := hz.cell 1; have c2 := hz.cell 2; have c3 := hz.cell 3; have c4 := hz.cell 4; have c5 := hz.cell 5; simp at c0 c1 c2 c3 c4 c5; clear hz hSw; go_simp; try with_reducible rfl
    simp only [uZ, uS]
    refine tK 106 (i := 1) (v := .int .i64 a2) rfl rfl (by kernel_rfl) ?_ hHeld ?_
    ·intro w hSw; clear hSw; go_simp; try with_reducible rfl
    simp only [uZ, uS]
    refine tK 107 (i := 2) (v := .int .i64 dd) rfl rfl (by kernel_rfl) ?_ hHeld ?_
    ·intro w hSw; clear hSw; go_simp; try with_reducible rfl
    simp only [uZ, uS]
    refine tK 108 (i := 3) (v := .int .i64 x2) rfl rfl (by kernel_rfl) ?_ hHeld ?_
    ·intro w hSw; clear hSw; go_simp; first | done | exact HW4.out
    simp only [uZ, uS]
    refine tK 109 (i := 4) (v := .int .i64 b2) rfl rfl (by kernel_rfl) ?_ hHeld ?_
    ·intro w hSw; clear hSw; go_simp; try with_reducible rfl
    simp only [uZ, uS]
    refine tK 110 (i := 5) (v := .int .i64 y2) rfl rfl (by kernel_rfl) ?_ hHeld ?_
    ·intro w hSw; clear hSw; go_simp; first | done | exact HW5.out
    simp only [uZ, uS]
    refine tK 112 (i := 7) (v := rv r0 r1) rfl rfl (by kernel_rfl) ?_ hHeld ?_
    ·intro w hSw; have hz := hSw.1 _ HL0.out.2.2.1; have c0 := hz.cell 0; have c1 := hz.cell 1; simp at c0 c1; clear hz hSw; go_simp; try with_reducible rfl
    simp only [uZ, uS]
    refine wpAnyH_ready (rs := [6, 12]) (by kernel_rfl) (by simp) ?_
    refine AllReadyH.cons rfl (fun K hK => ?_) (AllReadyH.cons rfl (fun K hK => ?_) AllReadyH.nil)
    ·skip
     go_simp
     (with_reducible refine (CAR.out _).mono ?_)
     rintro x y ⟨rfl, hq⟩
     refine hK.out _ _ ⟨hHeld.1.on hq, below_then hHeld.2 hq⟩ (fun hHeld2 => ?_)
     clear hq
     try simp only [Act.put, uA, uZ, uS]
     clear hK K hHeld
     have hHeld := hHeld2
     clear hHeld2
     refine wpAnyH_ready (rs := [8, 12]) (by kernel_rfl) (by simp) ?_
     refine AllReadyH.cons rfl (fun K hK => ?_) (AllReadyH.cons rfl (fun K hK => ?_) AllReadyH.nil)
     ·skip
      go_simp
      (with_reducible refine (CSD.out _ hHeld.be2).mono ?_)
      rintro x y ⟨rfl, hq⟩
      refine hK.out _ _ ⟨hHeld.1.on hq, below_then hHeld.2 hq⟩ (fun hHeld2 => ?_)
      clear hq
      try simp only [Act.put, uA, uZ, uS]
      clear hK K hHeld
      have hHeld := hHeld2
      clear hHeld2
      refine tK 104 (i := 9) (v := .tuple #[rv p' q', .int .i64 0]) rfl rfl (by kernel_rfl) ?_ hHeld ?_
      ·intro w hSw; clear hSw; go_simp; try with_reducible rfl
      simp only [uZ, uS]
      refine tK 114 (i := 10) (v := rv p' q') rfl rfl (by kernel_rfl) ?_ hHeld ?_
      ·intro w hSw; clear hSw; go_simp; try with_reducible rfl
      simp only [uZ, uS]
      refine tK 115 (i := 11) (v := .int .i64 0) rfl rfl (by kernel_rfl) ?_ hHeld ?_
      ·intro w hSw; clear hSw; go_simp; try with_reducible rfl
      simp only [uZ, uS]
      refine wpAnyH_ready (rs := [12]) (by kernel_rfl) (by simp) ?_
      refine AllReadyH.cons rfl (fun K hK => ?_) AllReadyH.nil
      rename World => yq
      go_simp
      have HDN := Lib.hid (boxes_lt hHeld.1); have HZN := Lib.hid hHeld.2.size; have HY := Lib.hid (hHeld.1.new 30 #[.int .i64 0, .int .i64 0])
      refine hK.out _ _ ⟨hHeld.1.on (below_alloc1 _ _), below_then hHeld.2 (below_alloc1 _ _)⟩ (fun hHeld2 => ?_)
      try simp only [Act.put, uA, uZ, uS]
      clear hK K hHeld
      have hHeld := hHeld2
      clear hHeld2
      obtain ⟨yr, hW⟩ : ∃ W', yq.alloc (.cells #[.int .i64 0, .int .i64 0] 30) = W' := ⟨_, rfl⟩
      rw [hW] at HY hHeld ⊢
      clear hW
      obtain ⟨N15, hN⟩ : ∃ N, yq.heap.size = N := ⟨_, rfl⟩
      rw [hN] at HY HDN HZN ⊢
      clear hN
      refine wpAnyH_ready (rs := [13]) (by kernel_rfl) (by simp) ?_
      refine AllReadyH.cons rfl (fun K hK => ?_) AllReadyH.nil
      rw [if_pos (by kernel_rfl)]
      rename World => yq
      have HXs : Hid (Boxes (yq.setRow N15 #[.int .i64 p', .int .i64 q']) ((N15, 30, #[.int .i64 p', .int .i64 q']) :: LB)) := Lib.hid (Boxes.row HY.out (.head _) (fun p hp => ⟨.tail _ hp, HDN.out p hp⟩) #[.int .i64 p', .int .i64 q'])
      have HEs := Lib.hid (below_setRow hHeld.2 (show z2.heap.size ≤ N15 from HZN.out) #[.int .i64 p', .int .i64 q'])
      refine wp_store_row 30 (.tmp 21) (.tmp 114) rfl N15 #[.int .i64 p', .int .i64 q'] rfl rfl 30 _ (HY.out _ (.head _)) (by kernel_rfl) rfl (by kernel_rfl) ?_
      refine hK.out _ _ ⟨hHeld.1.farRow (g := N15) HDN.out _, HEs.out⟩ (fun hHeld2 => ?_)
      try simp only [Act.put, uA, uZ, uS]
      clear hK K hHeld
      have hHeld := hHeld2
      clear hHeld2
      refine tK 22 (i := 14) (v := .int .i64 0) rfl rfl (by kernel_rfl) ?_ hHeld ?_
      ·intro w hSw; clear hSw; go_simp; try with_reducible rfl
      simp only [uZ, uS]
      refine wpAnyH_done (by kernel_rfl) ?_ _
      clear hHeld
      go_wp2_with fail
      go_meet
      rw [← HLB.out] at HXs
      exact ⟨N15, rfl, rfl, HXs.out, HEs.out⟩
     ·skip
      rename World => yq
      go_simp
      have HDN := Lib.hid (boxes_lt hHeld.1); have HZN := Lib.hid hHeld.2.size; have HY := Lib.hid (hHeld.1.new 30 #[.int .i64 0, .int .i64 0])
      refine hK.out _ _ ⟨hHeld.1.on (below_alloc1 _ _), below_then hHeld.2 (below_alloc1 _ _)⟩ (fun hHeld2 => ?_)
      try simp only [Act.put, uA, uZ, uS]
      clear hK K hHeld
      have hHeld := hHeld2
      clear hHeld2
      obtain ⟨yr, hW⟩ : ∃ W', yq.alloc (.cells #[.int .i64 0, .int .i64 0] 30) = W' := ⟨_, rfl⟩
      rw [hW] at HY hHeld ⊢
      clear hW
      obtain ⟨N15, hN⟩ : ∃ N, yq.heap.size = N := ⟨_, rfl⟩
      rw [hN] at HY HDN HZN ⊢
      clear hN
      refine wpAnyH_ready (rs := [8]) (by kernel_rfl) (by simp) ?_
      refine AllReadyH.cons rfl (fun K hK => ?_) AllReadyH.nil
      go_simp
      (with_reducible refine (CSD.out _ hHeld.be2).mono ?_)
      rintro x y ⟨rfl, hq⟩
      have HY := Lib.hid (HY.out.on hq)
      refine hK.out _ _ ⟨hHeld.1.on hq, below_then hHeld.2 hq⟩ (fun hHeld2 => ?_)
      clear hq
      try simp only [Act.put, uA, uZ, uS]
      clear hK K hHeld
      have hHeld := hHeld2
      clear hHeld2
      refine tK 104 (i := 9) (v := .tuple #[rv p' q', .int .i64 0]) rfl rfl (by kernel_rfl) ?_ hHeld ?_
      ·intro w hSw; clear hSw; go_simp; try with_reducible rfl
      simp only [uZ, uS]
      refine tK 114 (i := 10) (v := rv p' q') rfl rfl (by kernel_rfl) ?_ hHeld ?_
      ·intro w hSw; clear hSw; go_simp; try with_reducible rfl
      simp only [uZ, uS]
      refine tK 115 (i := 11) (v := .int .i64 0) rfl rfl (by kernel_rfl) ?_ hHeld ?_
      ·intro w hSw; clear hSw; go_simp; try with_reducible rfl
      simp only [uZ, uS]
      refine wpAnyH_ready (rs := [13]) (by kernel_rfl) (by simp) ?_
      refine AllReadyH.cons rfl (fun K hK => ?_) AllReadyH.nil
      rw [if_pos (by kernel_rfl)]
      rename World => yq
      have HXs : Hid (Boxes (yq.setRow N15 #[.int .i64 p', .int .i64 q']) ((N15, 30, #[.int .i64 p', .int .i64 q']) :: LB)) := Lib.hid (Boxes.row HY.out (.head _) (fun p hp => ⟨.tail _ hp, HDN.out p hp⟩) #[.int .i64 p', .int .i64 q'])
      have HEs := Lib.hid (below_setRow hHeld.2 (show z2.heap.size ≤ N15 from HZN.out) #[.int .i64 p', .int .i64 q'])
      refine wp_store_row 30 (.tmp 21) (.tmp 114) rfl N15 #[.int .i64 p', .int .i64 q'] rfl rfl 30 _ (HY.out _ (.head _)) (by kernel_rfl) rfl (by kernel_rfl) ?_
      refine hK.out _ _ ⟨hHeld.1.farRow (g := N15) HDN.out _, HEs.out⟩ (fun hHeld2 => ?_)
      try simp only [Act.put, uA, uZ, uS]
      clear hK K hHeld
      have hHeld := hHeld2
      clear hHeld2
      refine tK 22 (i := 14) (v := .int .i64 0) rfl rfl (by kernel_rfl) ?_ hHeld ?_
      ·intro w hSw; clear hSw; go_simp; try with_reducible rfl
      simp only [uZ, uS]
      refine wpAnyH_done (by kernel_rfl) ?_ _
      clear hHeld
      go_wp2_with fail
      go_meet
      rw [← HLB.out] at HXs
      exact ⟨N15, rfl, rfl, HXs.out, HEs.out⟩
    ·skip
     rename World => yq
     go_simp
     have HDN := Lib.hid (boxes_lt hHeld.1); have HZN := Lib.hid hHeld.2.size; have HY := Lib.hid (hHeld.1.new 30 #[.int .i64 0, .int .i64 0])
     refine hK.out _ _ ⟨hHeld.1.on (below_alloc1 _ _), below_then hHeld.2 (below_alloc1 _ _)⟩ (fun hHeld2 => ?_)
     try simp only [Act.put, uA, uZ, uS]
     clear hK K hHeld
     have hHeld := hHeld2
     clear hHeld2
     obtain ⟨yr, hW⟩ : ∃ W', yq.alloc (.cells #[.int .i64 0, .int .i64 0] 30) = W' := ⟨_, rfl⟩
     rw [hW] at HY hHeld ⊢
     clear hW
     obtain ⟨N15, hN⟩ : ∃ N, yq.heap.size = N := ⟨_, rfl⟩
     rw [hN] at HY HDN HZN ⊢
     clear hN
     refine wpAnyH_ready (rs := [6]) (by kernel_rfl) (by simp) ?_
     refine AllReadyH.cons rfl (fun K hK => ?_) AllReadyH.nil
     go_simp
     (with_reducible refine (CAR.out _).mono ?_)
     rintro x y ⟨rfl, hq⟩
     have HY := Lib.hid (HY.out.on hq)
     refine hK.out _ _ ⟨hHeld.1.on hq, below_then hHeld.2 hq⟩ (fun hHeld2 => ?_)
     clear hq
     try simp only [Act.put, uA, uZ, uS]
     clear hK K hHeld
     have hHeld := hHeld2
     clear hHeld2
     refine wpAnyH_ready (rs := [8]) (by kernel_rfl) (by simp) ?_
     refine AllReadyH.cons rfl (fun K hK => ?_) AllReadyH.nil
     go_simp
     (with_reducible refine (CSD.out _ hHeld.be2).mono ?_)
     rintro x y ⟨rfl, hq⟩
     have HY := Lib.hid (HY.out.on hq)
     refine hK.out _ _ ⟨hHeld.1.on hq, below_then hHeld.2 hq⟩ (fun hHeld2 => ?_)
     clear hq
     try simp only [Act.put, uA, uZ, uS]
     clear hK K hHeld
     have hHeld := hHeld2
     clear hHeld2
     refine tK 104 (i := 9) (v := .tuple #[rv p' q', .int .i64 0]) rfl rfl (by kernel_rfl) ?_ hHeld ?_
     ·intro w hSw; clear hSw; go_simp; try with_reducible rfl
     simp only [uZ, uS]
     refine tK 114 (i := 10) (v := rv p' q') rfl rfl (by kernel_rfl) ?_ hHeld ?_
     ·intro w hSw; clear hSw; go_simp; try with_reducible rfl
     simp only [uZ, uS]
     refine tK 115 (i := 11) (v := .int .i64 0) rfl rfl (by kernel_rfl) ?_ hHeld ?_
     ·intro w hSw; clear hSw; go_simp; try with_reducible rfl
     simp only [uZ, uS]
     refine wpAnyH_ready (rs := [13]) (by kernel_rfl) (by simp) ?_
     refine AllReadyH.cons rfl (fun K hK => ?_) AllReadyH.nil
     rw [if_pos (by kernel_rfl)]
     rename World => yq
     have HXs : Hid (Boxes (yq.setRow N15 #[.int .i64 p', .int .i64 q']) ((N15, 30, #[.int .i64 p', .int .i64 q']) :: LB)) := Lib.hid (Boxes.row HY.out (.head _) (fun p hp => ⟨.tail _ hp, HDN.out p hp⟩) #[.int .i64 p', .int .i64 q'])
     have HEs := Lib.hid (below_setRow hHeld.2 (show z2.heap.size ≤ N15 from HZN.out) #[.int .i64 p', .int .i64 q'])
     refine wp_store_row 30 (.tmp 21) (.tmp 114) rfl N15 #[.int .i64 p', .int .i64 q'] rfl rfl 30 _ (HY.out _ (.head _)) (by kernel_rfl) rfl (by kernel_rfl) ?_
     refine hK.out _ _ ⟨hHeld.1.farRow (g := N15) HDN.out _, HEs.out⟩ (fun hHeld2 => ?_)
     try simp only [Act.put, uA, uZ, uS]
     clear hK K hHeld
     have hHeld := hHeld2
     clear hHeld2
     refine tK 22 (i := 14) (v := .int .i64 0) rfl rfl (by kernel_rfl) ?_ hHeld ?_
     ·intro w hSw; clear hSw; go_simp; try with_reducible rfl
     simp only [uZ, uS]
     refine wpAnyH_done (by kernel_rfl) ?_ _
     clear hHeld
     go_wp2_with fail
     go_meet
     rw [← HLB.out] at HXs
     exact ⟨N15, rfl, rfl, HXs.out, HEs.out⟩
   case rest =>
    obtain ⟨MS, rfl, rfl, hX, hB⟩ := hcut
    have HX_16 := Lib.hid hX; have HB_16 := Lib.hid hB
    clear hX hB HX_14 HB_14 CAR CSD HW4 HW5
    rename World => zr16
    have fa_ := HX_16.out _ (.head _)
    have fa_0 := fa_.cell 0
    have fa_1 := fa_.cell 1
    simp at fa_0 fa_1
    clear fa_
    have fb_ := HX_16.out _ (.tail _ (.head _))
    have fb_0 := fb_.cell 0
    have fb_1 := fb_.cell 1
    simp at fb_0 fb_1
    clear fb_
    have l1 : decide (p ≤ u) = true := decide_eq_true HLO.out
    have l2 : decide (u ≤ q) = true := decide_eq_true HHI.out
    have l3 : decide (p' ≤ s) = true := decide_eq_true HLO2.out
    have l4 : decide (s ≤ q') = true := decide_eq_true HHI2.out
    go_wp2_with fail
    refine (msane_any _).mono ?_
    rintro e zz ⟨rfl, hq⟩
    have HBz := Lib.hid (below_then HB_16.out hq)
    clear hq fa_0 fa_1 fb_0 fb_1 l1 l2 l3 l4
    go_wp2
    go_ret
    exact ⟨rfl, below_then HQ_2.out HBz.out⟩
end

section
open Go.ChangeShapes Go.WideShapes Go.ChangeAt Go.RowKit Go.Joins

set_option maxRecDepth 100000 in
theorem holdInverts_lifted (os : Os) (started : os.Started) (H : Type) (enc : TypeId × Value → H) :
    ReturnsInHanded {} Tryz.checked os 3 .any (Rows.holdInvertsSpec.pre6 enc Tryz.prog Tryz.f3 Rows.holdInvertsRow.domain false) (Rows.holdInvertsSpec.post enc Tryz.prog Tryz.f3 false true false false) := by
  refine returnsInHanded_of_change_sized (C := Tryz.checked) own started (by kernel_rfl) Tryz.func3
    (ChangeSpec.witness6 (enc := enc) (C := Tryz.checked) false ⟨#[], #[.agg #[.int .i64 0, .int .i64 0, .slice none 0 0, .slice none 0 0], .agg #[.slice none 0 0, .slice none 0 0, .slice none 0 0, .int .i64 0, .int .i64 0], .agg #[.int .i64 0, .int .i64 0]], []⟩ 8 (by kernel_rfl) (by kernel_rfl) (by kernel_rfl) (by kernel_rfl)) ?_
  intro W base args ds gs before hval0 hW hcnd hsz _
  have hval : ∀ (j : Nat) t v, Tryz.f3.params[j]? = some t → args[j]? = some v → Value.okWide Tryz.prog W .any base t v := hval0
  have hW' := hW
  obtain ⟨p, q, hA0, hV, rfl, hfz, hnd⟩ := hW
  have hA : DataW.TrodAll enc Tryz.prog W 0 (fun _ => true) true Tryz.f3.params.toList args.toList ds p := hA0
  rw [Tryz.params3] at hA hval
  have hsz2 : (DataW.weightsEach Tryz.prog (Tryz.f3.params.toList ++ Rows.holdInvertsSpec.plain.varTypes Tryz.prog) (ds ++ gs)).all (· ≤ reachBytes) = true := hsz
  rw [Tryz.params3] at hsz2
  obtain ⟨v0, v1, v2, d0, d1, d2, p0, p1, p2, hargs, rfl, rfl, h0, h1, h2⟩ := trodAll_three hA
  obtain rfl : args = #[v0, v1, v2] := by cases args; simp_all
  obtain ⟨rfl, rfl⟩ := trodVars_none hV
  have light : ∀ (j : Nat) (t : TypeId) (d : DataW H), ([24, 27, 28] : List TypeId)[j]? = some t → ([d0, d1, d2] : List (DataW H))[j]? = some d → Light t d := fun j t d ht hd n hn => by
    have q := List.all_eq_true.1 hsz2 n (DataW.weights_mem_each (j := j) (t := t) (d := d) (by
      have := List.getElem?_eq_some_iff.1 ht
      obtain ⟨hl, _⟩ := this
      rw [List.getElem?_append_left (by simpa using hl)]
      simpa using ht) (by
      have := List.getElem?_eq_some_iff.1 hd
      obtain ⟨hl, _⟩ := this
      rw [List.getElem?_append_left (by simpa using hl)]
      simpa using hd) n hn)
    simpa using q
  obtain ⟨r, m, rfl, hi⟩ := open_raw (hval 0 24 v0 rfl rfl) h0 (light 0 _ d0 rfl rfl)
  obtain ⟨Ca, Cb, Cc, na, ca, nb, cb, nc, cc, k0, k1, k2, pl, de, rfl, hka, hkb, hkc⟩ := open_truth (hval 1 27 v1 rfl rfl) h1 (light 1 _ d1 rfl rfl)
  obtain ⟨g0, g1, rfl, _, _⟩ := open_two_ints (hval 2 28 v2 rfl rfl) h2
  refine (holdInverts_walk r m Ca Cb Cc na ca nb cb nc cc k0 k1 k2 pl de g0 g1 W hi hka hkb).mono fun e W' ⟨he, hb⟩ => ?_
  subst he
  exact ⟨_, rfl, law_post rfl rfl (by intro t ht; rw [Tryz.params3] at ht
                                      have : t = 24 ∨ t = 27 ∨ t = 28 := by simpa using ht
                                      rcases this with rfl | rfl | rfl <;> exact ⟨by kernel_rfl, of_decide_eq_true (by kernel_rfl)⟩) hW' rfl rfl rfl hb⟩

theorem holdInverts_holds : Rows.HoldInvertsSaid :=
  OpenClaim.holds_of_wide 3 Tryz.f3 rfl rfl rfl rfl rfl rfl rfl ⟨rfl, rfl, rfl, rfl, rfl⟩ rfl rfl rfl rfl rfl (by kernel_rfl) Tryz.func3 (by kernel_rfl)
    (of_decide_eq_true (by kernel_rfl)) (by unfold Func.isWrapper; rw [if_neg (of_decide_eq_false (by kernel_rfl))]; exact ⟨rfl, rfl⟩)
    (fun os started H enc _ => holdInverts_lifted os started H enc)
end

end Go.Proofs.YtemlaaipnhmcoaaGreat
