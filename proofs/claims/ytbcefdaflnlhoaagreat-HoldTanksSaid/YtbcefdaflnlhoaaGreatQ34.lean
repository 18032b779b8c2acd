/- The contracts of Pump, of hold and of the specification. Their condition: the tank's tables lie in memory. -/
import Derived.Test.YtbcefdaflnlhoaaGreatQ33
set_option linter.unusedVariables false
set_option linter.unusedSimpArgs false
set_option linter.constructorNameAsVariable false
namespace Go.Proofs.YtbcefdaflnlhoaaGreat

section
open Go.RowKit
attribute [local go_sem ↓] run_minI run_maxI
/-- The error of an inverse is 24 or none. -/
theorem invS_err24 (f g : Int → Bool) (lo hi : Int) : (invS f g lo hi).2.2 = 0 ∨ (invS f g lo hi).2.2 = 24 := by
  unfold invS
  split
  · exact .inr rfl
  · exact .inl rfl

set_option maxRecDepth 100000 in
set_option maxHeartbeats 4000000 in
theorem hPump_any (t : TankD) (m : HoldM) (lv : LevelD) (a b : Int) (w : World) (hi : TankIn w t m) :
    Calls Tryz.prog 14 #[tankV t m, levelV lv, rv a b] w fun e w' => e = .returned (pumS t lv a b) ∧ Below w.heap.size w w' := by
  obtain ⟨E, hE⟩ : ∃ E, levelErr t lv = E := ⟨_, rfl⟩
  obtain ⟨⟨va, vb⟩, qC2⟩ : ∃ v, ovL t.vol lv = v := ⟨_, rfl⟩
  obtain ⟨⟨ma, mb⟩, qC3⟩ : ∃ v, litresS a b lv.d0 lv.d1 = v := ⟨_, rfl⟩
  obtain ⟨bv, qbv⟩ : ∃ v, vR a b = v := ⟨_, rfl⟩
  obtain ⟨⟨sa, sb, se⟩, qS⟩ : ∃ v, sndS t.vol (max (va + ma) 0) (vb + mb) = v := ⟨_, rfl⟩
  obtain ⟨R, hR⟩ : ∃ R, pumS t lv a b = R := ⟨_, rfl⟩
  have HR : Hid ((if E = 0 then (if bv = true then (if se = 0 then lvV t.id false sa sb lv.d0 lv.d1 0 else lvV 0 false 0 0 0 0 24) else lvV 0 false 0 0 0 0 10) else lvV 0 false 0 0 0 0 E) = R) := Lib.hid (by
    have q : pumpV t lv a b = (max (va + ma) 0, vb + mb) := by unfold pumpV; rw [qC2, qC3]
    rw [← hR]; unfold pumS; rw [hE, qbv, q, qS])
  have HS : Hid (se = 0 ∨ se = 24) := Lib.hid (by
    have q := invS_err24 (lessF t.vol (max (va + ma) 0)) (moreF t.vol (vb + mb)) (firstX t.vol) (lastX t.vol)
    unfold sndS at qS
    rw [qS] at q
    exact q)
  have HW : Hid (E = 0 → bv = true → IntKind.i64.wrap (va + ma) = va + ma ∧ IntKind.i64.wrap (vb + mb) = vb + mb) := Lib.hid fun e q => by
    have h1 := vol_amtL (hE.trans e)
    rw [qC2] at h1
    have h2 := litres_small (vR_small (qbv.trans q)) (dens_in (level_dens (hE.trans e)))
    rw [qC3] at h2
    obtain ⟨x1, x2, x3⟩ := h1
    dsimp only at x1 x2 x3 h2
    exact ⟨IntWalk.i64_in _ ⟨by omega, by omega⟩, IntWalk.i64_in _ ⟨by omega, by omega⟩⟩
  have C1 : Hid (∀ W, Below w.heap.size w W → Calls Tryz.prog 18 #[tankV t m, levelV lv] W fun e w' => e = .returned (.int .i64 E) ∧ Below W.heap.size W w') := Lib.hid fun W hW => int_to (checkLevel_any t m lv W (hi.below hW)) hE
  have C2 : Hid (∀ W, Below w.heap.size w W → Calls Tryz.prog 38 #[tv m.A m.n m.c, rv lv.s0 lv.s1] W fun e w' => e = .returned (rv va vb) ∧ Below W.heap.size W w') := Lib.hid fun W hW => by
    have := hover_any m.A m.n m.c t.vol lv.s0 lv.s1 W (hi.1.below hW)
    rw [show ((overS t.vol lv.s0 lv.s1).1 = va) from congrArg Prod.fst qC2, show ((overS t.vol lv.s0 lv.s1).2.1 = vb) from congrArg Prod.snd qC2] at this; exact this
  have C3 : Hid (E = 0 → bv = true → ∀ W, Calls Tryz.prog 42 #[rv a b, rv lv.d0 lv.d1] W fun e w' => e = .returned (rv ma mb) ∧ Below W.heap.size W w') := Lib.hid fun e q W => by
    have := hlitres_any a b lv.d0 lv.d1 W (vR_small (qbv.trans q)) (dens_in (level_dens (hE.trans e)))
    rw [qC3] at this; exact this
  have C5 : Hid (E = 0 → ∀ W, Calls Tryz.prog 41 #[rv a b, rv lv.d0 lv.d1] W fun e w' => e = .returned (.int .i64 (if bv = true then 0 else 10)) ∧ Below W.heap.size W w') := Lib.hid fun e W => int_to (checkMass_any a b lv.d0 lv.d1 W) (by unfold massErr; rw [qbv, level_dens (hE.trans e)]; cases bv <;> rfl)
  have C6 : Hid (E = 0 → ∀ W, Below w.heap.size w W → Calls Tryz.prog 43 #[tankV t m, rv (max (va + ma) 0) (vb + mb)] W fun e w' => e = .returned (.tuple #[rv sa sb, .int .i64 se]) ∧ Below W.heap.size W w') := Lib.hid fun e W hW => by
    have ht := tank_tab (level_zero (hE.trans e)).1
    exact rt_to (soundings_any t.vol t.id t.al t.ah m.A m.B m.C m.n m.c m.m m.d m.l m.e (max (va + ma) 0) (vb + mb) W (hi.1.below hW) ht (first_le_last ht)) qS
  rw [hR]
  clear hR hE qC2 qC3 qbv qS hi
  obtain ⟨id, al, ah, vol, sur, hei⟩ := t
  obtain ⟨A, n, c, B, mm, d, C, l, ee⟩ := m
  obtain ⟨tk, pr, s0, s1, d0, d1⟩ := lv
  dsimp only at HR C3
  have HE := Lib.hid (show Below w.heap.size w ((((w.alloc (.cells #[.int .i64 id, .int .i64 al, .int .i64 ah, .slice A n c, .slice B mm d, .slice C l ee] 28)).alloc (.cells #[.int .i64 tk, .bool pr, .int .i64 s0, .int .i64 s1, .int .i64 d0, .int .i64 d1] 30)).alloc (.cells #[.int .i64 a, .int .i64 b] 23)).alloc (.cells #[.int .i64 0, .bool false, .int .i64 0, .int .i64 0, .int .i64 0, .int .i64 0] 30)) from below_a4 (Below.refl _ _))
  have HK := Lib.hid (boxes4' w 28 30 23 30 #[.int .i64 id, .int .i64 al, .int .i64 ah, .slice A n c, .slice B mm d, .slice C l ee] #[.int .i64 tk, .bool pr, .int .i64 s0, .int .i64 s1, .int .i64 d0, .int .i64 d1] #[.int .i64 a, .int .i64 b] #[.int .i64 0, .bool false, .int .i64 0, .int .i64 0, .int .i64 0, .int .i64 0])
  go_enter Tryz.func14, Tryz.ntmps14
  go_wp2_with fail
  obtain ⟨W0, hW0⟩ : ∃ W0, ((((w.alloc (.cells #[.int .i64 id, .int .i64 al, .int .i64 ah, .slice A n c, .slice B mm d, .slice C l ee] 28)).alloc (.cells #[.int .i64 tk, .bool pr, .int .i64 s0, .int .i64 s1, .int .i64 d0, .int .i64 d1] 30)).alloc (.cells #[.int .i64 a, .int .i64 b] 23)).alloc (.cells #[.int .i64 0, .bool false, .int .i64 0, .int .i64 0, .int .i64 0, .int .i64 0] 30)) = W0 := ⟨_, rfl⟩
  rw [hW0] at HE HK ⊢
  clear hW0
  obtain ⟨G, hG⟩ : ∃ G, w.heap.size = G := ⟨_, rfl⟩
  rw [hG] at HK ⊢
  have HG := Lib.hid hG; clear hG
  refine (C1.out _ HE.out).mono ?_
  rintro e w1 ⟨rfl, hq⟩
  have HE1 := Lib.hid (below_then HE.out hq); have HK1 := Lib.hid (HK.out.on hq)
  clear hq HE HK C1
  by_cases g : E = 0
  rotate_left
  · have eR := HR.out
    rw [if_neg g] at eR
    subst eR
    clear HR
    go_upto_region 3 with fail
    refine wp_region_lit ?_
    refine wpList_plain rfl (fun K hK => ?_)
    go_simp
    refine hK _ _ ?_
    clear hK K
    refine wpList_plain rfl (fun K hK => ?_)
    go_simp
    refine hK _ _ ?_
    clear hK K
    have HKR : Hid (Blk (w1.setRow (G + 1 + 1 + 1) #[.int .i64 0, .bool false, .int .i64 0, .int .i64 0, .int .i64 0, .int .i64 0]) (G + 1 + 1 + 1) 30 #[.int .i64 0, .bool false, .int .i64 0, .int .i64 0, .int .i64 0, .int .i64 0]) := Lib.hid (setRow_heap w1 (G + 1 + 1 + 1) _ _ 30 _ (HK1.out _ (.head _)))
    have HE9 := Lib.hid (below_setRow HE1.out (show w.heap.size ≤ G + 1 + 1 + 1 by have := HG.out; omega) #[.int .i64 0, .bool false, .int .i64 0, .int .i64 0, .int .i64 0, .int .i64 0])
    refine wpList_store_row rfl 30 (.tmp 6) (.tmp 19) rfl (G + 1 + 1 + 1) #[.int .i64 0, .bool false, .int .i64 0, .int .i64 0, .int .i64 0, .int .i64 0] rfl rfl 30 _ (HK1.out _ (.head _)) (by kernel_rfl) rfl (by kernel_rfl) ?_
    obtain ⟨W9, hW9⟩ : ∃ W9, w1.setRow (G + 1 + 1 + 1) #[.int .i64 0, .bool false, .int .i64 0, .int .i64 0, .int .i64 0, .int .i64 0] = W9 := ⟨_, rfl⟩
    rw [hW9] at HKR HE9 ⊢
    clear hW9
    go_wp2
    exact bodyPost_ret (v := .tuple #[.agg #[.int .i64 0, .bool false, .int .i64 0, .int .i64 0, .int .i64 0, .int .i64 0], .int .i64 E]) (results_cell_tmp_row Tryz.results14 _ _ (G + 1 + 1 + 1) 30 #[.int .i64 0, .bool false, .int .i64 0, .int .i64 0, .int .i64 0, .int .i64 0] (0, 0) _ _ rfl rfl HKR.out Tryz.underlying30 rfl (by kernel_rfl)) rfl ⟨rfl, HE9.out⟩
  have hR := HR.out
  rw [if_pos g] at hR
  have HR2 := Lib.hid hR
  clear hR HR
  have D3 := Lib.hid (C3.out g)
  have D6 := Lib.hid (C6.out g)
  have HV := Lib.hid (HW.out g)
  clear C3 C6 HW
  have D5 := Lib.hid (C5.out g)
  clear C5
  subst g
  have x := HK1.out _ (.tail _ (.head _))
  have x0 := x.cell 0
  have x1 := x.cell 1
  simp at x0 x1
  clear x
  have f := HK1.out _ (.tail _ (.tail _ (.head _)))
  have f4 := f.cell 4
  have f5 := f.cell 5
  simp at f4 f5
  clear f
  go_wp2_with fail
  refine (D5.out _).mono ?_
  rintro e w2 ⟨rfl, hq⟩
  have HE2 := Lib.hid (below_then HE1.out hq); have HK2 := Lib.hid (HK1.out.on hq)
  clear hq HE1 HK1 D5 x0 x1 f4 f5
  cases bv
  · have eR : R = lvV 0 false 0 0 0 0 10 := by rw [← HR2.out, if_neg (by decide)]
    subst eR
    clear HR2
    rw [if_neg (by decide)]
    go_upto_region 6 with fail
    refine wp_region_lit ?_
    refine wpList_plain rfl (fun K hK => ?_)
    go_simp
    refine hK _ _ ?_
    clear hK K
    refine wpList_plain rfl (fun K hK => ?_)
    go_simp
    refine hK _ _ ?_
    clear hK K
    have HKR : Hid (Blk (w2.setRow (G + 1 + 1 + 1) #[.int .i64 0, .bool false, .int .i64 0, .int .i64 0, .int .i64 0, .int .i64 0]) (G + 1 + 1 + 1) 30 #[.int .i64 0, .bool false, .int .i64 0, .int .i64 0, .int .i64 0, .int .i64 0]) := Lib.hid (setRow_heap w2 (G + 1 + 1 + 1) _ _ 30 _ (HK2.out _ (.head _)))
    have HE9 := Lib.hid (below_setRow HE2.out (show w.heap.size ≤ G + 1 + 1 + 1 by have := HG.out; omega) #[.int .i64 0, .bool false, .int .i64 0, .int .i64 0, .int .i64 0, .int .i64 0])
    refine wpList_store_row rfl 30 (.tmp 6) (.tmp 27) rfl (G + 1 + 1 + 1) #[.int .i64 0, .bool false, .int .i64 0, .int .i64 0, .int .i64 0, .int .i64 0] rfl rfl 30 _ (HK2.out _ (.head _)) (by kernel_rfl) rfl (by kernel_rfl) ?_
    obtain ⟨W9, hW9⟩ : ∃ W9, w2.setRow (G + 1 + 1 + 1) #[.int .i64 0, .bool false, .int .i64 0, .int .i64 0, .int .i64 0, .int .i64 0] = W9 := ⟨_, rfl⟩
    rw [hW9] at HKR HE9 ⊢
    clear hW9
    go_wp2
    exact bodyPost_ret (v := .tuple #[.agg #[.int .i64 0, .bool false, .int .i64 0, .int .i64 0, .int .i64 0, .int .i64 0], .int .i64 10]) (results_cell_tmp_row Tryz.results14 _ _ (G + 1 + 1 + 1) 30 #[.int .i64 0, .bool false, .int .i64 0, .int .i64 0, .int .i64 0, .int .i64 0] (0, 0) _ _ rfl rfl HKR.out Tryz.underlying30 rfl (by kernel_rfl)) rfl ⟨rfl, HE9.out⟩
  have hR := HR2.out
  rw [if_pos rfl] at hR
  have HR := Lib.hid hR
  clear hR HR2
  obtain ⟨wr1, wr2⟩ := HV.out rfl
  have C4 := Lib.hid (D3.out rfl)
  clear D3 HV
  rw [if_pos rfl]
  go_upto_region 7 with fail
  go_cut [10, 11] (fun s10 s11 wx => ∃ N1 N2, s10 = .pointer (some ⟨N1, 0, none⟩) ∧ s11 = .pointer (some ⟨N2, 0, none⟩) ∧ Boxes wx ((N2, 23, #[.int .i64 ma, .int .i64 mb]) :: (N1, 23, #[.int .i64 va, .int .i64 vb]) :: ([(G + 1 + 1 + 1, 30, #[.int .i64 0, .bool false, .int .i64 0, .int .i64 0, .int .i64 0, .int .i64 0]), (G + 1 + 1, 23, #[.int .i64 a, .int .i64 b]), (G + 1, 30, #[.int .i64 tk, .bool pr, .int .i64 s0, .int .i64 s1, .int .i64 d0, .int .i64 d1]), (G, 28, #[.int .i64 id, .int .i64 al, .int .i64 ah, .slice A n c, .slice B mm d, .slice C l ee])] : List (Nat × TypeId × Array Value))) ∧ Below w.heap.size w wx ∧ G + 1 + 1 + 1 ≠ N1 ∧ G + 1 + 1 + 1 ≠ N2)
  case first =>
    have hS0 : Boxes w2.drew ([(G + 1 + 1 + 1, 30, #[.int .i64 0, .bool false, .int .i64 0, .int .i64 0, .int .i64 0, .int .i64 0]), (G + 1 + 1, 23, #[.int .i64 a, .int .i64 b]), (G + 1, 30, #[.int .i64 tk, .bool pr, .int .i64 s0, .int .i64 s1, .int .i64 d0, .int .i64 d1]), (G, 28, #[.int .i64 id, .int .i64 al, .int .i64 ah, .slice A n c, .slice B mm d, .slice C l ee])] : List (Nat × TypeId × Array Value)) := HK2.out
    have HEd := Lib.hid HE2.out.drew
    have HKd := Lib.hid hS0
    refine wp_region_held_drew (S := fun w' => Boxes w' ([(G + 1 + 1 + 1, 30, #[.int .i64 0, .bool false, .int .i64 0, .int .i64 0, .int .i64 0, .int .i64 0]), (G + 1 + 1, 23, #[.int .i64 a, .int .i64 b]), (G + 1, 30, #[.int .i64 tk, .bool pr, .int .i64 s0, .int .i64 s1, .int .i64 d0, .int .i64 d1]), (G, 28, #[.int .i64 id, .int .i64 al, .int .i64 ah, .slice A n c, .slice B mm d, .slice C l ee])] : List (Nat × TypeId × Array Value))) (by kernel_rfl) hS0 (fun hHeld => ?_)
    obtain ⟨W4, hW⟩ : ∃ W', w2.drew = W' := ⟨_, rfl⟩
    rw [hW] at HEd HKd hHeld ⊢
    clear hW hS0 HE2 HK2
    refine wpAnyH_take (i := 0) (v := .pointer (some ⟨G, 3, none⟩)) rfl (by kernel_rfl) (by kernel_rfl) (by kernel_rfl) (fun _ _ _ h => h) (Or.inl ⟨by kernel_rfl, ?_⟩) hHeld ?_
    · intro w hSw; clear hSw; go_simp; try with_reducible rfl
    change wpAnyH _ _ _ _ _ _ _ (Act.put _ (some 29) _) _
    try simp only [Act.put, List.setIfInBounds_toArray, List.set_cons_zero, List.set_cons_succ]
    refine wpAnyH_take (i := 1) (v := tv A n c) rfl (by kernel_rfl) (by kernel_rfl) (by kernel_rfl) (fun _ _ _ h => h) (Or.inl ⟨by kernel_rfl, ?_⟩) hHeld ?_
    · intro w hSw; have hz := (hSw _ (.tail _ (.tail _ (.tail _ (.head _))))); have c3 := hz.cell 3; simp at c3; clear hz hSw; go_simp; try with_reducible rfl
    change wpAnyH _ _ _ _ _ _ _ (Act.put _ (some 30) _) _
    try simp only [Act.put, List.setIfInBounds_toArray, List.set_cons_zero, List.set_cons_succ]
    refine wpAnyH_take (i := 2) (v := .pointer (some ⟨G + 1, 2, none⟩)) rfl (by kernel_rfl) (by kernel_rfl) (by kernel_rfl) (fun _ _ _ h => h) (Or.inl ⟨by kernel_rfl, ?_⟩) hHeld ?_
    · intro w hSw; clear hSw; go_simp; try with_reducible rfl
    change wpAnyH _ _ _ _ _ _ _ (Act.put _ (some 31) _) _
    try simp only [Act.put, List.setIfInBounds_toArray, List.set_cons_zero, List.set_cons_succ]
    refine wpAnyH_take (i := 3) (v := rv s0 s1) rfl (by kernel_rfl) (by kernel_rfl) (by kernel_rfl) (fun _ _ _ h => h) (Or.inl ⟨by kernel_rfl, ?_⟩) hHeld ?_
    · intro w hSw; have hz := (hSw _ (.tail _ (.tail _ (.head _)))); have c2 := hz.cell 2; have c3 := hz.cell 3; simp at c2 c3; clear hz hSw; go_simp; try with_reducible rfl
    change wpAnyH _ _ _ _ _ _ _ (Act.put _ (some 32) _) _
    try simp only [Act.put, List.setIfInBounds_toArray, List.set_cons_zero, List.set_cons_succ]
    refine wpAnyH_take (i := 5) (v := rv a b) rfl (by kernel_rfl) (by kernel_rfl) (by kernel_rfl) (fun _ _ _ h => h) (Or.inl ⟨by kernel_rfl, ?_⟩) hHeld ?_
    · intro w hSw; have hz := (hSw _ (.tail _ (.head _))); have c0 := hz.cell 0; have c1 := hz.cell 1; simp at c0 c1; clear hz hSw; go_simp; try with_reducible rfl
    change wpAnyH _ _ _ _ _ _ _ (Act.put _ (some 34) _) _
    try simp only [Act.put, List.setIfInBounds_toArray, List.set_cons_zero, List.set_cons_succ]
    refine wpAnyH_take (i := 6) (v := .pointer (some ⟨G + 1, 4, none⟩)) rfl (by kernel_rfl) (by kernel_rfl) (by kernel_rfl) (fun _ _ _ h => h) (Or.inl ⟨by kernel_rfl, ?_⟩) hHeld ?_
    · intro w hSw; clear hSw; go_simp; try with_reducible rfl
    change wpAnyH _ _ _ _ _ _ _ (Act.put _ (some 35) _) _
    try simp only [Act.put, List.setIfInBounds_toArray, List.set_cons_zero, List.set_cons_succ]
    refine wpAnyH_take (i := 7) (v := rv d0 d1) rfl (by kernel_rfl) (by kernel_rfl) (by kernel_rfl) (fun _ _ _ h => h) (Or.inl ⟨by kernel_rfl, ?_⟩) hHeld ?_
    · intro w hSw; have hz := (hSw _ (.tail _ (.tail _ (.head _)))); have c4 := hz.cell 4; have c5 := hz.cell 5; simp at c4 c5; clear hz hSw; go_simp; try with_reducible rfl
    change wpAnyH _ _ _ _ _ _ _ (Act.put _ (some 36) _) _
    try simp only [Act.put, List.setIfInBounds_toArray, List.set_cons_zero, List.set_cons_succ]
    have HEq := HEd
    have HKq := HKd
    clear HEd HKd
    rename World => yq
    refine wpAnyH_ready (rs := [4, 9, 10]) (by kernel_rfl) (by simp) ?_
    refine AllReadyH.cons rfl (fun K hK => ?_) (AllReadyH.cons rfl (fun K hK => ?_) (AllReadyH.cons rfl (fun K hK => ?_) AllReadyH.nil))
    all_goals
      go_simp
      first
      | (
        (with_reducible refine (C2.out _ HEq.out).mono ?_)
        rintro e yn ⟨rfl, hb⟩
        have HEr := Lib.hid (below_then HEq.out hb)
        have HKr := Lib.hid (HKq.out.on hb)
        have hS := hHeld.on hb
        clear hb
        refine hK.out _ _ hS (fun hHeld2 => ?_)
        try simp only [Act.put, List.setIfInBounds_toArray, List.set_cons_zero, List.set_cons_succ]
        clear hS hK K hHeld HEq HKq
        have hHeld := hHeld2
        clear hHeld2
        have HEq := HEr
        clear HEr
        have HKq := HKr
        clear HKr
        rename World => yq)
      | (
        (with_reducible refine (C4.out _).mono ?_)
        rintro e yn ⟨rfl, hb⟩
        have HEr := Lib.hid (below_then HEq.out hb)
        have HKr := Lib.hid (HKq.out.on hb)
        have hS := hHeld.on hb
        clear hb
        refine hK.out _ _ hS (fun hHeld2 => ?_)
        try simp only [Act.put, List.setIfInBounds_toArray, List.set_cons_zero, List.set_cons_succ]
        clear hS hK K hHeld HEq HKq
        have hHeld := hHeld2
        clear hHeld2
        have HEq := HEr
        clear HEr
        have HKq := HKr
        clear HKr
        rename World => yq)
      | (
        have hNA := NA
        have HEr := Lib.hid (below_then HEq.out (below_alloc1 yq (.cells #[.int .i64 0, .int .i64 0] 23)))
        have HKr := Lib.hid (HKq.out.new 23 #[.int .i64 0, .int .i64 0])
        have hS := hHeld.on (below_alloc1 yq (.cells #[.int .i64 0, .int .i64 0] 23))
        have HDB := Lib.hid (boxes_lt HKq.out)
        have HZB := Lib.hid HEq.out.size
        refine hK.out _ _ hS (fun hHeld2 => ?_)
        try simp only [Act.put, List.setIfInBounds_toArray, List.set_cons_zero, List.set_cons_succ]
        clear hS hK K hHeld HEq HKq
        have hHeld := hHeld2
        clear hHeld2
        have HEq := HEr
        clear HEr
        have HKq := HKr
        clear HKr
        clear hNA
        obtain ⟨y2, hW⟩ : ∃ W', yq.alloc (.cells #[.int .i64 0, .int .i64 0] 23) = W' := ⟨_, rfl⟩
        rw [hW] at HEq HKq hHeld ⊢
        clear hW
        obtain ⟨NB, hN⟩ : ∃ N, yq.heap.size = N := ⟨_, rfl⟩
        rw [hN] at HKq HDB HZB ⊢
        clear hN
        rename World => yq)
      | (
        have HEr := Lib.hid (below_then HEq.out (below_alloc1 yq (.cells #[.int .i64 0, .int .i64 0] 23)))
        have HKr := Lib.hid (HKq.out.new 23 #[.int .i64 0, .int .i64 0])
        have hS := hHeld.on (below_alloc1 yq (.cells #[.int .i64 0, .int .i64 0] 23))
        have HDA := Lib.hid (boxes_lt HKq.out)
        have HZA := Lib.hid HEq.out.size
        refine hK.out _ _ hS (fun hHeld2 => ?_)
        try simp only [Act.put, List.setIfInBounds_toArray, List.set_cons_zero, List.set_cons_succ]
        clear hS hK K hHeld HEq HKq
        have hHeld := hHeld2
        clear hHeld2
        have HEq := HEr
        clear HEr
        have HKq := HKr
        clear HKr
        obtain ⟨y2, hW⟩ : ∃ W', yq.alloc (.cells #[.int .i64 0, .int .i64 0] 23) = W' := ⟨_, rfl⟩
        rw [hW] at HEq HKq hHeld ⊢
        clear hW
        obtain ⟨NA, hN⟩ : ∃ N, yq.heap.size = N := ⟨_, rfl⟩
        rw [hN] at HKq HDA HZA ⊢
        clear hN
        rename World => yq)
    refine wpAnyH_ready (rs := [8, 9, 10]) (by kernel_rfl) (by simp) ?_
    refine AllReadyH.cons rfl (fun K hK => ?_) (AllReadyH.cons rfl (fun K hK => ?_) (AllReadyH.cons rfl (fun K hK => ?_) AllReadyH.nil))
    rotate_left 3
    refine wpAnyH_ready (rs := [4, 10]) (by kernel_rfl) (by simp) ?_
    refine AllReadyH.cons rfl (fun K hK => ?_) (AllReadyH.cons rfl (fun K hK => ?_) AllReadyH.nil)
    rotate_left 2
    refine wpAnyH_ready (rs := [4, 9]) (by kernel_rfl) (by simp) ?_
    refine AllReadyH.cons rfl (fun K hK => ?_) (AllReadyH.cons rfl (fun K hK => ?_) AllReadyH.nil)
    rotate_left 2
    all_goals
      go_simp
      first
      | (
        (with_reducible refine (C2.out _ HEq.out).mono ?_)
        rintro e yn ⟨rfl, hb⟩
        have HEr := Lib.hid (below_then HEq.out hb)
        have HKr := Lib.hid (HKq.out.on hb)
        have hS := hHeld.on hb
        clear hb
        refine hK.out _ _ hS (fun hHeld2 => ?_)
        try simp only [Act.put, List.setIfInBounds_toArray, List.set_cons_zero, List.set_cons_succ]
        clear hS hK K hHeld HEq HKq
        have hHeld := hHeld2
        clear hHeld2
        have HEq := HEr
        clear HEr
        have HKq := HKr
        clear HKr
        rename World => yq)
      | (
        (with_reducible refine (C4.out _).mono ?_)
        rintro e yn ⟨rfl, hb⟩
        have HEr := Lib.hid (below_then HEq.out hb)
        have HKr := Lib.hid (HKq.out.on hb)
        have hS := hHeld.on hb
        clear hb
        refine hK.out _ _ hS (fun hHeld2 => ?_)
        try simp only [Act.put, List.setIfInBounds_toArray, List.set_cons_zero, List.set_cons_succ]
        clear hS hK K hHeld HEq HKq
        have hHeld := hHeld2
        clear hHeld2
        have HEq := HEr
        clear HEr
        have HKq := HKr
        clear HKr
        rename World => yq)
      | (
        have hNA := NA
        have HEr := Lib.hid (below_then HEq.out (below_alloc1 yq (.cells #[.int .i64 0, .int .i64 0] 23)))
        have HKr := Lib.hid (HKq.out.new 23 #[.int .i64 0, .int .i64 0])
        have hS := hHeld.on (below_alloc1 yq (.cells #[.int .i64 0, .int .i64 0] 23))
        have HDB := Lib.hid (boxes_lt HKq.out)
        have HZB := Lib.hid HEq.out.size
        refine hK.out _ _ hS (fun hHeld2 => ?_)
        try simp only [Act.put, List.setIfInBounds_toArray, List.set_cons_zero, List.set_cons_succ]
        clear hS hK K hHeld HEq HKq
        have hHeld := hHeld2
        clear hHeld2
        have HEq := HEr
        clear HEr
        have HKq := HKr
        clear HKr
        clear hNA
        obtain ⟨y2, hW⟩ : ∃ W', yq.alloc (.cells #[.int .i64 0, .int .i64 0] 23) = W' := ⟨_, rfl⟩
        rw [hW] at HEq HKq hHeld ⊢
        clear hW
        obtain ⟨NB, hN⟩ : ∃ N, yq.heap.size = N := ⟨_, rfl⟩
        rw [hN] at HKq HDB HZB ⊢
        clear hN
        rename World => yq)
      | (
        have HEr := Lib.hid (below_then HEq.out (below_alloc1 yq (.cells #[.int .i64 0, .int .i64 0] 23)))
        have HKr := Lib.hid (HKq.out.new 23 #[.int .i64 0, .int .i64 0])
        have hS := hHeld.on (below_alloc1 yq (.cells #[.int .i64 0, .int .i64 0] 23))
        have HDA := Lib.hid (boxes_lt HKq.out)
        have HZA := Lib.hid HEq.out.size
        refine hK.out _ _ hS (fun hHeld2 => ?_)
        try simp only [Act.put, List.setIfInBounds_toArray, List.set_cons_zero, List.set_cons_succ]
        clear hS hK K hHeld HEq HKq
        have hHeld := hHeld2
        clear hHeld2
        have HEq := HEr
        clear HEr
        have HKq := HKr
        clear HKr
        obtain ⟨y2, hW⟩ : ∃ W', yq.alloc (.cells #[.int .i64 0, .int .i64 0] 23) = W' := ⟨_, rfl⟩
        rw [hW] at HEq HKq hHeld ⊢
        clear hW
        obtain ⟨NA, hN⟩ : ∃ N, yq.heap.size = N := ⟨_, rfl⟩
        rw [hN] at HKq HDA HZA ⊢
        clear hN
        rename World => yq)
    refine wpAnyH_ready (rs := [9, 10]) (by kernel_rfl) (by simp) ?_
    refine AllReadyH.cons rfl (fun K hK => ?_) (AllReadyH.cons rfl (fun K hK => ?_) AllReadyH.nil)
    rotate_left 2
    refine wpAnyH_ready (rs := [8, 10]) (by kernel_rfl) (by simp) ?_
    refine AllReadyH.cons rfl (fun K hK => ?_) (AllReadyH.cons rfl (fun K hK => ?_) AllReadyH.nil)
    rotate_left 2
    refine wpAnyH_ready (rs := [8, 9]) (by kernel_rfl) (by simp) ?_
    refine AllReadyH.cons rfl (fun K hK => ?_) (AllReadyH.cons rfl (fun K hK => ?_) AllReadyH.nil)
    rotate_left 2
    refine wpAnyH_ready (rs := [8, 10]) (by kernel_rfl) (by simp) ?_
    refine AllReadyH.cons rfl (fun K hK => ?_) (AllReadyH.cons rfl (fun K hK => ?_) AllReadyH.nil)
    rotate_left 2
    refine wpAnyH_ready (rs := [4]) (by kernel_rfl) (by simp) ?_
    refine AllReadyH.cons rfl (fun K hK => ?_) AllReadyH.nil
    rotate_left 1
    refine wpAnyH_ready (rs := [8, 9]) (by kernel_rfl) (by simp) ?_
    refine AllReadyH.cons rfl (fun K hK => ?_) (AllReadyH.cons rfl (fun K hK => ?_) AllReadyH.nil)
    rotate_left 2
    refine wpAnyH_ready (rs := [4]) (by kernel_rfl) (by simp) ?_
    refine AllReadyH.cons rfl (fun K hK => ?_) AllReadyH.nil
    rotate_left 1
    all_goals
      go_simp
      first
      | (
        (with_reducible refine (C2.out _ HEq.out).mono ?_)
        rintro e yn ⟨rfl, hb⟩
        have HEr := Lib.hid (below_then HEq.out hb)
        have HKr := Lib.hid (HKq.out.on hb)
        have hS := hHeld.on hb
        clear hb
        refine hK.out _ _ hS (fun hHeld2 => ?_)
        try simp only [Act.put, List.setIfInBounds_toArray, List.set_cons_zero, List.set_cons_succ]
        clear hS hK K hHeld HEq HKq
        have hHeld := hHeld2
        clear hHeld2
        have HEq := HEr
        clear HEr
        have HKq := HKr
        clear HKr
        rename World => yq)
      | (
        (with_reducible refine (C4.out _).mono ?_)
        rintro e yn ⟨rfl, hb⟩
        have HEr := Lib.hid (below_then HEq.out hb)
        have HKr := Lib.hid (HKq.out.on hb)
        have hS := hHeld.on hb
        clear hb
        refine hK.out _ _ hS (fun hHeld2 => ?_)
        try simp only [Act.put, List.setIfInBounds_toArray, List.set_cons_zero, List.set_cons_succ]
        clear hS hK K hHeld HEq HKq
        have hHeld := hHeld2
        clear hHeld2
        have HEq := HEr
        clear HEr
        have HKq := HKr
        clear HKr
        rename World => yq)
      | (
        have hNA := NA
        have HEr := Lib.hid (below_then HEq.out (below_alloc1 yq (.cells #[.int .i64 0, .int .i64 0] 23)))
        have HKr := Lib.hid (HKq.out.new 23 #[.int .i64 0, .int .i64 0])
        have hS := hHeld.on (below_alloc1 yq (.cells #[.int .i64 0, .int .i64 0] 23))
        have HDB := Lib.hid (boxes_lt HKq.out)
        have HZB := Lib.hid HEq.out.size
        refine hK.out _ _ hS (fun hHeld2 => ?_)
        try simp only [Act.put, List.setIfInBounds_toArray, List.set_cons_zero, List.set_cons_succ]
        clear hS hK K hHeld HEq HKq
        have hHeld := hHeld2
        clear hHeld2
        have HEq := HEr
        clear HEr
        have HKq := HKr
        clear HKr
        clear hNA
        obtain ⟨y2, hW⟩ : ∃ W', yq.alloc (.cells #[.int .i64 0, .int .i64 0] 23) = W' := ⟨_, rfl⟩
        rw [hW] at HEq HKq hHeld ⊢
        clear hW
        obtain ⟨NB, hN⟩ : ∃ N, yq.heap.size = N := ⟨_, rfl⟩
        rw [hN] at HKq HDB HZB ⊢
        clear hN
        rename World => yq)
      | (
        have HEr := Lib.hid (below_then HEq.out (below_alloc1 yq (.cells #[.int .i64 0, .int .i64 0] 23)))
        have HKr := Lib.hid (HKq.out.new 23 #[.int .i64 0, .int .i64 0])
        have hS := hHeld.on (below_alloc1 yq (.cells #[.int .i64 0, .int .i64 0] 23))
        have HDA := Lib.hid (boxes_lt HKq.out)
        have HZA := Lib.hid HEq.out.size
        refine hK.out _ _ hS (fun hHeld2 => ?_)
        try simp only [Act.put, List.setIfInBounds_toArray, List.set_cons_zero, List.set_cons_succ]
        clear hS hK K hHeld HEq HKq
        have hHeld := hHeld2
        clear hHeld2
        have HEq := HEr
        clear HEr
        have HKq := HKr
        clear HKr
        obtain ⟨y2, hW⟩ : ∃ W', yq.alloc (.cells #[.int .i64 0, .int .i64 0] 23) = W' := ⟨_, rfl⟩
        rw [hW] at HEq HKq hHeld ⊢
        clear hW
        obtain ⟨NA, hN⟩ : ∃ N, yq.heap.size = N := ⟨_, rfl⟩
        rw [hN] at HKq HDA HZA ⊢
        clear hN
        rename World => yq)
    refine wpAnyH_ready (rs := [10]) (by kernel_rfl) (by simp) ?_
    refine AllReadyH.cons rfl (fun K hK => ?_) AllReadyH.nil
    rotate_left 1
    refine wpAnyH_ready (rs := [9]) (by kernel_rfl) (by simp) ?_
    refine AllReadyH.cons rfl (fun K hK => ?_) AllReadyH.nil
    rotate_left 1
    refine wpAnyH_ready (rs := [10]) (by kernel_rfl) (by simp) ?_
    refine AllReadyH.cons rfl (fun K hK => ?_) AllReadyH.nil
    rotate_left 1
    refine wpAnyH_ready (rs := [8]) (by kernel_rfl) (by simp) ?_
    refine AllReadyH.cons rfl (fun K hK => ?_) AllReadyH.nil
    rotate_left 1
    refine wpAnyH_ready (rs := [9]) (by kernel_rfl) (by simp) ?_
    refine AllReadyH.cons rfl (fun K hK => ?_) AllReadyH.nil
    rotate_left 1
    refine wpAnyH_ready (rs := [8]) (by kernel_rfl) (by simp) ?_
    refine AllReadyH.cons rfl (fun K hK => ?_) AllReadyH.nil
    rotate_left 1
    refine wpAnyH_ready (rs := [10]) (by kernel_rfl) (by simp) ?_
    refine AllReadyH.cons rfl (fun K hK => ?_) AllReadyH.nil
    rotate_left 1
    refine wpAnyH_ready (rs := [8]) (by kernel_rfl) (by simp) ?_
    refine AllReadyH.cons rfl (fun K hK => ?_) AllReadyH.nil
    rotate_left 1
    refine wpAnyH_ready (rs := [8]) (by kernel_rfl) (by simp) ?_
    refine AllReadyH.cons rfl (fun K hK => ?_) AllReadyH.nil
    rotate_left 1
    refine wpAnyH_ready (rs := [9]) (by kernel_rfl) (by simp) ?_
    refine AllReadyH.cons rfl (fun K hK => ?_) AllReadyH.nil
    rotate_left 1
    refine wpAnyH_ready (rs := [8]) (by kernel_rfl) (by simp) ?_
    refine AllReadyH.cons rfl (fun K hK => ?_) AllReadyH.nil
    rotate_left 1
    refine wpAnyH_ready (rs := [8]) (by kernel_rfl) (by simp) ?_
    refine AllReadyH.cons rfl (fun K hK => ?_) AllReadyH.nil
    rotate_left 1
    all_goals
      go_simp
      first
      | (
        (with_reducible refine (C2.out _ HEq.out).mono ?_)
        rintro e yn ⟨rfl, hb⟩
        have HEr := Lib.hid (below_then HEq.out hb)
        have HKr := Lib.hid (HKq.out.on hb)
        have hS := hHeld.on hb
        clear hb
        refine hK.out _ _ hS (fun hHeld2 => ?_)
        try simp only [Act.put, List.setIfInBounds_toArray, List.set_cons_zero, List.set_cons_succ]
        clear hS hK K hHeld HEq HKq
        have hHeld := hHeld2
        clear hHeld2
        have HEq := HEr
        clear HEr
        have HKq := HKr
        clear HKr
        rename World => yq)
      | (
        (with_reducible refine (C4.out _).mono ?_)
        rintro e yn ⟨rfl, hb⟩
        have HEr := Lib.hid (below_then HEq.out hb)
        have HKr := Lib.hid (HKq.out.on hb)
        have hS := hHeld.on hb
        clear hb
        refine hK.out _ _ hS (fun hHeld2 => ?_)
        try simp only [Act.put, List.setIfInBounds_toArray, List.set_cons_zero, List.set_cons_succ]
        clear hS hK K hHeld HEq HKq
        have hHeld := hHeld2
        clear hHeld2
        have HEq := HEr
        clear HEr
        have HKq := HKr
        clear HKr
        rename World => yq)
      | (
        have hNA := NA
        have HEr := Lib.hid (below_then HEq.out (below_alloc1 yq (.cells #[.int .i64 0, .int .i64 0] 23)))
        have HKr := Lib.hid (HKq.out.new 23 #[.int .i64 0, .int .i64 0])
        have hS := hHeld.on (below_alloc1 yq (.cells #[.int .i64 0, .int .i64 0] 23))
        have HDB := Lib.hid (boxes_lt HKq.out)
        have HZB := Lib.hid HEq.out.size
        refine hK.out _ _ hS (fun hHeld2 => ?_)
        try simp only [Act.put, List.setIfInBounds_toArray, List.set_cons_zero, List.set_cons_succ]
        clear hS hK K hHeld HEq HKq
        have hHeld := hHeld2
        clear hHeld2
        have HEq := HEr
        clear HEr
        have HKq := HKr
        clear HKr
        clear hNA
        obtain ⟨y2, hW⟩ : ∃ W', yq.alloc (.cells #[.int .i64 0, .int .i64 0] 23) = W' := ⟨_, rfl⟩
        rw [hW] at HEq HKq hHeld ⊢
        clear hW
        obtain ⟨NB, hN⟩ : ∃ N, yq.heap.size = N := ⟨_, rfl⟩
        rw [hN] at HKq HDB HZB ⊢
        clear hN
        rename World => yq)
      | (
        have HEr := Lib.hid (below_then HEq.out (below_alloc1 yq (.cells #[.int .i64 0, .int .i64 0] 23)))
        have HKr := Lib.hid (HKq.out.new 23 #[.int .i64 0, .int .i64 0])
        have hS := hHeld.on (below_alloc1 yq (.cells #[.int .i64 0, .int .i64 0] 23))
        have HDA := Lib.hid (boxes_lt HKq.out)
        have HZA := Lib.hid HEq.out.size
        refine hK.out _ _ hS (fun hHeld2 => ?_)
        try simp only [Act.put, List.setIfInBounds_toArray, List.set_cons_zero, List.set_cons_succ]
        clear hS hK K hHeld HEq HKq
        have hHeld := hHeld2
        clear hHeld2
        have HEq := HEr
        clear HEr
        have HKq := HKr
        clear HKr
        obtain ⟨y2, hW⟩ : ∃ W', yq.alloc (.cells #[.int .i64 0, .int .i64 0] 23) = W' := ⟨_, rfl⟩
        rw [hW] at HEq HKq hHeld ⊢
        clear hW
        obtain ⟨NA, hN⟩ : ∃ N, yq.heap.size = N := ⟨_, rfl⟩
        rw [hN] at HKq HDA HZA ⊢
        clear hN
        rename World => yq)
    all_goals
      first
      | (
        refine wpAnyH_ready (rs := [11]) (by kernel_rfl) (by simp) ?_
        refine AllReadyH.cons rfl (fun K hK => ?_) AllReadyH.nil
        rw [if_pos (by kernel_rfl)]
        have ne1 : ∀ zz ∈ ((NB, 23, #[.int .i64 0, .int .i64 0]) :: ([(G + 1 + 1 + 1, 30, #[.int .i64 0, .bool false, .int .i64 0, .int .i64 0, .int .i64 0, .int .i64 0]), (G + 1 + 1, 23, #[.int .i64 a, .int .i64 b]), (G + 1, 30, #[.int .i64 tk, .bool pr, .int .i64 s0, .int .i64 s1, .int .i64 d0, .int .i64 d1]), (G, 28, #[.int .i64 id, .int .i64 al, .int .i64 ah, .slice A n c, .slice B mm d, .slice C l ee])] : List (Nat × TypeId × Array Value)) : List (Nat × TypeId × Array Value)), zz.1 ≠ NA := fun x hx => (List.mem_cons.1 hx).elim (fun e => by rw [e]; have q := HDB.out _ (.head _); exact fun z => q z.symm) (fun h => HDA.out x h)
        have HK1 : Hid (Boxes (yq.setRow NA #[.int .i64 va, .int .i64 vb]) ((NA, 23, #[.int .i64 va, .int .i64 vb]) :: (NB, 23, #[.int .i64 0, .int .i64 0]) :: ([(G + 1 + 1 + 1, 30, #[.int .i64 0, .bool false, .int .i64 0, .int .i64 0, .int .i64 0, .int .i64 0]), (G + 1 + 1, 23, #[.int .i64 a, .int .i64 b]), (G + 1, 30, #[.int .i64 tk, .bool pr, .int .i64 s0, .int .i64 s1, .int .i64 d0, .int .i64 d1]), (G, 28, #[.int .i64 id, .int .i64 al, .int .i64 ah, .slice A n c, .slice B mm d, .slice C l ee])] : List (Nat × TypeId × Array Value)))) := Lib.hid (Boxes.row HKq.out (.tail _ (.head _)) (fun p hp => ⟨(by rcases List.mem_cons.1 hp with rfl | hp; exact .head _; exact .tail _ (.tail _ hp)), ne1 p hp⟩) #[.int .i64 va, .int .i64 vb])
        have HE1 := Lib.hid (below_setRow HEq.out (show w.heap.size ≤ NA from HZA.out) #[.int .i64 va, .int .i64 vb])
        have hS := hHeld.farRow (g := NA) (fun p hp => ne1 p (.tail _ hp)) #[.int .i64 va, .int .i64 vb]
        refine wp_store_row 23 (.tmp 10) (.tmp 33) rfl NA #[.int .i64 va, .int .i64 vb] rfl rfl 23 _ (HKq.out _ (.tail _ (.head _))) (by kernel_rfl) rfl (by kernel_rfl) ?_
        obtain ⟨y1, hW⟩ : ∃ W', yq.setRow NA #[.int .i64 va, .int .i64 vb] = W' := ⟨_, rfl⟩
        rw [hW] at HE1 HK1 hS ⊢
        refine hK.out _ _ hS (fun hHeld2 => ?_)
        try simp only [Act.put, List.setIfInBounds_toArray, List.set_cons_zero, List.set_cons_succ]
        clear hW hS hK K hHeld ne1 HEq HKq
        have hHeld := hHeld2
        clear hHeld2
        refine wpAnyH_ready (rs := [12]) (by kernel_rfl) (by simp) ?_
        refine AllReadyH.cons rfl (fun K hK => ?_) AllReadyH.nil
        rw [if_pos (by kernel_rfl)]
        have ne2 : ∀ zz ∈ ((NA, 23, #[.int .i64 va, .int .i64 vb]) :: ([(G + 1 + 1 + 1, 30, #[.int .i64 0, .bool false, .int .i64 0, .int .i64 0, .int .i64 0, .int .i64 0]), (G + 1 + 1, 23, #[.int .i64 a, .int .i64 b]), (G + 1, 30, #[.int .i64 tk, .bool pr, .int .i64 s0, .int .i64 s1, .int .i64 d0, .int .i64 d1]), (G, 28, #[.int .i64 id, .int .i64 al, .int .i64 ah, .slice A n c, .slice B mm d, .slice C l ee])] : List (Nat × TypeId × Array Value)) : List (Nat × TypeId × Array Value)), zz.1 ≠ NB := fun x hx => (List.mem_cons.1 hx).elim (fun e => by rw [e]; have q := HDB.out _ (.head _); exact q) (fun h => HDB.out x (.tail _ h))
        have HK2 : Hid (Boxes (y1.setRow NB #[.int .i64 ma, .int .i64 mb]) ((NB, 23, #[.int .i64 ma, .int .i64 mb]) :: (NA, 23, #[.int .i64 va, .int .i64 vb]) :: ([(G + 1 + 1 + 1, 30, #[.int .i64 0, .bool false, .int .i64 0, .int .i64 0, .int .i64 0, .int .i64 0]), (G + 1 + 1, 23, #[.int .i64 a, .int .i64 b]), (G + 1, 30, #[.int .i64 tk, .bool pr, .int .i64 s0, .int .i64 s1, .int .i64 d0, .int .i64 d1]), (G, 28, #[.int .i64 id, .int .i64 al, .int .i64 ah, .slice A n c, .slice B mm d, .slice C l ee])] : List (Nat × TypeId × Array Value)))) := Lib.hid (Boxes.row HK1.out (.tail _ (.head _)) (fun p hp => ⟨(by rcases List.mem_cons.1 hp with rfl | hp; exact .head _; exact .tail _ (.tail _ hp)), ne2 p hp⟩) #[.int .i64 ma, .int .i64 mb])
        have HE2 := Lib.hid (below_setRow HE1.out (show w.heap.size ≤ NB from HZB.out) #[.int .i64 ma, .int .i64 mb])
        have hS := hHeld.farRow (g := NB) (fun p hp => ne2 p (.tail _ hp)) #[.int .i64 ma, .int .i64 mb]
        refine wp_store_row 23 (.tmp 11) (.tmp 37) rfl NB #[.int .i64 ma, .int .i64 mb] rfl rfl 23 _ (HK1.out _ (.tail _ (.head _))) (by kernel_rfl) rfl (by kernel_rfl) ?_
        obtain ⟨y2, hW⟩ : ∃ W', y1.setRow NB #[.int .i64 ma, .int .i64 mb] = W' := ⟨_, rfl⟩
        rw [hW] at HE2 HK2 hS ⊢
        refine hK.out _ _ hS (fun hHeld2 => ?_)
        try simp only [Act.put, List.setIfInBounds_toArray, List.set_cons_zero, List.set_cons_succ]
        clear hW hS hK K hHeld ne2 HE1 HK1
        have hHeld := hHeld2
        clear hHeld2
        refine wpAnyH_done (by kernel_rfl) ?_ _
        go_wp2_with fail
        go_meet
        exact ⟨NA, NB, rfl, rfl, HK2.out, HE2.out, HDA.out (_, _, _) (.head _), HDB.out (_, _, _) (.tail _ (.head _))⟩)
      | (
        refine wpAnyH_ready (rs := [11]) (by kernel_rfl) (by simp) ?_
        refine AllReadyH.cons rfl (fun K hK => ?_) AllReadyH.nil
        rw [if_pos (by kernel_rfl)]
        have ne3 : ∀ zz ∈ ((NA, 23, #[.int .i64 0, .int .i64 0]) :: ([(G + 1 + 1 + 1, 30, #[.int .i64 0, .bool false, .int .i64 0, .int .i64 0, .int .i64 0, .int .i64 0]), (G + 1 + 1, 23, #[.int .i64 a, .int .i64 b]), (G + 1, 30, #[.int .i64 tk, .bool pr, .int .i64 s0, .int .i64 s1, .int .i64 d0, .int .i64 d1]), (G, 28, #[.int .i64 id, .int .i64 al, .int .i64 ah, .slice A n c, .slice B mm d, .slice C l ee])] : List (Nat × TypeId × Array Value)) : List (Nat × TypeId × Array Value)), zz.1 ≠ NB := fun x hx => (List.mem_cons.1 hx).elim (fun e => by rw [e]; have q := HDB.out _ (.head _); exact q) (fun h => HDB.out x (.tail _ h))
        have HK3 : Hid (Boxes (yq.setRow NB #[.int .i64 va, .int .i64 vb]) ((NB, 23, #[.int .i64 va, .int .i64 vb]) :: (NA, 23, #[.int .i64 0, .int .i64 0]) :: ([(G + 1 + 1 + 1, 30, #[.int .i64 0, .bool false, .int .i64 0, .int .i64 0, .int .i64 0, .int .i64 0]), (G + 1 + 1, 23, #[.int .i64 a, .int .i64 b]), (G + 1, 30, #[.int .i64 tk, .bool pr, .int .i64 s0, .int .i64 s1, .int .i64 d0, .int .i64 d1]), (G, 28, #[.int .i64 id, .int .i64 al, .int .i64 ah, .slice A n c, .slice B mm d, .slice C l ee])] : List (Nat × TypeId × Array Value)))) := Lib.hid (Boxes.row HKq.out (.head _) (fun p hp => ⟨.tail _ hp, ne3 p hp⟩) #[.int .i64 va, .int .i64 vb])
        have HE3 := Lib.hid (below_setRow HEq.out (show w.heap.size ≤ NB from HZB.out) #[.int .i64 va, .int .i64 vb])
        have hS := hHeld.farRow (g := NB) (fun p hp => ne3 p (.tail _ hp)) #[.int .i64 va, .int .i64 vb]
        refine wp_store_row 23 (.tmp 10) (.tmp 33) rfl NB #[.int .i64 va, .int .i64 vb] rfl rfl 23 _ (HKq.out _ (.head _)) (by kernel_rfl) rfl (by kernel_rfl) ?_
        obtain ⟨y3, hW⟩ : ∃ W', yq.setRow NB #[.int .i64 va, .int .i64 vb] = W' := ⟨_, rfl⟩
        rw [hW] at HE3 HK3 hS ⊢
        refine hK.out _ _ hS (fun hHeld2 => ?_)
        try simp only [Act.put, List.setIfInBounds_toArray, List.set_cons_zero, List.set_cons_succ]
        clear hW hS hK K hHeld ne3 HEq HKq
        have hHeld := hHeld2
        clear hHeld2
        refine wpAnyH_ready (rs := [12]) (by kernel_rfl) (by simp) ?_
        refine AllReadyH.cons rfl (fun K hK => ?_) AllReadyH.nil
        rw [if_pos (by kernel_rfl)]
        have ne4 : ∀ zz ∈ ((NB, 23, #[.int .i64 va, .int .i64 vb]) :: ([(G + 1 + 1 + 1, 30, #[.int .i64 0, .bool false, .int .i64 0, .int .i64 0, .int .i64 0, .int .i64 0]), (G + 1 + 1, 23, #[.int .i64 a, .int .i64 b]), (G + 1, 30, #[.int .i64 tk, .bool pr, .int .i64 s0, .int .i64 s1, .int .i64 d0, .int .i64 d1]), (G, 28, #[.int .i64 id, .int .i64 al, .int .i64 ah, .slice A n c, .slice B mm d, .slice C l ee])] : List (Nat × TypeId × Array Value)) : List (Nat × TypeId × Array Value)), zz.1 ≠ NA := fun x hx => (List.mem_cons.1 hx).elim (fun e => by rw [e]; have q := HDB.out _ (.head _); exact fun z => q z.symm) (fun h => HDA.out x h)
        have HK4 : Hid (Boxes (y3.setRow NA #[.int .i64 ma, .int .i64 mb]) ((NA, 23, #[.int .i64 ma, .int .i64 mb]) :: (NB, 23, #[.int .i64 va, .int .i64 vb]) :: ([(G + 1 + 1 + 1, 30, #[.int .i64 0, .bool false, .int .i64 0, .int .i64 0, .int .i64 0, .int .i64 0]), (G + 1 + 1, 23, #[.int .i64 a, .int .i64 b]), (G + 1, 30, #[.int .i64 tk, .bool pr, .int .i64 s0, .int .i64 s1, .int .i64 d0, .int .i64 d1]), (G, 28, #[.int .i64 id, .int .i64 al, .int .i64 ah, .slice A n c, .slice B mm d, .slice C l ee])] : List (Nat × TypeId × Array Value)))) := Lib.hid (Boxes.row HK3.out (.tail _ (.head _)) (fun p hp => ⟨(by rcases List.mem_cons.1 hp with rfl | hp; exact .head _; exact .tail _ (.tail _ hp)), ne4 p hp⟩) #[.int .i64 ma, .int .i64 mb])
        have HE4 := Lib.hid (below_setRow HE3.out (show w.heap.size ≤ NA from HZA.out) #[.int .i64 ma, .int .i64 mb])
        have hS := hHeld.farRow (g := NA) (fun p hp => ne4 p (.tail _ hp)) #[.int .i64 ma, .int .i64 mb]
        refine wp_store_row 23 (.tmp 11) (.tmp 37) rfl NA #[.int .i64 ma, .int .i64 mb] rfl rfl 23 _ (HK3.out _ (.tail _ (.head _))) (by kernel_rfl) rfl (by kernel_rfl) ?_
        obtain ⟨y4, hW⟩ : ∃ W', y3.setRow NA #[.int .i64 ma, .int .i64 mb] = W' := ⟨_, rfl⟩
        rw [hW] at HE4 HK4 hS ⊢
        refine hK.out _ _ hS (fun hHeld2 => ?_)
        try simp only [Act.put, List.setIfInBounds_toArray, List.set_cons_zero, List.set_cons_succ]
        clear hW hS hK K hHeld ne4 HE3 HK3
        have hHeld := hHeld2
        clear hHeld2
        refine wpAnyH_done (by kernel_rfl) ?_ _
        go_wp2_with fail
        go_meet
        exact ⟨NB, NA, rfl, rfl, HK4.out, HE4.out, HDB.out (_, _, _) (.tail _ (.head _)), HDA.out (_, _, _) (.head _)⟩)
  case rest =>
    obtain ⟨N1, N2, rfl, rfl, hB, hE, n1, n2⟩ := hcut
    have HE5 := Lib.hid hE
    have HK5 := Lib.hid hB
    clear hB hE HE2 HK2 C2 C4 n1 n2
    have y := HK5.out _ (.tail _ (.head _))
    have y0 := y.cell 0
    have y1 := y.cell 1
    simp at y0 y1
    clear y
    have x := HK5.out _ (.head _)
    have x0 := x.cell 0
    have x1 := x.cell 1
    simp at x0 x1
    clear x
    have r := HK5.out _ (.tail _ (.tail _ (.tail _ (.tail _ (.tail _ (.head _))))))
    have r0 := r.cell 0
    have r1 := r.cell 1
    have r2 := r.cell 2
    have r3 := r.cell 3
    have r4 := r.cell 4
    have r5 := r.cell 5
    simp at r0 r1 r2 r3 r4 r5
    clear r
    go_wp2_with fail
    refine (D6.out _ HE5.out).mono ?_
    rintro e y6 ⟨rfl, hq⟩
    have HE6 := Lib.hid (below_then (below_then HE5.out hq) (below_alloc1 y6 (.cells #[.int .i64 sa, .int .i64 sb] 23))); have HK6 := Lib.hid ((HK5.out.on hq).new 23 #[.int .i64 sa, .int .i64 sb])
    clear hq HE5 HK5 D6 x0 x1 y0 y1 wr1 wr2 r0 r1 r2 r3 r4 r5
    go_upto_region 9 with fail
    obtain ⟨W6, hW⟩ : ∃ W', y6.alloc (.cells #[.int .i64 sa, .int .i64 sb] 23) = W' := ⟨_, rfl⟩
    rw [hW] at HE6 HK6 ⊢
    clear hW
    obtain ⟨N6, hN⟩ : ∃ N, y6.heap.size = N := ⟨_, rfl⟩
    rw [hN] at HK6 ⊢
    clear hN
    rcases HS.out with rfl | rfl
    rotate_left
    · skip
      have eR : R = lvV 0 false 0 0 0 0 24 := by rw [← HR.out, if_neg (by decide)]
      subst eR
      clear HR
      go_upto_region 10 with fail
      refine wp_region_lit ?_
      refine wpList_plain rfl (fun K hK => ?_)
      go_simp
      refine hK _ _ ?_
      clear hK K
      refine wpList_plain rfl (fun K hK => ?_)
      go_simp
      refine hK _ _ ?_
      clear hK K
      have HKR : Hid (Blk (W6.setRow (G + 1 + 1 + 1) #[.int .i64 0, .bool false, .int .i64 0, .int .i64 0, .int .i64 0, .int .i64 0]) (G + 1 + 1 + 1) 30 #[.int .i64 0, .bool false, .int .i64 0, .int .i64 0, .int .i64 0, .int .i64 0]) := Lib.hid (setRow_heap W6 (G + 1 + 1 + 1) _ _ 30 _ (HK6.out _ (.tail _ (.tail _ (.tail _ (.head _))))))
      have HE9 := Lib.hid (below_setRow HE6.out (show w.heap.size ≤ G + 1 + 1 + 1 by have := HG.out; omega) #[.int .i64 0, .bool false, .int .i64 0, .int .i64 0, .int .i64 0, .int .i64 0])
      refine wpList_store_row rfl 30 (.tmp 6) (.tmp 57) rfl (G + 1 + 1 + 1) #[.int .i64 0, .bool false, .int .i64 0, .int .i64 0, .int .i64 0, .int .i64 0] rfl rfl 30 _ (HK6.out _ (.tail _ (.tail _ (.tail _ (.head _))))) (by kernel_rfl) rfl (by kernel_rfl) ?_
      obtain ⟨W9, hW9⟩ : ∃ W9, W6.setRow (G + 1 + 1 + 1) #[.int .i64 0, .bool false, .int .i64 0, .int .i64 0, .int .i64 0, .int .i64 0] = W9 := ⟨_, rfl⟩
      rw [hW9] at HKR HE9 ⊢
      clear hW9
      go_wp2
      exact bodyPost_ret (v := .tuple #[.agg #[.int .i64 0, .bool false, .int .i64 0, .int .i64 0, .int .i64 0, .int .i64 0], .int .i64 24]) (results_cell_tmp_row Tryz.results14 _ _ (G + 1 + 1 + 1) 30 #[.int .i64 0, .bool false, .int .i64 0, .int .i64 0, .int .i64 0, .int .i64 0] (0, 0) _ _ rfl rfl HKR.out Tryz.underlying30 rfl (by kernel_rfl)) rfl ⟨rfl, HE9.out⟩
    have eR : R = lvV id false sa sb d0 d1 0 := by rw [← HR.out, if_pos rfl]
    subst eR
    clear HR
    have x := HK6.out _ (.head _)
    have x0 := x.cell 0
    have x1 := x.cell 1
    simp at x0 x1
    clear x
    have r := HK6.out _ (.tail _ (.tail _ (.tail _ (.tail _ (.tail _ (.tail _ (.head _)))))))
    have r0 := r.cell 0
    simp at r0
    clear r
    have f := HK6.out _ (.tail _ (.tail _ (.tail _ (.tail _ (.tail _ (.head _))))))
    have f4 := f.cell 4
    have f5 := f.cell 5
    simp at f4 f5
    clear f
    go_upto_region 11 with fail
    refine wp_region_lit ?_
    refine wpList_plain rfl (fun K hK => ?_)
    go_simp
    refine hK _ _ ?_
    clear hK K
    refine wpList_plain rfl (fun K hK => ?_)
    go_simp
    refine hK _ _ ?_
    clear hK K
    refine wpList_plain rfl (fun K hK => ?_)
    go_simp
    refine hK _ _ ?_
    clear hK K
    refine wpList_plain rfl (fun K hK => ?_)
    go_simp
    refine hK _ _ ?_
    clear hK K
    refine wpList_plain rfl (fun K hK => ?_)
    go_simp
    refine hK _ _ ?_
    clear hK K
    refine wpList_plain rfl (fun K hK => ?_)
    go_simp
    refine hK _ _ ?_
    clear hK K
    have HKR : Hid (Blk (W6.setRow (G + 1 + 1 + 1) #[.int .i64 id, .bool false, .int .i64 sa, .int .i64 sb, .int .i64 d0, .int .i64 d1]) (G + 1 + 1 + 1) 30 #[.int .i64 id, .bool false, .int .i64 sa, .int .i64 sb, .int .i64 d0, .int .i64 d1]) := Lib.hid (setRow_heap W6 (G + 1 + 1 + 1) _ _ 30 _ (HK6.out _ (.tail _ (.tail _ (.tail _ (.head _))))))
    have HE9 := Lib.hid (below_setRow HE6.out (show w.heap.size ≤ G + 1 + 1 + 1 by have := HG.out; omega) #[.int .i64 id, .bool false, .int .i64 sa, .int .i64 sb, .int .i64 d0, .int .i64 d1])
    refine wpList_store_row rfl 30 (.tmp 6) (.tmp 64) rfl (G + 1 + 1 + 1) #[.int .i64 id, .bool false, .int .i64 sa, .int .i64 sb, .int .i64 d0, .int .i64 d1] rfl rfl 30 _ (HK6.out _ (.tail _ (.tail _ (.tail _ (.head _))))) (by kernel_rfl) rfl (by kernel_rfl) ?_
    obtain ⟨W9, hW9⟩ : ∃ W9, W6.setRow (G + 1 + 1 + 1) #[.int .i64 id, .bool false, .int .i64 sa, .int .i64 sb, .int .i64 d0, .int .i64 d1] = W9 := ⟨_, rfl⟩
    rw [hW9] at HKR HE9 ⊢
    clear hW9
    go_wp2
    exact bodyPost_ret (v := .tuple #[.agg #[.int .i64 id, .bool false, .int .i64 sa, .int .i64 sb, .int .i64 d0, .int .i64 d1], .int .i64 0]) (results_cell_tmp_row Tryz.results14 _ _ (G + 1 + 1 + 1) 30 #[.int .i64 id, .bool false, .int .i64 sa, .int .i64 sb, .int .i64 d0, .int .i64 d1] (0, 0) _ _ rfl rfl HKR.out Tryz.underlying30 rfl (by kernel_rfl)) rfl ⟨rfl, HE9.out⟩

set_option maxRecDepth 100000 in
set_option maxHeartbeats 4000000 in
theorem sPump_any (t : TankD) (m : HoldM) (lv : LevelD) (a b : Int) (w : World) (hi : TankIn w t m) :
    Calls Tryz.prog 15 #[tankV t m, levelV lv, rv a b] w fun e w' => e = .returned (pumS t lv a b) ∧ Below w.heap.size w w' := by
  obtain ⟨E, hE⟩ : ∃ E, levelErr t lv = E := ⟨_, rfl⟩
  obtain ⟨⟨va, vb⟩, qC2⟩ : ∃ v, ovL t.vol lv = v := ⟨_, rfl⟩
  obtain ⟨⟨ma, mb⟩, qC3⟩ : ∃ v, litresS a b lv.d0 lv.d1 = v := ⟨_, rfl⟩
  obtain ⟨bv, qbv⟩ : ∃ v, vR a b = v := ⟨_, rfl⟩
  obtain ⟨⟨sa, sb, se⟩, qS⟩ : ∃ v, sndS t.vol (max (va + ma) 0) (vb + mb) = v := ⟨_, rfl⟩
  obtain ⟨R, hR⟩ : ∃ R, pumS t lv a b = R := ⟨_, rfl⟩
  have HR : Hid ((if E = 0 then (if bv = true then (if se = 0 then lvV t.id false sa sb lv.d0 lv.d1 0 else lvV 0 false 0 0 0 0 24) else lvV 0 false 0 0 0 0 10) else lvV 0 false 0 0 0 0 E) = R) := Lib.hid (by
    have q : pumpV t lv a b = (max (va + ma) 0, vb + mb) := by unfold pumpV; rw [qC2, qC3]
    rw [← hR]; unfold pumS; rw [hE, qbv, q, qS])
  have HS : Hid (se = 0 ∨ se = 24) := Lib.hid (by
    have q := invS_err24 (lessF t.vol (max (va + ma) 0)) (moreF t.vol (vb + mb)) (firstX t.vol) (lastX t.vol)
    unfold sndS at qS
    rw [qS] at q
    exact q)
  have HW : Hid (E = 0 → bv = true → IntKind.i64.wrap (va + ma) = va + ma ∧ IntKind.i64.wrap (vb + mb) = vb + mb) := Lib.hid fun e q => by
    have h1 := vol_amtL (hE.trans e)
    rw [qC2] at h1
    have h2 := litres_small (vR_small (qbv.trans q)) (dens_in (level_dens (hE.trans e)))
    rw [qC3] at h2
    obtain ⟨x1, x2, x3⟩ := h1
    dsimp only at x1 x2 x3 h2
    exact ⟨IntWalk.i64_in _ ⟨by omega, by omega⟩, IntWalk.i64_in _ ⟨by omega, by omega⟩⟩
  have C1 : Hid (∀ W, Below w.heap.size w W → Calls Tryz.prog 19 #[tankV t m, levelV lv] W fun e w' => e = .returned (.int .i64 E) ∧ Below W.heap.size W w') := Lib.hid fun W hW => int_to (sCheckLevel_any t m lv W (hi.below hW)) hE
  have C2 : Hid (∀ W, Below w.heap.size w W → Calls Tryz.prog 39 #[tv m.A m.n m.c, rv lv.s0 lv.s1] W fun e w' => e = .returned (rv va vb) ∧ Below W.heap.size W w') := Lib.hid fun W hW => by
    have := sover_any m.A m.n m.c t.vol lv.s0 lv.s1 W (hi.1.below hW)
    rw [show ((overS t.vol lv.s0 lv.s1).1 = va) from congrArg Prod.fst qC2, show ((overS t.vol lv.s0 lv.s1).2.1 = vb) from congrArg Prod.snd qC2] at this; exact this
  have C3 : Hid (E = 0 → bv = true → ∀ W, Calls Tryz.prog 45 #[rv a b, rv lv.d0 lv.d1] W fun e w' => e = .returned (rv ma mb) ∧ Below W.heap.size W w') := Lib.hid fun e q W => by
    have := slitres_any a b lv.d0 lv.d1 W (vR_small (qbv.trans q)) (dens_in (level_dens (hE.trans e)))
    rw [qC3] at this; exact this
  have C5 : Hid (∀ W, Calls Tryz.prog 44 #[rv a b] W fun e w' => e = .returned (.int .i64 (if bv = true then 0 else 10)) ∧ Below W.heap.size W w') := Lib.hid fun W => int_to (rCheckRange_any a b W) (by unfold errR; rw [qbv])
  have C6 : Hid (E = 0 → ∀ W, Below w.heap.size w W → Calls Tryz.prog 46 #[tv m.A m.n m.c, rv (max (va + ma) 0) (vb + mb), .bool false] W fun e w' => e = .returned (.tuple #[rv sa sb, .bool (decide (se = 0))]) ∧ Below W.heap.size W w') := Lib.hid fun e W hW => by
    have q := (level_zero (hE.trans e)).1
    have ht := tank_tab q
    obtain ⟨f1, f2⟩ := tank_rises q
    have := sInverse_tab m.A m.n m.c t.vol (max (va + ma) 0) (vb + mb) false W (hi.1.below hW) ht (first_le_last ht) (turns_rises ht f2 f1)
    rw [show invS (besideS t.vol (max (va + ma) 0) (vb + mb) false) (besideS t.vol (max (va + ma) 0) (vb + mb) (!false)) (firstX t.vol) (lastX t.vol) = (sa, sb, se) from qS] at this
    exact this
  have HN : Hid (E = 0 → vb + mb < 0 → se = 24) := Lib.hid fun e q => by
    have := snd_below (level_zero (hE.trans e)).1 (x := max (va + ma) 0) q
    rw [qS] at this
    injection this with t1 t2
    injection t2 with t2 t3
  rw [hR]
  clear hR hE qC2 qC3 qbv qS hi
  obtain ⟨id, al, ah, vol, sur, hei⟩ := t
  obtain ⟨A, n, c, B, mm, d, C, l, ee⟩ := m
  obtain ⟨tk, pr, s0, s1, d0, d1⟩ := lv
  dsimp only at HR C3
  have HE := Lib.hid (show Below w.heap.size w ((((w.alloc (.cells #[.int .i64 id, .int .i64 al, .int .i64 ah, .slice A n c, .slice B mm d, .slice C l ee] 28)).alloc (.cells #[.int .i64 tk, .bool pr, .int .i64 s0, .int .i64 s1, .int .i64 d0, .int .i64 d1] 30)).alloc (.cells #[.int .i64 a, .int .i64 b] 23)).alloc (.cells #[.int .i64 0, .bool false, .int .i64 0, .int .i64 0, .int .i64 0, .int .i64 0] 30)) from below_a4 (Below.refl _ _))
  have HK := Lib.hid (boxes4' w 28 30 23 30 #[.int .i64 id, .int .i64 al, .int .i64 ah, .slice A n c, .slice B mm d, .slice C l ee] #[.int .i64 tk, .bool pr, .int .i64 s0, .int .i64 s1, .int .i64 d0, .int .i64 d1] #[.int .i64 a, .int .i64 b] #[.int .i64 0, .bool false, .int .i64 0, .int .i64 0, .int .i64 0, .int .i64 0])
  go_enter Tryz.func15, Tryz.ntmps15
  go_wp2_with fail
  obtain ⟨W0, hW0⟩ : ∃ W0, ((((w.alloc (.cells #[.int .i64 id, .int .i64 al, .int .i64 ah, .slice A n c, .slice B mm d, .slice C l ee] 28)).alloc (.cells #[.int .i64 tk, .bool pr, .int .i64 s0, .int .i64 s1, .int .i64 d0, .int .i64 d1] 30)).alloc (.cells #[.int .i64 a, .int .i64 b] 23)).alloc (.cells #[.int .i64 0, .bool false, .int .i64 0, .int .i64 0, .int .i64 0, .int .i64 0] 30)) = W0 := ⟨_, rfl⟩
  rw [hW0] at HE HK ⊢
  clear hW0
  obtain ⟨G, hG⟩ : ∃ G, w.heap.size = G := ⟨_, rfl⟩
  rw [hG] at HK ⊢
  have HG := Lib.hid hG; clear hG
  refine (C1.out _ HE.out).mono ?_
  rintro e w1 ⟨rfl, hq⟩
  have HE1 := Lib.hid (below_then HE.out hq); have HK1 := Lib.hid (HK.out.on hq)
  clear hq HE HK C1
  by_cases g : E = 0
  rotate_left
  · have eR := HR.out
    rw [if_neg g] at eR
    subst eR
    clear HR
    go_upto_region 3 with fail
    refine wp_region_lit ?_
    refine wpList_plain rfl (fun K hK => ?_)
    go_simp
    refine hK _ _ ?_
    clear hK K
    refine wpList_plain rfl (fun K hK => ?_)
    go_simp
    refine hK _ _ ?_
    clear hK K
    have HKR : Hid (Blk (w1.setRow (G + 1 + 1 + 1) #[.int .i64 0, .bool false, .int .i64 0, .int .i64 0, .int .i64 0, .int .i64 0]) (G + 1 + 1 + 1) 30 #[.int .i64 0, .bool false, .int .i64 0, .int .i64 0, .int .i64 0, .int .i64 0]) := Lib.hid (setRow_heap w1 (G + 1 + 1 + 1) _ _ 30 _ (HK1.out _ (.head _)))
    have HE9 := Lib.hid (below_setRow HE1.out (show w.heap.size ≤ G + 1 + 1 + 1 by have := HG.out; omega) #[.int .i64 0, .bool false, .int .i64 0, .int .i64 0, .int .i64 0, .int .i64 0])
    refine wpList_store_row rfl 30 (.tmp 6) (.tmp 18) rfl (G + 1 + 1 + 1) #[.int .i64 0, .bool false, .int .i64 0, .int .i64 0, .int .i64 0, .int .i64 0] rfl rfl 30 _ (HK1.out _ (.head _)) (by kernel_rfl) rfl (by kernel_rfl) ?_
    obtain ⟨W9, hW9⟩ : ∃ W9, w1.setRow (G + 1 + 1 + 1) #[.int .i64 0, .bool false, .int .i64 0, .int .i64 0, .int .i64 0, .int .i64 0] = W9 := ⟨_, rfl⟩
    rw [hW9] at HKR HE9 ⊢
    clear hW9
    go_wp2
    exact bodyPost_ret (v := .tuple #[.agg #[.int .i64 0, .bool false, .int .i64 0, .int .i64 0, .int .i64 0, .int .i64 0], .int .i64 E]) (results_cell_tmp_row Tryz.results15 _ _ (G + 1 + 1 + 1) 30 #[.int .i64 0, .bool false, .int .i64 0, .int .i64 0, .int .i64 0, .int .i64 0] (0, 0) _ _ rfl rfl HKR.out Tryz.underlying30 rfl (by kernel_rfl)) rfl ⟨rfl, HE9.out⟩
  have hR := HR.out
  rw [if_pos g] at hR
  have HR2 := Lib.hid hR
  clear hR HR
  have D3 := Lib.hid (C3.out g)
  have D6 := Lib.hid (C6.out g)
  have HV := Lib.hid (HW.out g)
  clear C3 C6 HW
  have D5 := C5
  clear C5
  have HM := Lib.hid (HN.out g)
  clear HN
  subst g
  have x := HK1.out _ (.tail _ (.head _))
  have x0 := x.cell 0
  have x1 := x.cell 1
  simp at x0 x1
  clear x
  go_wp2_with fail
  refine (D5.out _).mono ?_
  rintro e w2 ⟨rfl, hq⟩
  have HE2 := Lib.hid (below_then HE1.out hq); have HK2 := Lib.hid (HK1.out.on hq)
  clear hq HE1 HK1 D5 x0 x1
  cases bv
  · have eR : R = lvV 0 false 0 0 0 0 10 := by rw [← HR2.out, if_neg (by decide)]
    subst eR
    clear HR2
    rw [if_neg (by decide)]
    go_upto_region 5 with fail
    refine wp_region_lit ?_
    refine wpList_plain rfl (fun K hK => ?_)
    go_simp
    refine hK _ _ ?_
    clear hK K
    have HKR : Hid (Blk (w2.setRow (G + 1 + 1 + 1) #[.int .i64 0, .bool false, .int .i64 0, .int .i64 0, .int .i64 0, .int .i64 0]) (G + 1 + 1 + 1) 30 #[.int .i64 0, .bool false, .int .i64 0, .int .i64 0, .int .i64 0, .int .i64 0]) := Lib.hid (setRow_heap w2 (G + 1 + 1 + 1) _ _ 30 _ (HK2.out _ (.head _)))
    have HE9 := Lib.hid (below_setRow HE2.out (show w.heap.size ≤ G + 1 + 1 + 1 by have := HG.out; omega) #[.int .i64 0, .bool false, .int .i64 0, .int .i64 0, .int .i64 0, .int .i64 0])
    refine wpList_store_row rfl 30 (.tmp 6) (.tmp 23) rfl (G + 1 + 1 + 1) #[.int .i64 0, .bool false, .int .i64 0, .int .i64 0, .int .i64 0, .int .i64 0] rfl rfl 30 _ (HK2.out _ (.head _)) (by kernel_rfl) rfl (by kernel_rfl) ?_
    obtain ⟨W9, hW9⟩ : ∃ W9, w2.setRow (G + 1 + 1 + 1) #[.int .i64 0, .bool false, .int .i64 0, .int .i64 0, .int .i64 0, .int .i64 0] = W9 := ⟨_, rfl⟩
    rw [hW9] at HKR HE9 ⊢
    clear hW9
    go_wp2
    exact bodyPost_ret (v := .tuple #[.agg #[.int .i64 0, .bool false, .int .i64 0, .int .i64 0, .int .i64 0, .int .i64 0], .int .i64 10]) (results_cell_tmp_row Tryz.results15 _ _ (G + 1 + 1 + 1) 30 #[.int .i64 0, .bool false, .int .i64 0, .int .i64 0, .int .i64 0, .int .i64 0] (0, 0) _ _ rfl rfl HKR.out Tryz.underlying30 rfl (by kernel_rfl)) rfl ⟨rfl, HE9.out⟩
  have hR := HR2.out
  rw [if_pos rfl] at hR
  have HR := Lib.hid hR
  clear hR HR2
  obtain ⟨wr1, wr2⟩ := HV.out rfl
  have C4 := Lib.hid (D3.out rfl)
  clear D3 HV
  rw [if_pos rfl]
  have r := HK2.out _ (.tail _ (.tail _ (.tail _ (.head _))))
  have r3 := r.cell 3
  simp at r3
  clear r
  have f := HK2.out _ (.tail _ (.tail _ (.head _)))
  have f2 := f.cell 2
  have f3 := f.cell 3
  simp at f2 f3
  clear f
  go_wp2_with fail
  refine (C2.out _ HE2.out).mono ?_
  rintro e y3 ⟨rfl, hq⟩
  have HE3 := Lib.hid (below_then (below_then HE2.out hq) (below_alloc1 y3 (.cells #[.int .i64 va, .int .i64 vb] 23))); have HK3 := Lib.hid ((HK2.out.on hq).new 23 #[.int .i64 va, .int .i64 vb])
  have HD3 := Lib.hid (boxes_lt (HK2.out.on hq))
  have HZ3 := Lib.hid (below_then HE2.out hq).size
  clear hq HE2 HK2 C2 r3 f2 f3
  go_upto_region 7 with fail
  obtain ⟨W3, hW⟩ : ∃ W', y3.alloc (.cells #[.int .i64 va, .int .i64 vb] 23) = W' := ⟨_, rfl⟩
  rw [hW] at HE3 HK3 ⊢
  clear hW
  obtain ⟨N3, hN⟩ : ∃ N, y3.heap.size = N := ⟨_, rfl⟩
  rw [hN] at HK3 HD3 HZ3 ⊢
  clear hN
  have x := HK3.out _ (.tail _ (.tail _ (.head _)))
  have x0 := x.cell 0
  have x1 := x.cell 1
  simp at x0 x1
  clear x
  have f := HK3.out _ (.tail _ (.tail _ (.tail _ (.head _))))
  have f4 := f.cell 4
  have f5 := f.cell 5
  simp at f4 f5
  clear f
  go_wp2_with fail
  refine (C4.out _).mono ?_
  rintro e y4 ⟨rfl, hq⟩
  have HE4 := Lib.hid (below_then (below_then HE3.out hq) (below_alloc1 y4 (.cells #[.int .i64 ma, .int .i64 mb] 23))); have HK4 := Lib.hid ((HK3.out.on hq).new 23 #[.int .i64 ma, .int .i64 mb])
  have HD4 := Lib.hid (boxes_lt (HK3.out.on hq))
  clear hq HE3 HK3 C4 x0 x1 f4 f5
  go_upto_region 8 with fail
  obtain ⟨W4, hW⟩ : ∃ W', y4.alloc (.cells #[.int .i64 ma, .int .i64 mb] 23) = W' := ⟨_, rfl⟩
  rw [hW] at HE4 HK4 ⊢
  clear hW
  obtain ⟨N4, hN⟩ : ∃ N, y4.heap.size = N := ⟨_, rfl⟩
  rw [hN] at HK4 HD4 ⊢
  clear hN
  have x := HK4.out _ (.tail _ (.head _))
  have x0 := x.cell 0
  have xf0 := x.frozen 0
  have x1 := x.cell 1
  have xf1 := x.frozen 1
  have xl := x.lt
  simp at x0 xf0 x1 xf1
  clear x
  have y := HK4.out _ (.head _)
  have y0 := y.cell 0
  have y1 := y.cell 1
  simp at y0 y1
  clear y
  have hmx : max 0 (va + ma) = max (va + ma) 0 := Int.max_comm _ _
  have n43 : N3 ≠ N4 := HD4.out (_, _, _) (.head _)
  have hz := HZ3.out
  go_upto_region 9 with fail
  have HK5 : Hid (Boxes ((W4.setCell ⟨N3, 0, none⟩ (.int .i64 (max (va + ma) 0))).setCell ⟨N3, 1, none⟩ (.int .i64 (vb + mb))) ((N3, 23, #[.int .i64 (max (va + ma) 0), .int .i64 (vb + mb)]) :: [(N4, 23, #[.int .i64 ma, .int .i64 mb]), (G + 1 + 1 + 1, 30, #[.int .i64 0, .bool false, .int .i64 0, .int .i64 0, .int .i64 0, .int .i64 0]), (G + 1 + 1, 23, #[.int .i64 a, .int .i64 b]), (G + 1, 30, #[.int .i64 tk, .bool pr, .int .i64 s0, .int .i64 s1, .int .i64 d0, .int .i64 d1]), (G, 28, #[.int .i64 id, .int .i64 al, .int .i64 ah, .slice A n c, .slice B mm d, .slice C l ee])])) := Lib.hid (Boxes.set2 (x := .int .i64 va) (y := .int .i64 vb) (HK4.out.sub (fun x hx => by
    simp only [List.mem_cons, List.not_mem_nil, or_false] at hx ⊢
    rcases hx with h | h | h | h | h | h <;> simp [h])) (fun x hx => by
      rcases List.mem_cons.1 hx with rfl | hx
      · exact fun q => n43 q.symm
      · exact HD3.out _ hx) _ _)
  have HE5 := Lib.hid ((HE4.out.setCell (p := ⟨N3, 0, none⟩) (show w.heap.size ≤ N3 by omega) (.int .i64 (max (va + ma) 0))).setCell (p := ⟨N3, 1, none⟩) (show w.heap.size ≤ N3 by omega) (.int .i64 (vb + mb)))
  obtain ⟨W5, hW⟩ : ∃ W', ((W4.setCell ⟨N3, 0, none⟩ (.int .i64 (max (va + ma) 0))).setCell ⟨N3, 1, none⟩ (.int .i64 (vb + mb))) = W' := ⟨_, rfl⟩
  rw [hW] at HK5 HE5 ⊢
  clear hW HK4 HE4 x0 x1 xf0 xf1 xl y0 y1 wr1 wr2 hmx n43 HD4 HZ3 hz
  have x := HK5.out _ (.head _)
  have x1 := x.cell 1
  simp at x1
  clear x
  obtain ⟨vc, hvc⟩ : ∃ v, vb + mb = v := ⟨_, rfl⟩
  obtain ⟨vd, hvd⟩ : ∃ v, max (va + ma) 0 = v := ⟨_, rfl⟩
  rw [hvc] at x1 HK5 D6 HM
  rw [hvd] at HK5 D6
  clear hvc hvd
  by_cases hn : vc < 0
  · have eR : R = lvV 0 false 0 0 0 0 24 := by rw [← HR.out, if_neg (by rw [HM.out hn]; decide)]
    subst eR
    clear HR
    go_upto_region 10 with fail
    refine wp_region_lit ?_
    refine wpList_plain rfl (fun K hK => ?_)
    go_simp
    refine hK _ _ ?_
    clear hK K
    have HKR : Hid (Blk (W5.setRow (G + 1 + 1 + 1) #[.int .i64 0, .bool false, .int .i64 0, .int .i64 0, .int .i64 0, .int .i64 0]) (G + 1 + 1 + 1) 30 #[.int .i64 0, .bool false, .int .i64 0, .int .i64 0, .int .i64 0, .int .i64 0]) := Lib.hid (setRow_heap W5 (G + 1 + 1 + 1) _ _ 30 _ (HK5.out _ (.tail _ (.tail _ (.head _)))))
    have HE9 := Lib.hid (below_setRow HE5.out (show w.heap.size ≤ G + 1 + 1 + 1 by have := HG.out; omega) #[.int .i64 0, .bool false, .int .i64 0, .int .i64 0, .int .i64 0, .int .i64 0])
    refine wpList_store_row rfl 30 (.tmp 6) (.tmp 48) rfl (G + 1 + 1 + 1) #[.int .i64 0, .bool false, .int .i64 0, .int .i64 0, .int .i64 0, .int .i64 0] rfl rfl 30 _ (HK5.out _ (.tail _ (.tail _ (.head _)))) (by kernel_rfl) rfl (by kernel_rfl) ?_
    obtain ⟨W9, hW9⟩ : ∃ W9, W5.setRow (G + 1 + 1 + 1) #[.int .i64 0, .bool false, .int .i64 0, .int .i64 0, .int .i64 0, .int .i64 0] = W9 := ⟨_, rfl⟩
    rw [hW9] at HKR HE9 ⊢
    clear hW9
    go_wp2
    exact bodyPost_ret (v := .tuple #[.agg #[.int .i64 0, .bool false, .int .i64 0, .int .i64 0, .int .i64 0, .int .i64 0], .int .i64 24]) (results_cell_tmp_row Tryz.results15 _ _ (G + 1 + 1 + 1) 30 #[.int .i64 0, .bool false, .int .i64 0, .int .i64 0, .int .i64 0, .int .i64 0] (0, 0) _ _ rfl rfl HKR.out Tryz.underlying30 rfl (by kernel_rfl)) rfl ⟨rfl, HE9.out⟩
  have hn' : 0 ≤ vc := by omega
  go_upto_region 11 with fail
  clear x1 hn hn'
  have x := HK5.out _ (.head _)
  have x0 := x.cell 0
  have x1 := x.cell 1
  simp at x0 x1
  clear x
  have r := HK5.out _ (.tail _ (.tail _ (.tail _ (.tail _ (.tail _ (.head _))))))
  have r3 := r.cell 3
  simp at r3
  clear r
  go_wp2_with fail
  refine (D6.out _ HE5.out).mono ?_
  rintro e y6 ⟨rfl, hq⟩
  have HE6 := Lib.hid (below_then (below_then HE5.out hq) (below_alloc1 y6 (.cells #[.int .i64 sa, .int .i64 sb] 23))); have HK6 := Lib.hid ((HK5.out.on hq).new 23 #[.int .i64 sa, .int .i64 sb])
  clear hq HE5 HK5 D6 x0 x1 r3
  obtain ⟨bt, hbt⟩ : ∃ t, decide (se = 0) = t := ⟨_, rfl⟩
  rw [hbt]
  go_upto_region 12 with fail
  obtain ⟨W6, hW⟩ : ∃ W', y6.alloc (.cells #[.int .i64 sa, .int .i64 sb] 23) = W' := ⟨_, rfl⟩
  rw [hW] at HE6 HK6 ⊢
  clear hW
  obtain ⟨N6, hN⟩ : ∃ N, y6.heap.size = N := ⟨_, rfl⟩
  rw [hN] at HK6 ⊢
  clear hN
  rcases HS.out with rfl | rfl
  rotate_left
  · skip
    have eR : R = lvV 0 false 0 0 0 0 24 := by rw [← HR.out, if_neg (by decide)]
    subst eR
    clear HR
    obtain rfl : bt = false := by rw [← hbt]; rfl
    go_upto_region 13 with fail
    refine wp_region_lit ?_
    refine wpList_plain rfl (fun K hK => ?_)
    go_simp
    refine hK _ _ ?_
    clear hK K
    have HKR : Hid (Blk (W6.setRow (G + 1 + 1 + 1) #[.int .i64 0, .bool false, .int .i64 0, .int .i64 0, .int .i64 0, .int .i64 0]) (G + 1 + 1 + 1) 30 #[.int .i64 0, .bool false, .int .i64 0, .int .i64 0, .int .i64 0, .int .i64 0]) := Lib.hid (setRow_heap W6 (G + 1 + 1 + 1) _ _ 30 _ (HK6.out _ (.tail _ (.tail _ (.tail _ (.head _))))))
    have HE9 := Lib.hid (below_setRow HE6.out (show w.heap.size ≤ G + 1 + 1 + 1 by have := HG.out; omega) #[.int .i64 0, .bool false, .int .i64 0, .int .i64 0, .int .i64 0, .int .i64 0])
    refine wpList_store_row rfl 30 (.tmp 6) (.tmp 58) rfl (G + 1 + 1 + 1) #[.int .i64 0, .bool false, .int .i64 0, .int .i64 0, .int .i64 0, .int .i64 0] rfl rfl 30 _ (HK6.out _ (.tail _ (.tail _ (.tail _ (.head _))))) (by kernel_rfl) rfl (by kernel_rfl) ?_
    obtain ⟨W9, hW9⟩ : ∃ W9, W6.setRow (G + 1 + 1 + 1) #[.int .i64 0, .bool false, .int .i64 0, .int .i64 0, .int .i64 0, .int .i64 0] = W9 := ⟨_, rfl⟩
    rw [hW9] at HKR HE9 ⊢
    clear hW9
    go_wp2
    exact bodyPost_ret (v := .tuple #[.agg #[.int .i64 0, .bool false, .int .i64 0, .int .i64 0, .int .i64 0, .int .i64 0], .int .i64 24]) (results_cell_tmp_row Tryz.results15 _ _ (G + 1 + 1 + 1) 30 #[.int .i64 0, .bool false, .int .i64 0, .int .i64 0, .int .i64 0, .int .i64 0] (0, 0) _ _ rfl rfl HKR.out Tryz.underlying30 rfl (by kernel_rfl)) rfl ⟨rfl, HE9.out⟩
  have eR : R = lvV id false sa sb d0 d1 0 := by rw [← HR.out, if_pos rfl]
  subst eR
  clear HR
  obtain rfl : bt = true := by rw [← hbt]; rfl
  have x := HK6.out _ (.head _)
  have x0 := x.cell 0
  have x1 := x.cell 1
  simp at x0 x1
  clear x
  have r := HK6.out _ (.tail _ (.tail _ (.tail _ (.tail _ (.tail _ (.tail _ (.head _)))))))
  have r0 := r.cell 0
  simp at r0
  clear r
  have f := HK6.out _ (.tail _ (.tail _ (.tail _ (.tail _ (.tail _ (.head _))))))
  have f4 := f.cell 4
  have f5 := f.cell 5
  simp at f4 f5
  clear f
  go_upto_region 14 with fail
  refine wp_region_lit ?_
  refine wpList_plain rfl (fun K hK => ?_)
  go_simp
  refine hK _ _ ?_
  clear hK K
  refine wpList_plain rfl (fun K hK => ?_)
  go_simp
  refine hK _ _ ?_
  clear hK K
  refine wpList_plain rfl (fun K hK => ?_)
  go_simp
  refine hK _ _ ?_
  clear hK K
  refine wpList_plain rfl (fun K hK => ?_)
  go_simp
  refine hK _ _ ?_
  clear hK K
  refine wpList_plain rfl (fun K hK => ?_)
  go_simp
  refine hK _ _ ?_
  clear hK K
  refine wpList_plain rfl (fun K hK => ?_)
  go_simp
  refine hK _ _ ?_
  clear hK K
  have HKR : Hid (Blk (W6.setRow (G + 1 + 1 + 1) #[.int .i64 id, .bool false, .int .i64 sa, .int .i64 sb, .int .i64 d0, .int .i64 d1]) (G + 1 + 1 + 1) 30 #[.int .i64 id, .bool false, .int .i64 sa, .int .i64 sb, .int .i64 d0, .int .i64 d1]) := Lib.hid (setRow_heap W6 (G + 1 + 1 + 1) _ _ 30 _ (HK6.out _ (.tail _ (.tail _ (.tail _ (.head _))))))
  have HE9 := Lib.hid (below_setRow HE6.out (show w.heap.size ≤ G + 1 + 1 + 1 by have := HG.out; omega) #[.int .i64 id, .bool false, .int .i64 sa, .int .i64 sb, .int .i64 d0, .int .i64 d1])
  refine wpList_store_row rfl 30 (.tmp 6) (.tmp 64) rfl (G + 1 + 1 + 1) #[.int .i64 id, .bool false, .int .i64 sa, .int .i64 sb, .int .i64 d0, .int .i64 d1] rfl rfl 30 _ (HK6.out _ (.tail _ (.tail _ (.tail _ (.head _))))) (by kernel_rfl) rfl (by kernel_rfl) ?_
  obtain ⟨W9, hW9⟩ : ∃ W9, W6.setRow (G + 1 + 1 + 1) #[.int .i64 id, .bool false, .int .i64 sa, .int .i64 sb, .int .i64 d0, .int .i64 d1] = W9 := ⟨_, rfl⟩
  rw [hW9] at HKR HE9 ⊢
  clear hW9
  go_wp2
  exact bodyPost_ret (v := .tuple #[.agg #[.int .i64 id, .bool false, .int .i64 sa, .int .i64 sb, .int .i64 d0, .int .i64 d1], .int .i64 0]) (results_cell_tmp_row Tryz.results15 _ _ (G + 1 + 1 + 1) 30 #[.int .i64 id, .bool false, .int .i64 sa, .int .i64 sb, .int .i64 d0, .int .i64 d1] (0, 0) _ _ rfl rfl HKR.out Tryz.underlying30 rfl (by kernel_rfl)) rfl ⟨rfl, HE9.out⟩
end

end Go.Proofs.YtbcefdaflnlhoaaGreat
