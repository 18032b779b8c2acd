/- Arguments opened: ints, arrays of two, slices of ints, tables. No conditions. -/
import Derived.Test.YtpcmcicnciejpaaGreatR12
import Derived.Lib.SmallJoins
set_option linter.unusedVariables false
set_option linter.unusedSimpArgs false
set_option linter.constructorNameAsVariable false
set_option maxRecDepth 100000
set_option maxHeartbeats 4000000
namespace Go.Proofs.YtpcmcicnciejpaaGreat

section
open Go.RowKit

def madeL (t : TankD) (x0 x1 x2 x3 x4 : Int) : LevelD :=
  if (x0 % 5 == 4) = true then ⟨t.id, true, lastX t.vol, lastX t.vol, (densityS x3 x4).1, (densityS x3 x4).2⟩
  else ⟨t.id, false, (spanS (firstX t.vol) (lastX t.vol) x1 x2).1, (spanS (firstX t.vol) (lastX t.vol) x1 x2).2, (densityS x3 x4).1, (densityS x3 x4).2⟩

theorem slevel_to (t : TankD) (m : HoldM) (x0 x1 x2 x3 x4 : Int) (w : World) (hi : TankIn w t m) (ht : tabOk t.vol = true) (hle : firstX t.vol ≤ lastX t.vol) (hlo : 0 ≤ firstX t.vol) (hhi : lastX t.vol ≤ 1000000) :
  Calls Tryz.prog 7 #[tankV t m, .agg #[.int .i64 x0, .int .i64 x1, .int .i64 x2, .int .i64 x3, .int .i64 x4]] w fun e w' => e = .returned (levelV (madeL t x0 x1 x2 x3 x4)) ∧ Below w.heap.size w w' := by
 have CSP : Hid (∀ W, Below w.heap.size w W → Calls Tryz.prog 18 #[tv m.A m.n m.c, .int .i64 x1, .int .i64 x2] W fun e w' => e = .returned (rv (spanS (firstX t.vol) (lastX t.vol) x1 x2).1 (spanS (firstX t.vol) (lastX t.vol) x1 x2).2) ∧ Below W.heap.size W w') := zH fun W hW => sspan_to m.A m.n m.c t.vol x1 x2 W (hi.1.below hW) ht hle (by omega) (by omega)
 have CDE : Hid (∀ W, Calls Tryz.prog 16 #[.int .i64 x3, .int .i64 x4] W fun e w' => e = .returned (rv (densityS x3 x4).1 (densityS x3 x4).2) ∧ Below W.heap.size W w') := zH fun W => sDensityN_to x3 x4 W
 have CLA : Hid (∀ W, Below w.heap.size w W → Calls Tryz.prog 19 #[tv m.A m.n m.c] W fun e w' => e = .returned (.int .i64 (lastX t.vol)) ∧ Below W.heap.size W w') := zH fun W hW => sLast_tab m.A m.n m.c t.vol W (hi.1.below hW) ht
 clear hi ht hle hlo hhi
 obtain ⟨⟨p0, p1⟩, hsp⟩ : ∃ y, spanS (firstX t.vol) (lastX t.vol) x1 x2 = y := ⟨_, rfl⟩
 obtain ⟨⟨d0, d1⟩, hde⟩ : ∃ y, densityS x3 x4 = y := ⟨_, rfl⟩
 obtain ⟨z1, hz1⟩ : ∃ y, lastX t.vol = y := ⟨_, rfl⟩
 obtain ⟨q0, hq0⟩ : ∃ z, x0 % 5 = z := ⟨_, rfl⟩
 obtain ⟨pb, hpb⟩ : ∃ z, (q0 == 4) = z := ⟨_, rfl⟩
 have hR : madeL t x0 x1 x2 x3 x4 = if pb = true then ⟨t.id, true, z1, z1, d0, d1⟩ else ⟨t.id, false, p0, p1, d0, d1⟩ := by
  unfold madeL
  rw [hq0, hpb, hsp, hz1, hde]
 obtain ⟨RR, hRR⟩ : ∃ R, madeL t x0 x1 x2 x3 x4 = R := ⟨_, rfl⟩
 rw [hRR] at hR ⊢
 rw [hsp] at CSP
 rw [hde] at CDE
 rw [hz1] at CLA
 clear hRR hsp hde hz1
 obtain ⟨id, al, ah, vol, sur, hei⟩ := t
 obtain ⟨A, n, c, B, mm, d, C, l, ee⟩ := m
 dsimp only at CSP CDE CLA hR ⊢
 have CM0 : Hid (∀ W, Calls Tryz.prog 8 #[.int .i64 x0, .int .i64 5] W fun e w' => e = .returned (.int .i64 q0) ∧ Below W.heap.size W w') := zH fun W => int_to (smod_to x0 5 W (by omega) (by omega)) hq0
 have HR := zH hR; have HPB := zH hpb
 clear hq0 hR hpb
 have HE := zH (show Below w.heap.size w (((w.alloc (.cells #[.int .i64 id, .int .i64 al, .int .i64 ah, .slice A n c, .slice B mm d, .slice C l ee] 46)).alloc (.cells #[.int .i64 x0, .int .i64 x1, .int .i64 x2, .int .i64 x3, .int .i64 x4] 33)).alloc (.cells #[.int .i64 0, .bool false, .int .i64 0, .int .i64 0, .int .i64 0, .int .i64 0] 49)) from below_a3 (Below.refl _ _))
 have HK := zH (boxes3' w 46 33 49 #[.int .i64 id, .int .i64 al, .int .i64 ah, .slice A n c, .slice B mm d, .slice C l ee] #[.int .i64 x0, .int .i64 x1, .int .i64 x2, .int .i64 x3, .int .i64 x4] #[.int .i64 0, .bool false, .int .i64 0, .int .i64 0, .int .i64 0, .int .i64 0])
 go_enter Tryz.func7, Tryz.ntmps7
 go_upto_region 1 with fail
 obtain ⟨W0, hW0⟩ : ∃ W0 : World, (((w.alloc (.cells #[.int .i64 id, .int .i64 al, .int .i64 ah, .slice A n c, .slice B mm d, .slice C l ee] 46)).alloc (.cells #[.int .i64 x0, .int .i64 x1, .int .i64 x2, .int .i64 x3, .int .i64 x4] 33)).alloc (.cells #[.int .i64 0, .bool false, .int .i64 0, .int .i64 0, .int .i64 0, .int .i64 0] 49)) = W0 := ⟨_, rfl⟩
 rw [hW0] at HE HK ⊢
 clear hW0
 obtain ⟨G, hG⟩ : ∃ G, w.heap.size = G := ⟨_, rfl⟩
 rw [hG] at HK ⊢
 have HG := zH hG; clear hG
 have HX_0 := HK
 go_cut [5] (fun s5 wx => ∃ N, s5 = .pointer (some ⟨N, 0, none⟩) ∧ Boxes wx ((N, 49, #[.int .i64 id, .bool pb, .int .i64 p0, .int .i64 p1, .int .i64 d0, .int .i64 d1]) :: [(G + 1 + 1, 49, #[.int .i64 0, .bool false, .int .i64 0, .int .i64 0, .int .i64 0, .int .i64 0]), (G + 1, 33, #[.int .i64 x0, .int .i64 x1, .int .i64 x2, .int .i64 x3, .int .i64 x4]), (G, 46, #[.int .i64 id, .int .i64 al, .int .i64 ah, .slice A n c, .slice B mm d, .slice C l ee])]) ∧ Below w.heap.size w wx ∧ G + 1 + 1 < N)
 case first =>
  obtain ⟨LB, hLB⟩ : ∃ x, ([(G + 1 + 1, 49, #[.int .i64 0, .bool false, .int .i64 0, .int .i64 0, .int .i64 0, .int .i64 0]), (G + 1, 33, #[.int .i64 x0, .int .i64 x1, .int .i64 x2, .int .i64 x3, .int .i64 x4]), (G, 46, #[.int .i64 id, .int .i64 al, .int .i64 ah, .slice A n c, .slice B mm d, .slice C l ee])] : List (Nat × TypeId × Array Value)) = x := ⟨_, rfl⟩
  have hl0 : (G, 46, #[.int .i64 id, .int .i64 al, .int .i64 ah, .slice A n c, .slice B mm d, .slice C l ee]) ∈ LB ∧ (G + 1, 33, #[.int .i64 x0, .int .i64 x1, .int .i64 x2, .int .i64 x3, .int .i64 x4]) ∈ LB ∧ (G + 1 + 1, 49, #[.int .i64 0, .bool false, .int .i64 0, .int .i64 0, .int .i64 0, .int .i64 0]) ∈ LB := by rw [← hLB]; simp
  have HL0 := zH hl0
  have hS0 : BB2 w LB W0.drew := ⟨by rw [← hLB]; exact HK.out, HE.out.drew⟩
  have HLB := zH hLB
  clear hLB hl0
  refine wp_region_held_drew (S := BB2 w LB) (by kernel_rfl) hS0 (fun hHeld => ?_)
  obtain ⟨yq, hW⟩ : ∃ W', W0.drew = W' := ⟨_, rfl⟩
  rw [hW] at hHeld ⊢
  clear hW hS0 HE HK HX_0 CLA
  refine tK 6 (i := 0) (v := .pointer (some ⟨G, 0, none⟩)) rfl rfl (by kernel_rfl) ?_ hHeld ?_
  ·intro w hSw; clear hSw; go_simp; try with_reducible rfl
  simp only [uZ, uS]
  refine tK 7 (i := 1) (v := .int .i64 id) rfl rfl (by kernel_rfl) ?_ hHeld ?_
  ·intro w hSw; have cx := (hSw.1 _ HL0.out.1).cell 0; simp at cx; clear hSw; go_simp; try with_reducible rfl
  simp only [uZ, uS]
  refine tK 8 (i := 2) (v := .pointer (some ⟨G + 1, 0, none⟩)) rfl rfl (by kernel_rfl) ?_ hHeld ?_
  ·intro w hSw; clear hSw; go_simp; try with_reducible rfl
  simp only [uZ, uS]
  refine tK 9 (i := 3) (v := .int .i64 x0) rfl rfl (by kernel_rfl) ?_ hHeld ?_
  ·intro w hSw; have cx := (hSw.1 _ HL0.out.2.1).cell 0; simp at cx; clear hSw; go_simp; try with_reducible rfl
  simp only [uZ, uS]
  refine tK 12 (i := 6) (v := .pointer (some ⟨G, 3, none⟩)) rfl rfl (by kernel_rfl) ?_ hHeld ?_
  ·intro w hSw; clear hSw; go_simp; try with_reducible rfl
  simp only [uZ, uS]
  refine tK 13 (i := 7) (v := tv A n c) rfl rfl (by kernel_rfl) ?_ hHeld ?_
  ·intro w hSw; have cx := (hSw.1 _ HL0.out.1).cell 3; simp at cx; clear hSw; go_simp; try with_reducible rfl
  simp only [uZ, uS]
  refine tK 14 (i := 8) (v := .pointer (some ⟨G + 1, 1, none⟩)) rfl rfl (by kernel_rfl) ?_ hHeld ?_
  ·intro w hSw; clear hSw; go_simp; try with_reducible rfl
  simp only [uZ, uS]
  refine tK 15 (i := 9) (v := .int .i64 x1) rfl rfl (by kernel_rfl) ?_ hHeld ?_
  ·intro w hSw; have cx := (hSw.1 _ HL0.out.2.1).cell 1; simp at cx; clear hSw; go_simp; try with_reducible rfl
  simp only [uZ, uS]
  refine tK 16 (i := 10) (v := .pointer (some ⟨G + 1, 2, none⟩)) rfl rfl (by kernel_rfl) ?_ hHeld ?_
  ·intro w hSw; clear hSw; go_simp; try with_reducible rfl
  simp only [uZ, uS]
  refine tK 17 (i := 11) (v := .int .i64 x2) rfl rfl (by kernel_rfl) ?_ hHeld ?_
  ·intro w hSw; have cx := (hSw.1 _ HL0.out.2.1).cell 2; simp at cx; clear hSw; go_simp; try with_reducible rfl
  simp only [uZ, uS]
  refine tK 19 (i := 13) (v := .pointer (some ⟨G + 1, 3, none⟩)) rfl rfl (by kernel_rfl) ?_ hHeld ?_
  ·intro w hSw; clear hSw; go_simp; try with_reducible rfl
  simp only [uZ, uS]
  refine tK 20 (i := 14) (v := .int .i64 x3) rfl rfl (by kernel_rfl) ?_ hHeld ?_
  ·intro w hSw; have cx := (hSw.1 _ HL0.out.2.1).cell 3; simp at cx; clear hSw; go_simp; try with_reducible rfl
  simp only [uZ, uS]
  refine tK 21 (i := 15) (v := .pointer (some ⟨G + 1, 4, none⟩)) rfl rfl (by kernel_rfl) ?_ hHeld ?_
  ·intro w hSw; clear hSw; go_simp; try with_reducible rfl
  simp only [uZ, uS]
  refine tK 22 (i := 16) (v := .int .i64 x4) rfl rfl (by kernel_rfl) ?_ hHeld ?_
  ·intro w hSw; have cx := (hSw.1 _ HL0.out.2.1).cell 4; simp at cx; clear hSw; go_simp; try with_reducible rfl
  simp only [uZ, uS]
  refine wpAnyH_ready (rs := [4, 19]) (by kernel_rfl) (by simp) ?_
  refine AllReadyH.cons rfl (fun K hK => ?_) (AllReadyH.cons rfl (fun K hK => ?_) AllReadyH.nil)
  ·skip
   go_simp
   (with_reducible refine (CM0.out _).mono ?_)
   rintro x y ⟨rfl, hq⟩
   refine hK.out _ _ ⟨hHeld.1.on hq, below_then hHeld.2 hq⟩ (fun θ => ?_)
   clear hq
   try simp only [Act.put, uA, uZ, uS]
   clear hK K hHeld
   have hHeld := θ
   clear θ
   refine tK 11 (i := 5) (v := .bool pb) rfl rfl (by kernel_rfl) ?_ hHeld ?_
   ·intro w hSw; clear hSw; go_simp; first | done | exact HPB.out
   simp only [uZ, uS]
   refine wpAnyH_ready (rs := [12, 19]) (by kernel_rfl) (by simp) ?_
   refine AllReadyH.cons rfl (fun K hK => ?_) (AllReadyH.cons rfl (fun K hK => ?_) AllReadyH.nil)
   ·skip
    go_simp
    (with_reducible refine (CSP.out _ hHeld.be2).mono ?_)
    rintro x y ⟨rfl, hq⟩
    refine hK.out _ _ ⟨hHeld.1.on hq, below_then hHeld.2 hq⟩ (fun θ => ?_)
    clear hq
    try simp only [Act.put, uA, uZ, uS]
    clear hK K hHeld
    have hHeld := θ
    clear θ
    refine wpAnyH_ready (rs := [17, 19]) (by kernel_rfl) (by simp) ?_
    refine AllReadyH.cons rfl (fun K hK => ?_) (AllReadyH.cons rfl (fun K hK => ?_) AllReadyH.nil)
    ·skip
     go_simp
     (with_reducible refine (CDE.out _).mono ?_)
     rintro x y ⟨rfl, hq⟩
     refine hK.out _ _ ⟨hHeld.1.on hq, below_then hHeld.2 hq⟩ (fun θ => ?_)
     clear hq
     try simp only [Act.put, uA, uZ, uS]
     clear hK K hHeld
     have hHeld := θ
     clear θ
     refine tK 24 (i := 18) (v := .agg #[.int .i64 id, .bool pb, .int .i64 p0, .int .i64 p1, .int .i64 d0, .int .i64 d1]) rfl rfl (by kernel_rfl) ?_ hHeld ?_
     ·intro w hSw; clear hSw; go_simp; try with_reducible rfl
     simp only [uZ, uS]
     refine rK 19 (by kernel_rfl) rfl (fun K hK => ?_)
     rename World => yq
     go_simp
     have HDN := zH (boxes_lt hHeld.1); have HZN := zH hHeld.2.size; have HGN := zH (hHeld.1 _ HL0.out.2.2).lt; have HY := zH (hHeld.1.new 49 #[.int .i64 0, .bool false, .int .i64 0, .int .i64 0, .int .i64 0, .int .i64 0])
     refine hK.out _ _ ⟨hHeld.1.on (below_alloc1 _ _), below_then hHeld.2 (below_alloc1 _ _)⟩ (fun θ => ?_)
     try simp only [Act.put, uA, uZ, uS]
     clear hK K hHeld
     have hHeld := θ
     clear θ
     obtain ⟨yr, hW⟩ : ∃ W', yq.alloc (.cells #[.int .i64 0, .bool false, .int .i64 0, .int .i64 0, .int .i64 0, .int .i64 0] 49) = W' := ⟨_, rfl⟩
     rw [hW] at HY hHeld ⊢
     clear hW
     obtain ⟨N, hN⟩ : ∃ N, yq.heap.size = N := ⟨_, rfl⟩
     rw [hN] at HY HDN HZN HGN ⊢
     clear hN
     refine rK 20 (by kernel_rfl) rfl (fun K hK => ?_)
     rw [if_pos (by kernel_rfl)]
     rename World => yq
     have HXs : Hid (Boxes (yq.setRow N #[.int .i64 id, .bool pb, .int .i64 p0, .int .i64 p1, .int .i64 d0, .int .i64 d1]) ((N, 49, #[.int .i64 id, .bool pb, .int .i64 p0, .int .i64 p1, .int .i64 d0, .int .i64 d1]) :: LB)) := zH (Boxes.row HY.out (.head _) (fun p hp => ⟨.tail _ hp, HDN.out p hp⟩) #[.int .i64 id, .bool pb, .int .i64 p0, .int .i64 p1, .int .i64 d0, .int .i64 d1])
     have HEs := zH (below_setRow hHeld.2 (show w.heap.size ≤ N from HZN.out) #[.int .i64 id, .bool pb, .int .i64 p0, .int .i64 p1, .int .i64 d0, .int .i64 d1])
     refine wp_store_row 49 (.tmp 5) (.tmp 24) rfl N #[.int .i64 id, .bool pb, .int .i64 p0, .int .i64 p1, .int .i64 d0, .int .i64 d1] rfl rfl 49 _ (HY.out _ (.head _)) (by kernel_rfl) rfl (by kernel_rfl) ?_
     refine hK.out _ _ ⟨hHeld.1.farRow (g := N) HDN.out _, HEs.out⟩ (fun θ => ?_)
     try simp only [Act.put, uA, uZ, uS]
     clear hK K hHeld
     have hHeld := θ
     clear θ
     refine wpAnyH_done (by kernel_rfl) ?_ _
     clear hHeld
     go_wp2_with fail
     go_meet
     rw [← HLB.out] at HXs
     exact ⟨N, rfl, HXs.out, HEs.out, HGN.out⟩
    ·skip
     rename World => yq
     go_simp
     have HDN := zH (boxes_lt hHeld.1); have HZN := zH hHeld.2.size; have HGN := zH (hHeld.1 _ HL0.out.2.2).lt; have HY := zH (hHeld.1.new 49 #[.int .i64 0, .bool false, .int .i64 0, .int .i64 0, .int .i64 0, .int .i64 0])
     refine hK.out _ _ ⟨hHeld.1.on (below_alloc1 _ _), below_then hHeld.2 (below_alloc1 _ _)⟩ (fun θ => ?_)
     try simp only [Act.put, uA, uZ, uS]
     clear hK K hHeld
     have hHeld := θ
     clear θ
     obtain ⟨yr, hW⟩ : ∃ W', yq.alloc (.cells #[.int .i64 0, .bool false, .int .i64 0, .int .i64 0, .int .i64 0, .int .i64 0] 49) = W' := ⟨_, rfl⟩
     rw [hW] at HY hHeld ⊢
     clear hW
     obtain ⟨N, hN⟩ : ∃ N, yq.heap.size = N := ⟨_, rfl⟩
     rw [hN] at HY HDN HZN HGN ⊢
     clear hN
     refine rK 17 (by kernel_rfl) rfl (fun K hK => ?_)
     go_simp
     (with_reducible refine (CDE.out _).mono ?_)
     rintro x y ⟨rfl, hq⟩
     have HY := zH (HY.out.on hq)
     refine hK.out _ _ ⟨hHeld.1.on hq, below_then hHeld.2 hq⟩ (fun θ => ?_)
     clear hq
     try simp only [Act.put, uA, uZ, uS]
     clear hK K hHeld
     have hHeld := θ
     clear θ
     refine tK 24 (i := 18) (v := .agg #[.int .i64 id, .bool pb, .int .i64 p0, .int .i64 p1, .int .i64 d0, .int .i64 d1]) rfl rfl (by kernel_rfl) ?_ hHeld ?_
     ·intro w hSw; clear hSw; go_simp; try with_reducible rfl
     simp only [uZ, uS]
     refine rK 20 (by kernel_rfl) rfl (fun K hK => ?_)
     rw [if_pos (by kernel_rfl)]
     rename World => yq
     have HXs : Hid (Boxes (yq.setRow N #[.int .i64 id, .bool pb, .int .i64 p0, .int .i64 p1, .int .i64 d0, .int .i64 d1]) ((N, 49, #[.int .i64 id, .bool pb, .int .i64 p0, .int .i64 p1, .int .i64 d0, .int .i64 d1]) :: LB)) := zH (Boxes.row HY.out (.head _) (fun p hp => ⟨.tail _ hp, HDN.out p hp⟩) #[.int .i64 id, .bool pb, .int .i64 p0, .int .i64 p1, .int .i64 d0, .int .i64 d1])
     have HEs := zH (below_setRow hHeld.2 (show w.heap.size ≤ N from HZN.out) #[.int .i64 id, .bool pb, .int .i64 p0, .int .i64 p1, .int .i64 d0, .int .i64 d1])
     refine wp_store_row 49 (.tmp 5) (.tmp 24) rfl N #[.int .i64 id, .bool pb, .int .i64 p0, .int .i64 p1, .int .i64 d0, .int .i64 d1] rfl rfl 49 _ (HY.out _ (.head _)) (by kernel_rfl) rfl (by kernel_rfl) ?_
     refine hK.out _ _ ⟨hHeld.1.farRow (g := N) HDN.out _, HEs.out⟩ (fun θ => ?_)
     try simp only [Act.put, uA, uZ, uS]
     clear hK K hHeld
     have hHeld := θ
     clear θ
     refine wpAnyH_done (by kernel_rfl) ?_ _
     clear hHeld
     go_wp2_with fail
     go_meet
     rw [← HLB.out] at HXs
     exact ⟨N, rfl, HXs.out, HEs.out, HGN.out⟩
   ·skip
    rename World => yq
    go_simp
    have HDN := zH (boxes_lt hHeld.1); have HZN := zH hHeld.2.size; have HGN := zH (hHeld.1 _ HL0.out.2.2).lt; have HY := zH (hHeld.1.new 49 #[.int .i64 0, .bool false, .int .i64 0, .int .i64 0, .int .i64 0, .int .i64 0])
    refine hK.out _ _ ⟨hHeld.1.on (below_alloc1 _ _), below_then hHeld.2 (below_alloc1 _ _)⟩ (fun θ => ?_)
    try simp only [Act.put, uA, uZ, uS]
    clear hK K hHeld
    have hHeld := θ
    clear θ
    obtain ⟨yr, hW⟩ : ∃ W', yq.alloc (.cells #[.int .i64 0, .bool false, .int .i64 0, .int .i64 0, .int .i64 0, .int .i64 0] 49) = W' := ⟨_, rfl⟩
    rw [hW] at HY hHeld ⊢
    clear hW
    obtain ⟨N, hN⟩ : ∃ N, yq.heap.size = N := ⟨_, rfl⟩
    rw [hN] at HY HDN HZN HGN ⊢
    clear hN
    refine rK 12 (by kernel_rfl) rfl (fun K hK => ?_)
    go_simp
    (with_reducible refine (CSP.out _ hHeld.be2).mono ?_)
    rintro x y ⟨rfl, hq⟩
    have HY := zH (HY.out.on hq)
    refine hK.out _ _ ⟨hHeld.1.on hq, below_then hHeld.2 hq⟩ (fun θ => ?_)
    clear hq
    try simp only [Act.put, uA, uZ, uS]
    clear hK K hHeld
    have hHeld := θ
    clear θ
    refine rK 17 (by kernel_rfl) rfl (fun K hK => ?_)
    go_simp
    (with_reducible refine (CDE.out _).mono ?_)
    rintro x y ⟨rfl, hq⟩
    have HY := zH (HY.out.on hq)
    refine hK.out _ _ ⟨hHeld.1.on hq, below_then hHeld.2 hq⟩ (fun θ => ?_)
    clear hq
    try simp only [Act.put, uA, uZ, uS]
    clear hK K hHeld
    have hHeld := θ
    clear θ
    refine tK 24 (i := 18) (v := .agg #[.int .i64 id, .bool pb, .int .i64 p0, .int .i64 p1, .int .i64 d0, .int .i64 d1]) rfl rfl (by kernel_rfl) ?_ hHeld ?_
    ·intro w hSw; clear hSw; go_simp; try with_reducible rfl
    simp only [uZ, uS]
    refine rK 20 (by kernel_rfl) rfl (fun K hK => ?_)
    rw [if_pos (by kernel_rfl)]
    rename World => yq
    have HXs : Hid (Boxes (yq.setRow N #[.int .i64 id, .bool pb, .int .i64 p0, .int .i64 p1, .int .i64 d0, .int .i64 d1]) ((N, 49, #[.int .i64 id, .bool pb, .int .i64 p0, .int .i64 p1, .int .i64 d0, .int .i64 d1]) :: LB)) := zH (Boxes.row HY.out (.head _) (fun p hp => ⟨.tail _ hp, HDN.out p hp⟩) #[.int .i64 id, .bool pb, .int .i64 p0, .int .i64 p1, .int .i64 d0, .int .i64 d1])
    have HEs := zH (below_setRow hHeld.2 (show w.heap.size ≤ N from HZN.out) #[.int .i64 id, .bool pb, .int .i64 p0, .int .i64 p1, .int .i64 d0, .int .i64 d1])
    refine wp_store_row 49 (.tmp 5) (.tmp 24) rfl N #[.int .i64 id, .bool pb, .int .i64 p0, .int .i64 p1, .int .i64 d0, .int .i64 d1] rfl rfl 49 _ (HY.out _ (.head _)) (by kernel_rfl) rfl (by kernel_rfl) ?_
    refine hK.out _ _ ⟨hHeld.1.farRow (g := N) HDN.out _, HEs.out⟩ (fun θ => ?_)
    try simp only [Act.put, uA, uZ, uS]
    clear hK K hHeld
    have hHeld := θ
    clear θ
    refine wpAnyH_done (by kernel_rfl) ?_ _
    clear hHeld
    go_wp2_with fail
    go_meet
    rw [← HLB.out] at HXs
    exact ⟨N, rfl, HXs.out, HEs.out, HGN.out⟩
  ·skip
   rename World => yq
   go_simp
   have HDN := zH (boxes_lt hHeld.1); have HZN := zH hHeld.2.size; have HGN := zH (hHeld.1 _ HL0.out.2.2).lt; have HY := zH (hHeld.1.new 49 #[.int .i64 0, .bool false, .int .i64 0, .int .i64 0, .int .i64 0, .int .i64 0])
   refine hK.out _ _ ⟨hHeld.1.on (below_alloc1 _ _), below_then hHeld.2 (below_alloc1 _ _)⟩ (fun θ => ?_)
   try simp only [Act.put, uA, uZ, uS]
   clear hK K hHeld
   have hHeld := θ
   clear θ
   obtain ⟨yr, hW⟩ : ∃ W', yq.alloc (.cells #[.int .i64 0, .bool false, .int .i64 0, .int .i64 0, .int .i64 0, .int .i64 0] 49) = W' := ⟨_, rfl⟩
   rw [hW] at HY hHeld ⊢
   clear hW
   obtain ⟨N, hN⟩ : ∃ N, yq.heap.size = N := ⟨_, rfl⟩
   rw [hN] at HY HDN HZN HGN ⊢
   clear hN
   refine rK 4 (by kernel_rfl) rfl (fun K hK => ?_)
   go_simp
   (with_reducible refine (CM0.out _).mono ?_)
   rintro x y ⟨rfl, hq⟩
   have HY := zH (HY.out.on hq)
   refine hK.out _ _ ⟨hHeld.1.on hq, below_then hHeld.2 hq⟩ (fun θ => ?_)
   clear hq
   try simp only [Act.put, uA, uZ, uS]
   clear hK K hHeld
   have hHeld := θ
   clear θ
   refine tK 11 (i := 5) (v := .bool pb) rfl rfl (by kernel_rfl) ?_ hHeld ?_
   ·intro w hSw; clear hSw; go_simp; first | done | exact HPB.out
   simp only [uZ, uS]
   refine rK 12 (by kernel_rfl) rfl (fun K hK => ?_)
   go_simp
   (with_reducible refine (CSP.out _ hHeld.be2).mono ?_)
   rintro x y ⟨rfl, hq⟩
   have HY := zH (HY.out.on hq)
   refine hK.out _ _ ⟨hHeld.1.on hq, below_then hHeld.2 hq⟩ (fun θ => ?_)
   clear hq
   try simp only [Act.put, uA, uZ, uS]
   clear hK K hHeld
   have hHeld := θ
   clear θ
   refine rK 17 (by kernel_rfl) rfl (fun K hK => ?_)
   go_simp
   (with_reducible refine (CDE.out _).mono ?_)
   rintro x y ⟨rfl, hq⟩
   have HY := zH (HY.out.on hq)
   refine hK.out _ _ ⟨hHeld.1.on hq, below_then hHeld.2 hq⟩ (fun θ => ?_)
   clear hq
   try simp only [Act.put, uA, uZ, uS]
   clear hK K hHeld
   have hHeld := θ
   clear θ
   refine tK 24 (i := 18) (v := .agg #[.int .i64 id, .bool pb, .int .i64 p0, .int .i64 p1, .int .i64 d0, .int .i64 d1]) rfl rfl (by kernel_rfl) ?_ hHeld ?_
   ·intro w hSw; clear hSw; go_simp; try with_reducible rfl
   simp only [uZ, uS]
   refine rK 20 (by kernel_rfl) rfl (fun K hK => ?_)
   rw [if_pos (by kernel_rfl)]
   rename World => yq
   have HXs : Hid (Boxes (yq.setRow N #[.int .i64 id, .bool pb, .int .i64 p0, .int .i64 p1, .int .i64 d0, .int .i64 d1]) ((N, 49, #[.int .i64 id, .bool pb, .int .i64 p0, .int .i64 p1, .int .i64 d0, .int .i64 d1]) :: LB)) := zH (Boxes.row HY.out (.head _) (fun p hp => ⟨.tail _ hp, HDN.out p hp⟩) #[.int .i64 id, .bool pb, .int .i64 p0, .int .i64 p1, .int .i64 d0, .int .i64 d1])
   have HEs := zH (below_setRow hHeld.2 (show w.heap.size ≤ N from HZN.out) #[.int .i64 id, .bool pb, .int .i64 p0, .int .i64 p1, .int .i64 d0, .int .i64 d1])
   refine wp_store_row 49 (.tmp 5) (.tmp 24) rfl N #[.int .i64 id, .bool pb, .int .i64 p0, .int .i64 p1, .int .i64 d0, .int .i64 d1] rfl rfl 49 _ (HY.out _ (.head _)) (by kernel_rfl) rfl (by kernel_rfl) ?_
   refine hK.out _ _ ⟨hHeld.1.farRow (g := N) HDN.out _, HEs.out⟩ (fun θ => ?_)
   try simp only [Act.put, uA, uZ, uS]
   clear hK K hHeld
   have hHeld := θ
   clear θ
   refine wpAnyH_done (by kernel_rfl) ?_ _
   clear hHeld
   go_wp2_with fail
   go_meet
   rw [← HLB.out] at HXs
   exact ⟨N, rfl, HXs.out, HEs.out, HGN.out⟩
 obtain ⟨M, rfl, hX, hB, hM⟩ := hcut
 have HX0 := zH hX; have HB0 := zH hB
 have HMG : Hid (G + 1 + 1 < M ∧ w.heap.size ≤ G) := zH ⟨hM, by rw [HG.out]; exact Nat.le_refl _⟩
 clear hX hB hM HE HK HX_0 CM0 CSP CDE HPB
 rename World => V0
 have HFAR : Hid (∀ p ∈ ([(G + 1 + 1, 49, #[.int .i64 0, .bool false, .int .i64 0, .int .i64 0, .int .i64 0, .int .i64 0]), (G + 1, 33, #[.int .i64 x0, .int .i64 x1, .int .i64 x2, .int .i64 x3, .int .i64 x4]), (G, 46, #[.int .i64 id, .int .i64 al, .int .i64 ah, .slice A n c, .slice B mm d, .slice C l ee])] : List (Nat × TypeId × Array Value)), p.1 ≠ M) := zH (fun p hp => by
  have hm := HMG.out
  simp only [List.mem_cons, List.not_mem_nil, or_false] at hp
  rcases hp with h | h | h <;> (rw [h]; dsimp only; omega))
 cases pb
 ·have HV : Hid (RR = ⟨id, false, p0, p1, d0, d1⟩) := zH (by rw [HR.out, if_neg (by decide)])
  have m_ := HX0.out _ (.head _)
  have m_0 := m_.cell 0
  have m_1 := m_.cell 1
  have m_2 := m_.cell 2
  have m_3 := m_.cell 3
  have m_4 := m_.cell 4
  have m_5 := m_.cell 5
  simp at m_0 m_1 m_2 m_3 m_4 m_5
  clear m_
  go_upto_region 4 with fail
  refine wp_region_lit ?_
  refine wpList_plain rfl (fun K hK => ?_)
  go_simp
  refine hK _ _ ?_
  clear hK K
  have HKR : Hid (Blk (V0.setRow (G + 1 + 1) #[.int .i64 id, .bool false, .int .i64 p0, .int .i64 p1, .int .i64 d0, .int .i64 d1]) (G + 1 + 1) 49 #[.int .i64 id, .bool false, .int .i64 p0, .int .i64 p1, .int .i64 d0, .int .i64 d1]) := zH (setRow_heap V0 (G + 1 + 1) _ _ 49 _ (HX0.out _ (.tail _ (.head _))))
  have HE9 := zH (below_setRow HB0.out (show w.heap.size ≤ G + 1 + 1 by have := HMG.out; omega) #[.int .i64 id, .bool false, .int .i64 p0, .int .i64 p1, .int .i64 d0, .int .i64 d1])
  refine wpList_store_row rfl 49 (.tmp 4) (.tmp 35) rfl (G + 1 + 1) #[.int .i64 id, .bool false, .int .i64 p0, .int .i64 p1, .int .i64 d0, .int .i64 d1] rfl rfl 49 _ (HX0.out _ (.tail _ (.head _))) (by kernel_rfl) rfl (by kernel_rfl) ?_
  obtain ⟨W9, hW9⟩ : ∃ W9, V0.setRow (G + 1 + 1) #[.int .i64 id, .bool false, .int .i64 p0, .int .i64 p1, .int .i64 d0, .int .i64 d1] = W9 := ⟨_, rfl⟩
  rw [hW9] at HKR HE9 ⊢
  clear hW9
  have hv : levelV RR = .agg #[.int .i64 id, .bool false, .int .i64 p0, .int .i64 p1, .int .i64 d0, .int .i64 d1] := by rw [HV.out]
  go_wp2
  exact bodyPost_ret (v := .agg #[.int .i64 id, .bool false, .int .i64 p0, .int .i64 p1, .int .i64 d0, .int .i64 d1]) (results_cell_row Tryz.results7 _ _ (G + 1 + 1) 49 #[.int .i64 id, .bool false, .int .i64 p0, .int .i64 p1, .int .i64 d0, .int .i64 d1] (0, 0) _ rfl HKR.out Tryz.underlying49 rfl (by kernel_rfl)) rfl ⟨by first | rfl | rw [hv], HE9.out⟩
 ·skip
  have HV : Hid (RR = ⟨id, true, z1, z1, d0, d1⟩) := zH (by rw [HR.out, if_pos rfl])
  have m_ := HX0.out _ (.head _)
  have m_1 := m_.cell 1
  simp at m_1
  clear m_
  go_upto_region 3 with fail
  clear m_1
  have hS0 : BB2 w [(G + 1 + 1, 49, #[.int .i64 0, .bool false, .int .i64 0, .int .i64 0, .int .i64 0, .int .i64 0]), (G + 1, 33, #[.int .i64 x0, .int .i64 x1, .int .i64 x2, .int .i64 x3, .int .i64 x4]), (G, 46, #[.int .i64 id, .int .i64 al, .int .i64 ah, .slice A n c, .slice B mm d, .slice C l ee])] V0.drew := ⟨HX0.out.sub (fun p hp => .tail _ hp), HB0.out.drew⟩
  have HW := zH (below_drew1 V0)
  refine wp_region_held_drew (S := BB2 w [(G + 1 + 1, 49, #[.int .i64 0, .bool false, .int .i64 0, .int .i64 0, .int .i64 0, .int .i64 0]), (G + 1, 33, #[.int .i64 x0, .int .i64 x1, .int .i64 x2, .int .i64 x3, .int .i64 x4]), (G, 46, #[.int .i64 id, .int .i64 al, .int .i64 ah, .slice A n c, .slice B mm d, .slice C l ee])]) (by kernel_rfl) hS0 (fun hHeld => ?_)
  obtain ⟨yq, hW⟩ : ∃ W', V0.drew = W' := ⟨_, rfl⟩
  rw [hW] at hHeld HW ⊢
  clear hW hS0
  refine tK 27 (i := 0) (v := .pointer (some ⟨G, 3, none⟩)) rfl rfl (by kernel_rfl) ?_ hHeld ?_
  ·intro w hSw; clear hSw; go_simp; try with_reducible rfl
  simp only [uZ, uS]
  refine tK 28 (i := 1) (v := tv A n c) rfl rfl (by kernel_rfl) ?_ hHeld ?_
  ·intro w hSw; have cx := (hSw.1 _ (.tail _ (.tail _ (.head _)))).cell 3; simp at cx; clear hSw; go_simp; try with_reducible rfl
  simp only [uZ, uS]
  refine tK 30 (i := 3) (v := .pointer (some ⟨G, 3, none⟩)) rfl rfl (by kernel_rfl) ?_ hHeld ?_
  ·intro w hSw; clear hSw; go_simp; try with_reducible rfl
  simp only [uZ, uS]
  refine tK 31 (i := 4) (v := tv A n c) rfl rfl (by kernel_rfl) ?_ hHeld ?_
  ·intro w hSw; have cx := (hSw.1 _ (.tail _ (.tail _ (.head _)))).cell 3; simp at cx; clear hSw; go_simp; try with_reducible rfl
  simp only [uZ, uS]
  refine rK 2 (by kernel_rfl) rfl (fun K hK => ?_)
  go_simp
  (with_reducible refine (CLA.out _ hHeld.be2).mono ?_)
  rintro x y ⟨rfl, hq⟩
  have HW := zH (below_then HW.out hq)
  refine hK.out _ _ ⟨hHeld.1.on hq, below_then hHeld.2 hq⟩ (fun θ => ?_)
  clear hq
  try simp only [Act.put, uA, uZ, uS]
  clear hK K hHeld
  have hHeld := θ
  clear θ
  refine rK 5 (by kernel_rfl) rfl (fun K hK => ?_)
  go_simp
  (with_reducible refine (CLA.out _ hHeld.be2).mono ?_)
  rintro x y ⟨rfl, hq⟩
  have HW := zH (below_then HW.out hq)
  refine hK.out _ _ ⟨hHeld.1.on hq, below_then hHeld.2 hq⟩ (fun θ => ?_)
  clear hq
  try simp only [Act.put, uA, uZ, uS]
  clear hK K hHeld
  have hHeld := θ
  clear θ
  refine tK 33 (i := 6) (v := rv z1 z1) rfl rfl (by kernel_rfl) ?_ hHeld ?_
  ·intro w hSw; clear hSw; go_simp; try with_reducible rfl
  simp only [uZ, uS]
  refine tK 34 (i := 7) (v := .pointer (some ⟨M, 2, none⟩)) rfl rfl (by kernel_rfl) ?_ hHeld ?_
  ·intro w hSw; clear hSw; go_simp; try with_reducible rfl
  simp only [uZ, uS]
  rename World => Vq
  have HXq := zH (HX0.out.on HW.out)
  have HBq := zH hHeld.2
  have m_ := HXq.out _ (.head _)
  have m_2 := m_.cell 2
  have m_f2 := m_.frozen 2
  have m_3 := m_.cell 3
  have m_f3 := m_.frozen 3
  have m_l := m_.lt
  simp at m_2 m_f2 m_3 m_f3
  clear m_
  refine rK 8 (by kernel_rfl) rfl (fun K hK => ?_)
  go_simp
  have HXr : Hid (Boxes (Vq.setCell ⟨M, 2, none⟩ (.int .i64 z1)) [(M, 49, #[.int .i64 id, .bool true, .int .i64 z1, .int .i64 p1, .int .i64 d0, .int .i64 d1]), (G + 1 + 1, 49, #[.int .i64 0, .bool false, .int .i64 0, .int .i64 0, .int .i64 0, .int .i64 0]), (G + 1, 33, #[.int .i64 x0, .int .i64 x1, .int .i64 x2, .int .i64 x3, .int .i64 x4]), (G, 46, #[.int .i64 id, .int .i64 al, .int .i64 ah, .slice A n c, .slice B mm d, .slice C l ee])]) := zH (HXq.out.set1 HFAR.out 2 (.int .i64 z1) _ rfl)
  have HXs : Hid (Boxes ((Vq.setCell ⟨M, 2, none⟩ (.int .i64 z1)).setCell ⟨M, 3, none⟩ (.int .i64 z1)) [(M, 49, #[.int .i64 id, .bool true, .int .i64 z1, .int .i64 z1, .int .i64 d0, .int .i64 d1]), (G + 1 + 1, 49, #[.int .i64 0, .bool false, .int .i64 0, .int .i64 0, .int .i64 0, .int .i64 0]), (G + 1, 33, #[.int .i64 x0, .int .i64 x1, .int .i64 x2, .int .i64 x3, .int .i64 x4]), (G, 46, #[.int .i64 id, .int .i64 al, .int .i64 ah, .slice A n c, .slice B mm d, .slice C l ee])]) := zH (HXr.out.set1 HFAR.out 3 (.int .i64 z1) _ rfl)
  have HBs : Hid (Below w.heap.size w ((Vq.setCell ⟨M, 2, none⟩ (.int .i64 z1)).setCell ⟨M, 3, none⟩ (.int .i64 z1))) := zH (by
   have hm := HMG.out
   repeat (first | exact HBq.out | refine Below.setCell ?_ (by simp <;> omega) _))
  refine hK.out _ _ ⟨(hHeld.1.farRowless2 HFAR.out 2 3 _ _), HBs.out⟩ (fun θ => ?_)
  try simp only [Act.put, uA, uZ, uS]
  clear hK K hHeld
  have hHeld := θ
  clear θ
  refine wpAnyH_done (by kernel_rfl) ?_ _
  clear hHeld HXr HXq HBq HW HX0 HB0 m_2 m_f2 m_3 m_f3 m_l
  obtain ⟨We, hW⟩ : ∃ W', ((Vq.setCell ⟨M, 2, none⟩ (.int .i64 z1)).setCell ⟨M, 3, none⟩ (.int .i64 z1)) = W' := ⟨_, rfl⟩
  rw [hW] at HXs HBs ⊢
  clear hW
  have m_ := HXs.out _ (.head _)
  have m_0 := m_.cell 0
  have m_1 := m_.cell 1
  have m_2 := m_.cell 2
  have m_3 := m_.cell 3
  have m_4 := m_.cell 4
  have m_5 := m_.cell 5
  simp at m_0 m_1 m_2 m_3 m_4 m_5
  clear m_
  go_upto_region 4 with fail
  refine wp_region_lit ?_
  refine wpList_plain rfl (fun K hK => ?_)
  go_simp
  refine hK _ _ ?_
  clear hK K
  have HKR : Hid (Blk (We.setRow (G + 1 + 1) #[.int .i64 id, .bool true, .int .i64 z1, .int .i64 z1, .int .i64 d0, .int .i64 d1]) (G + 1 + 1) 49 #[.int .i64 id, .bool true, .int .i64 z1, .int .i64 z1, .int .i64 d0, .int .i64 d1]) := zH (setRow_heap We (G + 1 + 1) _ _ 49 _ (HXs.out _ (.tail _ (.head _))))
  have HE9 := zH (below_setRow HBs.out (show w.heap.size ≤ G + 1 + 1 by have := HMG.out; omega) #[.int .i64 id, .bool true, .int .i64 z1, .int .i64 z1, .int .i64 d0, .int .i64 d1])
  refine wpList_store_row rfl 49 (.tmp 4) (.tmp 35) rfl (G + 1 + 1) #[.int .i64 id, .bool true, .int .i64 z1, .int .i64 z1, .int .i64 d0, .int .i64 d1] rfl rfl 49 _ (HXs.out _ (.tail _ (.head _))) (by kernel_rfl) rfl (by kernel_rfl) ?_
  obtain ⟨W9, hW9⟩ : ∃ W9, We.setRow (G + 1 + 1) #[.int .i64 id, .bool true, .int .i64 z1, .int .i64 z1, .int .i64 d0, .int .i64 d1] = W9 := ⟨_, rfl⟩
  rw [hW9] at HKR HE9 ⊢
  clear hW9
  have hv : levelV RR = .agg #[.int .i64 id, .bool true, .int .i64 z1, .int .i64 z1, .int .i64 d0, .int .i64 d1] := by rw [HV.out]
  go_wp2
  exact bodyPost_ret (v := .agg #[.int .i64 id, .bool true, .int .i64 z1, .int .i64 z1, .int .i64 d0, .int .i64 d1]) (results_cell_row Tryz.results7 _ _ (G + 1 + 1) 49 #[.int .i64 id, .bool true, .int .i64 z1, .int .i64 z1, .int .i64 d0, .int .i64 d1] (0, 0) _ rfl HKR.out Tryz.underlying49 rfl (by kernel_rfl)) rfl ⟨by first | rfl | rw [hv], HE9.out⟩
end

section
open Go.RowKit
attribute [local go_sem ↓] run_minI run_maxI
theorem worst1_to (ra rb : Int) (fh st x0 x1 d0 d1 : Int) (Bf : Nat) (t : Bool) (w : World) (hF : Blk w Bf 43 #[.int .i64 fh, .int .i64 st, .int .i64 x0, .int .i64 x1, .int .i64 d0, .int .i64 d1]) (ht : decide (x0 ≤ rb) = t) :
  Calls Tryz.prog 61 #[rv ra rb, .pointer (some ⟨Bf, 0, none⟩)] w fun e w' => e = .returned (.bool t) ∧ Below w.heap.size w w' := by
 have hx : ((x0 ≤ rb) ∧ t = true) ∨ (¬ (x0 ≤ rb) ∧ t = false) := by
  by_cases q : x0 ≤ rb
  ·exact .inl ⟨q, by rw [← ht]; exact decide_eq_true q⟩
  ·exact .inr ⟨q, by rw [← ht]; exact decide_eq_false q⟩
 clear ht
 have c2 := hF.cell 2
 have lf := hF.lt
 have ln : Bf ≠ w.heap.size := Nat.ne_of_lt lf
 simp at c2
 clear hF
 rcases hx with ⟨h, rfl⟩ | ⟨h, rfl⟩
 all_goals
  go_enter Tryz.func61, Tryz.ntmps61
  go_wp2
  go_ret
  exact ⟨rfl, below_alloc1 _ _⟩

theorem indexFunc_w (b o n c Bf k : Nat) (L : List (Int × Int)) (r : Int × Int) (fh st x0 x1 d0 d1 : Int) (w : World) (hn : n = L.length) (h40 : n ≤ 1000000) (hb : b < w.heap.size) (hc : RunsMem w b o L) (hF : Blk w Bf 43 #[.int .i64 fh, .int .i64 st, .int .i64 x0, .int .i64 x1, .int .i64 d0, .int .i64 d1])
  (hk : L[k]? = some r) (hr : x0 ≤ r.2) (hlo : ∀ j z, j < k → L[j]? = some z → z.2 < x0) :
  Calls Tryz.prog 60 #[.slice (some ⟨b, o, none⟩) n c, .func (.func 61) #[] #[.pointer (some ⟨Bf, 0, none⟩)]] w fun e w' => e = .returned (.int .i64 k) ∧ Below w.heap.size w w' := by
 have hkn : k < n := by have := (List.getElem?_eq_some_iff.1 hk).1; omega
 have HN := zH hn; have HC := zH hc; have HF := zH hF; have HK := zH hk; have HL := zH hlo
 clear hn hc hF hk hlo
 go_enter Tryz.func60, Tryz.ntmps60
 go_wp2_with fail
 go_loopw [8] (fun i wr => ∃ j : Nat, j ≤ k ∧ i = .int .i64 j ∧ Below w.heap.size w wr) (fun i _ => k - (intOf i).toNat)
 case atStart => exact ⟨0, by omega, rfl, Below.refl _ _⟩
 case round =>
  obtain ⟨j, hj, rfl, hB⟩ := hrel
  have k1 : (j : Int) < (n : Int) := by omega
  have k2 : j < n := by omega
  obtain ⟨z, hz⟩ : ∃ z, L[j]? = some z := ⟨_, List.getElem?_eq_getElem (show j < L.length by rw [← HN.out]; omega)⟩
  obtain ⟨c0, c1⟩ := HC.out j z hz
  rw [← hB.cell (p := ⟨b, o + j * 2, none⟩) hb] at c0
  rw [← hB.cell (p := ⟨b, o + j * 2 + 1, none⟩) hb] at c1
  have lb : b < wr.heap.size := Nat.lt_of_lt_of_le hb hB.size
  have HB := zH hB
  obtain ⟨za, zb⟩ := z
  dsimp only at c0 c1
  by_cases g : j = k
  ·have ht : decide (x0 ≤ zb) = true := by
    rw [g, HK.out] at hz; injection hz with hz
    rw [hz] at hr
    exact decide_eq_true hr
   have CC := zH (worst1_to za zb fh st x0 x1 d0 d1 Bf true wr (blkOn HF.out hB) ht)
   subst g
   clear hz ht hB hr
   go_wp2_with fail
   refine CC.out.mono ?_
   rintro e w1 ⟨rfl, hb1⟩
   have HB1 := zH (below_then HB.out hb1)
   clear hb1 CC
   go_wp2
   go_ret
   exact ⟨rfl, HB1.out⟩
  ·have ht : decide (x0 ≤ zb) = false := decide_eq_false (by have := HL.out j (za, zb) (by omega) hz; dsimp only at this; omega)
   have CC := zH (worst1_to za zb fh st x0 x1 d0 d1 Bf false wr (blkOn HF.out hB) ht)
   clear hz ht hB
   go_wp2_with fail
   refine CC.out.mono ?_
   rintro e w1 ⟨rfl, hb1⟩
   have HB1 := zH (below_then HB.out hb1)
   clear hb1 CC
   go_wp2
   go_roundw
   case rel => exact ⟨j + 1, by omega, by go_num, HB1.out⟩
   case measure => simp [intOf]; omega

abbrev it (r : Int × Int × Int) : Value := .tuple #[.int .i64 r.1, .int .i64 r.2.1, .int .i64 r.2.2]
def worstS (h : HoldD) (f : FillD) (ra : Int) : Int × Int × Int := if fillErr h f = 0 then (if f.st = 3 then (max ra f.x0, (momS h f).2, 0) else (0, (momS h f).2, 0)) else (0, 0, fillErr h f)

theorem worst_of (h : HoldD) (m : HoldM) (f : FillD) (L : List (Int × Int)) (k : Nat) (r : Int × Int) (w : World) (hi : HoldIn w h m)
  (hL : fillErr h f = 0 → f.st = 3 → L.length ≤ 1000000 ∧ whereE h.mom (momS h f).2 1000000000 = 0 ∧ runsF (whereS (momS h f).2 1000000000) (prs h.mom) = L ∧ L[k]? = some r ∧ f.x0 ≤ r.2 ∧ (∀ j z, j < k → L[j]? = some z → z.2 < f.x0)) :
  Calls Tryz.prog 30 #[holdV h m, fillV f] w fun e w' => e = .returned (it (worstS h f r.1)) ∧ Below w.heap.size w w' := by
 have CM : Hid (∀ W, Below w.heap.size w W → Calls Tryz.prog 58 #[holdV h m, fillV f] W fun e w' => e = .returned (rt (tellS h f (momS h f))) ∧ Below W.heap.size W w') := zH fun W hW => hMoment_any h m f W (hi.below hW)
 obtain ⟨R, hR⟩ : ∃ R, worstS h f r.1 = R := ⟨_, rfl⟩
 obtain ⟨E, hE⟩ : ∃ E, fillErr h f = E := ⟨_, rfl⟩
 obtain ⟨⟨pa, pb⟩, hP⟩ : ∃ p, momS h f = p := ⟨_, rfl⟩
 have hT : tellS h f (momS h f) = if E = 0 then (pa, pb, 0) else (0, 0, E) := by unfold tellS; rw [hE, hP]
 rw [hT] at CM
 have HR := zH hR
 rw [hR]
 unfold worstS at HR
 rw [hE, hP] at HR
 rw [hE, hP] at hL
 dsimp only at HR hL
 clear hR hE hP hT
 obtain ⟨id, al, ah, vol, mom, hei, t0, t1, u0, u1, v0, v1, h0, h1⟩ := h
 obtain ⟨A, n, c, B, mm, d, C, l, ee⟩ := m
 obtain ⟨fh, st, x0, x1, d0, d1⟩ := f
 obtain ⟨i1, i2, i3⟩ := hi
 dsimp only at i1 i2 i3 HR hL
 obtain ⟨ra, rb⟩ := r
 dsimp only at HR hL
 have HE := zH (show Below w.heap.size w ((w.alloc (.cells #[.int .i64 id, .int .i64 al, .int .i64 ah, .slice A n c, .slice B mm d, .slice C l ee, .int .i64 t0, .int .i64 t1, .int .i64 u0, .int .i64 u1, .int .i64 v0, .int .i64 v1, .int .i64 h0, .int .i64 h1] 40)).alloc (.cells #[.int .i64 fh, .int .i64 st, .int .i64 x0, .int .i64 x1, .int .i64 d0, .int .i64 d1] 43)) from below_a2 (Below.refl _ _))
 have HK := zH (boxes2' w 40 43 #[.int .i64 id, .int .i64 al, .int .i64 ah, .slice A n c, .slice B mm d, .slice C l ee, .int .i64 t0, .int .i64 t1, .int .i64 u0, .int .i64 u1, .int .i64 v0, .int .i64 v1, .int .i64 h0, .int .i64 h1] #[.int .i64 fh, .int .i64 st, .int .i64 x0, .int .i64 x1, .int .i64 d0, .int .i64 d1])
 have CW : Hid (E = 0 → st = 3 → ∀ W, Below w.heap.size w W → Calls Tryz.prog 59 #[tv B mm d, rv pb 1000000000] W (RunsE W L 0)) := zH fun e s W hW => by
  obtain ⟨_, q1, q2, _⟩ := hL e s
  have := where_all B mm d mom pb 1000000000 W i2.1 i2.2.1 (i2.below hW).2.2
  rwa [q1, if_pos rfl, q2] at this
 have CI : Hid (E = 0 → st = 3 → ∀ W Bf A' c', RunsP W A' L → Blk W Bf 43 #[.int .i64 fh, .int .i64 st, .int .i64 x0, .int .i64 x1, .int .i64 d0, .int .i64 d1] → Calls Tryz.prog 60 #[.slice A' L.length c', .func (.func 61) #[] #[.pointer (some ⟨Bf, 0, none⟩)]] W fun e w' => e = .returned (.int .i64 k) ∧ Below W.heap.size W w') := zH fun e s W Bf A' c' hp hB => by
  obtain ⟨q0, _, _, q3, q4, q5⟩ := hL e s
  rcases hp with hp | ⟨b, o, rfl, hb, hc⟩
  ·rw [hp] at q3; simp at q3
  ·exact indexFunc_w b o L.length c' Bf k L (ra, rb) fh st x0 x1 d0 d1 W rfl q0 hb hc hB q3 q4 q5
 have HL := zH hL
 clear hL i1 i2 i3
 go_enter Tryz.func30, Tryz.ntmps30
 go_wp2_with fail
 obtain ⟨W0, hW0⟩ : ∃ W0, ((w.alloc (.cells #[.int .i64 id, .int .i64 al, .int .i64 ah, .slice A n c, .slice B mm d, .slice C l ee, .int .i64 t0, .int .i64 t1, .int .i64 u0, .int .i64 u1, .int .i64 v0, .int .i64 v1, .int .i64 h0, .int .i64 h1] 40)).alloc (.cells #[.int .i64 fh, .int .i64 st, .int .i64 x0, .int .i64 x1, .int .i64 d0, .int .i64 d1] 43)) = W0 := ⟨_, rfl⟩
 rw [hW0] at HE HK ⊢
 clear hW0
 obtain ⟨G, hG⟩ : ∃ G, w.heap.size = G := ⟨_, rfl⟩
 rw [hG] at HK ⊢
 have HG := zH hG; clear hG
 refine (CM.out _ HE.out).mono ?_
 rintro e w1 ⟨rfl, hb⟩
 by_cases g : E = 0
 ·rw [if_pos g]
  have HE1 := zH (below_then (below_then HE.out hb) (below_alloc1 w1 (.cells #[.int .i64 pa, .int .i64 pb] 35))); have HK1 := zH ((HK.out.on hb).new 35 #[.int .i64 pa, .int .i64 pb])
  have CX := zH (CW.out g)
  have CY := zH (CI.out g)
  have HM := zH (HL.out g)
  rw [if_pos g] at HR
  clear hb HE HK CM CW CI HL
  subst g
  go_upto_region 2 with fail
  obtain ⟨W1, hW1⟩ : ∃ W1, w1.alloc (.cells #[.int .i64 pa, .int .i64 pb] 35) = W1 := ⟨_, rfl⟩
  rw [hW1] at HE1 HK1 ⊢
  clear hW1
  obtain ⟨N, hN⟩ : ∃ N, w1.heap.size = N := ⟨_, rfl⟩
  rw [hN] at HK1 ⊢
  clear hN
  have p := HK1.out _ (.head _)
  have p0 := p.cell 0
  have p1 := p.cell 1
  simp at p0 p1
  clear p
  have f := HK1.out _ (.tail _ (.head _))
  have f1 := f.cell 1
  have f2 := f.cell 2
  simp at f1 f2
  clear f
  by_cases s : st = 3
  ·rw [if_pos s] at HR
   have CX' := zH (CX.out s)
   have CY' := zH (CY.out s)
   obtain ⟨_, _, _, q3, _⟩ := HM.out s
   have hkn := (List.getElem?_eq_some_iff.1 q3).1
   have Q3 := zH q3
   have sb : (st == 3) = true := by simp [s]
   have eR := HR.out.symm
   subst eR
   clear HR HM CX CY s
   have hc := HK1.out _ (.tail _ (.tail _ (.head _)))
   have hc0 := hc.cell 0
   have hc1 := hc.cell 1
   have hc2 := hc.cell 2
   have hc3 := hc.cell 3
   have hc4 := hc.cell 4
   have hc5 := hc.cell 5
   have hc6 := hc.cell 6
   have hc7 := hc.cell 7
   have hc8 := hc.cell 8
   have hc9 := hc.cell 9
   have hc10 := hc.cell 10
   have hc11 := hc.cell 11
   have hc12 := hc.cell 12
   have hc13 := hc.cell 13
   simp at hc0 hc1 hc2 hc3 hc4 hc5 hc6 hc7 hc8 hc9 hc10 hc11 hc12 hc13
   clear hc
   go_wp2_with fail
   refine (CX'.out _ HE1.out).mono ?_
   rintro e w2 ⟨A', c', rfl, hP, hb⟩
   have HE2 := zH (below_then HE1.out hb); have HK2 := zH (HK1.out.on hb)
   have CI := zH (CY'.out w2 (G + 1) A' c' hP (HK2.out _ (.tail _ (.head _))))
   rcases hP with hP | ⟨bb, oo, rfl, hbb, hcc⟩
   ·rw [hP] at hkn; simp at hkn
   obtain ⟨r0, r1⟩ := hcc k (ra, rb) Q3.out
   dsimp only at r0 r1
   have HR0 := zH r0
   have HLB := zH hbb
   clear hb HE1 HK1 CX' CY' p0 p1 f1 f2 hc0 hc1 hc2 hc3 hc4 hc5 hc6 hc7 hc8 hc9 hc10 hc11 hc12 hc13 hbb hcc r0 r1
   go_wp2_with fail
   refine CI.out.mono ?_
   rintro e w3 ⟨rfl, hb⟩
   have HE3 := zH (below_then HE2.out hb); have HK3 := zH (HK2.out.on hb)
   have r0 := (hb.cell (p := ⟨bb, oo + k * 2, none⟩) HLB.out).trans HR0.out
   have lbb := Nat.lt_of_lt_of_le HLB.out hb.size
   clear hb HE2 HK2 CI HR0 HLB
   have p := HK3.out _ (.head _)
   have p1 := p.cell 1
   simp at p1
   clear p
   have f := HK3.out _ (.tail _ (.head _))
   have f2 := f.cell 2
   simp at f2
   clear f
   have k1 : (k : Int) < (L.length : Int) := by omega
   have k2 : k < L.length := hkn
   go_upto_region 8 with fail
   go_region
   go_wp2
   refine bodyPost_ret (v := it (max ra x0, pb, 0)) (by simp [results, Tryz.results30, go_sem]) rfl ⟨rfl, HE3.out.drew⟩
  ·rw [if_neg s] at HR
   have eR := HR.out.symm
   subst eR
   have sb : (st == 3) = false := beq_eq_false_iff_ne.2 s
   clear HR HM CX CY
   go_upto_region 5 with fail
   go_region
   go_wp2
   refine bodyPost_ret (v := it (0, pb, 0)) (by simp [results, Tryz.results30, go_sem]) rfl ⟨rfl, HE1.out.drew⟩
 ·rw [if_neg g]
  rw [if_neg g] at HR
  have eR := HR.out.symm
  subst eR
  clear HR HL CW CI
  have HE1 := zH (below_then HE.out hb)
  clear hb HE HK CM
  go_wp2
  refine bodyPost_ret (v := it (0, 0, E)) (by simp [results, Tryz.results30, go_sem]) rfl ⟨rfl, ?_⟩
  repeat (first | exact HE1.out | refine Below.alloc ?_ (by have := HE1.out.size; omega) _)
end

section
open Go.RowKit

theorem ex_fill : fillErr exH exF = 0 := by decide +kernel
theorem ex_tab : tabOk exH.vol = true := by decide +kernel
theorem ex_le : firstX exH.vol ≤ lastX exH.vol := by decide +kernel
theorem ex_mass : tellS exH exF (denS exH exF (volS exH exF)) = (320, 480, 0) := by decide +kernel
theorem ex_heel : tellS exH exF (denS exH exF (momS exH exF)) = (256, 400, 0) := by decide +kernel
theorem ex_ullage : UllageS exH 400 400 800 800 = (49, 51, 0) := by decide +kernel
theorem ex_massErr : massErr 80 80 800 800 = 0 := by decide +kernel
theorem ex_over : overS exH.vol 40 60 = (400, 600, 0) := by decide +kernel
theorem ex_litres : litresS 80 80 800 800 = (100, 100) := by decide +kernel
theorem ex_mix : mixS 800 800 800 800 = (800, 800) := by decide +kernel
theorem ex_ull : ullS exH.vol 500 700 = (29, 51, 0) := by decide +kernel
theorem ex_meet : meetS 29 51 0 60 = (29, 51, 0) := by decide +kernel
theorem ex_moved : movedS exH.vol 1 500 700 0 60 800 800 = (⟨1, 3, 29, 51, 800, 800⟩, 0) := by
  unfold movedS; rw [ex_ull]; dsimp only; rw [ex_meet]; rfl
theorem ex_mom : momS exH exF = (320, 500) := by decide +kernel
theorem ex_prs : prs exMom = [⟨((0, 0, 0), (50, 400, 500)), by unfold Okp; decide⟩, ⟨((50, 400, 500), (100, 0, 0)), by unfold Okp; decide⟩] := by
  have h := prs_pcs (ps := exMom) (by decide +kernel)
  refine (List.map_inj_right (f := Subtype.val) (fun a b e => Subtype.ext e)).1 ?_
  rw [h]; rfl
theorem ex_runs : runsF (whereS 500 1000000000) (prs exMom) = [(50, 50)] := by rw [ex_prs]; decide +kernel
theorem ex_where : whereE exMom 500 1000000000 = 0 := by decide +kernel
theorem ex_worst : worstS exH exF 50 = (50, 500, 0) := by decide +kernel
end

section
open Go.RowKit
attribute [local go_sem ↓] eqlRange neqRange
theorem example_lit (w : World) : Calls Tryz.prog 26 #[] w fun e w' => ∃ g1 g2 g3, e = .returned (.tuple #[.agg #[.int .i64 1, .int .i64 0, .int .i64 0, .slice (some ⟨g1, 0, none⟩) 2 2, .slice (some ⟨g2, 0, none⟩) 3 3, .slice (some ⟨g3, 0, none⟩) 2 2, .int .i64 10, .int .i64 20, .int .i64 50, .int .i64 60, .int .i64 1000, .int .i64 1010, .int .i64 300, .int .i64 300], .agg #[.int .i64 1, .int .i64 3, .int .i64 40, .int .i64 60, .int .i64 800, .int .i64 800]]) ∧ HoldIn w' exH (exM g1 g2 g3) ∧ Below w.heap.size w w' := example_any w

theorem msane_any (w : World) : Calls Tryz.prog 11 #[] w fun e w' => e = .returned (.bool true) ∧ Below w.heap.size w w' := by
 go_enter Tryz.func11, Tryz.ntmps11
 go_wp2_with fail
 refine (example_lit w).mono ?_
 rintro e w1 ⟨g1, g2, g3, rfl, hi, hb⟩
 have CE : Hid (∀ W, Below w1.heap.size w1 W → HoldIn W exH (exM g1 g2 g3)) := zH fun W hW => hi.below hW
 have HE0 := zH hb
 clear hb hi
 have CM : Hid (∀ W, Below w1.heap.size w1 W → Calls Tryz.prog 27 #[.agg #[.int .i64 1, .int .i64 0, .int .i64 0, .slice (some ⟨g1, 0, none⟩) 2 2, .slice (some ⟨g2, 0, none⟩) 3 3, .slice (some ⟨g3, 0, none⟩) 2 2, .int .i64 10, .int .i64 20, .int .i64 50, .int .i64 60, .int .i64 1000, .int .i64 1010, .int .i64 300, .int .i64 300], .agg #[.int .i64 1, .int .i64 3, .int .i64 40, .int .i64 60, .int .i64 800, .int .i64 800]] W fun e w' => e = .returned (.tuple #[rv 320 480, .int .i64 0]) ∧ Below W.heap.size W w') := zH fun W hW => rt_to (hMass_any exH (exM g1 g2 g3) exF W (CE.out W hW)) ex_mass
 have CH : Hid (∀ W, Below w1.heap.size w1 W → Calls Tryz.prog 22 #[.agg #[.int .i64 1, .int .i64 0, .int .i64 0, .slice (some ⟨g1, 0, none⟩) 2 2, .slice (some ⟨g2, 0, none⟩) 3 3, .slice (some ⟨g3, 0, none⟩) 2 2, .int .i64 10, .int .i64 20, .int .i64 50, .int .i64 60, .int .i64 1000, .int .i64 1010, .int .i64 300, .int .i64 300], .agg #[.int .i64 1, .int .i64 3, .int .i64 40, .int .i64 60, .int .i64 800, .int .i64 800]] W fun e w' => e = .returned (.tuple #[rv 256 400, .int .i64 0]) ∧ Below W.heap.size W w') := zH fun W hW => rt_to (hHeel_any exH (exM g1 g2 g3) exF W (CE.out W hW)) ex_heel
 have CU : Hid (∀ W, Below w1.heap.size w1 W → Calls Tryz.prog 28 #[.agg #[.int .i64 1, .int .i64 0, .int .i64 0, .slice (some ⟨g1, 0, none⟩) 2 2, .slice (some ⟨g2, 0, none⟩) 3 3, .slice (some ⟨g3, 0, none⟩) 2 2, .int .i64 10, .int .i64 20, .int .i64 50, .int .i64 60, .int .i64 1000, .int .i64 1010, .int .i64 300, .int .i64 300], rv 400 400, rv 800 800] W fun e w' => e = .returned (.tuple #[rv 49 51, .int .i64 0]) ∧ Below W.heap.size W w') := zH fun W hW => rt_to (hUllage_any exH (exM g1 g2 g3) 400 400 800 800 W (CE.out W hW)) ex_ullage
 have CP : Hid (∀ W, Below w1.heap.size w1 W → Calls Tryz.prog 29 #[.agg #[.int .i64 1, .int .i64 0, .int .i64 0, .slice (some ⟨g1, 0, none⟩) 2 2, .slice (some ⟨g2, 0, none⟩) 3 3, .slice (some ⟨g3, 0, none⟩) 2 2, .int .i64 10, .int .i64 20, .int .i64 50, .int .i64 60, .int .i64 1000, .int .i64 1010, .int .i64 300, .int .i64 300], .agg #[.int .i64 1, .int .i64 3, .int .i64 40, .int .i64 60, .int .i64 800, .int .i64 800], rv 80 80, rv 800 800] W fun e w' => e = .returned (.tuple #[.agg #[.int .i64 1, .int .i64 3, .int .i64 29, .int .i64 51, .int .i64 800, .int .i64 800], .int .i64 0]) ∧ Below W.heap.size W w') := zH fun W hW => by
  have h := pour_three exH.vol exH.mom exH.hei 1 0 0 10 20 50 60 1000 1010 300 300 (some ⟨g1, 0, none⟩) (some ⟨g2, 0, none⟩) (some ⟨g3, 0, none⟩) 2 2 3 3 2 2 1 40 60 800 800 80 80 800 800 400 600 100 100 500 700 W (CE.out W hW) ex_fill ex_massErr (by omega) ex_tab ex_le ex_over ex_litres (IntWalk.i64_in _ ⟨by omega, by omega⟩) (IntWalk.i64_in _ ⟨by omega, by omega⟩)
  rw [ex_mix, show firstX exH.vol = 0 from by decide +kernel] at h
  dsimp only at h
  rw [ex_moved] at h
  exact h
 have CW : Hid (∀ W, Below w1.heap.size w1 W → Calls Tryz.prog 30 #[.agg #[.int .i64 1, .int .i64 0, .int .i64 0, .slice (some ⟨g1, 0, none⟩) 2 2, .slice (some ⟨g2, 0, none⟩) 3 3, .slice (some ⟨g3, 0, none⟩) 2 2, .int .i64 10, .int .i64 20, .int .i64 50, .int .i64 60, .int .i64 1000, .int .i64 1010, .int .i64 300, .int .i64 300], .agg #[.int .i64 1, .int .i64 3, .int .i64 40, .int .i64 60, .int .i64 800, .int .i64 800]] W fun e w' => e = .returned (.tuple #[.int .i64 50, .int .i64 500, .int .i64 0]) ∧ Below W.heap.size W w') := zH fun W hW => by
  have h := worst_of exH (exM g1 g2 g3) exF [(50, 50)] 0 (50, 50) W (CE.out W hW) (fun _ _ => by
   rw [ex_mom]
   exact ⟨by decide, ex_where, ex_runs, rfl, by decide, fun j z hj => by omega⟩)
  rw [ex_worst] at h
  exact h
 clear CE
 have HE1 := zH (show Below w1.heap.size w1 ((w1.alloc (.cells #[.int .i64 1, .int .i64 0, .int .i64 0, .slice (some ⟨g1, 0, none⟩) 2 2, .slice (some ⟨g2, 0, none⟩) 3 3, .slice (some ⟨g3, 0, none⟩) 2 2, .int .i64 10, .int .i64 20, .int .i64 50, .int .i64 60, .int .i64 1000, .int .i64 1010, .int .i64 300, .int .i64 300] 40)).alloc (.cells #[.int .i64 1, .int .i64 3, .int .i64 40, .int .i64 60, .int .i64 800, .int .i64 800] 43)) from below_a2 (Below.refl _ _))
 have HK1 := zH (boxes2' w1 40 43 #[.int .i64 1, .int .i64 0, .int .i64 0, .slice (some ⟨g1, 0, none⟩) 2 2, .slice (some ⟨g2, 0, none⟩) 3 3, .slice (some ⟨g3, 0, none⟩) 2 2, .int .i64 10, .int .i64 20, .int .i64 50, .int .i64 60, .int .i64 1000, .int .i64 1010, .int .i64 300, .int .i64 300] #[.int .i64 1, .int .i64 3, .int .i64 40, .int .i64 60, .int .i64 800, .int .i64 800])
 go_upto_region 2 with fail
 obtain ⟨W1, hW1⟩ : ∃ W1, (w1.alloc (.cells #[.int .i64 1, .int .i64 0, .int .i64 0, .slice (some ⟨g1, 0, none⟩) 2 2, .slice (some ⟨g2, 0, none⟩) 3 3, .slice (some ⟨g3, 0, none⟩) 2 2, .int .i64 10, .int .i64 20, .int .i64 50, .int .i64 60, .int .i64 1000, .int .i64 1010, .int .i64 300, .int .i64 300] 40)).alloc (.cells #[.int .i64 1, .int .i64 3, .int .i64 40, .int .i64 60, .int .i64 800, .int .i64 800] 43) = W1 := ⟨_, rfl⟩
 rw [hW1] at HE1 HK1 ⊢
 clear hW1
 obtain ⟨G, hG⟩ : ∃ G, w1.heap.size = G := ⟨_, rfl⟩
 rw [hG] at HK1 ⊢
 have HG := zH hG; clear hG
 have f := HK1.out _ (.head _)
 have f4 := f.cell 4
 have f5 := f.cell 5
 simp at f4 f5
 clear f
 have HE2 := zH (below_then HE1.out (below_alloc1 W1 (.cells #[.int .i64 800, .int .i64 800] 35))); have HK2 := zH (HK1.out.new 35 #[.int .i64 800, .int .i64 800])
 clear HE1 HK1
 go_upto_region 3 with fail
 obtain ⟨W2, hW⟩ : ∃ W2, W1.alloc (.cells #[.int .i64 800, .int .i64 800] 35) = W2 := ⟨_, rfl⟩
 rw [hW] at HE2 HK2 ⊢
 clear hW f4 f5
 obtain ⟨N2, hN⟩ : ∃ N, W1.heap.size = N := ⟨_, rfl⟩
 rw [hN] at HK2 ⊢
 clear hN
 have h := HK2.out _ (.tail _ (.tail _ (.head _)))
 have h0 := h.cell 0
 have h1 := h.cell 1
 have h2 := h.cell 2
 have h3 := h.cell 3
 have h4 := h.cell 4
 have h5 := h.cell 5
 have h6 := h.cell 6
 have h7 := h.cell 7
 have h8 := h.cell 8
 have h9 := h.cell 9
 have h10 := h.cell 10
 have h11 := h.cell 11
 have h12 := h.cell 12
 have h13 := h.cell 13
 simp at h0 h1 h2 h3 h4 h5 h6 h7 h8 h9 h10 h11 h12 h13
 clear h
 have f := HK2.out _ (.tail _ (.head _))
 have f0 := f.cell 0
 have f1 := f.cell 1
 have f2 := f.cell 2
 have f3 := f.cell 3
 have f4 := f.cell 4
 have f5 := f.cell 5
 simp at f0 f1 f2 f3 f4 f5
 clear f
 go_wp2_with fail
 refine (CM.out _ HE2.out).mono ?_
 rintro e y2 ⟨rfl, hb⟩
 have HE3 := zH (below_then (below_then HE2.out hb) (below_alloc1 y2 (.cells #[.int .i64 320, .int .i64 480] 35))); have HK3 := zH ((HK2.out.on hb).new 35 #[.int .i64 320, .int .i64 480])
 clear hb HE2 HK2 h0 h1 h2 h3 h4 h5 h6 h7 h8 h9 h10 h11 h12 h13 f0 f1 f2 f3 f4 f5
 go_upto_region 4 with fail
 obtain ⟨W3, hW⟩ : ∃ W3, y2.alloc (.cells #[.int .i64 320, .int .i64 480] 35) = W3 := ⟨_, rfl⟩
 rw [hW] at HE3 HK3 ⊢
 clear hW
 obtain ⟨N3, hN⟩ : ∃ N, y2.heap.size = N := ⟨_, rfl⟩
 rw [hN] at HK3 ⊢
 clear hN
 have h := HK3.out _ (.tail _ (.tail _ (.tail _ (.head _))))
 have h0 := h.cell 0
 have h1 := h.cell 1
 have h2 := h.cell 2
 have h3 := h.cell 3
 have h4 := h.cell 4
 have h5 := h.cell 5
 have h6 := h.cell 6
 have h7 := h.cell 7
 have h8 := h.cell 8
 have h9 := h.cell 9
 have h10 := h.cell 10
 have h11 := h.cell 11
 have h12 := h.cell 12
 have h13 := h.cell 13
 simp at h0 h1 h2 h3 h4 h5 h6 h7 h8 h9 h10 h11 h12 h13
 clear h
 have f := HK3.out _ (.tail _ (.tail _ (.head _)))
 have f0 := f.cell 0
 have f1 := f.cell 1
 have f2 := f.cell 2
 have f3 := f.cell 3
 have f4 := f.cell 4
 have f5 := f.cell 5
 simp at f0 f1 f2 f3 f4 f5
 clear f
 go_wp2_with fail
 refine (CH.out _ HE3.out).mono ?_
 rintro e y3 ⟨rfl, hb⟩
 have HE4 := zH (below_then (below_then HE3.out hb) (below_alloc1 y3 (.cells #[.int .i64 256, .int .i64 400] 35))); have HK4 := zH ((HK3.out.on hb).new 35 #[.int .i64 256, .int .i64 400])
 clear hb HE3 HK3 h0 h1 h2 h3 h4 h5 h6 h7 h8 h9 h10 h11 h12 h13 f0 f1 f2 f3 f4 f5
 go_upto_region 5 with fail
 obtain ⟨W4, hW⟩ : ∃ W4, y3.alloc (.cells #[.int .i64 256, .int .i64 400] 35) = W4 := ⟨_, rfl⟩
 rw [hW] at HE4 HK4 ⊢
 clear hW
 obtain ⟨N4, hN⟩ : ∃ N, y3.heap.size = N := ⟨_, rfl⟩
 rw [hN] at HK4 ⊢
 clear hN
 have h := HK4.out _ (.tail _ (.tail _ (.tail _ (.tail _ (.head _)))))
 have h0 := h.cell 0
 have h1 := h.cell 1
 have h2 := h.cell 2
 have h3 := h.cell 3
 have h4 := h.cell 4
 have h5 := h.cell 5
 have h6 := h.cell 6
 have h7 := h.cell 7
 have h8 := h.cell 8
 have h9 := h.cell 9
 have h10 := h.cell 10
 have h11 := h.cell 11
 have h12 := h.cell 12
 have h13 := h.cell 13
 simp at h0 h1 h2 h3 h4 h5 h6 h7 h8 h9 h10 h11 h12 h13
 clear h
 have d := HK4.out _ (.tail _ (.tail _ (.head _)))
 have d0 := d.cell 0
 have d1 := d.cell 1
 simp at d0 d1
 clear d
 go_wp2_with fail
 refine (CU.out _ HE4.out).mono ?_
 rintro e y4 ⟨rfl, hb⟩
 have HE5 := zH (below_then (below_then HE4.out hb) (below_alloc1 y4 (.cells #[.int .i64 49, .int .i64 51] 35))); have HK5 := zH ((HK4.out.on hb).new 35 #[.int .i64 49, .int .i64 51])
 clear hb HE4 HK4 h0 h1 h2 h3 h4 h5 h6 h7 h8 h9 h10 h11 h12 h13 d0 d1
 go_upto_region 6 with fail
 obtain ⟨W5, hW⟩ : ∃ W5, y4.alloc (.cells #[.int .i64 49, .int .i64 51] 35) = W5 := ⟨_, rfl⟩
 rw [hW] at HE5 HK5 ⊢
 clear hW
 obtain ⟨N5, hN⟩ : ∃ N, y4.heap.size = N := ⟨_, rfl⟩
 rw [hN] at HK5 ⊢
 clear hN
 have h := HK5.out _ (.tail _ (.tail _ (.tail _ (.tail _ (.tail _ (.head _))))))
 have h0 := h.cell 0
 have h1 := h.cell 1
 have h2 := h.cell 2
 have h3 := h.cell 3
 have h4 := h.cell 4
 have h5 := h.cell 5
 have h6 := h.cell 6
 have h7 := h.cell 7
 have h8 := h.cell 8
 have h9 := h.cell 9
 have h10 := h.cell 10
 have h11 := h.cell 11
 have h12 := h.cell 12
 have h13 := h.cell 13
 simp at h0 h1 h2 h3 h4 h5 h6 h7 h8 h9 h10 h11 h12 h13
 clear h
 have f := HK5.out _ (.tail _ (.tail _ (.tail _ (.tail _ (.head _)))))
 have f0 := f.cell 0
 have f1 := f.cell 1
 have f2 := f.cell 2
 have f3 := f.cell 3
 have f4 := f.cell 4
 have f5 := f.cell 5
 simp at f0 f1 f2 f3 f4 f5
 clear f
 have d := HK5.out _ (.tail _ (.tail _ (.tail _ (.head _))))
 have d0 := d.cell 0
 have d1 := d.cell 1
 simp at d0 d1
 clear d
 go_wp2_with fail
 refine (CP.out _ HE5.out).mono ?_
 rintro e y5 ⟨rfl, hb⟩
 have HE6 := zH (below_then (below_then HE5.out hb) (below_alloc1 y5 (.cells #[.int .i64 1, .int .i64 3, .int .i64 29, .int .i64 51, .int .i64 800, .int .i64 800] 43))); have HK6 := zH ((HK5.out.on hb).new 43 #[.int .i64 1, .int .i64 3, .int .i64 29, .int .i64 51, .int .i64 800, .int .i64 800])
 clear hb HE5 HK5 h0 h1 h2 h3 h4 h5 h6 h7 h8 h9 h10 h11 h12 h13 f0 f1 f2 f3 f4 f5 d0 d1
 go_upto_region 7 with fail
 obtain ⟨W6, hW⟩ : ∃ W6, y5.alloc (.cells #[.int .i64 1, .int .i64 3, .int .i64 29, .int .i64 51, .int .i64 800, .int .i64 800] 43) = W6 := ⟨_, rfl⟩
 rw [hW] at HE6 HK6 ⊢
 clear hW
 obtain ⟨N6, hN⟩ : ∃ N, y5.heap.size = N := ⟨_, rfl⟩
 rw [hN] at HK6 ⊢
 clear hN
 have h := HK6.out _ (.tail _ (.tail _ (.tail _ (.tail _ (.tail _ (.tail _ (.head _)))))))
 have h0 := h.cell 0
 have h1 := h.cell 1
 have h2 := h.cell 2
 have h3 := h.cell 3
 have h4 := h.cell 4
 have h5 := h.cell 5
 have h6 := h.cell 6
 have h7 := h.cell 7
 have h8 := h.cell 8
 have h9 := h.cell 9
 have h10 := h.cell 10
 have h11 := h.cell 11
 have h12 := h.cell 12
 have h13 := h.cell 13
 simp at h0 h1 h2 h3 h4 h5 h6 h7 h8 h9 h10 h11 h12 h13
 clear h
 have f := HK6.out _ (.tail _ (.tail _ (.tail _ (.tail _ (.tail _ (.head _))))))
 have f0 := f.cell 0
 have f1 := f.cell 1
 have f2 := f.cell 2
 have f3 := f.cell 3
 have f4 := f.cell 4
 have f5 := f.cell 5
 simp at f0 f1 f2 f3 f4 f5
 clear f
 go_wp2_with fail
 refine (CW.out _ HE6.out).mono ?_
 rintro e y6 ⟨rfl, hb⟩
 have HE7 := zH (below_then HE6.out hb); have HK7 := zH (HK6.out.on hb)
 clear hb HE6 HK6 h0 h1 h2 h3 h4 h5 h6 h7 h8 h9 h10 h11 h12 h13 f0 f1 f2 f3 f4 f5
 have m := HK7.out _ (.tail _ (.tail _ (.tail _ (.head _))))
 have m0 := m.cell 0
 have m1 := m.cell 1
 simp at m0 m1
 clear m
 have x := HK7.out _ (.tail _ (.tail _ (.head _)))
 have x0 := x.cell 0
 have x1 := x.cell 1
 simp at x0 x1
 clear x
 have u := HK7.out _ (.tail _ (.head _))
 have u0 := u.cell 0
 have u1 := u.cell 1
 simp at u0 u1
 clear u
 have q := HK7.out _ (.head _)
 have q2 := q.cell 2
 have q3 := q.cell 3
 simp at q2 q3
 clear q
 go_wp2
 go_ret
 exact ⟨rfl, below_then HE0.out HE7.out⟩
end

section
open Go.RowKit
section
attribute [local go_sem ↓] eqRange9
theorem eqWeight (a b c e f g : Int) (w : World) : (Op.equalIn 10000 73 (.agg #[.int .i64 a, .int .i64 b, .int .i64 c, .int .i64 e, .int .i64 f, .int .i64 g]) (.agg #[.int .i64 a, .int .i64 b, .int .i64 c, .int .i64 e, .int .i64 f, .int .i64 g])).run Tryz.prog w = .ok true w := by
  have u3 := Tryz.underlying3
  have hS : Tryz.prog.underlying 73 = some (.struct (Tryz.prog.fieldsOf 73)) := by kernel_rfl
  have hp : Tryz.prog.stoodInHeld 73 = false := by kernel_rfl
  rw [show (10000 : Nat) = 9999 + 1 from rfl, run_equalIn_agg w 9999 73 _ _ hS hp]
  clear hS hp
  simp only [Program.fieldsOf, Tryz.underlying73]
  go_simp
end
@[go_sem] theorem eqGuardWeight (op : BinOp) (x y : Operand) (xs ys : Array Value) (w : World) : (eqGuard op 73 x y (.agg xs) (.agg ys)).run Tryz.prog w = .ok () w :=
  run_eqGuard_agg w op 73 x y xs ys (by kernel_rfl)
theorem eqlWeight (a b c e f g : Int) (w : World) : (binOp .eql 73 (.agg #[.int .i64 a, .int .i64 b, .int .i64 c, .int .i64 e, .int .i64 f, .int .i64 g]) (.agg #[.int .i64 a, .int .i64 b, .int .i64 c, .int .i64 e, .int .i64 f, .int .i64 g])).run Tryz.prog w = .ok (.bool true) w := by
  rw [run_eql_struct, eqWeight]; rfl
attribute [local go_sem ↓] eqlRange neqRange eqlWeight
end

section
open Go.RowKit

def zeroF (f : Nat → Int × Int) (k : Nat) : Int × Int := if k = 0 then (0, 0) else f k
theorem zero_rows {xs : List Int} {f : Nat → Int × Int} : ∀ n : Nat, n ≤ xs.length → zeroFirst (rowsTo xs f n) = rowsTo xs (zeroF f) n
  | 0, _ => rfl
  | k + 1, h => by
    obtain ⟨x, hx⟩ : ∃ x, xs[k]? = some x := ⟨_, List.getElem?_eq_getElem (show k < xs.length by omega)⟩
    have ih := zero_rows (xs := xs) (f := f) k (by omega)
    have hl := rowsTo_len xs f k (by omega)
    rw [rowsTo_succ hx, rowsTo_succ hx, ← ih]
    cases k with
    | zero => rfl
    | succ j =>
      cases hr : rowsTo xs f (j + 1) with
      | nil => rw [hr] at hl; simp at hl
      | cons a r => simp [zeroFirst, zeroF]
theorem rises_of : ∀ (ps : List P3), (∀ k p q, ps[k]? = some p → ps[k + 1]? = some q → p.2.1 ≤ q.2.1 ∧ p.2.2 ≤ q.2.2) → risesS ps = true
  | [], _ => rfl
  | [_], _ => rfl
  | p :: q :: r, h => by
    have h1 := h 0 p q rfl rfl
    have h2 := rises_of (q :: r) fun k a b ha hb => h (k + 1) a b ha hb
    rw [risesS, h2]
    simp [h1.1, h1.2]
theorem rises_rows {fi : Int} {st : List Int} {f : Nat → Int × Int} {n : Nat} (hn : n = (xsS fi st).length) (hf : ∀ j, j < n → 0 ≤ (f j).1 ∧ (f j).1 ≤ (f j).2 ∧ (f j).2 ≤ 1000000000) (hu : ∀ k, (f k).1 ≤ (f (k + 1)).1 ∧ (f k).2 ≤ (f (k + 1)).2) : risesS (rowsTo (xsS fi st) f n) = true := by
  have r := rows3 (f := f) hn (fun j hj => by have := hf j hj; omega)
  refine rises_of _ fun k p q hp hq => ?_
  obtain ⟨k1, e1⟩ := r.at_ k p hp
  obtain ⟨k2, e2⟩ := r.at_ (k + 1) q hq
  rw [e1, e2]
  exact hu k
theorem slope_in (vs : List Int) (fr : Int) {mo : Int} (g0 : 0 < mo) (g1 : mo ≤ 1000000) (n : Nat) (h8 : n ≤ 8) (j : Nat) (hj : j < n) : 0 ≤ (slopeF vs fr mo j).1 ∧ (slopeF vs fr mo j).1 ≤ (slopeF vs fr mo j).2 ∧ (slopeF vs fr mo j).2 ≤ 1000000000 := by
  obtain ⟨h1, h2, h3⟩ := slopeF_in vs fr g0 g1 j (by omega)
  omega
theorem zero_in {f : Nat → Int × Int} {n : Nat} (hf : ∀ j, j < n → 0 ≤ (f j).1 ∧ (f j).1 ≤ (f j).2 ∧ (f j).2 ≤ 1000000000) (j : Nat) (hj : j < n) : 0 ≤ (zeroF f j).1 ∧ (zeroF f j).1 ≤ (zeroF f j).2 ∧ (zeroF f j).2 ≤ 1000000000 := by
  have := hf j hj
  unfold zeroF
  split
  · simp
  · exact this
theorem zero_up {f : Nat → Int × Int} (h0 : ∀ k, 0 ≤ (f k).1 ∧ 0 ≤ (f k).2) (hu : ∀ k, (f k).1 ≤ (f (k + 1)).1 ∧ (f k).2 ≤ (f (k + 1)).2) (k : Nat) : (zeroF f k).1 ≤ (zeroF f (k + 1)).1 ∧ (zeroF f k).2 ≤ (zeroF f (k + 1)).2 := by
  unfold zeroF
  rw [if_neg (show ¬ k + 1 = 0 by omega)]
  split
  · exact h0 (k + 1)
  · exact hu k
theorem slope_pos (vs : List Int) (fr : Int) {mo : Int} (g0 : 0 < mo) (g1 : mo ≤ 1000000) (k : Nat) : 0 ≤ (slopeF vs fr mo k).1 ∧ 0 ≤ (slopeF vs fr mo k).2 := by
  obtain ⟨h1, h2, _⟩ := slopeF_in vs fr g0 g1 0 (by omega)
  have h3 := slope_up vs fr g0 k 0
  rw [Nat.zero_add] at h3
  omega
theorem slope_next (vs : List Int) (fr : Int) {mo : Int} (g0 : 0 < mo) (k : Nat) : (slopeF vs fr mo k).1 ≤ (slopeF vs fr mo (k + 1)).1 ∧ (slopeF vs fr mo k).2 ≤ (slopeF vs fr mo (k + 1)).2 := slope_up vs fr g0 1 k
theorem tank_vol (r : RawD) : ∃ f : Nat → Int × Int, tankVol r = rowsTo (xsS r.fi r.st) f (xsS r.fi r.st).length ∧ (∀ j, j < (xsS r.fi r.st).length → 0 ≤ (f j).1 ∧ (f j).1 ≤ (f j).2 ∧ (f j).2 ≤ 1000000000) ∧ (∀ k, (f k).1 ≤ (f (k + 1)).1 ∧ (f k).2 ≤ (f (k + 1)).2) := by
  have h8 := xsS_len r.fi r.st
  have e : slopedL r.vs 3 300 false (xsS r.fi r.st) (xsS r.fi r.st).length = rowsTo (xsS r.fi r.st) (slopeF r.vs 3 300) (xsS r.fi r.st).length := by unfold slopedL; rw [if_neg (by decide)]
  have f1 : ∀ j, j < (xsS r.fi r.st).length → 0 ≤ (slopeF r.vs 3 300 j).1 ∧ (slopeF r.vs 3 300 j).1 ≤ (slopeF r.vs 3 300 j).2 ∧ (slopeF r.vs 3 300 j).2 ≤ 1000000000 := fun j hj => slope_in r.vs 3 (by omega) (by omega) _ (by omega) j hj
  unfold tankVol
  rw [e]
  by_cases g : pickS r.vs 9 % 2 = 0
  · rw [if_pos g]
    exact ⟨zeroF (slopeF r.vs 3 300), zero_rows _ (Nat.le_refl _), fun j hj => zero_in f1 j hj, zero_up (fun k => slope_pos r.vs 3 (by omega) (by omega) k) (fun k => slope_next r.vs 3 (by omega) k)⟩
  · rw [if_neg g]
    exact ⟨slopeF r.vs 3 300, rfl, f1, fun k => slope_next r.vs 3 (by omega) k⟩
theorem madeT_valid (r : RawD) : tankS (madeT r) = true := by
  have h8 := xsS_len r.fi r.st
  obtain ⟨a1, a2⟩ := emod_in r.id (show (0 : Int) < 9 by omega)
  obtain ⟨b1, b2⟩ := emod_in (pickS r.vs 4) (show (0 : Int) < 2001 by omega)
  obtain ⟨c1, c2⟩ := emod_in (pickS r.vs 5) (show (0 : Int) < 30 by omega)
  obtain ⟨f, hv, hf, hu⟩ := tank_vol r
  have eh : slopedL r.vs 7 90 false (xsS r.fi r.st) (xsS r.fi r.st).length = rowsTo (xsS r.fi r.st) (slopeF r.vs 7 90) (xsS r.fi r.st).length := by unfold slopedL; rw [if_neg (by decide)]
  have f2 : ∀ j, j < (xsS r.fi r.st).length → 0 ≤ (slopeF r.vs 7 90 j).1 ∧ (slopeF r.vs 7 90 j).1 ≤ (slopeF r.vs 7 90 j).2 ∧ (slopeF r.vs 7 90 j).2 ≤ 1000000000 := fun j hj => slope_in r.vs 7 (by omega) (by omega) _ (by omega) j hj
  have mv : measuresS (rowsTo (xsS r.fi r.st) f (xsS r.fi r.st).length) = true := measures_rows rfl hf
  have mh : measuresS (rowsTo (xsS r.fi r.st) (slopeF r.vs 7 90) (xsS r.fi r.st).length) = true := measures_rows rfl f2
  have mm : measuresS (rowsTo (xsS r.fi r.st) (freeF r.vs 2 500) (xsS r.fi r.st).length) = true := measures_rows rfl fun j hj => free_in r.vs 2 (by omega) (by omega) j
  have fv := rises_rows (fi := r.fi) (st := r.st) rfl hf hu
  have fh := rises_rows (fi := r.fi) (st := r.st) rfl f2 (fun k => slope_next r.vs 7 (by omega) k)
  obtain ⟨x1, y1⟩ := rows_first (fi := r.fi) (st := r.st) (f := f) rfl
  obtain ⟨x2, y2⟩ := rows_first (fi := r.fi) (st := r.st) (f := slopeF r.vs 7 90) rfl
  obtain ⟨x3, y3⟩ := rows_first (fi := r.fi) (st := r.st) (f := freeF r.vs 2 500) rfl
  unfold tankS madeT ctRest alongS inB
  dsimp only
  rw [hv, eh, mv, mh, mm, fv, fh, x1, x2, x3, y1, y2, y3]
  simp only [Bool.and_eq_true, decide_eq_true_eq, and_true, true_and]
  omega
theorem madeL_ok {t : TankD} (e : tankS t = true) (hle : firstX t.vol ≤ lastX t.vol) (x0 x1 x2 x3 x4 : Int) : levelErr t (madeL t x0 x1 x2 x3 x4) = 0 := by
  obtain ⟨a1, a2⟩ := emod_in x1 (show (0 : Int) < lastX t.vol - firstX t.vol + 1 by omega)
  obtain ⟨a3, a4⟩ := emod_in x2 (show (0 : Int) < min (lastX t.vol - (firstX t.vol + x1 % (lastX t.vol - firstX t.vol + 1))) 25 + 1 by omega)
  obtain ⟨b1, b2⟩ := emod_in x3 (show (0 : Int) < 900 by omega)
  obtain ⟨b3, b4⟩ := emod_in x4 (show (0 : Int) < 200 by omega)
  unfold levelErr
  rw [if_pos e]
  have : levelS t (madeL t x0 x1 x2 x3 x4) = true := by
    unfold levelS madeL densS inB
    split
    · unfold densityS
      simp only [Bool.and_eq_true, Bool.or_eq_true, decide_eq_true_eq]
      refine ⟨by trivial, by omega, by omega, by simp⟩
    · unfold spanS densityS
      simp only [Bool.and_eq_true, Bool.or_eq_true, decide_eq_true_eq]
      refine ⟨by trivial, by omega, by omega, by simp⟩
  rw [if_pos this]
end

section
open Go.ChangeShapes Go.WideShapes Go.ChangeAt Go.RowKit Go.Joins

theorem own : ownKnob Tryz.prog.godebug = none := by kernel_rfl
theorem laidOut : laidOutB Tryz.prog = true := by kernel_rfl

theorem trodAll_below {H : Type} {enc : TypeId × Value → H} {W W' : World} (hb : Below W.heap.size W W') :
    ∀ (ts : List TypeId) (vs : List Value) (ds : List (DataW H)) (ps : List MemPlace), (∀ t ∈ ts, Tryz.prog.readableRec t = true ∧ t < Tryz.prog.types.size) →
    DataW.TrodAll enc Tryz.prog W 0 (fun _ => true) true ts vs ds ps → (∀ x ∈ ps, x.block < W.heap.size) → DataW.TrodAll enc Tryz.prog W' 0 (fun b => decide (b < W.heap.size)) true ts vs ds ps
  | [], [], [], ps, _, h, _ => h
  | t :: ts, v :: vs, d :: ds, ps, ht, h, hlt => by
    obtain ⟨p, q, h0, h1, rfl⟩ := h
    exact ⟨p, q, Below.trod laidOut (ht t (by simp)).1 (ht t (by simp)).2 h0 hb (fun x hx => hlt x (by simp [hx])),
      trodAll_below hb ts vs ds q (fun t' h' => ht t' (by simp [h'])) h1 (fun x hx => hlt x (by simp [hx])), rfl⟩
  | [], [], _ :: _, _, _, h, _ => by cases h
  | [], _ :: _, _, _, _, h, _ => by cases h
  | _ :: _, [], _, _, _, h, _ => by cases h
  | _ :: _, _ :: _, [], _, _, h, _ => by cases h

theorem law_post {H : Type} {enc : TypeId × Value → H} {f : Func} {s : ChangeSpec} {W W' : World} {args : Array Value} {ds gs : List (DataW H)} {before : List MemPlace}
    (hv : s.vars = []) (hrt : f.resultTypes = #[4]) (hts : ∀ t ∈ f.params.toList, Tryz.prog.readableRec t = true ∧ t < Tryz.prog.types.size)
    (hW : DataW.Whole enc Tryz.prog f.params.toList s.vars false W args.toList ds gs before)
    (hres : (s.fn H (ds ++ gs)).results = [.lit (.bool true)]) (hargs : (s.fn H (ds ++ gs)).args = ds) (hvars : (s.fn H (ds ++ gs)).vars = []) (hb : Below W.heap.size W W') :
    s.post enc Tryz.prog f false true false false W args (.bool true) W' := by
  have hW' := hW
  obtain ⟨p, q, hA, hV, rfl, hfz, hnd⟩ := hW
  rw [hv] at hV
  obtain ⟨rfl, rfl⟩ := trodVars_none hV
  have hA' := trodAll_below hb _ _ _ _ hts hA (fun x hx => by simpa using hW'.lt x (by simp [hx]))
  refine ⟨_, _, _, [], p, [], hW', ?_, ?_, ?_, hb.frame _, fun h => by cases h⟩
  · rw [hres, hrt]
    exact trodAll_mk1 (shut_bool Tryz.underlying4 true)
  · rw [hargs]
    exact hA'
  · rw [hvars, hv]
    rfl
end

section
open Go.ChangeShapes Go.WideShapes Go.ChangeAt Go.RowKit Go.Joins Go.Deep

theorem Tryz.cellsInt : Tryz.prog.cellsOf 3 = 1 := by kernel_rfl
theorem okWide_arr {P : Program} {w : World} {r : Reach} {base : Nat} {t e : TypeId} {n : Nat} {v : Value} (ht : P.underlying t = some (.array n e)) (h : Value.okWide P w r base t v) : ∃ cs, v = .agg cs ∧ cs.size = P.cellsOf t := by
  simp only [Value.okWide, ht] at h
  obtain ⟨cs, h1, h2, _⟩ := h
  exact ⟨cs, h1, h2⟩
theorem spot_none {w : World} {a : Addr} {v : Value} (h : w.cell? a = some v) : a = ⟨a.block, a.off, none⟩ ∧ a.block < w.heap.size := by
  obtain ⟨b, o, s⟩ := a
  unfold World.cell? at h
  dsimp only at h ⊢
  split at h
  · rename_i c e f hc
    cases s with
    | none => exact ⟨rfl, (Array.getElem?_eq_some_iff.1 hc).1⟩
    | some k => simp at h
  · cases h
theorem addr_add (b o i : Nat) : (⟨b, o, none⟩ : Addr).add i = ⟨b, o + i, none⟩ := by
  by_cases h : i = 0
  · subst h; simp [Addr.add]
  · simp [Addr.add, h]
end

end Go.Proofs.YtpcmcicnciejpaaGreat
