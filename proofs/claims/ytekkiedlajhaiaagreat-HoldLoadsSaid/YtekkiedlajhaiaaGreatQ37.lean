/- Load of hold where it tells no error. Its conditions: the four lists and what they point to lie in memory. -/
import Derived.Test.YtekkiedlajhaiaaGreatQ35
import Derived.Test.YtekkiedlajhaiaaGreatQ98
set_option linter.unusedVariables false
set_option linter.unusedSimpArgs false
set_option linter.constructorNameAsVariable false
namespace Go.Proofs.YtekkiedlajhaiaaGreat

section
open Go.RowKit

set_option maxRecDepth 100000 in
set_option maxHeartbeats 4000000 in
theorem hLoad_ok (A B C D : Option Addr) (n c m d l e r s : Nat) (L : List (HoldD × HoldM)) (fs : List FillD) (T : List (TankD × HoldM)) (ls : List LevelD) (w : World) (hL : HoldsIn w A n L) (hF : FillsIn w B m fs) (hT : TanksIn w C l T) (hV : LevelsIn w D r ls) (hc : n ≤ c) (he : l ≤ e) (iL : ∀ r ∈ L, HoldIn w r.1 r.2) (iT : ∀ r ∈ T, TankIn w r.1 r.2) (hE : loadErr L fs T ls = 0) :
  Calls Tryz.prog 7 #[.slice A n c, .slice B m d, .slice C l e, .slice D r s] w fun x w' => ∃ v u0 u1 s0 s1, x = .returned (.tuple #[.agg #[v, .int .i64 u0, .int .i64 u1, .int .i64 s0, .int .i64 s1], .int .i64 0]) ∧
   (upToT T ls l).2 = (u0, u1) ∧ (upTo L fs n).2 = (s0, s1) ∧ NWs w.heap.size w' v ((upTo L fs n).1 ++ (upToT T ls l).1) ∧ Below w.heap.size w w' := by
 obtain ⟨lz1, lz2, lz3, lz4, lz5, lz6⟩ := load_zero hE
 obtain ⟨i0, i1, i2, i3, i4⟩ := info_parts Tryz.infoWt
 have C0 : Hid (∀ W, Below w.heap.size w W → Calls Tryz.prog 32 #[.slice A n c, .slice B m d, .slice C l e, .slice D r s] W fun x w' => x = .returned (.int .i64 0) ∧ Below W.heap.size W w') := Lib.hid fun W hW => by
  rw [← hE]; exact checkLoad_any A B C D n c m d l e r s L fs T ls W (hL.below hW) (hF.below hW) (hT.below hW) (hV.below hW) hc he (fun z hz => (iL z hz).below hW) (fun z hz => (iT z hz).below hW)
 obtain ⟨hn, hn2, hA0⟩ := hL
 obtain ⟨hm, hm2, hB0⟩ := hF
 obtain ⟨hl, hl2, hC0⟩ := hT
 obtain ⟨hr, hr2, hD0⟩ := hV
 have HAB : Hid (L = [] ∨ ∃ b o p q, A = some ⟨b, o, none⟩ ∧ b < w.heap.size ∧ HoldsMem w b o L ∧ B = some ⟨p, q, none⟩ ∧ p < w.heap.size ∧ FillsAt w p q fs) := Lib.hid (by
  rcases hA0 with h | ⟨b, o, a1, a2, a3⟩
  ·exact .inl h
  ·rcases hB0 with h | ⟨p, q, b1, b2, b3⟩
   ·left; rw [h] at lz3; exact List.length_eq_zero_iff.1 lz3.symm
   ·exact .inr ⟨b, o, p, q, a1, a2, a3, b1, b2, b3⟩)
 have HCD : Hid (T = [] ∨ ∃ b o p q, C = some ⟨b, o, none⟩ ∧ b < w.heap.size ∧ TanksMem w b o T ∧ D = some ⟨p, q, none⟩ ∧ p < w.heap.size ∧ LevelsAt w p q ls) := Lib.hid (by
  rcases hC0 with h | ⟨b, o, a1, a2, a3⟩
  ·exact .inl h
  ·rcases hD0 with h | ⟨p, q, b1, b2, b3⟩
   ·left; rw [h] at lz4; exact List.length_eq_zero_iff.1 lz4.symm
   ·exact .inr ⟨b, o, p, q, a1, a2, a3, b1, b2, b3⟩)
 clear hA0 hB0 hC0 hD0
 have HMN : Hid (m = n) := Lib.hid (by omega)
 have HRL : Hid (r = l) := Lib.hid (by omega)
 have H9 : Hid (n ≤ 9 ∧ l ≤ 9) := Lib.hid ⟨by omega, by omega⟩
 have HN := Lib.hid hn; have HM := Lib.hid hm; have HL := Lib.hid hl; have HR := Lib.hid hr
 have IH := Lib.hid iL; have IT := Lib.hid iT
 have Z5 := Lib.hid lz5; have Z6 := Lib.hid lz6
 clear hn hn2 hm hm2 hl hl2 hr hr2 hc he iL iT hE lz1 lz2 lz3 lz4 lz5 lz6
 have HE := Lib.hid (show Below w.heap.size w (w.alloc (.cells #[.slice none 0 0, .int .i64 0, .int .i64 0, .int .i64 0, .int .i64 0] 32)) from below_alloc1 w _)
 have HK := Lib.hid (boxes1' w 32 #[.slice none 0 0, .int .i64 0, .int .i64 0, .int .i64 0, .int .i64 0])
 go_enter Tryz.func7, Tryz.ntmps7
 go_upto_region 1 with fail
 obtain ⟨W0, hW0⟩ : ∃ W0 : World, (w.alloc (.cells #[.slice none 0 0, .int .i64 0, .int .i64 0, .int .i64 0, .int .i64 0] 32)) = W0 := ⟨_, rfl⟩
 rw [hW0] at HE HK ⊢
 clear hW0
 obtain ⟨G, hG⟩ : ∃ G, w.heap.size = G := ⟨_, rfl⟩
 rw [hG] at HK ⊢
 have HG := Lib.hid hG; clear hG
 go_wp2_with fail
 refine (C0.out _ HE.out).mono ?_
 rintro x w2 ⟨rfl, hq⟩
 have HE2 := Lib.hid (below_then HE.out hq); have HK2 := Lib.hid (HK.out.on hq)
 clear hq HE HK C0
 go_upto_region 5 with fail
 have HE3 := Lib.hid (below_then HE2.out (below_alloc1 w2 (.cells #[.slice none 0 0, .int .i64 0, .int .i64 0, .int .i64 0, .int .i64 0] 32))); have HK3 := Lib.hid (HK2.out.new 32 #[.slice none 0 0, .int .i64 0, .int .i64 0, .int .i64 0, .int .i64 0])
 have HGM : Hid (G < w2.heap.size ∧ w.heap.size ≤ G) := Lib.hid ⟨(HK2.out _ (.head _)).lt, by rw [HG.out]; exact Nat.le_refl _⟩
 clear HE2 HK2
 obtain ⟨W3, hW⟩ : ∃ W' : World, w2.alloc (.cells #[.slice none 0 0, .int .i64 0, .int .i64 0, .int .i64 0, .int .i64 0] 32) = W' := ⟨_, rfl⟩
 rw [hW] at HE3 HK3 ⊢
 clear hW
 obtain ⟨M, hM⟩ : ∃ N, w2.heap.size = N := ⟨_, rfl⟩
 rw [hM] at HK3 HGM ⊢
 clear hM
 go_wp2_with fail
 go_loopw [33] (fun i wr => ∃ (k : Nat) (v : Value) (s0 s1 : Int), k ≤ n ∧ i = .int .i64 k ∧ Below w.heap.size w wr ∧ Boxes wr [(M, 32, #[v, .int .i64 0, .int .i64 0, .int .i64 s0, .int .i64 s1]), (G, 32, #[.slice none 0 0, .int .i64 0, .int .i64 0, .int .i64 0, .int .i64 0])] ∧ NWs (M + 1) wr v (upTo L fs k).1 ∧ (upTo L fs k).2 = (s0, s1) ∧ SumOf k (s0, s1)) (fun i _ => n - (intOf i).toNat)
 case atStart => exact ⟨0, _, 0, 0, by omega, rfl, HE3.out, HK3.out, NWs.nil _ _, rfl, ⟨by decide, by decide, by decide⟩⟩
 case round =>
  obtain ⟨k, v, s0, s1, hj, rfl, hB, hX, hO, hu, hs⟩ := hrel
  have HB := Lib.hid hB; have HX := Lib.hid hX; have HO := Lib.hid hO; have HU := Lib.hid hu; have HS := Lib.hid hs
  clear hB hX hO hu hs HE3 HK3
  by_cases hlt : k < n
  rotate_left
  ·have hk : n = k := by omega
   subst hk
   have k1 : ¬ (n : Int) < (n : Int) := by omega
   clear hlt hj
   go_wp2_with fail
   rename World => WL
   go_loopw [80] (fun i wr => ∃ (k : Nat) (v2 : Value) (u0 u1 : Int), k ≤ l ∧ i = .int .i64 k ∧ Below w.heap.size w wr ∧ Boxes wr [(M, 32, #[v2, .int .i64 u0, .int .i64 u1, .int .i64 s0, .int .i64 s1]), (G, 32, #[.slice none 0 0, .int .i64 0, .int .i64 0, .int .i64 0, .int .i64 0])] ∧ NWs (M + 1) wr v2 ((upTo L fs n).1 ++ (upToT T ls k).1) ∧ (upToT T ls k).2 = (u0, u1) ∧ SumOf k (u0, u1)) (fun i _ => l - (intOf i).toNat)
   case atStart => exact ⟨0, v, 0, 0, by omega, rfl, HB.out, HX.out, by rw [show (upToT T ls 0).1 = [] from rfl, List.append_nil]; exact HO.out, rfl, ⟨by decide, by decide, by decide⟩⟩
   case round =>
    clear HB HX HO k1
    obtain ⟨k, v2, u0, u1, hj, rfl, hB, hX, hO, hu, hs⟩ := hrel
    have HB := Lib.hid hB; have HX := Lib.hid hX; have HO := Lib.hid hO; have HUT := Lib.hid hu; have HST := Lib.hid hs
    clear hB hX hO hu hs
    by_cases hlt : k < l
    rotate_left
    ·have hk : l = k := by omega
     subst hk
     have k1 : ¬ (l : Int) < (l : Int) := by omega
     clear hlt hj
     obtain ⟨sp, sn, sc, rfl⟩ := HO.out.slice
     have m_ := HX.out _ (.head _)
     have m_0 := m_.cell 0
     have m_1 := m_.cell 1
     have m_2 := m_.cell 2
     have m_3 := m_.cell 3
     have m_4 := m_.cell 4
     simp at m_0 m_1 m_2 m_3 m_4
     clear m_
     go_upto_region 22 with fail
     refine wp_region_lit ?_
     refine wpList_plain rfl (fun K hK => ?_)
     go_simp
     refine hK _ _ ?_
     clear hK K
     have HKR : Hid (Blk (wr.setRow G #[.slice sp sn sc, .int .i64 u0, .int .i64 u1, .int .i64 s0, .int .i64 s1]) G 32 #[.slice sp sn sc, .int .i64 u0, .int .i64 u1, .int .i64 s0, .int .i64 s1]) := Lib.hid (setRow_heap wr G _ _ 32 _ (HX.out _ (.tail _ (.head _))))
     have HE9 := Lib.hid (below_setRow HB.out (show w.heap.size ≤ G from HGM.out.2) #[.slice sp sn sc, .int .i64 u0, .int .i64 u1, .int .i64 s0, .int .i64 s1])
     have HO9 := Lib.hid ((HO.out.kept (grownBy_setRow' wr G #[.slice sp sn sc, .int .i64 u0, .int .i64 u1, .int .i64 s0, .int .i64 s1]) (by have := HGM.out; omega)).mono (show w.heap.size ≤ M + 1 by have := HGM.out; omega))
     refine wpList_store_row rfl 32 (.tmp 8) (.tmp 119) rfl G #[.slice sp sn sc, .int .i64 u0, .int .i64 u1, .int .i64 s0, .int .i64 s1] rfl rfl 32 _ (HX.out _ (.tail _ (.head _))) (by kernel_rfl) rfl (by kernel_rfl) ?_
     obtain ⟨W9, hW9⟩ : ∃ W9, wr.setRow G #[.slice sp sn sc, .int .i64 u0, .int .i64 u1, .int .i64 s0, .int .i64 s1] = W9 := ⟨_, rfl⟩
     rw [hW9] at HKR HE9 HO9 ⊢
     clear hW9
     go_wp2
     exact bodyPost_ret (v := .tuple #[.agg #[.slice sp sn sc, .int .i64 u0, .int .i64 u1, .int .i64 s0, .int .i64 s1], .int .i64 0]) (results_cell_tmp_row Tryz.results7 _ _ G 32 #[.slice sp sn sc, .int .i64 u0, .int .i64 u1, .int .i64 s0, .int .i64 s1] (0, 0) _ _ rfl rfl HKR.out Tryz.underlying32 rfl (by kernel_rfl)) rfl ⟨_, _, _, _, _, rfl, HUT.out, HU.out, HO9.out, HE9.out⟩
    have k1 : (k : Int) < (l : Int) := by omega
    have k4 : (k : Int) < (r : Int) := by have := HRL.out; omega
    have k3 : (0 : Int) ≤ (k : Int) := by omega
    obtain ⟨b, o, p, q, rfl, lb, hA, rfl, lp, hF⟩ : ∃ b o p q, C = some ⟨b, o, none⟩ ∧ b < w.heap.size ∧ TanksMem w b o T ∧ D = some ⟨p, q, none⟩ ∧ p < w.heap.size ∧ LevelsAt w p q ls := by
     rcases HCD.out with h | h
     ·exfalso; have := HL.out; rw [h] at this; simp at this; omega
     ·exact h
    obtain ⟨z, hz⟩ : ∃ z, T[k]? = some z := ⟨_, List.getElem?_eq_getElem (show k < T.length by rw [← HL.out]; omega)⟩
    obtain ⟨y, hy⟩ : ∃ y, ls[k]? = some y := ⟨_, List.getElem?_eq_getElem (show k < ls.length by rw [← HR.out]; omega)⟩
    have he0 : levelErr z.1 y = 0 := each_zeroT Z6.out hz hy
    have hin := IT.out z (List.mem_of_getElem? hz)
    obtain ⟨e0, e1, t0, t1, q1, q2, q3, q4, q5, q6, q7⟩ := tank_step (by have := H9.out; omega) hz hy he0 HUT.out HST.out
    obtain ⟨⟨m0, m1, a0, a1, z0, z1⟩, hwd⟩ : ∃ x, tankW z.1 y = x := ⟨_, rfl⟩
    rw [hwd] at q7
    have CW : Hid (∀ W, Below w.heap.size w W → Calls Tryz.prog 29 #[tankV z.1 z.2, levelV y] W fun x w' => x = .returned (.tuple #[.agg #[.int .i64 m0, .int .i64 m1, .int .i64 a0, .int .i64 a1, .int .i64 z0, .int .i64 z1], .int .i64 0]) ∧ Below W.heap.size W w') := Lib.hid fun W hW => by
     have q := hBallast_any z.1 z.2 y W (hin.below hW)
     rw [balV_ok he0, hwd] at q
     exact q
    have CH : Hid (∀ W, Below w.heap.size w W → Calls Tryz.prog 28 #[tankV z.1 z.2, levelV y] W fun x w' => x = .returned (.tuple #[.agg #[.int .i64 e0, .int .i64 e1], .int .i64 0]) ∧ Below W.heap.size W w') := Lib.hid fun W hW => by
     have q := hSurface_any z.1 z.2 y W (hin.below hW)
     rw [q1] at q
     exact q
    have CS : Hid (∀ W, Calls Tryz.prog 33 #[rv u0 u1, rv e0 e1] W fun x w' => x = .returned (rv t0 t1) ∧ Below W.heap.size W w') := Lib.hid fun W => by
     have q := hsum_any u0 u1 e0 e1 W
     rw [q2] at q
     exact q
    have Q5 := Lib.hid q5; have Q6 := Lib.hid q6; have Q9 := Lib.hid q7
    have HLE : Hid (((upTo L fs n).1 ++ (upToT T ls k).1).length ≤ 18) := Lib.hid (by
     have j1 := upTo_len L fs n; have j2 := upToT_len T ls k; have := H9.out
     rw [List.length_append]; omega)
    obtain ⟨LS, hLS⟩ : ∃ x, (upTo L fs n).1 ++ (upToT T ls k).1 = x := ⟨_, rfl⟩
    rw [hLS] at HO HLE
    have HLS := Lib.hid hLS
    clear he0 hin q1 q2 q3 q4 q5 q6 q7 hwd hLS
    have HCK : Hid (∀ W : World, Below w.heap.size w W → W.cell? ⟨b, o + k * 6, none⟩ = some (.int .i64 z.1.id) ∧ W.cell? ⟨b, o + k * 6 + 1, none⟩ = some (.int .i64 z.1.al) ∧ W.cell? ⟨b, o + k * 6 + 2, none⟩ = some (.int .i64 z.1.ah) ∧ W.cell? ⟨b, o + k * 6 + 3, none⟩ = some (.slice z.2.A z.2.n z.2.c) ∧ W.cell? ⟨b, o + k * 6 + 4, none⟩ = some (.slice z.2.B z.2.m z.2.d) ∧ W.cell? ⟨b, o + k * 6 + 5, none⟩ = some (.slice z.2.C z.2.l z.2.e)) := Lib.hid fun W hW => hA.below hW lb k z hz
    have HCF : Hid (∀ W : World, Below w.heap.size w W → W.cell? ⟨p, q + k * 6, none⟩ = some (.int .i64 y.tank) ∧ W.cell? ⟨p, q + k * 6 + 1, none⟩ = some (.bool y.pr) ∧ W.cell? ⟨p, q + k * 6 + 2, none⟩ = some (.int .i64 y.s0) ∧ W.cell? ⟨p, q + k * 6 + 3, none⟩ = some (.int .i64 y.s1) ∧ W.cell? ⟨p, q + k * 6 + 4, none⟩ = some (.int .i64 y.d0) ∧ W.cell? ⟨p, q + k * 6 + 5, none⟩ = some (.int .i64 y.d1)) := Lib.hid fun W hW => hF.below hW lp k y hy
    clear hz hy hA hF
    obtain ⟨⟨rid, ral, rah, vol, sur, hei⟩, ⟨rA, rn, rc, rB, rm, rd, rC, rl, re⟩⟩ := z
    obtain ⟨g0, g1, g2, g3, g4, g5⟩ := y
    dsimp only at HCK HCF CW CH
    go_upto_region 17 with fail
    go_cut [18] (fun s18 wx => ∃ N, s18 = .pointer (some ⟨N, 0, none⟩) ∧ Boxes wx ((N, 63, #[.int .i64 m0, .int .i64 m1, .int .i64 a0, .int .i64 a1, .int .i64 z0, .int .i64 z1]) :: [(M, 32, #[v2, .int .i64 u0, .int .i64 u1, .int .i64 s0, .int .i64 s1]), (G, 32, #[.slice none 0 0, .int .i64 0, .int .i64 0, .int .i64 0, .int .i64 0])]) ∧ Below wr.heap.size wr wx ∧ wr.heap.size ≤ N)
    case first =>
     have HX_0 := HX; have HE_0 := Lib.hid (Below.refl wr.heap.size wr)
     obtain ⟨LB, hLB⟩ : ∃ x, ([(M, 32, #[v2, .int .i64 u0, .int .i64 u1, .int .i64 s0, .int .i64 s1]), (G, 32, #[.slice none 0 0, .int .i64 0, .int .i64 0, .int .i64 0, .int .i64 0])] : List (Nat × TypeId × Array Value)) = x := ⟨_, rfl⟩
     have hS0 : BB wr LB wr.drew := ⟨by rw [← hLB]; exact HX_0.out, HE_0.out.drew⟩
     have HLB := Lib.hid hLB
     clear hLB
     refine wp_region_held_drew (S := BB wr LB) (by kernel_rfl) hS0 (fun hHeld => ?_)
     obtain ⟨yq, hW⟩ : ∃ W', wr.drew = W' := ⟨_, rfl⟩
     rw [hW] at hHeld ⊢
     clear hW hS0 HE_0 HX_0
     refine tK 84 (i := 0) (v := .slice (some ⟨b, o, none⟩) l e) rfl rfl (by kernel_rfl) ?_ hHeld ?_
     ·intro w hSw; clear hSw; go_simp; try with_reducible rfl
     simp only [uZ, uS]
     refine tK 85 (i := 1) (v := .int .i64 k) rfl rfl (by kernel_rfl) ?_ hHeld ?_
     ·intro w hSw; clear hSw; go_simp; try with_reducible rfl
     simp only [uZ, uS]
     refine tK 86 (i := 2) (v := .pointer (some ⟨b, o + k * 6, none⟩)) rfl rfl (by kernel_rfl) ?_ hHeld ?_
     ·intro w hSw; clear hSw; go_simp; try with_reducible rfl
     simp only [uZ, uS]
     refine tK 87 (i := 3) (v := .agg #[.int .i64 rid, .int .i64 ral, .int .i64 rah, .slice rA rn rc, .slice rB rm rd, .slice rC rl re]) rfl rfl (by kernel_rfl) ?_ hHeld ?_
     ·intro w hSw; obtain ⟨c0, c1, c2, c3, c4, c5⟩ := HCK.out _ (below_then HB.out hSw.be); clear hSw; go_simp; try with_reducible rfl
     simp only [uZ, uS]
     refine tK 88 (i := 4) (v := .slice (some ⟨p, q, none⟩) r s) rfl rfl (by kernel_rfl) ?_ hHeld ?_
     ·intro w hSw; clear hSw; go_simp; try with_reducible rfl
     simp only [uZ, uS]
     refine tK 89 (i := 5) (v := .int .i64 k) rfl rfl (by kernel_rfl) ?_ hHeld ?_
     ·intro w hSw; clear hSw; go_simp; try with_reducible rfl
     simp only [uZ, uS]
     refine tK 90 (i := 6) (v := .pointer (some ⟨p, q + k * 6, none⟩)) rfl rfl (by kernel_rfl) ?_ hHeld ?_
     ·intro w hSw; clear hSw; go_simp; try with_reducible rfl
     simp only [uZ, uS]
     refine tK 91 (i := 7) (v := .agg #[.int .i64 g0, .bool g1, .int .i64 g2, .int .i64 g3, .int .i64 g4, .int .i64 g5]) rfl rfl (by kernel_rfl) ?_ hHeld ?_
     ·intro w hSw; obtain ⟨c0, c1, c2, c3, c4, c5⟩ := HCF.out _ (below_then HB.out hSw.be); clear hSw; go_simp; try with_reducible rfl
     simp only [uZ, uS]
     refine wpAnyH_ready (rs := [8, 12]) (by kernel_rfl) (by simp) ?_
     refine AllReadyH.cons rfl (fun K hK => ?_) (AllReadyH.cons rfl (fun K hK => ?_) AllReadyH.nil)
     rotate_left
     rename World => yq
     go_simp
     have HDN := Lib.hid (boxes_lt hHeld.bx); have HZN := Lib.hid hHeld.be.size; have HY := Lib.hid (hHeld.bx.new 63 #[.int .i64 0, .int .i64 0, .int .i64 0, .int .i64 0, .int .i64 0, .int .i64 0])
     refine hK.out _ _ (hHeld.on (below_alloc1 _ _)) (fun hHeld2 => ?_)
     try simp only [Act.put, uA, uZ, uS]
     clear hK K hHeld
     have hHeld := hHeld2
     clear hHeld2
     obtain ⟨yr, hW⟩ : ∃ W', yq.alloc (.cells #[.int .i64 0, .int .i64 0, .int .i64 0, .int .i64 0, .int .i64 0, .int .i64 0] 63) = W' := ⟨_, rfl⟩
     rw [hW] at HY hHeld ⊢
     clear hW
     obtain ⟨N, hN⟩ : ∃ N, yq.heap.size = N := ⟨_, rfl⟩
     rw [hN] at HY HDN HZN ⊢
     clear hN
     refine wpAnyH_ready (rs := [8]) (by kernel_rfl) (by simp) ?_
     refine AllReadyH.cons rfl (fun K hK => ?_) AllReadyH.nil
     go_simp
     (with_reducible refine (CW.out _ (below_then HB.out hHeld.be)).mono ?_)
     rintro x y ⟨rfl, hq⟩
     have HY := Lib.hid (HY.out.on hq)
     refine hK.out _ _ (hHeld.on hq) (fun hHeld2 => ?_)
     clear hq
     try simp only [Act.put, uA, uZ, uS]
     clear hK K hHeld
     have hHeld := hHeld2
     clear hHeld2
     refine tK 83 (i := 9) (v := .tuple #[.agg #[.int .i64 m0, .int .i64 m1, .int .i64 a0, .int .i64 a1, .int .i64 z0, .int .i64 z1], .int .i64 0]) rfl rfl (by kernel_rfl) ?_ hHeld ?_
     ·intro w hSw; clear hSw; go_simp; try with_reducible rfl
     simp only [uZ, uS]
     refine tK 93 (i := 10) (v := .agg #[.int .i64 m0, .int .i64 m1, .int .i64 a0, .int .i64 a1, .int .i64 z0, .int .i64 z1]) rfl rfl (by kernel_rfl) ?_ hHeld ?_
     ·intro w hSw; clear hSw; go_simp; try with_reducible rfl
     simp only [uZ, uS]
     refine tK 94 (i := 11) (v := .int .i64 0) rfl rfl (by kernel_rfl) ?_ hHeld ?_
     ·intro w hSw; clear hSw; go_simp; try with_reducible rfl
     simp only [uZ, uS]
     rotate_left
     go_simp
     (with_reducible refine (CW.out _ (below_then HB.out hHeld.be)).mono ?_)
     rintro x y ⟨rfl, hq⟩
     refine hK.out _ _ (hHeld.on hq) (fun hHeld2 => ?_)
     clear hq
     try simp only [Act.put, uA, uZ, uS]
     clear hK K hHeld
     have hHeld := hHeld2
     clear hHeld2
     refine tK 83 (i := 9) (v := .tuple #[.agg #[.int .i64 m0, .int .i64 m1, .int .i64 a0, .int .i64 a1, .int .i64 z0, .int .i64 z1], .int .i64 0]) rfl rfl (by kernel_rfl) ?_ hHeld ?_
     ·intro w hSw; clear hSw; go_simp; try with_reducible rfl
     simp only [uZ, uS]
     refine tK 93 (i := 10) (v := .agg #[.int .i64 m0, .int .i64 m1, .int .i64 a0, .int .i64 a1, .int .i64 z0, .int .i64 z1]) rfl rfl (by kernel_rfl) ?_ hHeld ?_
     ·intro w hSw; clear hSw; go_simp; try with_reducible rfl
     simp only [uZ, uS]
     refine tK 94 (i := 11) (v := .int .i64 0) rfl rfl (by kernel_rfl) ?_ hHeld ?_
     ·intro w hSw; clear hSw; go_simp; try with_reducible rfl
     simp only [uZ, uS]
     refine wpAnyH_ready (rs := [12]) (by kernel_rfl) (by simp) ?_
     refine AllReadyH.cons rfl (fun K hK => ?_) AllReadyH.nil
     rename World => yq
     go_simp
     have HDN := Lib.hid (boxes_lt hHeld.bx); have HZN := Lib.hid hHeld.be.size; have HY := Lib.hid (hHeld.bx.new 63 #[.int .i64 0, .int .i64 0, .int .i64 0, .int .i64 0, .int .i64 0, .int .i64 0])
     refine hK.out _ _ (hHeld.on (below_alloc1 _ _)) (fun hHeld2 => ?_)
     try simp only [Act.put, uA, uZ, uS]
     clear hK K hHeld
     have hHeld := hHeld2
     clear hHeld2
     obtain ⟨yr, hW⟩ : ∃ W', yq.alloc (.cells #[.int .i64 0, .int .i64 0, .int .i64 0, .int .i64 0, .int .i64 0, .int .i64 0] 63) = W' := ⟨_, rfl⟩
     rw [hW] at HY hHeld ⊢
     clear hW
     obtain ⟨N, hN⟩ : ∃ N, yq.heap.size = N := ⟨_, rfl⟩
     rw [hN] at HY HDN HZN ⊢
     clear hN
     all_goals
      refine wpAnyH_ready (rs := [13]) (by kernel_rfl) (by simp) ?_
      refine AllReadyH.cons rfl (fun K hK => ?_) AllReadyH.nil
      rw [if_pos (by kernel_rfl)]
      rename World => yq
      have HXs : Hid (Boxes (yq.setRow N #[.int .i64 m0, .int .i64 m1, .int .i64 a0, .int .i64 a1, .int .i64 z0, .int .i64 z1]) ((N, 63, #[.int .i64 m0, .int .i64 m1, .int .i64 a0, .int .i64 a1, .int .i64 z0, .int .i64 z1]) :: LB)) := Lib.hid (Boxes.row HY.out (.head _) (fun p hp => ⟨.tail _ hp, HDN.out p hp⟩) #[.int .i64 m0, .int .i64 m1, .int .i64 a0, .int .i64 a1, .int .i64 z0, .int .i64 z1])
      have hS := hHeld.row HDN.out HZN.out #[.int .i64 m0, .int .i64 m1, .int .i64 a0, .int .i64 a1, .int .i64 z0, .int .i64 z1]
      have HEs := Lib.hid hS.be
      refine wp_store_row 63 (.tmp 18) (.tmp 93) rfl N #[.int .i64 m0, .int .i64 m1, .int .i64 a0, .int .i64 a1, .int .i64 z0, .int .i64 z1] rfl rfl 63 _ (HY.out _ (.head _)) (by kernel_rfl) rfl (by kernel_rfl) ?_
      obtain ⟨Ws, hW⟩ : ∃ W', yq.setRow N #[.int .i64 m0, .int .i64 m1, .int .i64 a0, .int .i64 a1, .int .i64 z0, .int .i64 z1] = W' := ⟨_, rfl⟩
      rw [hW] at HXs HEs hS ⊢
      refine hK.out _ _ hS (fun hHeld2 => ?_)
      clear hW hS HY
      try simp only [Act.put, uA, uZ, uS]
      clear hK K hHeld
      have hHeld := hHeld2
      clear hHeld2
      refine tK 19 (i := 14) (v := .int .i64 0) rfl rfl (by kernel_rfl) ?_ hHeld ?_
      ·intro w hSw; clear hSw; go_simp; try with_reducible rfl
      simp only [uZ, uS]
      refine wpAnyH_done (by kernel_rfl) ?_ _
      clear hHeld
      go_wp2_with fail
      go_meet
      rw [← HLB.out] at HXs
      exact ⟨N, rfl, HXs.out, HEs.out, HZN.out⟩
    case rest =>
     obtain ⟨N1, rfl, hX1, hB1, hN1⟩ := hcut
     have HX1 := Lib.hid hX1; have HB1 := Lib.hid hB1; have HN1 := Lib.hid hN1
     clear hX1 hB1 hN1 CW
     rename World => WA
     go_upto_region 18 with fail
     go_cut [20] (fun s20 wx => ∃ N, s20 = .pointer (some ⟨N, 0, none⟩) ∧ Boxes wx ((N, 30, #[.int .i64 e0, .int .i64 e1]) :: ((N1, 63, #[.int .i64 m0, .int .i64 m1, .int .i64 a0, .int .i64 a1, .int .i64 z0, .int .i64 z1]) :: [(M, 32, #[v2, .int .i64 u0, .int .i64 u1, .int .i64 s0, .int .i64 s1]), (G, 32, #[.slice none 0 0, .int .i64 0, .int .i64 0, .int .i64 0, .int .i64 0])])) ∧ Below wr.heap.size wr wx ∧ wr.heap.size ≤ N)
     case first =>
      clear HX
      obtain ⟨LB, hLB⟩ : ∃ x, (((N1, 63, #[.int .i64 m0, .int .i64 m1, .int .i64 a0, .int .i64 a1, .int .i64 z0, .int .i64 z1]) :: [(M, 32, #[v2, .int .i64 u0, .int .i64 u1, .int .i64 s0, .int .i64 s1]), (G, 32, #[.slice none 0 0, .int .i64 0, .int .i64 0, .int .i64 0, .int .i64 0])]) : List (Nat × TypeId × Array Value)) = x := ⟨_, rfl⟩
      have hS0 : BB wr LB WA.drew := ⟨by rw [← hLB]; exact HX1.out, HB1.out.drew⟩
      have HLB := Lib.hid hLB
      clear hLB
      refine wp_region_held_drew (S := BB wr LB) (by kernel_rfl) hS0 (fun hHeld => ?_)
      obtain ⟨yq, hW⟩ : ∃ W', WA.drew = W' := ⟨_, rfl⟩
      rw [hW] at hHeld ⊢
      clear hW hS0 HB1 HX1
      refine tK 96 (i := 0) (v := .slice (some ⟨b, o, none⟩) l e) rfl rfl (by kernel_rfl) ?_ hHeld ?_
      ·intro w hSw; clear hSw; go_simp; try with_reducible rfl
      simp only [uZ, uS]
      refine tK 97 (i := 1) (v := .int .i64 k) rfl rfl (by kernel_rfl) ?_ hHeld ?_
      ·intro w hSw; clear hSw; go_simp; try with_reducible rfl
      simp only [uZ, uS]
      refine tK 98 (i := 2) (v := .pointer (some ⟨b, o + k * 6, none⟩)) rfl rfl (by kernel_rfl) ?_ hHeld ?_
      ·intro w hSw; clear hSw; go_simp; try with_reducible rfl
      simp only [uZ, uS]
      refine tK 99 (i := 3) (v := .agg #[.int .i64 rid, .int .i64 ral, .int .i64 rah, .slice rA rn rc, .slice rB rm rd, .slice rC rl re]) rfl rfl (by kernel_rfl) ?_ hHeld ?_
      ·intro w hSw; obtain ⟨c0, c1, c2, c3, c4, c5⟩ := HCK.out _ (below_then HB.out hSw.be); clear hSw; go_simp; try with_reducible rfl
      simp only [uZ, uS]
      refine tK 100 (i := 4) (v := .slice (some ⟨p, q, none⟩) r s) rfl rfl (by kernel_rfl) ?_ hHeld ?_
      ·intro w hSw; clear hSw; go_simp; try with_reducible rfl
      simp only [uZ, uS]
      refine tK 101 (i := 5) (v := .int .i64 k) rfl rfl (by kernel_rfl) ?_ hHeld ?_
      ·intro w hSw; clear hSw; go_simp; try with_reducible rfl
      simp only [uZ, uS]
      refine tK 102 (i := 6) (v := .pointer (some ⟨p, q + k * 6, none⟩)) rfl rfl (by kernel_rfl) ?_ hHeld ?_
      ·intro w hSw; clear hSw; go_simp; try with_reducible rfl
      simp only [uZ, uS]
      refine tK 103 (i := 7) (v := .agg #[.int .i64 g0, .bool g1, .int .i64 g2, .int .i64 g3, .int .i64 g4, .int .i64 g5]) rfl rfl (by kernel_rfl) ?_ hHeld ?_
      ·intro w hSw; obtain ⟨c0, c1, c2, c3, c4, c5⟩ := HCF.out _ (below_then HB.out hSw.be); clear hSw; go_simp; try with_reducible rfl
      simp only [uZ, uS]
      refine wpAnyH_ready (rs := [8, 12]) (by kernel_rfl) (by simp) ?_
      refine AllReadyH.cons rfl (fun K hK => ?_) (AllReadyH.cons rfl (fun K hK => ?_) AllReadyH.nil)
      rotate_left
      rename World => yq
      go_simp
      have HDN := Lib.hid (boxes_lt hHeld.bx); have HZN := Lib.hid hHeld.be.size; have HY := Lib.hid (hHeld.bx.new 30 #[.int .i64 0, .int .i64 0])
      refine hK.out _ _ (hHeld.on (below_alloc1 _ _)) (fun hHeld2 => ?_)
      try simp only [Act.put, uA, uZ, uS]
      clear hK K hHeld
      have hHeld := hHeld2
      clear hHeld2
      obtain ⟨yr, hW⟩ : ∃ W', yq.alloc (.cells #[.int .i64 0, .int .i64 0] 30) = W' := ⟨_, rfl⟩
      rw [hW] at HY hHeld ⊢
      clear hW
      obtain ⟨N, hN⟩ : ∃ N, yq.heap.size = N := ⟨_, rfl⟩
      rw [hN] at HY HDN HZN ⊢
      clear hN
      refine wpAnyH_ready (rs := [8]) (by kernel_rfl) (by simp) ?_
      refine AllReadyH.cons rfl (fun K hK => ?_) AllReadyH.nil
      go_simp
      (with_reducible refine (CH.out _ (below_then HB.out hHeld.be)).mono ?_)
      rintro x y ⟨rfl, hq⟩
      have HY := Lib.hid (HY.out.on hq)
      refine hK.out _ _ (hHeld.on hq) (fun hHeld2 => ?_)
      clear hq
      try simp only [Act.put, uA, uZ, uS]
      clear hK K hHeld
      have hHeld := hHeld2
      clear hHeld2
      refine tK 95 (i := 9) (v := .tuple #[.agg #[.int .i64 e0, .int .i64 e1], .int .i64 0]) rfl rfl (by kernel_rfl) ?_ hHeld ?_
      ·intro w hSw; clear hSw; go_simp; try with_reducible rfl
      simp only [uZ, uS]
      refine tK 105 (i := 10) (v := .agg #[.int .i64 e0, .int .i64 e1]) rfl rfl (by kernel_rfl) ?_ hHeld ?_
      ·intro w hSw; clear hSw; go_simp; try with_reducible rfl
      simp only [uZ, uS]
      refine tK 106 (i := 11) (v := .int .i64 0) rfl rfl (by kernel_rfl) ?_ hHeld ?_
      ·intro w hSw; clear hSw; go_simp; try with_reducible rfl
      simp only [uZ, uS]
      rotate_left
      go_simp
      (with_reducible refine (CH.out _ (below_then HB.out hHeld.be)).mono ?_)
      rintro x y ⟨rfl, hq⟩
      refine hK.out _ _ (hHeld.on hq) (fun hHeld2 => ?_)
      clear hq
      try simp only [Act.put, uA, uZ, uS]
      clear hK K hHeld
      have hHeld := hHeld2
      clear hHeld2
      refine tK 95 (i := 9) (v := .tuple #[.agg #[.int .i64 e0, .int .i64 e1], .int .i64 0]) rfl rfl (by kernel_rfl) ?_ hHeld ?_
      ·intro w hSw; clear hSw; go_simp; try with_reducible rfl
      simp only [uZ, uS]
      refine tK 105 (i := 10) (v := .agg #[.int .i64 e0, .int .i64 e1]) rfl rfl (by kernel_rfl) ?_ hHeld ?_
      ·intro w hSw; clear hSw; go_simp; try with_reducible rfl
      simp only [uZ, uS]
      refine tK 106 (i := 11) (v := .int .i64 0) rfl rfl (by kernel_rfl) ?_ hHeld ?_
      ·intro w hSw; clear hSw; go_simp; try with_reducible rfl
      simp only [uZ, uS]
      refine wpAnyH_ready (rs := [12]) (by kernel_rfl) (by simp) ?_
      refine AllReadyH.cons rfl (fun K hK => ?_) AllReadyH.nil
      rename World => yq
      go_simp
      have HDN := Lib.hid (boxes_lt hHeld.bx); have HZN := Lib.hid hHeld.be.size; have HY := Lib.hid (hHeld.bx.new 30 #[.int .i64 0, .int .i64 0])
      refine hK.out _ _ (hHeld.on (below_alloc1 _ _)) (fun hHeld2 => ?_)
      try simp only [Act.put, uA, uZ, uS]
      clear hK K hHeld
      have hHeld := hHeld2
      clear hHeld2
      obtain ⟨yr, hW⟩ : ∃ W', yq.alloc (.cells #[.int .i64 0, .int .i64 0] 30) = W' := ⟨_, rfl⟩
      rw [hW] at HY hHeld ⊢
      clear hW
      obtain ⟨N, hN⟩ : ∃ N, yq.heap.size = N := ⟨_, rfl⟩
      rw [hN] at HY HDN HZN ⊢
      clear hN
      all_goals
       refine wpAnyH_ready (rs := [13]) (by kernel_rfl) (by simp) ?_
       refine AllReadyH.cons rfl (fun K hK => ?_) AllReadyH.nil
       rw [if_pos (by kernel_rfl)]
       rename World => yq
       have HXs : Hid (Boxes (yq.setRow N #[.int .i64 e0, .int .i64 e1]) ((N, 30, #[.int .i64 e0, .int .i64 e1]) :: LB)) := Lib.hid (Boxes.row HY.out (.head _) (fun p hp => ⟨.tail _ hp, HDN.out p hp⟩) #[.int .i64 e0, .int .i64 e1])
       have hS := hHeld.row HDN.out HZN.out #[.int .i64 e0, .int .i64 e1]
       have HEs := Lib.hid hS.be
       refine wp_store_row 30 (.tmp 20) (.tmp 105) rfl N #[.int .i64 e0, .int .i64 e1] rfl rfl 30 _ (HY.out _ (.head _)) (by kernel_rfl) rfl (by kernel_rfl) ?_
       obtain ⟨Ws, hW⟩ : ∃ W', yq.setRow N #[.int .i64 e0, .int .i64 e1] = W' := ⟨_, rfl⟩
       rw [hW] at HXs HEs hS ⊢
       refine hK.out _ _ hS (fun hHeld2 => ?_)
       clear hW hS HY
       try simp only [Act.put, uA, uZ, uS]
       clear hK K hHeld
       have hHeld := hHeld2
       clear hHeld2
       refine tK 21 (i := 14) (v := .int .i64 0) rfl rfl (by kernel_rfl) ?_ hHeld ?_
       ·intro w hSw; clear hSw; go_simp; try with_reducible rfl
       simp only [uZ, uS]
       refine wpAnyH_done (by kernel_rfl) ?_ _
       clear hHeld
       go_wp2_with fail
       go_meet
       rw [← HLB.out] at HXs
       exact ⟨N, rfl, HXs.out, HEs.out, HZN.out⟩
     case rest =>
      obtain ⟨N2, rfl, hX2, hB2, hN2⟩ := hcut
      rename World => WB
      have HX2 := Lib.hid hX2; have HB2 := Lib.hid hB2
      have HNN : Hid (wr.heap.size ≤ N1 ∧ wr.heap.size ≤ N2 ∧ M < wr.heap.size) := Lib.hid ⟨HN1.out, hN2, (HX.out _ (.head _)).lt⟩
      clear hX2 hB2 hN2 HX1 HB1 HX HN1 CH HCK HCF
      go_upto_region 19 with fail
      have HBB := Lib.hid (below_then HB.out HB2.out); have HOB := Lib.hid (HO.out.on HB2.out)
      clear HB2
      have m_ := HX2.out _ (.tail _ (.tail _ (.head _)))
      have m_0 := m_.cell 0
      simp at m_0
      clear m_
      have n_ := HX2.out _ (.tail _ (.head _))
      have n_0 := n_.cell 0
      have n_1 := n_.cell 1
      have n_2 := n_.cell 2
      have n_3 := n_.cell 3
      have n_4 := n_.cell 4
      have n_5 := n_.cell 5
      simp at n_0 n_1 n_2 n_3 n_4 n_5
      clear n_
      have HOW := Lib.hid (World.ownsRow.alloc (o := .cells #[.int .i64 m0, .int .i64 m1, .int .i64 a0, .int .i64 a1, .int .i64 z0, .int .i64 z1] 63) (show WB.ownsRow (M + 1) 63 6 v2 _ _ from HOB.out.1))
      have HCE : Hid (∀ (j : Nat) (u : Value), ([.int .i64 m0, .int .i64 m1, .int .i64 a0, .int .i64 a1, .int .i64 z0, .int .i64 z1] : List Value)[j]? = some u → (WB.alloc (.cells #[.int .i64 m0, .int .i64 m1, .int .i64 a0, .int .i64 a1, .int .i64 z0, .int .i64 z1] 63)).cell? ((⟨WB.heap.size, 0, none⟩ : Addr).add j) = some u) := Lib.hid (World.news_of_block (cs := #[.int .i64 m0, .int .i64 m1, .int .i64 a0, .int .i64 a1, .int .i64 z0, .int .i64 z1]) (t := 63) (fr := (0, 0)) (heap_alloc_new WB _))
      go_wp2_with (at_builtin; refine wpList_append_own _ rfl (.tmp 108) (.tmp 110) 28 rfl (M + 1) 63 i0 (.agg #[.int .i64 0, .int .i64 0, .int .i64 0, .int .i64 0, .int .i64 0, .int .i64 0]) 6 48 Tryz.underlying28 i1 i2 i3 i4 rfl (by decide) _ _ _ rfl HOW.out ⟨WB.heap.size, 0, none⟩ 1 1 [.int .i64 m0, .int .i64 m1, .int .i64 a0, .int .i64 a1, .int .i64 z0, .int .i64 z1] rfl rfl HCE.out ?c2 ?c3 ?c4 ?c5 ?_)
      case c2 => simp [Value.oneCell']
      case c3 => simp only [maxLen]; have := HLE.out; omega
      case c4 => have := HLE.out; omega
      case c5 => have q := (HX2.out _ (.tail _ (.tail _ (.head _)))).lt; simp; omega
      intro v' w5 hown1 hgrow hnil
      have hrow : ∀ j, Value.ownBlock v2 = some j → M + 1 ≤ j ∧ j < wr.heap.size := fun j hj => World.ownsRow.lt (show wr.ownsRow (M + 1) 63 6 v2 _ _ from HO.out.1) j hj
      have HX5 : Hid (Boxes w5 [(M, 32, #[v2, .int .i64 u0, .int .i64 u1, .int .i64 s0, .int .i64 s1]), (N2, 30, #[.int .i64 e0, .int .i64 e1]), (G, 32, #[.slice none 0 0, .int .i64 0, .int .i64 0, .int .i64 0, .int .i64 0])]) := Lib.hid (((HX2.out.on (below_alloc1 WB (.cells #[.int .i64 m0, .int .i64 m1, .int .i64 a0, .int .i64 a1, .int .i64 z0, .int .i64 z1] 63))).sub (fun x hx => by
       simp only [List.mem_cons, List.not_mem_nil, or_false] at hx ⊢
       rcases hx with h | h | h <;> simp [h])).grown hgrow (fun x hx hj => by
       have q := hrow _ hj.symm
       have q1 := HNN.out; have q2 := HGM.out
       simp only [List.mem_cons, List.not_mem_nil, or_false] at hx
       rcases hx with h | h | h <;> (rw [h] at q; dsimp only at q; omega)))
      have HE5 : Hid (Below w.heap.size w w5) := Lib.hid ((HBB.out.alloc HBB.out.size _).grown hgrow (by have := HBB.out.size; simp; omega) (fun j hj => by have := (hrow j hj).1; have := HGM.out; omega))
      have HO5 := Lib.hid (NWs.push (r := ⟨m0, m1, a0, a1, z0, z1⟩) hown1 hnil)
      clear hown1 hgrow hrow hnil HOW HCE HBB HX2
      obtain ⟨vp, vn, vc, rfl⟩ := HO5.out.slice
      clear m_0 n_0 n_1 n_2 n_3 n_4 n_5
      have m_ := HX5.out _ (.head _)
      have m_0 := m_.cell 0
      have m_f0 := m_.frozen 0
      have m_l := m_.lt
      simp at m_0 m_f0
      clear m_
      have HFAR : Hid (∀ x ∈ ([(N2, 30, #[.int .i64 e0, .int .i64 e1]), (G, 32, #[.slice none 0 0, .int .i64 0, .int .i64 0, .int .i64 0, .int .i64 0])] : List (Nat × TypeId × Array Value)), x.1 ≠ M) := Lib.hid (fun x hx => by
       have q1 := HNN.out; have q2 := HGM.out
       simp only [List.mem_cons, List.not_mem_nil, or_false] at hx
       rcases hx with h | h <;> (rw [h]; dsimp only; omega))
      go_upto_region 20 with fail
      have HX6 : Hid (Boxes (w5.setCell ⟨M, 0, none⟩ (.slice vp vn vc)) [(M, 32, #[.slice vp vn vc, .int .i64 u0, .int .i64 u1, .int .i64 s0, .int .i64 s1]), (N2, 30, #[.int .i64 e0, .int .i64 e1]), (G, 32, #[.slice none 0 0, .int .i64 0, .int .i64 0, .int .i64 0, .int .i64 0])]) := Lib.hid (HX5.out.set1 HFAR.out 0 (.slice vp vn vc) _ rfl)
      have HE6 : Hid (Below w.heap.size w (w5.setCell ⟨M, 0, none⟩ (.slice vp vn vc))) := Lib.hid (HE5.out.setCell (by have := HGM.out; simp; omega) _)
      have HO6 := Lib.hid (HO5.out.kept (grownBy_setCellAt w5 M 0 (.slice vp vn vc)) (Nat.lt_succ_self M))
      clear HX5 HE5 HO5 m_0 m_f0 m_l
      obtain ⟨W6, hW⟩ : ∃ W', w5.setCell ⟨M, 0, none⟩ (.slice vp vn vc) = W' := ⟨_, rfl⟩
      rw [hW] at HX6 HE6 HO6 ⊢
      clear hW
      have m_ := HX6.out _ (.head _)
      have m_1 := m_.cell 1
      have m_2 := m_.cell 2
      simp at m_1 m_2
      clear m_
      have n_ := HX6.out _ (.tail _ (.head _))
      have n_0 := n_.cell 0
      have n_1 := n_.cell 1
      simp at n_0 n_1
      clear n_
      go_wp2_with fail
      refine (CS.out _).mono ?_
      rintro x w7 ⟨rfl, hq⟩
      have HXa := Lib.hid (HX6.out.on hq); have HEa := Lib.hid (below_then HE6.out hq); have HOa := Lib.hid (HO6.out.on hq)
      clear hq HX6 HE6 HO6 CS m_1 m_2 n_0 n_1
      have m_ := HXa.out _ (.head _)
      have m_1 := m_.cell 1
      have m_f1 := m_.frozen 1
      have m_2 := m_.cell 2
      have m_f2 := m_.frozen 2
      have m_l := m_.lt
      simp at m_1 m_f1 m_2 m_f2
      clear m_
      have HXb : Hid (Boxes (w7.setCell ⟨M, 1, none⟩ (.int .i64 t0)) [(M, 32, #[.slice vp vn vc, .int .i64 t0, .int .i64 u1, .int .i64 s0, .int .i64 s1]), (N2, 30, #[.int .i64 e0, .int .i64 e1]), (G, 32, #[.slice none 0 0, .int .i64 0, .int .i64 0, .int .i64 0, .int .i64 0])]) := Lib.hid (HXa.out.set1 HFAR.out 1 (.int .i64 t0) _ rfl)
      have HXc : Hid (Boxes ((w7.setCell ⟨M, 1, none⟩ (.int .i64 t0)).setCell ⟨M, 2, none⟩ (.int .i64 t1)) [(M, 32, #[.slice vp vn vc, .int .i64 t0, .int .i64 t1, .int .i64 s0, .int .i64 s1]), (N2, 30, #[.int .i64 e0, .int .i64 e1]), (G, 32, #[.slice none 0 0, .int .i64 0, .int .i64 0, .int .i64 0, .int .i64 0])]) := Lib.hid (HXb.out.set1 HFAR.out 2 (.int .i64 t1) _ rfl)
      have HX7 := Lib.hid (HXc.out.sub (L' := [(M, 32, #[.slice vp vn vc, .int .i64 t0, .int .i64 t1, .int .i64 s0, .int .i64 s1]), (G, 32, #[.slice none 0 0, .int .i64 0, .int .i64 0, .int .i64 0, .int .i64 0])]) (fun x hx => by
       simp only [List.mem_cons, List.not_mem_nil, or_false] at hx ⊢
       rcases hx with h | h <;> simp [h]))
      have HE7 := Lib.hid ((HEa.out.setCell (p := ⟨M, 1, none⟩) (by have := HGM.out; simp; omega) (.int .i64 t0)).setCell (p := ⟨M, 2, none⟩) (by have := HGM.out; simp; omega) (.int .i64 t1))
      have HO7 := Lib.hid ((HOa.out.kept (grownBy_setCellAt w7 M 1 (.int .i64 t0)) (Nat.lt_succ_self M)).kept (grownBy_setCellAt (w7.setCell ⟨M, 1, none⟩ (.int .i64 t0)) M 2 (.int .i64 t1)) (Nat.lt_succ_self M))
      clear HXa HXb HXc HEa HOa HFAR HNN
      have h9 := H9.out
      go_wp2
      go_roundw
      case rel =>
       exact ⟨k + 1, _, t0, t1, by omega, by go_num, HE7.out, HX7.out, by rw [Q9.out, ← List.append_assoc, HLS.out]; exact HO7.out, Q5.out, Q6.out⟩
      case measure => simp [intOf]; omega
  have k1 : (k : Int) < (n : Int) := by omega
  have k4 : (k : Int) < (m : Int) := by have := HMN.out; omega
  have k3 : (0 : Int) ≤ (k : Int) := by omega
  obtain ⟨b, o, p, q, rfl, lb, hA, rfl, lp, hF⟩ : ∃ b o p q, A = some ⟨b, o, none⟩ ∧ b < w.heap.size ∧ HoldsMem w b o L ∧ B = some ⟨p, q, none⟩ ∧ p < w.heap.size ∧ FillsAt w p q fs := by
   rcases HAB.out with h | h
   ·exfalso; have := HN.out; rw [h] at this; simp at this; omega
   ·exact h
  obtain ⟨z, hz⟩ : ∃ z, L[k]? = some z := ⟨_, List.getElem?_eq_getElem (show k < L.length by rw [← HN.out]; omega)⟩
  obtain ⟨y, hy⟩ : ∃ y, fs[k]? = some y := ⟨_, List.getElem?_eq_getElem (show k < fs.length by rw [← HM.out]; omega)⟩
  have he0 : fillErr z.1 y = 0 := each_zero Z5.out hz hy
  have hin := IH.out z (List.mem_of_getElem? hz)
  obtain ⟨e0, e1, t0, t1, q1, q2, q3, q4, q5, q6, q7, q8⟩ := hold_step (by have := H9.out; omega) hz hy he0 HU.out HS.out
  obtain ⟨⟨m0, m1, a0, a1, z0, z1⟩, hwd⟩ : ∃ x, holdW z.1 y = x := ⟨_, rfl⟩
  rw [hwd] at q8
  have CW : Hid (∀ W, Below w.heap.size w W → Calls Tryz.prog 23 #[holdV z.1 z.2, fillV y] W fun x w' => x = .returned (.tuple #[.agg #[.int .i64 m0, .int .i64 m1, .int .i64 a0, .int .i64 a1, .int .i64 z0, .int .i64 z1], .int .i64 0]) ∧ Below W.heap.size W w') := Lib.hid fun W hW => by
   have q := hWeight_any z.1 z.2 y W (hin.below hW)
   rw [weightV_ok he0, hwd] at q
   exact q
  have CH : Hid (∀ W, Below w.heap.size w W → Calls Tryz.prog 21 #[holdV z.1 z.2, fillV y] W fun x w' => x = .returned (.tuple #[.agg #[.int .i64 e0, .int .i64 e1], .int .i64 0]) ∧ Below W.heap.size W w') := Lib.hid fun W hW => by
   have q := hHeel_any z.1 z.2 y W (hin.below hW)
   rw [tell_ok he0, q1] at q
   exact q
  have CS : Hid (∀ W, Calls Tryz.prog 33 #[rv s0 s1, rv e0 e1] W fun x w' => x = .returned (rv t0 t1) ∧ Below W.heap.size W w') := Lib.hid fun W => by
   have q := hsum_any s0 s1 e0 e1 W
   rw [q2] at q
   exact q
  have Q5 := Lib.hid q5; have Q6 := Lib.hid q6; have Q7 := Lib.hid q7; have Q8 := Lib.hid q8
  have HLE : Hid ((upTo L fs k).1.length ≤ 9) := Lib.hid (Nat.le_trans (upTo_len L fs k) (by have := H9.out; omega))
  clear he0 hin q1 q2 q3 q4 q5 q6 q7 q8 hwd
  have HCK : Hid (∀ W : World, Below w.heap.size w W → W.cell? ⟨b, o + k * 14, none⟩ = some (.int .i64 z.1.id) ∧ W.cell? ⟨b, o + k * 14 + 1, none⟩ = some (.int .i64 z.1.al) ∧ W.cell? ⟨b, o + k * 14 + 2, none⟩ = some (.int .i64 z.1.ah) ∧ W.cell? ⟨b, o + k * 14 + 3, none⟩ = some (.slice z.2.A z.2.n z.2.c) ∧ W.cell? ⟨b, o + k * 14 + 4, none⟩ = some (.slice z.2.B z.2.m z.2.d) ∧ W.cell? ⟨b, o + k * 14 + 5, none⟩ = some (.slice z.2.C z.2.l z.2.e) ∧ W.cell? ⟨b, o + k * 14 + 6, none⟩ = some (.int .i64 z.1.t0) ∧ W.cell? ⟨b, o + k * 14 + 7, none⟩ = some (.int .i64 z.1.t1) ∧ W.cell? ⟨b, o + k * 14 + 8, none⟩ = some (.int .i64 z.1.u0) ∧ W.cell? ⟨b, o + k * 14 + 9, none⟩ = some (.int .i64 z.1.u1) ∧ W.cell? ⟨b, o + k * 14 + 10, none⟩ = some (.int .i64 z.1.v0) ∧ W.cell? ⟨b, o + k * 14 + 11, none⟩ = some (.int .i64 z.1.v1) ∧ W.cell? ⟨b, o + k * 14 + 12, none⟩ = some (.int .i64 z.1.h0) ∧ W.cell? ⟨b, o + k * 14 + 13, none⟩ = some (.int .i64 z.1.h1)) := Lib.hid fun W hW => hA.below hW lb k z hz
  have HCF : Hid (∀ W : World, Below w.heap.size w W → W.cell? ⟨p, q + k * 6, none⟩ = some (.int .i64 y.hold) ∧ W.cell? ⟨p, q + k * 6 + 1, none⟩ = some (.int .i64 y.st) ∧ W.cell? ⟨p, q + k * 6 + 2, none⟩ = some (.int .i64 y.x0) ∧ W.cell? ⟨p, q + k * 6 + 3, none⟩ = some (.int .i64 y.x1) ∧ W.cell? ⟨p, q + k * 6 + 4, none⟩ = some (.int .i64 y.d0) ∧ W.cell? ⟨p, q + k * 6 + 5, none⟩ = some (.int .i64 y.d1)) := Lib.hid fun W hW => hF.below hW lp k y hy
  clear hz hy hA hF
  obtain ⟨⟨rid, ral, rah, vol, mom, hei, rt0, rt1, ru0, ru1, rv0, rv1, rh0, rh1⟩, ⟨rA, rn, rc, rB, rm, rd, rC, rl, re⟩⟩ := z
  obtain ⟨g0, g1, g2, g3, g4, g5⟩ := y
  dsimp only at HCK HCF CW CH Q7 Q8
  have f1 := (HCF.out wr HB.out).2.1
  by_cases g : g1 = 0
  ·have b1 : (g1 == 0) = true := by simp [g]
   have b2 : (g1 != 0) = false := by simp [g]
   clear CW CH CS HCK HCF
   have h9 := H9.out
   go_wp2
   go_roundw
   case rel =>
    obtain ⟨j1, j2, j3⟩ := Q7.out g
    exact ⟨k + 1, v, s0, s1, by omega, by go_num, HB.out, HX.out, by rw [j3]; exact HO.out, by rw [Q5.out, j1, j2], by have j4 := Q6.out; rw [j1, j2] at j4; exact j4⟩
   case measure => simp [intOf]; omega
  have b1 : (g1 == 0) = false := beq_eq_false_iff_ne.2 g
  have b2 : (g1 != 0) = true := bne_iff_ne.2 g
  have Q9 := Lib.hid (Q8.out g)
  clear Q7 Q8
  go_upto_region 9 with fail
  clear b1 b2 f1 g
  go_cut [13] (fun s13 wx => ∃ N, s13 = .pointer (some ⟨N, 0, none⟩) ∧ Boxes wx ((N, 63, #[.int .i64 m0, .int .i64 m1, .int .i64 a0, .int .i64 a1, .int .i64 z0, .int .i64 z1]) :: [(M, 32, #[v, .int .i64 0, .int .i64 0, .int .i64 s0, .int .i64 s1]), (G, 32, #[.slice none 0 0, .int .i64 0, .int .i64 0, .int .i64 0, .int .i64 0])]) ∧ Below wr.heap.size wr wx ∧ wr.heap.size ≤ N)
  case first =>
   have HX_0 := HX; have HE_0 := Lib.hid (Below.refl wr.heap.size wr)
   obtain ⟨LB, hLB⟩ : ∃ x, ([(M, 32, #[v, .int .i64 0, .int .i64 0, .int .i64 s0, .int .i64 s1]), (G, 32, #[.slice none 0 0, .int .i64 0, .int .i64 0, .int .i64 0, .int .i64 0])] : List (Nat × TypeId × Array Value)) = x := ⟨_, rfl⟩
   have hS0 : BB wr LB wr.drew := ⟨by rw [← hLB]; exact HX_0.out, HE_0.out.drew⟩
   have HLB := Lib.hid hLB
   clear hLB
   refine wp_region_held_drew (S := BB wr LB) (by kernel_rfl) hS0 (fun hHeld => ?_)
   obtain ⟨yq, hW⟩ : ∃ W', wr.drew = W' := ⟨_, rfl⟩
   rw [hW] at hHeld ⊢
   clear hW hS0 HE_0 HX_0
   refine tK 43 (i := 0) (v := .slice (some ⟨b, o, none⟩) n c) rfl rfl (by kernel_rfl) ?_ hHeld ?_
   ·intro w hSw; clear hSw; go_simp; try with_reducible rfl
   simp only [uZ, uS]
   refine tK 44 (i := 1) (v := .int .i64 k) rfl rfl (by kernel_rfl) ?_ hHeld ?_
   ·intro w hSw; clear hSw; go_simp; try with_reducible rfl
   simp only [uZ, uS]
   refine tK 45 (i := 2) (v := .pointer (some ⟨b, o + k * 14, none⟩)) rfl rfl (by kernel_rfl) ?_ hHeld ?_
   ·intro w hSw; clear hSw; go_simp; try with_reducible rfl
   simp only [uZ, uS]
   refine tK 46 (i := 3) (v := .agg #[.int .i64 rid, .int .i64 ral, .int .i64 rah, .slice rA rn rc, .slice rB rm rd, .slice rC rl re, .int .i64 rt0, .int .i64 rt1, .int .i64 ru0, .int .i64 ru1, .int .i64 rv0, .int .i64 rv1, .int .i64 rh0, .int .i64 rh1]) rfl rfl (by kernel_rfl) ?_ hHeld ?_
   ·intro w hSw; obtain ⟨c0, c1, c2, c3, c4, c5, c6, c7, c8, c9, c10, c11, c12, c13⟩ := HCK.out _ (below_then HB.out hSw.be); clear hSw; go_simp; try with_reducible rfl
   simp only [uZ, uS]
   refine tK 47 (i := 4) (v := .slice (some ⟨p, q, none⟩) m d) rfl rfl (by kernel_rfl) ?_ hHeld ?_
   ·intro w hSw; clear hSw; go_simp; try with_reducible rfl
   simp only [uZ, uS]
   refine tK 48 (i := 5) (v := .int .i64 k) rfl rfl (by kernel_rfl) ?_ hHeld ?_
   ·intro w hSw; clear hSw; go_simp; try with_reducible rfl
   simp only [uZ, uS]
   refine tK 49 (i := 6) (v := .pointer (some ⟨p, q + k * 6, none⟩)) rfl rfl (by kernel_rfl) ?_ hHeld ?_
   ·intro w hSw; clear hSw; go_simp; try with_reducible rfl
   simp only [uZ, uS]
   refine tK 50 (i := 7) (v := .agg #[.int .i64 g0, .int .i64 g1, .int .i64 g2, .int .i64 g3, .int .i64 g4, .int .i64 g5]) rfl rfl (by kernel_rfl) ?_ hHeld ?_
   ·intro w hSw; obtain ⟨c0, c1, c2, c3, c4, c5⟩ := HCF.out _ (below_then HB.out hSw.be); clear hSw; go_simp; try with_reducible rfl
   simp only [uZ, uS]
   refine wpAnyH_ready (rs := [8, 12]) (by kernel_rfl) (by simp) ?_
   refine AllReadyH.cons rfl (fun K hK => ?_) (AllReadyH.cons rfl (fun K hK => ?_) AllReadyH.nil)
   rotate_left
   rename World => yq
   go_simp
   have HDN := Lib.hid (boxes_lt hHeld.bx); have HZN := Lib.hid hHeld.be.size; have HY := Lib.hid (hHeld.bx.new 63 #[.int .i64 0, .int .i64 0, .int .i64 0, .int .i64 0, .int .i64 0, .int .i64 0])
   refine hK.out _ _ (hHeld.on (below_alloc1 _ _)) (fun hHeld2 => ?_)
   try simp only [Act.put, uA, uZ, uS]
   clear hK K hHeld
   have hHeld := hHeld2
   clear hHeld2
   obtain ⟨yr, hW⟩ : ∃ W', yq.alloc (.cells #[.int .i64 0, .int .i64 0, .int .i64 0, .int .i64 0, .int .i64 0, .int .i64 0] 63) = W' := ⟨_, rfl⟩
   rw [hW] at HY hHeld ⊢
   clear hW
   obtain ⟨N, hN⟩ : ∃ N, yq.heap.size = N := ⟨_, rfl⟩
   rw [hN] at HY HDN HZN ⊢
   clear hN
   refine wpAnyH_ready (rs := [8]) (by kernel_rfl) (by simp) ?_
   refine AllReadyH.cons rfl (fun K hK => ?_) AllReadyH.nil
   go_simp
   (with_reducible refine (CW.out _ (below_then HB.out hHeld.be)).mono ?_)
   rintro x y ⟨rfl, hq⟩
   have HY := Lib.hid (HY.out.on hq)
   refine hK.out _ _ (hHeld.on hq) (fun hHeld2 => ?_)
   clear hq
   try simp only [Act.put, uA, uZ, uS]
   clear hK K hHeld
   have hHeld := hHeld2
   clear hHeld2
   refine tK 42 (i := 9) (v := .tuple #[.agg #[.int .i64 m0, .int .i64 m1, .int .i64 a0, .int .i64 a1, .int .i64 z0, .int .i64 z1], .int .i64 0]) rfl rfl (by kernel_rfl) ?_ hHeld ?_
   ·intro w hSw; clear hSw; go_simp; try with_reducible rfl
   simp only [uZ, uS]
   refine tK 52 (i := 10) (v := .agg #[.int .i64 m0, .int .i64 m1, .int .i64 a0, .int .i64 a1, .int .i64 z0, .int .i64 z1]) rfl rfl (by kernel_rfl) ?_ hHeld ?_
   ·intro w hSw; clear hSw; go_simp; try with_reducible rfl
   simp only [uZ, uS]
   refine tK 53 (i := 11) (v := .int .i64 0) rfl rfl (by kernel_rfl) ?_ hHeld ?_
   ·intro w hSw; clear hSw; go_simp; try with_reducible rfl
   simp only [uZ, uS]
   rotate_left
   go_simp
   (with_reducible refine (CW.out _ (below_then HB.out hHeld.be)).mono ?_)
   rintro x y ⟨rfl, hq⟩
   refine hK.out _ _ (hHeld.on hq) (fun hHeld2 => ?_)
   clear hq
   try simp only [Act.put, uA, uZ, uS]
   clear hK K hHeld
   have hHeld := hHeld2
   clear hHeld2
   refine tK 42 (i := 9) (v := .tuple #[.agg #[.int .i64 m0, .int .i64 m1, .int .i64 a0, .int .i64 a1, .int .i64 z0, .int .i64 z1], .int .i64 0]) rfl rfl (by kernel_rfl) ?_ hHeld ?_
   ·intro w hSw; clear hSw; go_simp; try with_reducible rfl
   simp only [uZ, uS]
   refine tK 52 (i := 10) (v := .agg #[.int .i64 m0, .int .i64 m1, .int .i64 a0, .int .i64 a1, .int .i64 z0, .int .i64 z1]) rfl rfl (by kernel_rfl) ?_ hHeld ?_
   ·intro w hSw; clear hSw; go_simp; try with_reducible rfl
   simp only [uZ, uS]
   refine tK 53 (i := 11) (v := .int .i64 0) rfl rfl (by kernel_rfl) ?_ hHeld ?_
   ·intro w hSw; clear hSw; go_simp; try with_reducible rfl
   simp only [uZ, uS]
   refine wpAnyH_ready (rs := [12]) (by kernel_rfl) (by simp) ?_
   refine AllReadyH.cons rfl (fun K hK => ?_) AllReadyH.nil
   rename World => yq
   go_simp
   have HDN := Lib.hid (boxes_lt hHeld.bx); have HZN := Lib.hid hHeld.be.size; have HY := Lib.hid (hHeld.bx.new 63 #[.int .i64 0, .int .i64 0, .int .i64 0, .int .i64 0, .int .i64 0, .int .i64 0])
   refine hK.out _ _ (hHeld.on (below_alloc1 _ _)) (fun hHeld2 => ?_)
   try simp only [Act.put, uA, uZ, uS]
   clear hK K hHeld
   have hHeld := hHeld2
   clear hHeld2
   obtain ⟨yr, hW⟩ : ∃ W', yq.alloc (.cells #[.int .i64 0, .int .i64 0, .int .i64 0, .int .i64 0, .int .i64 0, .int .i64 0] 63) = W' := ⟨_, rfl⟩
   rw [hW] at HY hHeld ⊢
   clear hW
   obtain ⟨N, hN⟩ : ∃ N, yq.heap.size = N := ⟨_, rfl⟩
   rw [hN] at HY HDN HZN ⊢
   clear hN
   all_goals
    refine wpAnyH_ready (rs := [13]) (by kernel_rfl) (by simp) ?_
    refine AllReadyH.cons rfl (fun K hK => ?_) AllReadyH.nil
    rw [if_pos (by kernel_rfl)]
    rename World => yq
    have HXs : Hid (Boxes (yq.setRow N #[.int .i64 m0, .int .i64 m1, .int .i64 a0, .int .i64 a1, .int .i64 z0, .int .i64 z1]) ((N, 63, #[.int .i64 m0, .int .i64 m1, .int .i64 a0, .int .i64 a1, .int .i64 z0, .int .i64 z1]) :: LB)) := Lib.hid (Boxes.row HY.out (.head _) (fun p hp => ⟨.tail _ hp, HDN.out p hp⟩) #[.int .i64 m0, .int .i64 m1, .int .i64 a0, .int .i64 a1, .int .i64 z0, .int .i64 z1])
    have hS := hHeld.row HDN.out HZN.out #[.int .i64 m0, .int .i64 m1, .int .i64 a0, .int .i64 a1, .int .i64 z0, .int .i64 z1]
    have HEs := Lib.hid hS.be
    refine wp_store_row 63 (.tmp 13) (.tmp 52) rfl N #[.int .i64 m0, .int .i64 m1, .int .i64 a0, .int .i64 a1, .int .i64 z0, .int .i64 z1] rfl rfl 63 _ (HY.out _ (.head _)) (by kernel_rfl) rfl (by kernel_rfl) ?_
    obtain ⟨Ws, hW⟩ : ∃ W', yq.setRow N #[.int .i64 m0, .int .i64 m1, .int .i64 a0, .int .i64 a1, .int .i64 z0, .int .i64 z1] = W' := ⟨_, rfl⟩
    rw [hW] at HXs HEs hS ⊢
    refine hK.out _ _ hS (fun hHeld2 => ?_)
    clear hW hS HY
    try simp only [Act.put, uA, uZ, uS]
    clear hK K hHeld
    have hHeld := hHeld2
    clear hHeld2
    refine tK 14 (i := 14) (v := .int .i64 0) rfl rfl (by kernel_rfl) ?_ hHeld ?_
    ·intro w hSw; clear hSw; go_simp; try with_reducible rfl
    simp only [uZ, uS]
    refine wpAnyH_done (by kernel_rfl) ?_ _
    clear hHeld
    go_wp2_with fail
    go_meet
    rw [← HLB.out] at HXs
    exact ⟨N, rfl, HXs.out, HEs.out, HZN.out⟩
  case rest =>
   obtain ⟨N1, rfl, hX1, hB1, hN1⟩ := hcut
   have HX1 := Lib.hid hX1; have HB1 := Lib.hid hB1; have HN1 := Lib.hid hN1
   clear hX1 hB1 hN1 CW
   rename World => WA
   go_upto_region 10 with fail
   go_cut [15] (fun s15 wx => ∃ N, s15 = .pointer (some ⟨N, 0, none⟩) ∧ Boxes wx ((N, 30, #[.int .i64 e0, .int .i64 e1]) :: ((N1, 63, #[.int .i64 m0, .int .i64 m1, .int .i64 a0, .int .i64 a1, .int .i64 z0, .int .i64 z1]) :: [(M, 32, #[v, .int .i64 0, .int .i64 0, .int .i64 s0, .int .i64 s1]), (G, 32, #[.slice none 0 0, .int .i64 0, .int .i64 0, .int .i64 0, .int .i64 0])])) ∧ Below wr.heap.size wr wx ∧ wr.heap.size ≤ N)
   case first =>
    clear HX
    obtain ⟨LB, hLB⟩ : ∃ x, (((N1, 63, #[.int .i64 m0, .int .i64 m1, .int .i64 a0, .int .i64 a1, .int .i64 z0, .int .i64 z1]) :: [(M, 32, #[v, .int .i64 0, .int .i64 0, .int .i64 s0, .int .i64 s1]), (G, 32, #[.slice none 0 0, .int .i64 0, .int .i64 0, .int .i64 0, .int .i64 0])]) : List (Nat × TypeId × Array Value)) = x := ⟨_, rfl⟩
    have hS0 : BB wr LB WA.drew := ⟨by rw [← hLB]; exact HX1.out, HB1.out.drew⟩
    have HLB := Lib.hid hLB
    clear hLB
    refine wp_region_held_drew (S := BB wr LB) (by kernel_rfl) hS0 (fun hHeld => ?_)
    obtain ⟨yq, hW⟩ : ∃ W', WA.drew = W' := ⟨_, rfl⟩
    rw [hW] at hHeld ⊢
    clear hW hS0 HB1 HX1
    refine tK 55 (i := 0) (v := .slice (some ⟨b, o, none⟩) n c) rfl rfl (by kernel_rfl) ?_ hHeld ?_
    ·intro w hSw; clear hSw; go_simp; try with_reducible rfl
    simp only [uZ, uS]
    refine tK 56 (i := 1) (v := .int .i64 k) rfl rfl (by kernel_rfl) ?_ hHeld ?_
    ·intro w hSw; clear hSw; go_simp; try with_reducible rfl
    simp only [uZ, uS]
    refine tK 57 (i := 2) (v := .pointer (some ⟨b, o + k * 14, none⟩)) rfl rfl (by kernel_rfl) ?_ hHeld ?_
    ·intro w hSw; clear hSw; go_simp; try with_reducible rfl
    simp only [uZ, uS]
    refine tK 58 (i := 3) (v := .agg #[.int .i64 rid, .int .i64 ral, .int .i64 rah, .slice rA rn rc, .slice rB rm rd, .slice rC rl re, .int .i64 rt0, .int .i64 rt1, .int .i64 ru0, .int .i64 ru1, .int .i64 rv0, .int .i64 rv1, .int .i64 rh0, .int .i64 rh1]) rfl rfl (by kernel_rfl) ?_ hHeld ?_
    ·intro w hSw; obtain ⟨c0, c1, c2, c3, c4, c5, c6, c7, c8, c9, c10, c11, c12, c13⟩ := HCK.out _ (below_then HB.out hSw.be); clear hSw; go_simp; try with_reducible rfl
    simp only [uZ, uS]
    refine tK 59 (i := 4) (v := .slice (some ⟨p, q, none⟩) m d) rfl rfl (by kernel_rfl) ?_ hHeld ?_
    ·intro w hSw; clear hSw; go_simp; try with_reducible rfl
    simp only [uZ, uS]
    refine tK 60 (i := 5) (v := .int .i64 k) rfl rfl (by kernel_rfl) ?_ hHeld ?_
    ·intro w hSw; clear hSw; go_simp; try with_reducible rfl
    simp only [uZ, uS]
    refine tK 61 (i := 6) (v := .pointer (some ⟨p, q + k * 6, none⟩)) rfl rfl (by kernel_rfl) ?_ hHeld ?_
    ·intro w hSw; clear hSw; go_simp; try with_reducible rfl
    simp only [uZ, uS]
    refine tK 62 (i := 7) (v := .agg #[.int .i64 g0, .int .i64 g1, .int .i64 g2, .int .i64 g3, .int .i64 g4, .int .i64 g5]) rfl rfl (by kernel_rfl) ?_ hHeld ?_
    ·intro w hSw; obtain ⟨c0, c1, c2, c3, c4, c5⟩ := HCF.out _ (below_then HB.out hSw.be); clear hSw; go_simp; try with_reducible rfl
    simp only [uZ, uS]
    refine wpAnyH_ready (rs := [8, 12]) (by kernel_rfl) (by simp) ?_
    refine AllReadyH.cons rfl (fun K hK => ?_) (AllReadyH.cons rfl (fun K hK => ?_) AllReadyH.nil)
    rotate_left
    rename World => yq
    go_simp
    have HDN := Lib.hid (boxes_lt hHeld.bx); have HZN := Lib.hid hHeld.be.size; have HY := Lib.hid (hHeld.bx.new 30 #[.int .i64 0, .int .i64 0])
    refine hK.out _ _ (hHeld.on (below_alloc1 _ _)) (fun hHeld2 => ?_)
    try simp only [Act.put, uA, uZ, uS]
    clear hK K hHeld
    have hHeld := hHeld2
    clear hHeld2
    obtain ⟨yr, hW⟩ : ∃ W', yq.alloc (.cells #[.int .i64 0, .int .i64 0] 30) = W' := ⟨_, rfl⟩
    rw [hW] at HY hHeld ⊢
    clear hW
    obtain ⟨N, hN⟩ : ∃ N, yq.heap.size = N := ⟨_, rfl⟩
    rw [hN] at HY HDN HZN ⊢
    clear hN
    refine wpAnyH_ready (rs := [8]) (by kernel_rfl) (by simp) ?_
    refine AllReadyH.cons rfl (fun K hK => ?_) AllReadyH.nil
    go_simp
    (with_reducible refine (CH.out _ (below_then HB.out hHeld.be)).mono ?_)
    rintro x y ⟨rfl, hq⟩
    have HY := Lib.hid (HY.out.on hq)
    refine hK.out _ _ (hHeld.on hq) (fun hHeld2 => ?_)
    clear hq
    try simp only [Act.put, uA, uZ, uS]
    clear hK K hHeld
    have hHeld := hHeld2
    clear hHeld2
    refine tK 54 (i := 9) (v := .tuple #[.agg #[.int .i64 e0, .int .i64 e1], .int .i64 0]) rfl rfl (by kernel_rfl) ?_ hHeld ?_
    ·intro w hSw; clear hSw; go_simp; try with_reducible rfl
    simp only [uZ, uS]
    refine tK 64 (i := 10) (v := .agg #[.int .i64 e0, .int .i64 e1]) rfl rfl (by kernel_rfl) ?_ hHeld ?_
    ·intro w hSw; clear hSw; go_simp; try with_reducible rfl
    simp only [uZ, uS]
    refine tK 65 (i := 11) (v := .int .i64 0) rfl rfl (by kernel_rfl) ?_ hHeld ?_
    ·intro w hSw; clear hSw; go_simp; try with_reducible rfl
    simp only [uZ, uS]
    rotate_left
    go_simp
    (with_reducible refine (CH.out _ (below_then HB.out hHeld.be)).mono ?_)
    rintro x y ⟨rfl, hq⟩
    refine hK.out _ _ (hHeld.on hq) (fun hHeld2 => ?_)
    clear hq
    try simp only [Act.put, uA, uZ, uS]
    clear hK K hHeld
    have hHeld := hHeld2
    clear hHeld2
    refine tK 54 (i := 9) (v := .tuple #[.agg #[.int .i64 e0, .int .i64 e1], .int .i64 0]) rfl rfl (by kernel_rfl) ?_ hHeld ?_
    ·intro w hSw; clear hSw; go_simp; try with_reducible rfl
    simp only [uZ, uS]
    refine tK 64 (i := 10) (v := .agg #[.int .i64 e0, .int .i64 e1]) rfl rfl (by kernel_rfl) ?_ hHeld ?_
    ·intro w hSw; clear hSw; go_simp; try with_reducible rfl
    simp only [uZ, uS]
    refine tK 65 (i := 11) (v := .int .i64 0) rfl rfl (by kernel_rfl) ?_ hHeld ?_
    ·intro w hSw; clear hSw; go_simp; try with_reducible rfl
    simp only [uZ, uS]
    refine wpAnyH_ready (rs := [12]) (by kernel_rfl) (by simp) ?_
    refine AllReadyH.cons rfl (fun K hK => ?_) AllReadyH.nil
    rename World => yq
    go_simp
    have HDN := Lib.hid (boxes_lt hHeld.bx); have HZN := Lib.hid hHeld.be.size; have HY := Lib.hid (hHeld.bx.new 30 #[.int .i64 0, .int .i64 0])
    refine hK.out _ _ (hHeld.on (below_alloc1 _ _)) (fun hHeld2 => ?_)
    try simp only [Act.put, uA, uZ, uS]
    clear hK K hHeld
    have hHeld := hHeld2
    clear hHeld2
    obtain ⟨yr, hW⟩ : ∃ W', yq.alloc (.cells #[.int .i64 0, .int .i64 0] 30) = W' := ⟨_, rfl⟩
    rw [hW] at HY hHeld ⊢
    clear hW
    obtain ⟨N, hN⟩ : ∃ N, yq.heap.size = N := ⟨_, rfl⟩
    rw [hN] at HY HDN HZN ⊢
    clear hN
    all_goals
     refine wpAnyH_ready (rs := [13]) (by kernel_rfl) (by simp) ?_
     refine AllReadyH.cons rfl (fun K hK => ?_) AllReadyH.nil
     rw [if_pos (by kernel_rfl)]
     rename World => yq
     have HXs : Hid (Boxes (yq.setRow N #[.int .i64 e0, .int .i64 e1]) ((N, 30, #[.int .i64 e0, .int .i64 e1]) :: LB)) := Lib.hid (Boxes.row HY.out (.head _) (fun p hp => ⟨.tail _ hp, HDN.out p hp⟩) #[.int .i64 e0, .int .i64 e1])
     have hS := hHeld.row HDN.out HZN.out #[.int .i64 e0, .int .i64 e1]
     have HEs := Lib.hid hS.be
     refine wp_store_row 30 (.tmp 15) (.tmp 64) rfl N #[.int .i64 e0, .int .i64 e1] rfl rfl 30 _ (HY.out _ (.head _)) (by kernel_rfl) rfl (by kernel_rfl) ?_
     obtain ⟨Ws, hW⟩ : ∃ W', yq.setRow N #[.int .i64 e0, .int .i64 e1] = W' := ⟨_, rfl⟩
     rw [hW] at HXs HEs hS ⊢
     refine hK.out _ _ hS (fun hHeld2 => ?_)
     clear hW hS HY
     try simp only [Act.put, uA, uZ, uS]
     clear hK K hHeld
     have hHeld := hHeld2
     clear hHeld2
     refine tK 16 (i := 14) (v := .int .i64 0) rfl rfl (by kernel_rfl) ?_ hHeld ?_
     ·intro w hSw; clear hSw; go_simp; try with_reducible rfl
     simp only [uZ, uS]
     refine wpAnyH_done (by kernel_rfl) ?_ _
     clear hHeld
     go_wp2_with fail
     go_meet
     rw [← HLB.out] at HXs
     exact ⟨N, rfl, HXs.out, HEs.out, HZN.out⟩
   case rest =>
    obtain ⟨N2, rfl, hX2, hB2, hN2⟩ := hcut
    rename World => WB
    have HX2 := Lib.hid hX2; have HB2 := Lib.hid hB2
    have HNN : Hid (wr.heap.size ≤ N1 ∧ wr.heap.size ≤ N2 ∧ M < wr.heap.size) := Lib.hid ⟨HN1.out, hN2, (HX.out _ (.head _)).lt⟩
    clear hX2 hB2 hN2 HX1 HB1 HX HN1 CH HCK HCF
    go_upto_region 11 with fail
    have HBB := Lib.hid (below_then HB.out HB2.out); have HOB := Lib.hid (HO.out.on HB2.out)
    clear HB2
    have m_ := HX2.out _ (.tail _ (.tail _ (.head _)))
    have m_0 := m_.cell 0
    simp at m_0
    clear m_
    have n_ := HX2.out _ (.tail _ (.head _))
    have n_0 := n_.cell 0
    have n_1 := n_.cell 1
    have n_2 := n_.cell 2
    have n_3 := n_.cell 3
    have n_4 := n_.cell 4
    have n_5 := n_.cell 5
    simp at n_0 n_1 n_2 n_3 n_4 n_5
    clear n_
    have HOW := Lib.hid (World.ownsRow.alloc (o := .cells #[.int .i64 m0, .int .i64 m1, .int .i64 a0, .int .i64 a1, .int .i64 z0, .int .i64 z1] 63) (show WB.ownsRow (M + 1) 63 6 v _ _ from HOB.out.1))
    have HCE : Hid (∀ (j : Nat) (u : Value), ([.int .i64 m0, .int .i64 m1, .int .i64 a0, .int .i64 a1, .int .i64 z0, .int .i64 z1] : List Value)[j]? = some u → (WB.alloc (.cells #[.int .i64 m0, .int .i64 m1, .int .i64 a0, .int .i64 a1, .int .i64 z0, .int .i64 z1] 63)).cell? ((⟨WB.heap.size, 0, none⟩ : Addr).add j) = some u) := Lib.hid (World.news_of_block (cs := #[.int .i64 m0, .int .i64 m1, .int .i64 a0, .int .i64 a1, .int .i64 z0, .int .i64 z1]) (t := 63) (fr := (0, 0)) (heap_alloc_new WB _))
    go_wp2_with (at_builtin; refine wpList_append_own _ rfl (.tmp 67) (.tmp 69) 28 rfl (M + 1) 63 i0 (.agg #[.int .i64 0, .int .i64 0, .int .i64 0, .int .i64 0, .int .i64 0, .int .i64 0]) 6 48 Tryz.underlying28 i1 i2 i3 i4 rfl (by decide) _ _ _ rfl HOW.out ⟨WB.heap.size, 0, none⟩ 1 1 [.int .i64 m0, .int .i64 m1, .int .i64 a0, .int .i64 a1, .int .i64 z0, .int .i64 z1] rfl rfl HCE.out ?c2 ?c3 ?c4 ?c5 ?_)
    case c2 => simp [Value.oneCell']
    case c3 => simp only [maxLen]; have := HLE.out; omega
    case c4 => have := HLE.out; omega
    case c5 => have q := (HX2.out _ (.tail _ (.tail _ (.head _)))).lt; simp; omega
    intro v' w5 hown1 hgrow hnil
    have hrow : ∀ j, Value.ownBlock v = some j → M + 1 ≤ j ∧ j < wr.heap.size := fun j hj => World.ownsRow.lt (show wr.ownsRow (M + 1) 63 6 v _ _ from HO.out.1) j hj
    have HX5 : Hid (Boxes w5 [(M, 32, #[v, .int .i64 0, .int .i64 0, .int .i64 s0, .int .i64 s1]), (N2, 30, #[.int .i64 e0, .int .i64 e1]), (G, 32, #[.slice none 0 0, .int .i64 0, .int .i64 0, .int .i64 0, .int .i64 0])]) := Lib.hid (((HX2.out.on (below_alloc1 WB (.cells #[.int .i64 m0, .int .i64 m1, .int .i64 a0, .int .i64 a1, .int .i64 z0, .int .i64 z1] 63))).sub (fun x hx => by
     simp only [List.mem_cons, List.not_mem_nil, or_false] at hx ⊢
     rcases hx with h | h | h <;> simp [h])).grown hgrow (fun x hx hj => by
     have q := hrow _ hj.symm
     have q1 := HNN.out; have q2 := HGM.out
     simp only [List.mem_cons, List.not_mem_nil, or_false] at hx
     rcases hx with h | h | h <;> (rw [h] at q; dsimp only at q; omega)))
    have HE5 : Hid (Below w.heap.size w w5) := Lib.hid ((HBB.out.alloc HBB.out.size _).grown hgrow (by have := HBB.out.size; simp; omega) (fun j hj => by have := (hrow j hj).1; have := HGM.out; omega))
    have HO5 := Lib.hid (NWs.push (r := ⟨m0, m1, a0, a1, z0, z1⟩) hown1 hnil)
    clear hown1 hgrow hrow hnil HOW HCE HBB HX2
    obtain ⟨vp, vn, vc, rfl⟩ := HO5.out.slice
    clear m_0 n_0 n_1 n_2 n_3 n_4 n_5
    have m_ := HX5.out _ (.head _)
    have m_0 := m_.cell 0
    have m_f0 := m_.frozen 0
    have m_l := m_.lt
    simp at m_0 m_f0
    clear m_
    have HFAR : Hid (∀ x ∈ ([(N2, 30, #[.int .i64 e0, .int .i64 e1]), (G, 32, #[.slice none 0 0, .int .i64 0, .int .i64 0, .int .i64 0, .int .i64 0])] : List (Nat × TypeId × Array Value)), x.1 ≠ M) := Lib.hid (fun x hx => by
     have q1 := HNN.out; have q2 := HGM.out
     simp only [List.mem_cons, List.not_mem_nil, or_false] at hx
     rcases hx with h | h <;> (rw [h]; dsimp only; omega))
    go_upto_region 12 with fail
    have HX6 : Hid (Boxes (w5.setCell ⟨M, 0, none⟩ (.slice vp vn vc)) [(M, 32, #[.slice vp vn vc, .int .i64 0, .int .i64 0, .int .i64 s0, .int .i64 s1]), (N2, 30, #[.int .i64 e0, .int .i64 e1]), (G, 32, #[.slice none 0 0, .int .i64 0, .int .i64 0, .int .i64 0, .int .i64 0])]) := Lib.hid (HX5.out.set1 HFAR.out 0 (.slice vp vn vc) _ rfl)
    have HE6 : Hid (Below w.heap.size w (w5.setCell ⟨M, 0, none⟩ (.slice vp vn vc))) := Lib.hid (HE5.out.setCell (by have := HGM.out; simp; omega) _)
    have HO6 := Lib.hid (HO5.out.kept (grownBy_setCellAt w5 M 0 (.slice vp vn vc)) (Nat.lt_succ_self M))
    clear HX5 HE5 HO5 m_0 m_f0 m_l
    obtain ⟨W6, hW⟩ : ∃ W', w5.setCell ⟨M, 0, none⟩ (.slice vp vn vc) = W' := ⟨_, rfl⟩
    rw [hW] at HX6 HE6 HO6 ⊢
    clear hW
    have m_ := HX6.out _ (.head _)
    have m_3 := m_.cell 3
    have m_4 := m_.cell 4
    simp at m_3 m_4
    clear m_
    have n_ := HX6.out _ (.tail _ (.head _))
    have n_0 := n_.cell 0
    have n_1 := n_.cell 1
    simp at n_0 n_1
    clear n_
    go_wp2_with fail
    refine (CS.out _).mono ?_
    rintro x w7 ⟨rfl, hq⟩
    have HXa := Lib.hid (HX6.out.on hq); have HEa := Lib.hid (below_then HE6.out hq); have HOa := Lib.hid (HO6.out.on hq)
    clear hq HX6 HE6 HO6 CS m_3 m_4 n_0 n_1
    have m_ := HXa.out _ (.head _)
    have m_3 := m_.cell 3
    have m_f3 := m_.frozen 3
    have m_4 := m_.cell 4
    have m_f4 := m_.frozen 4
    have m_l := m_.lt
    simp at m_3 m_f3 m_4 m_f4
    clear m_
    have HXb : Hid (Boxes (w7.setCell ⟨M, 3, none⟩ (.int .i64 t0)) [(M, 32, #[.slice vp vn vc, .int .i64 0, .int .i64 0, .int .i64 t0, .int .i64 s1]), (N2, 30, #[.int .i64 e0, .int .i64 e1]), (G, 32, #[.slice none 0 0, .int .i64 0, .int .i64 0, .int .i64 0, .int .i64 0])]) := Lib.hid (HXa.out.set1 HFAR.out 3 (.int .i64 t0) _ rfl)
    have HXc : Hid (Boxes ((w7.setCell ⟨M, 3, none⟩ (.int .i64 t0)).setCell ⟨M, 4, none⟩ (.int .i64 t1)) [(M, 32, #[.slice vp vn vc, .int .i64 0, .int .i64 0, .int .i64 t0, .int .i64 t1]), (N2, 30, #[.int .i64 e0, .int .i64 e1]), (G, 32, #[.slice none 0 0, .int .i64 0, .int .i64 0, .int .i64 0, .int .i64 0])]) := Lib.hid (HXb.out.set1 HFAR.out 4 (.int .i64 t1) _ rfl)
    have HX7 := Lib.hid (HXc.out.sub (L' := [(M, 32, #[.slice vp vn vc, .int .i64 0, .int .i64 0, .int .i64 t0, .int .i64 t1]), (G, 32, #[.slice none 0 0, .int .i64 0, .int .i64 0, .int .i64 0, .int .i64 0])]) (fun x hx => by
     simp only [List.mem_cons, List.not_mem_nil, or_false] at hx ⊢
     rcases hx with h | h <;> simp [h]))
    have HE7 := Lib.hid ((HEa.out.setCell (p := ⟨M, 3, none⟩) (by have := HGM.out; simp; omega) (.int .i64 t0)).setCell (p := ⟨M, 4, none⟩) (by have := HGM.out; simp; omega) (.int .i64 t1))
    have HO7 := Lib.hid ((HOa.out.kept (grownBy_setCellAt w7 M 3 (.int .i64 t0)) (Nat.lt_succ_self M)).kept (grownBy_setCellAt (w7.setCell ⟨M, 3, none⟩ (.int .i64 t0)) M 4 (.int .i64 t1)) (Nat.lt_succ_self M))
    clear HXa HXb HXc HEa HOa HFAR HNN
    have h9 := H9.out
    go_wp2
    go_roundw
    case rel =>
     exact ⟨k + 1, _, t0, t1, by omega, by go_num, HE7.out, HX7.out, by rw [Q9.out]; exact HO7.out, Q5.out, Q6.out⟩
    case measure => simp [intOf]; omega
end

end Go.Proofs.YtekkiedlajhaiaaGreat
