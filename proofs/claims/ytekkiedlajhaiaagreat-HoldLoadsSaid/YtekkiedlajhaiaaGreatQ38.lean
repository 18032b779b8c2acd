/- Load of the specification. Its conditions: the four lists and what they point to lie in memory. -/
import Derived.Test.YtekkiedlajhaiaaGreatQ35
import Derived.Test.YtekkiedlajhaiaaGreatQ32
import Derived.Test.YtekkiedlajhaiaaGreatQ34
import Derived.Test.YtekkiedlajhaiaaGreatQ98
set_option linter.unusedVariables false
set_option linter.unusedSimpArgs false
set_option linter.constructorNameAsVariable false
namespace Go.Proofs.YtekkiedlajhaiaaGreat

section
open Go.RowKit

set_option maxRecDepth 100000 in
set_option maxHeartbeats 4000000 in
theorem sLoad_any (A B C D : Option Addr) (n c m d l e r s : Nat) (L : List (HoldD × HoldM)) (fs : List FillD) (T : List (TankD × HoldM)) (ls : List LevelD) (w : World) (hL : HoldsIn w A n L) (hF : FillsIn w B m fs) (hT : TanksIn w C l T) (hV : LevelsIn w D r ls) (hc : n ≤ c) (he : l ≤ e) (iL : ∀ r ∈ L, HoldIn w r.1 r.2) (iT : ∀ r ∈ T, TankIn w r.1 r.2) (E : Int) (hE : loadErr L fs T ls = E) :
  Calls Tryz.prog 8 #[.slice A n c, .slice B m d, .slice C l e, .slice D r s] w fun x w' => LoadPost L fs T ls n l E w x w' := by
 obtain ⟨i0, i1, i2, i3, i4⟩ := info_parts Tryz.infoWt
 obtain ⟨X, hX⟩ : ∃ X, eachHold L fs = X := ⟨_, rfl⟩
 obtain ⟨Y, hY⟩ : ∃ Y, eachTank T ls = Y := ⟨_, rfl⟩
 have hN := hL.1; have hM := hF.1; have hK := hT.1; have hJ := hV.1
 have HR0 : Hid ((if 9 < n ∨ 9 < l then (2 : Int) else if ¬ m = n ∨ ¬ r = l then 1 else if X = 0 then Y else X) = E) := Lib.hid (by rw [← hE, ← hX, ← hY, hN, hM, hK, hJ]; rfl)
 clear hE hN hM hK hJ
 have HE := Lib.hid (show Below w.heap.size w (w.alloc (.cells #[.slice none 0 0, .int .i64 0, .int .i64 0, .int .i64 0, .int .i64 0] 32)) from below_alloc1 w _)
 have HK := Lib.hid (boxes1' w 32 #[.slice none 0 0, .int .i64 0, .int .i64 0, .int .i64 0, .int .i64 0])
 go_enter Tryz.func8, Tryz.ntmps8
 go_upto_region 1 with fail
 obtain ⟨W0, hW0⟩ : ∃ W0 : World, (w.alloc (.cells #[.slice none 0 0, .int .i64 0, .int .i64 0, .int .i64 0, .int .i64 0] 32)) = W0 := ⟨_, rfl⟩
 rw [hW0] at HE HK ⊢
 clear hW0
 obtain ⟨G, hG⟩ : ∃ G, w.heap.size = G := ⟨_, rfl⟩
 rw [hG] at HK ⊢
 have HG := Lib.hid hG; clear hG
 have HGM : Hid (w.heap.size ≤ G) := Lib.hid (Nat.le_of_eq HG.out)
 by_cases a1 : 9 < n
 ·have a2 : (9 : Int) < (n : Int) := by omega
  obtain rfl : E = 2 := by rw [← HR0.out, if_pos (Or.inl a1)]
  clear HR0 hL hF hT hV hc he iL iT hX hY
  have h_ := HK.out _ (.head _)
  have h_0 := h_.cell 0
  have h_f0 := h_.frozen 0
  have h_1 := h_.cell 1
  have h_f1 := h_.frozen 1
  have h_2 := h_.cell 2
  have h_f2 := h_.frozen 2
  have h_3 := h_.cell 3
  have h_f3 := h_.frozen 3
  have h_4 := h_.cell 4
  have h_f4 := h_.frozen 4
  have h_l := h_.lt
  simp at h_0 h_f0 h_1 h_f1 h_2 h_f2 h_3 h_f3 h_4 h_f4
  clear h_
  go_wp2
  refine bodyPost_ret (v := .tuple #[.agg #[.slice none 0 0, .int .i64 0, .int .i64 0, .int .i64 0, .int .i64 0], .int .i64 2]) (by simp [results, Tryz.results8, go_sem, h_0, h_1, h_2, h_3, h_4]) rfl (LoadPost.err (by decide) ?_)
  have hg := HGM.out
  repeat (first | exact HE.out | refine Below.setCell ?_ (by simp <;> omega) _)
 have a2 : ¬ (9 : Int) < (n : Int) := by omega
 by_cases a3 : 9 < l
 ·have a4 : (9 : Int) < (l : Int) := by omega
  obtain rfl : E = 2 := by rw [← HR0.out, if_pos (Or.inr a3)]
  clear HR0 hL hF hT hV hc he iL iT hX hY
  have h_ := HK.out _ (.head _)
  have h_0 := h_.cell 0
  have h_f0 := h_.frozen 0
  have h_1 := h_.cell 1
  have h_f1 := h_.frozen 1
  have h_2 := h_.cell 2
  have h_f2 := h_.frozen 2
  have h_3 := h_.cell 3
  have h_f3 := h_.frozen 3
  have h_4 := h_.cell 4
  have h_f4 := h_.frozen 4
  have h_l := h_.lt
  simp at h_0 h_f0 h_1 h_f1 h_2 h_f2 h_3 h_f3 h_4 h_f4
  clear h_
  go_wp2
  refine bodyPost_ret (v := .tuple #[.agg #[.slice none 0 0, .int .i64 0, .int .i64 0, .int .i64 0, .int .i64 0], .int .i64 2]) (by simp [results, Tryz.results8, go_sem, h_0, h_1, h_2, h_3, h_4]) rfl (LoadPost.err (by decide) ?_)
  have hg := HGM.out
  repeat (first | exact HE.out | refine Below.setCell ?_ (by simp <;> omega) _)
 have a4 : ¬ (9 : Int) < (l : Int) := by omega
 have q1 : ¬ (9 < n ∨ 9 < l) := by omega
 by_cases d1 : m = n
 rotate_left
 ·have d2 : ((m : Int) != (n : Int)) = true := bne_iff_ne.2 (by omega)
  have d3 : ((m : Int) == (n : Int)) = false := beq_eq_false_iff_ne.2 (by omega)
  obtain rfl : E = 1 := by rw [← HR0.out, if_neg q1, if_pos (Or.inl d1)]
  clear HR0 hL hF hT hV hc he iL iT hX hY
  have h_ := HK.out _ (.head _)
  have h_0 := h_.cell 0
  have h_f0 := h_.frozen 0
  have h_1 := h_.cell 1
  have h_f1 := h_.frozen 1
  have h_2 := h_.cell 2
  have h_f2 := h_.frozen 2
  have h_3 := h_.cell 3
  have h_f3 := h_.frozen 3
  have h_4 := h_.cell 4
  have h_f4 := h_.frozen 4
  have h_l := h_.lt
  simp at h_0 h_f0 h_1 h_f1 h_2 h_f2 h_3 h_f3 h_4 h_f4
  clear h_
  go_wp2
  refine bodyPost_ret (v := .tuple #[.agg #[.slice none 0 0, .int .i64 0, .int .i64 0, .int .i64 0, .int .i64 0], .int .i64 1]) (by simp [results, Tryz.results8, go_sem, h_0, h_1, h_2, h_3, h_4]) rfl (LoadPost.err (by decide) ?_)
  have hg := HGM.out
  repeat (first | exact HE.out | refine Below.setCell ?_ (by simp <;> omega) _)
 have d2 : ((m : Int) != (n : Int)) = false := by simp [d1]
 have d3 : ((m : Int) == (n : Int)) = true := by simp [d1]
 by_cases c1 : r = l
 rotate_left
 ·have c2 : ((r : Int) != (l : Int)) = true := bne_iff_ne.2 (by omega)
  have c3 : ((r : Int) == (l : Int)) = false := beq_eq_false_iff_ne.2 (by omega)
  have D1 := Lib.hid d1
  obtain rfl : E = 1 := by rw [← HR0.out, if_neg q1, if_pos (Or.inr c1)]
  clear d1
  clear HR0 hL hF hT hV hc he iL iT hX hY
  have h_ := HK.out _ (.head _)
  have h_0 := h_.cell 0
  have h_f0 := h_.frozen 0
  have h_1 := h_.cell 1
  have h_f1 := h_.frozen 1
  have h_2 := h_.cell 2
  have h_f2 := h_.frozen 2
  have h_3 := h_.cell 3
  have h_f3 := h_.frozen 3
  have h_4 := h_.cell 4
  have h_f4 := h_.frozen 4
  have h_l := h_.lt
  simp at h_0 h_f0 h_1 h_f1 h_2 h_f2 h_3 h_f3 h_4 h_f4
  clear h_
  go_wp2
  refine bodyPost_ret (v := .tuple #[.agg #[.slice none 0 0, .int .i64 0, .int .i64 0, .int .i64 0, .int .i64 0], .int .i64 1]) (by simp [results, Tryz.results8, go_sem, h_0, h_1, h_2, h_3, h_4]) rfl (LoadPost.err (by decide) ?_)
  have hg := HGM.out
  repeat (first | exact HE.out | refine Below.setCell ?_ (by simp <;> omega) _)
 have c2 : ((r : Int) != (l : Int)) = false := by simp [c1]
 have c3 : ((r : Int) == (l : Int)) = true := by simp [c1]
 have q2 : ¬ (¬ m = n ∨ ¬ r = l) := by omega
 have HXY : Hid ((if X = 0 then Y else X) = E) := Lib.hid (by rw [← HR0.out, if_neg q1, if_neg q2])
 clear HR0
 have lz3 : fs.length = L.length := by rw [← hF.1, ← hL.1]; exact d1
 have lz4 : ls.length = T.length := by rw [← hV.1, ← hT.1]; exact c1
 obtain ⟨hn, hn2, hA0⟩ := hL
 obtain ⟨hm, hm2, hB0⟩ := hF
 obtain ⟨hl, hl2, hC0⟩ := hT
 obtain ⟨hr, hr2, hD0⟩ := hV
 have HAB : Hid (L = [] ∨ ∃ b o p q, A = some ⟨b, o, none⟩ ∧ b < w.heap.size ∧ HoldsMem w b o L ∧ B = some ⟨p, q, none⟩ ∧ p < w.heap.size ∧ FillsAt w p q fs) := Lib.hid (by
  rcases hA0 with h | ⟨b, o, a1, a2, a3⟩
  ·exact .inl h
  ·rcases hB0 with h | ⟨p, q, b1, b2, b3⟩
   ·left; rw [h] at lz3; exact List.length_eq_zero_iff.1 lz3.symm
   ·exact .inr ⟨b, o, p, q, a1, a2, a3, b1, b2, b3⟩)
 have HCD : Hid (T = [] ∨ ∃ b o p q, C = some ⟨b, o, none⟩ ∧ b < w.heap.size ∧ TanksMem w b o T ∧ D = some ⟨p, q, none⟩ ∧ p < w.heap.size ∧ LevelsAt w p q ls) := Lib.hid (by
  rcases hC0 with h | ⟨b, o, a1, a2, a3⟩
  ·exact .inl h
  ·rcases hD0 with h | ⟨p, q, b1, b2, b3⟩
   ·left; rw [h] at lz4; exact List.length_eq_zero_iff.1 lz4.symm
   ·exact .inr ⟨b, o, p, q, a1, a2, a3, b1, b2, b3⟩)
 clear hA0 hB0 hC0 hD0
 have HMN : Hid (m = n) := Lib.hid (by omega)
 have HRL : Hid (r = l) := Lib.hid (by omega)
 have H9 : Hid (n ≤ 9 ∧ l ≤ 9) := Lib.hid ⟨by omega, by omega⟩
 have HN := Lib.hid hn; have HM := Lib.hid hm; have HL := Lib.hid hl; have HR := Lib.hid hr
 have IH := Lib.hid iL; have IT := Lib.hid iT
 have HX0 : Hid (firstErr (errHold L fs) 0 (n - 0) = X) := Lib.hid (by rw [← hX, Nat.sub_zero, hn]; rfl)
 have HY0 : Hid (firstErr (errTank T ls) 0 (l - 0) = Y) := Lib.hid (by rw [← hY, Nat.sub_zero, hl]; rfl)
 clear hn hn2 hm hm2 hl hl2 hr hr2 hc he iL iT hX hY lz3 lz4 q1 q2 d1 c1 HGM a1 a3
 go_upto_region 6 with fail
 clear a2 a4 d2 d3 c2 c3
 have HE3 := Lib.hid (below_then HE.out (below_alloc1 W0 (.cells #[.slice none 0 0, .int .i64 0, .int .i64 0, .int .i64 0, .int .i64 0] 32))); have HK3 := Lib.hid (HK.out.new 32 #[.slice none 0 0, .int .i64 0, .int .i64 0, .int .i64 0, .int .i64 0])
 have HGM : Hid (G < W0.heap.size ∧ w.heap.size ≤ G) := Lib.hid ⟨(HK.out _ (.head _)).lt, by rw [HG.out]; exact Nat.le_refl _⟩
 clear HE HK
 obtain ⟨W3, hW⟩ : ∃ W' : World, W0.alloc (.cells #[.slice none 0 0, .int .i64 0, .int .i64 0, .int .i64 0, .int .i64 0] 32) = W' := ⟨_, rfl⟩
 rw [hW] at HE3 HK3 ⊢
 clear hW
 obtain ⟨M, hM⟩ : ∃ N, W0.heap.size = N := ⟨_, rfl⟩
 rw [hM] at HK3 HGM ⊢
 clear hM
 go_wp2_with fail
 go_loopw [11] (fun i wr => ∃ (k : Nat) (v : Value) (s0 s1 : Int), k ≤ n ∧ i = .int .i64 k ∧ Below w.heap.size w wr ∧ Boxes wr [(M, 32, #[v, .int .i64 0, .int .i64 0, .int .i64 s0, .int .i64 s1]), (G, 32, #[.slice none 0 0, .int .i64 0, .int .i64 0, .int .i64 0, .int .i64 0])] ∧ NWs (M + 1) wr v (upTo L fs k).1 ∧ (upTo L fs k).2 = (s0, s1) ∧ SumOf k (s0, s1) ∧ firstErr (errHold L fs) k (n - k) = X) (fun i _ => n - (intOf i).toNat)
 case atStart => exact ⟨0, _, 0, 0, by omega, rfl, HE3.out, HK3.out, NWs.nil _ _, rfl, ⟨by decide, by decide, by decide⟩, HX0.out⟩
 case round =>
  obtain ⟨k, v, s0, s1, hj, rfl, hB, hX, hO, hu, hs, hfe⟩ := hrel
  have HB := Lib.hid hB; have HX := Lib.hid hX; have HO := Lib.hid hO; have HU := Lib.hid hu; have HS := Lib.hid hs; have HFE := Lib.hid hfe
  clear hB hX hO hu hs HE3 HK3 hfe HX0
  by_cases hlt : k < n
  rotate_left
  ·have hk : n = k := by omega
   subst hk
   have k1 : ¬ (n : Int) < (n : Int) := by omega
   have HEY : Hid (Y = E) := Lib.hid (by rw [← HXY.out, if_pos (first_end HFE.out)])
   clear hlt hj HFE HXY
   go_wp2_with fail
   rename World => WL
   go_loopw [17] (fun i wr => ∃ (k : Nat) (v2 : Value) (u0 u1 : Int), k ≤ l ∧ i = .int .i64 k ∧ Below w.heap.size w wr ∧ Boxes wr [(M, 32, #[v2, .int .i64 u0, .int .i64 u1, .int .i64 s0, .int .i64 s1]), (G, 32, #[.slice none 0 0, .int .i64 0, .int .i64 0, .int .i64 0, .int .i64 0])] ∧ NWs (M + 1) wr v2 ((upTo L fs n).1 ++ (upToT T ls k).1) ∧ (upToT T ls k).2 = (u0, u1) ∧ SumOf k (u0, u1) ∧ firstErr (errTank T ls) k (l - k) = Y) (fun i _ => l - (intOf i).toNat)
   case atStart => exact ⟨0, v, 0, 0, by omega, rfl, HB.out, HX.out, by rw [show (upToT T ls 0).1 = [] from rfl, List.append_nil]; exact HO.out, rfl, ⟨by decide, by decide, by decide⟩, HY0.out⟩
   case round =>
    clear HB HX HO k1 HY0
    obtain ⟨k, v2, u0, u1, hj, rfl, hB, hX, hO, hu, hs, hfe⟩ := hrel
    have HB := Lib.hid hB; have HX := Lib.hid hX; have HO := Lib.hid hO; have HUT := Lib.hid hu; have HST := Lib.hid hs; have HFE := Lib.hid hfe
    clear hB hX hO hu hs hfe
    by_cases hlt : k < l
    rotate_left
    ·have hk : l = k := by omega
     subst hk
     have k1 : ¬ (l : Int) < (l : Int) := by omega
     obtain rfl : E = 0 := by rw [← HEY.out]; exact first_end HFE.out
     clear hlt hj HFE HEY
     obtain ⟨sp, sn, sc, rfl⟩ := HO.out.slice
     have m_ := HX.out _ (.head _)
     have m_0 := m_.cell 0
     have m_1 := m_.cell 1
     have m_2 := m_.cell 2
     have m_3 := m_.cell 3
     have m_4 := m_.cell 4
     simp at m_0 m_1 m_2 m_3 m_4
     clear m_
     go_upto_region 35 with fail
     refine wp_region_lit ?_
     refine wpList_plain rfl (fun K hK => ?_)
     go_simp
     refine hK _ _ ?_
     clear hK K
     have HKR : Hid (Blk (wr.setRow G #[.slice sp sn sc, .int .i64 u0, .int .i64 u1, .int .i64 s0, .int .i64 s1]) G 32 #[.slice sp sn sc, .int .i64 u0, .int .i64 u1, .int .i64 s0, .int .i64 s1]) := Lib.hid (setRow_heap wr G _ _ 32 _ (HX.out _ (.tail _ (.head _))))
     have HE9 := Lib.hid (below_setRow HB.out (show w.heap.size ≤ G from HGM.out.2) #[.slice sp sn sc, .int .i64 u0, .int .i64 u1, .int .i64 s0, .int .i64 s1])
     have HO9 := Lib.hid ((HO.out.kept (grownBy_setRow' wr G #[.slice sp sn sc, .int .i64 u0, .int .i64 u1, .int .i64 s0, .int .i64 s1]) (by have := HGM.out; omega)).mono (show w.heap.size ≤ M + 1 by have := HGM.out; omega))
     refine wpList_store_row rfl 32 (.tmp 8) (.tmp 194) rfl G #[.slice sp sn sc, .int .i64 u0, .int .i64 u1, .int .i64 s0, .int .i64 s1] rfl rfl 32 _ (HX.out _ (.tail _ (.head _))) (by kernel_rfl) rfl (by kernel_rfl) ?_
     obtain ⟨W9, hW9⟩ : ∃ W9, wr.setRow G #[.slice sp sn sc, .int .i64 u0, .int .i64 u1, .int .i64 s0, .int .i64 s1] = W9 := ⟨_, rfl⟩
     rw [hW9] at HKR HE9 HO9 ⊢
     clear hW9
     go_wp2
     exact bodyPost_ret (v := .tuple #[.agg #[.slice sp sn sc, .int .i64 u0, .int .i64 u1, .int .i64 s0, .int .i64 s1], .int .i64 0]) (results_cell_tmp_row Tryz.results8 _ _ G 32 #[.slice sp sn sc, .int .i64 u0, .int .i64 u1, .int .i64 s0, .int .i64 s1] (0, 0) _ _ rfl rfl HKR.out Tryz.underlying32 rfl (by kernel_rfl)) rfl (LoadPost.ok HUT.out HU.out HO9.out HE9.out)
    have k1 : (k : Int) < (l : Int) := by omega
    have k4 : (k : Int) < (r : Int) := by have := HRL.out; omega
    have k3 : (0 : Int) ≤ (k : Int) := by omega
    obtain ⟨b, o, p, q, rfl, lb, hA, rfl, lp, hF⟩ : ∃ b o p q, C = some ⟨b, o, none⟩ ∧ b < w.heap.size ∧ TanksMem w b o T ∧ D = some ⟨p, q, none⟩ ∧ p < w.heap.size ∧ LevelsAt w p q ls := by
     rcases HCD.out with h | h
     ·exfalso; have := HL.out; rw [h] at this; simp at this; omega
     ·exact h
    obtain ⟨z, hz⟩ : ∃ z, T[k]? = some z := ⟨_, List.getElem?_eq_getElem (show k < T.length by rw [← HL.out]; omega)⟩
    obtain ⟨y, hy⟩ : ∃ y, ls[k]? = some y := ⟨_, List.getElem?_eq_getElem (show k < ls.length by rw [← HR.out]; omega)⟩
    have HZ := Lib.hid hz; have HY := Lib.hid hy; have HA := Lib.hid hA
    have hin := IT.out z (List.mem_of_getElem? hz)
    have HIN := Lib.hid hin
    clear hin
    have HCK : Hid (∀ W : World, Below w.heap.size w W → W.cell? ⟨b, o + k * 6, none⟩ = some (.int .i64 z.1.id) ∧ W.cell? ⟨b, o + k * 6 + 1, none⟩ = some (.int .i64 z.1.al) ∧ W.cell? ⟨b, o + k * 6 + 2, none⟩ = some (.int .i64 z.1.ah) ∧ W.cell? ⟨b, o + k * 6 + 3, none⟩ = some (.slice z.2.A z.2.n z.2.c) ∧ W.cell? ⟨b, o + k * 6 + 4, none⟩ = some (.slice z.2.B z.2.m z.2.d) ∧ W.cell? ⟨b, o + k * 6 + 5, none⟩ = some (.slice z.2.C z.2.l z.2.e)) := Lib.hid fun W hW => hA.below hW lb k z hz
    have HCF : Hid (∀ W : World, Below w.heap.size w W → W.cell? ⟨p, q + k * 6, none⟩ = some (.int .i64 y.tank) ∧ W.cell? ⟨p, q + k * 6 + 1, none⟩ = some (.bool y.pr) ∧ W.cell? ⟨p, q + k * 6 + 2, none⟩ = some (.int .i64 y.s0) ∧ W.cell? ⟨p, q + k * 6 + 3, none⟩ = some (.int .i64 y.s1) ∧ W.cell? ⟨p, q + k * 6 + 4, none⟩ = some (.int .i64 y.d0) ∧ W.cell? ⟨p, q + k * 6 + 5, none⟩ = some (.int .i64 y.d1)) := Lib.hid fun W hW => hF.below hW lp k y hy
    clear hz hy hA hF
    go_wp2_with fail
    rename World => WO
    go_loopw [18] (fun i wr => ∃ j : Nat, j ≤ k ∧ i = .int .i64 j ∧ Below WO.heap.size WO wr ∧ hasTank (T.take j) z.1.id = false) (fun i _ => k - (intOf i).toNat)
    case atStart => exact ⟨0, by omega, rfl, Below.refl _ _, rfl⟩
    case round =>
     obtain ⟨j, hj2, rfl, hI, hno⟩ := hrel
     have HI := Lib.hid hI; have HNO := Lib.hid hno
     clear hI hno
     by_cases hlt2 : j < k
     ·have k5 : (j : Int) < (k : Int) := by omega
      have k6 : (j : Int) < (l : Int) := by omega
      have k7 : (0 : Int) ≤ (j : Int) := by omega
      obtain ⟨x, hx⟩ : ∃ x, T[j]? = some x := ⟨_, List.getElem?_eq_getElem (show j < T.length by rw [← HL.out]; omega)⟩
      have HCJ : Hid (∀ W : World, Below w.heap.size w W → W.cell? ⟨b, o + j * 6, none⟩ = some (.int .i64 x.1.id)) := Lib.hid fun W hW => (HA.out.below hW lb j x hx).1
      have HCI : Hid (∀ W : World, Below w.heap.size w W → W.cell? ⟨b, o + k * 6, none⟩ = some (.int .i64 z.1.id)) := Lib.hid fun W hW => (HA.out.below hW lb k z HZ.out).1
      have HXX := Lib.hid hx
      have HEI := Lib.hid (below_then HB.out HI.out)
      have HXI := Lib.hid (HX.out.on HI.out)
      clear hx
      go_upto_region 27 with fail
      have hS0 : Below w.heap.size w wr.drew ∧ Below wr.heap.size wr wr.drew := ⟨HEI.out.drew, (Below.refl _ _).drew⟩
      have HS0 := Lib.hid hS0
      refine wp_region_held_drew (S := fun w' => Below w.heap.size w w' ∧ Below wr.heap.size wr w') (by kernel_rfl) hS0 (fun hHeld => ?_)
      obtain ⟨Wd, hW⟩ : ∃ W', wr.drew = W' := ⟨_, rfl⟩
      rw [hW] at HS0 hHeld ⊢
      clear hW hS0
      refine tK 134 (i := 0) (v := .slice (some ⟨b, o, none⟩) l e) rfl rfl (by kernel_rfl) ?_ hHeld ?_
      ·intro w hSw; clear hSw; go_simp; try with_reducible rfl
      simp only [uZ, uS]
      refine tK 135 (i := 1) (v := .int .i64 j) rfl rfl (by kernel_rfl) ?_ hHeld ?_
      ·intro w hSw; clear hSw; go_simp; try with_reducible rfl
      simp only [uZ, uS]
      refine tK 136 (i := 2) (v := .pointer (some ⟨b, o + j * 6, none⟩)) rfl rfl (by kernel_rfl) ?_ hHeld ?_
      ·intro w hSw; clear hSw; go_simp; try with_reducible rfl
      simp only [uZ, uS]
      refine tK 137 (i := 3) (v := .pointer (some ⟨b, o + j * 6, none⟩)) rfl rfl (by kernel_rfl) ?_ hHeld ?_
      ·intro w hSw; clear hSw; go_simp; try with_reducible rfl
      simp only [uZ, uS]
      refine tK 138 (i := 4) (v := .int .i64 x.1.id) rfl rfl (by kernel_rfl) ?_ hHeld ?_
      ·intro w hSw; have cj := HCJ.out _ hSw.1; clear hSw; go_simp; try with_reducible rfl
      simp only [uZ, uS]
      refine tK 139 (i := 5) (v := .slice (some ⟨b, o, none⟩) l e) rfl rfl (by kernel_rfl) ?_ hHeld ?_
      ·intro w hSw; clear hSw; go_simp; try with_reducible rfl
      simp only [uZ, uS]
      refine tK 140 (i := 6) (v := .int .i64 k) rfl rfl (by kernel_rfl) ?_ hHeld ?_
      ·intro w hSw; clear hSw; go_simp; try with_reducible rfl
      simp only [uZ, uS]
      refine tK 141 (i := 7) (v := .pointer (some ⟨b, o + k * 6, none⟩)) rfl rfl (by kernel_rfl) ?_ hHeld ?_
      ·intro w hSw; clear hSw; go_simp; try with_reducible rfl
      simp only [uZ, uS]
      refine tK 142 (i := 8) (v := .pointer (some ⟨b, o + k * 6, none⟩)) rfl rfl (by kernel_rfl) ?_ hHeld ?_
      ·intro w hSw; clear hSw; go_simp; try with_reducible rfl
      simp only [uZ, uS]
      refine tK 143 (i := 9) (v := .int .i64 z.1.id) rfl rfl (by kernel_rfl) ?_ hHeld ?_
      ·intro w hSw; have ci := HCI.out _ hSw.1; clear hSw; go_simp; try with_reducible rfl
      simp only [uZ, uS]
      refine tK 144 (i := 10) (v := .bool (x.1.id == z.1.id)) rfl rfl (by kernel_rfl) ?_ hHeld ?_
      ·intro w hSw; clear hSw; go_simp; try with_reducible rfl
      simp only [uZ, uS]
      refine wpAnyH_done (by kernel_rfl) ?_ _
      clear hHeld HCJ HCI
      by_cases hid : x.1.id = z.1.id
      ·have b5 : (x.1.id == z.1.id) = true := by simp [hid]
       have HDUP : Hid (hasTank (T.take k) z.1.id = true) := Lib.hid (hasTank_found HXX.out hlt2 hid)
       clear hid
       have HXE := Lib.hid (HXI.out.on HS0.out.2); have HEE := Lib.hid HS0.out.1
       have hX20 : Y = 21 := by
        have q := errTank_dup HZ.out HY.out HDUP.out
        rw [← first_here hlt HFE.out (by rw [q]; decide), q]
       obtain rfl : E = 21 := by rw [← HEY.out, hX20]
       clear hX20 HDUP
       have h_ := HXE.out _ (.tail _ (.head _))
       have h_0 := h_.cell 0
       have h_f0 := h_.frozen 0
       have h_1 := h_.cell 1
       have h_f1 := h_.frozen 1
       have h_2 := h_.cell 2
       have h_f2 := h_.frozen 2
       have h_3 := h_.cell 3
       have h_f3 := h_.frozen 3
       have h_4 := h_.cell 4
       have h_f4 := h_.frozen 4
       have h_l := h_.lt
       simp at h_0 h_f0 h_1 h_f1 h_2 h_f2 h_3 h_f3 h_4 h_f4
       clear h_
       go_wp2
       refine bodyPost_ret (v := .tuple #[.agg #[.slice none 0 0, .int .i64 0, .int .i64 0, .int .i64 0, .int .i64 0], .int .i64 21]) (by simp [results, Tryz.results8, go_sem, h_0, h_1, h_2, h_3, h_4]) rfl (LoadPost.err (by decide) ?_)
       have hg := HGM.out
       repeat (first | exact HEE.out | refine Below.setCell ?_ (by simp <;> omega) _)

      have b5 : (x.1.id == z.1.id) = false := beq_eq_false_iff_ne.2 hid
      have HNX := Lib.hid (hasTank_next HXX.out HNO.out hid)
      have HIE := Lib.hid (below_then HI.out HS0.out.2)
      clear hid HXX HS0 HXI HEI
      have h9 := H9.out
      go_wp2
      go_roundw
      case rel => exact ⟨j + 1, by omega, by go_num, HIE.out, HNX.out⟩
      case measure => simp [intOf]; omega
     have hjk : k = j := by omega
     subst hjk
     have k5 : ¬ (k : Int) < (k : Int) := by omega
     have HB2 := Lib.hid (below_then HB.out HI.out)
     have HX2 := Lib.hid (HX.out.on HI.out)
     have HO2 := Lib.hid (HO.out.on HI.out)
     clear HB HX HO HI hlt2 hj2
     have HB := HB2; have HX := HX2; have HO := HO2
     clear HB2 HX2 HO2
     have hnew := errTank_new HZ.out HY.out HNO.out
     obtain ⟨E0, hE0⟩ : ∃ x, levelErr z.1 y = x := ⟨_, rfl⟩
     obtain ⟨m0, m1, a0, a1, z0, z1, hwv⟩ := balV_form z.1 y
     rw [hE0] at hnew hwv
     have CW : Hid (∀ W, Below w.heap.size w W → Calls Tryz.prog 36 #[.agg #[.int .i64 z.1.id, .int .i64 z.1.al, .int .i64 z.1.ah, .slice z.2.A z.2.n z.2.c, .slice z.2.B z.2.m z.2.d, .slice z.2.C z.2.l z.2.e], .agg #[.int .i64 y.tank, .bool y.pr, .int .i64 y.s0, .int .i64 y.s1, .int .i64 y.d0, .int .i64 y.d1]] W fun x w' => x = .returned (.tuple #[.agg #[.int .i64 m0, .int .i64 m1, .int .i64 a0, .int .i64 a1, .int .i64 z0, .int .i64 z1], .int .i64 E0]) ∧ Below W.heap.size W w') := Lib.hid fun W hW => by
      have q := sBallast_any z.1 z.2 y W (HIN.out.below hW)
      rw [hwv] at q
      exact q
     have HWV := Lib.hid hwv; have HNEW := Lib.hid hnew; have HE0 := Lib.hid hE0
     clear HNO hnew hE0 hwv
     go_upto_region 29 with fail
     go_cut [19, 20] (fun s19 s20 wx => ∃ N, s19 = .pointer (some ⟨N, 0, none⟩) ∧ s20 = .int .i64 E0 ∧ Boxes wx ((N, 63, #[.int .i64 m0, .int .i64 m1, .int .i64 a0, .int .i64 a1, .int .i64 z0, .int .i64 z1]) :: [(M, 32, #[v2, .int .i64 u0, .int .i64 u1, .int .i64 s0, .int .i64 s1]), (G, 32, #[.slice none 0 0, .int .i64 0, .int .i64 0, .int .i64 0, .int .i64 0])]) ∧ Below wr.heap.size wr wx ∧ wr.heap.size ≤ N)
     case first =>
      have HX_0 := HX; have HE_0 := Lib.hid (Below.refl wr.heap.size wr)
      obtain ⟨LB, hLB⟩ : ∃ x, ([(M, 32, #[v2, .int .i64 u0, .int .i64 u1, .int .i64 s0, .int .i64 s1]), (G, 32, #[.slice none 0 0, .int .i64 0, .int .i64 0, .int .i64 0, .int .i64 0])] : List (Nat × TypeId × Array Value)) = x := ⟨_, rfl⟩
      have hS0 : BB wr LB wr.drew := ⟨by rw [← hLB]; exact HX_0.out, HE_0.out.drew⟩
      have HLB := Lib.hid hLB
      clear hLB
      refine wp_region_held_drew (S := BB wr LB) (by kernel_rfl) hS0 (fun hHeld => ?_)
      obtain ⟨yq, hW⟩ : ∃ W', wr.drew = W' := ⟨_, rfl⟩
      rw [hW] at hHeld ⊢
      clear hW hS0 HE_0 HX_0
      refine tK 147 (i := 0) (v := .slice (some ⟨b, o, none⟩) l e) rfl rfl (by kernel_rfl) ?_ hHeld ?_
      ·intro w hSw; clear hSw; go_simp; try with_reducible rfl
      simp only [uZ, uS]
      refine tK 148 (i := 1) (v := .int .i64 k) rfl rfl (by kernel_rfl) ?_ hHeld ?_
      ·intro w hSw; clear hSw; go_simp; try with_reducible rfl
      simp only [uZ, uS]
      refine tK 149 (i := 2) (v := .pointer (some ⟨b, o + k * 6, none⟩)) rfl rfl (by kernel_rfl) ?_ hHeld ?_
      ·intro w hSw; clear hSw; go_simp; try with_reducible rfl
      simp only [uZ, uS]
      refine tK 150 (i := 3) (v := .agg #[.int .i64 z.1.id, .int .i64 z.1.al, .int .i64 z.1.ah, .slice z.2.A z.2.n z.2.c, .slice z.2.B z.2.m z.2.d, .slice z.2.C z.2.l z.2.e]) rfl rfl (by kernel_rfl) ?_ hHeld ?_
      ·intro w hSw; obtain ⟨c0, c1, c2, c3, c4, c5⟩ := HCK.out _ (below_then HB.out hSw.be); clear hSw; go_simp; try with_reducible rfl
      simp only [uZ, uS]
      refine tK 151 (i := 4) (v := .slice (some ⟨p, q, none⟩) r s) rfl rfl (by kernel_rfl) ?_ hHeld ?_
      ·intro w hSw; clear hSw; go_simp; try with_reducible rfl
      simp only [uZ, uS]
      refine tK 152 (i := 5) (v := .int .i64 k) rfl rfl (by kernel_rfl) ?_ hHeld ?_
      ·intro w hSw; clear hSw; go_simp; try with_reducible rfl
      simp only [uZ, uS]
      refine tK 153 (i := 6) (v := .pointer (some ⟨p, q + k * 6, none⟩)) rfl rfl (by kernel_rfl) ?_ hHeld ?_
      ·intro w hSw; clear hSw; go_simp; try with_reducible rfl
      simp only [uZ, uS]
      refine tK 154 (i := 7) (v := .agg #[.int .i64 y.tank, .bool y.pr, .int .i64 y.s0, .int .i64 y.s1, .int .i64 y.d0, .int .i64 y.d1]) rfl rfl (by kernel_rfl) ?_ hHeld ?_
      ·intro w hSw; obtain ⟨c0, c1, c2, c3, c4, c5⟩ := HCF.out _ (below_then HB.out hSw.be); clear hSw; go_simp; try with_reducible rfl
      simp only [uZ, uS]
      refine wpAnyH_ready (rs := [8, 12]) (by kernel_rfl) (by simp) ?_
      refine AllReadyH.cons rfl (fun K hK => ?_) (AllReadyH.cons rfl (fun K hK => ?_) AllReadyH.nil)
      rotate_left
      rename World => yq
      go_simp
      have HDN := Lib.hid (boxes_lt hHeld.bx); have HZN := Lib.hid hHeld.be.size; have HY := Lib.hid (hHeld.bx.new 63 #[.int .i64 0, .int .i64 0, .int .i64 0, .int .i64 0, .int .i64 0, .int .i64 0])
      refine hK.out _ _ (hHeld.on (below_alloc1 _ _)) (fun hHeld2 => ?_)
      try simp only [Act.put, uA, uZ, uS]
      clear hK K hHeld
      have hHeld := hHeld2
      clear hHeld2
      obtain ⟨yr, hW⟩ : ∃ W', yq.alloc (.cells #[.int .i64 0, .int .i64 0, .int .i64 0, .int .i64 0, .int .i64 0, .int .i64 0] 63) = W' := ⟨_, rfl⟩
      rw [hW] at HY hHeld ⊢
      clear hW
      obtain ⟨N, hN⟩ : ∃ N, yq.heap.size = N := ⟨_, rfl⟩
      rw [hN] at HY HDN HZN ⊢
      clear hN
      refine wpAnyH_ready (rs := [8]) (by kernel_rfl) (by simp) ?_
      refine AllReadyH.cons rfl (fun K hK => ?_) AllReadyH.nil
      go_simp
      (with_reducible refine (CW.out _ (below_then HB.out hHeld.be)).mono ?_)
      rintro x y ⟨rfl, hq⟩
      have HY := Lib.hid (HY.out.on hq)
      refine hK.out _ _ (hHeld.on hq) (fun hHeld2 => ?_)
      clear hq
      try simp only [Act.put, uA, uZ, uS]
      clear hK K hHeld
      have hHeld := hHeld2
      clear hHeld2
      refine tK 146 (i := 9) (v := .tuple #[.agg #[.int .i64 m0, .int .i64 m1, .int .i64 a0, .int .i64 a1, .int .i64 z0, .int .i64 z1], .int .i64 E0]) rfl rfl (by kernel_rfl) ?_ hHeld ?_
      ·intro w hSw; clear hSw; go_simp; try with_reducible rfl
      simp only [uZ, uS]
      refine tK 156 (i := 10) (v := .agg #[.int .i64 m0, .int .i64 m1, .int .i64 a0, .int .i64 a1, .int .i64 z0, .int .i64 z1]) rfl rfl (by kernel_rfl) ?_ hHeld ?_
      ·intro w hSw; clear hSw; go_simp; try with_reducible rfl
      simp only [uZ, uS]
      refine tK 157 (i := 11) (v := .int .i64 E0) rfl rfl (by kernel_rfl) ?_ hHeld ?_
      ·intro w hSw; clear hSw; go_simp; try with_reducible rfl
      simp only [uZ, uS]
      rotate_left
      go_simp
      (with_reducible refine (CW.out _ (below_then HB.out hHeld.be)).mono ?_)
      rintro x y ⟨rfl, hq⟩
      refine hK.out _ _ (hHeld.on hq) (fun hHeld2 => ?_)
      clear hq
      try simp only [Act.put, uA, uZ, uS]
      clear hK K hHeld
      have hHeld := hHeld2
      clear hHeld2
      refine tK 146 (i := 9) (v := .tuple #[.agg #[.int .i64 m0, .int .i64 m1, .int .i64 a0, .int .i64 a1, .int .i64 z0, .int .i64 z1], .int .i64 E0]) rfl rfl (by kernel_rfl) ?_ hHeld ?_
      ·intro w hSw; clear hSw; go_simp; try with_reducible rfl
      simp only [uZ, uS]
      refine tK 156 (i := 10) (v := .agg #[.int .i64 m0, .int .i64 m1, .int .i64 a0, .int .i64 a1, .int .i64 z0, .int .i64 z1]) rfl rfl (by kernel_rfl) ?_ hHeld ?_
      ·intro w hSw; clear hSw; go_simp; try with_reducible rfl
      simp only [uZ, uS]
      refine tK 157 (i := 11) (v := .int .i64 E0) rfl rfl (by kernel_rfl) ?_ hHeld ?_
      ·intro w hSw; clear hSw; go_simp; try with_reducible rfl
      simp only [uZ, uS]
      refine wpAnyH_ready (rs := [12]) (by kernel_rfl) (by simp) ?_
      refine AllReadyH.cons rfl (fun K hK => ?_) AllReadyH.nil
      rename World => yq
      go_simp
      have HDN := Lib.hid (boxes_lt hHeld.bx); have HZN := Lib.hid hHeld.be.size; have HY := Lib.hid (hHeld.bx.new 63 #[.int .i64 0, .int .i64 0, .int .i64 0, .int .i64 0, .int .i64 0, .int .i64 0])
      refine hK.out _ _ (hHeld.on (below_alloc1 _ _)) (fun hHeld2 => ?_)
      try simp only [Act.put, uA, uZ, uS]
      clear hK K hHeld
      have hHeld := hHeld2
      clear hHeld2
      obtain ⟨yr, hW⟩ : ∃ W', yq.alloc (.cells #[.int .i64 0, .int .i64 0, .int .i64 0, .int .i64 0, .int .i64 0, .int .i64 0] 63) = W' := ⟨_, rfl⟩
      rw [hW] at HY hHeld ⊢
      clear hW
      obtain ⟨N, hN⟩ : ∃ N, yq.heap.size = N := ⟨_, rfl⟩
      rw [hN] at HY HDN HZN ⊢
      clear hN
      all_goals
       refine wpAnyH_ready (rs := [13]) (by kernel_rfl) (by simp) ?_
       refine AllReadyH.cons rfl (fun K hK => ?_) AllReadyH.nil
       rw [if_pos (by kernel_rfl)]
       rename World => yq
       have HXs : Hid (Boxes (yq.setRow N #[.int .i64 m0, .int .i64 m1, .int .i64 a0, .int .i64 a1, .int .i64 z0, .int .i64 z1]) ((N, 63, #[.int .i64 m0, .int .i64 m1, .int .i64 a0, .int .i64 a1, .int .i64 z0, .int .i64 z1]) :: LB)) := Lib.hid (Boxes.row HY.out (.head _) (fun p hp => ⟨.tail _ hp, HDN.out p hp⟩) #[.int .i64 m0, .int .i64 m1, .int .i64 a0, .int .i64 a1, .int .i64 z0, .int .i64 z1])
       have hS := hHeld.row HDN.out HZN.out #[.int .i64 m0, .int .i64 m1, .int .i64 a0, .int .i64 a1, .int .i64 z0, .int .i64 z1]
       have HEs := Lib.hid hS.be
       refine wp_store_row 63 (.tmp 19) (.tmp 156) rfl N #[.int .i64 m0, .int .i64 m1, .int .i64 a0, .int .i64 a1, .int .i64 z0, .int .i64 z1] rfl rfl 63 _ (HY.out _ (.head _)) (by kernel_rfl) rfl (by kernel_rfl) ?_
       obtain ⟨Ws, hW⟩ : ∃ W', yq.setRow N #[.int .i64 m0, .int .i64 m1, .int .i64 a0, .int .i64 a1, .int .i64 z0, .int .i64 z1] = W' := ⟨_, rfl⟩
       rw [hW] at HXs HEs hS ⊢
       refine hK.out _ _ hS (fun hHeld2 => ?_)
       clear hW hS HY
       try simp only [Act.put, uA, uZ, uS]
       clear hK K hHeld
       have hHeld := hHeld2
       clear hHeld2
       refine tK 20 (i := 14) (v := .int .i64 E0) rfl rfl (by kernel_rfl) ?_ hHeld ?_
       ·intro w hSw; clear hSw; go_simp; try with_reducible rfl
       simp only [uZ, uS]
       refine wpAnyH_done (by kernel_rfl) ?_ _
       clear hHeld
       go_wp2_with fail
       go_meet
       rw [← HLB.out] at HXs
       exact ⟨N, rfl, rfl, HXs.out, HEs.out, HZN.out⟩
     case rest =>
      obtain ⟨N1, rfl, rfl, hX1, hB1, hN1⟩ := hcut
      have HX1 := Lib.hid hX1; have HB1 := Lib.hid hB1; have HN1 := Lib.hid hN1
      clear hX1 hB1 hN1 CW
      rename World => WA
      by_cases g0 : E0 = 0
      rotate_left
      ·skip
       have hX0 : Y = E0 := by rw [← first_here hlt HFE.out (by rw [HNEW.out]; exact g0), HNEW.out]
       obtain rfl : E = E0 := by rw [← HEY.out, hX0]
       have HG0 := Lib.hid g0; have HEA := Lib.hid (below_then HB.out HB1.out)
       have b6 : (E == 0) = false := beq_eq_false_iff_ne.2 g0
       have b7 : (E != 0) = true := bne_iff_ne.2 g0
       clear g0 hX0 HCK HCF HB1
       have h_ := HX1.out _ (.tail _ (.tail _ (.head _)))
       have h_0 := h_.cell 0
       have h_f0 := h_.frozen 0
       have h_1 := h_.cell 1
       have h_f1 := h_.frozen 1
       have h_2 := h_.cell 2
       have h_f2 := h_.frozen 2
       have h_3 := h_.cell 3
       have h_f3 := h_.frozen 3
       have h_4 := h_.cell 4
       have h_f4 := h_.frozen 4
       have h_l := h_.lt
       simp at h_0 h_f0 h_1 h_f1 h_2 h_f2 h_3 h_f3 h_4 h_f4
       clear h_
       go_wp2
       refine bodyPost_ret (v := .tuple #[.agg #[.slice none 0 0, .int .i64 0, .int .i64 0, .int .i64 0, .int .i64 0], .int .i64 E]) (by simp [results, Tryz.results8, go_sem, h_0, h_1, h_2, h_3, h_4]) rfl (LoadPost.err (HG0.out) ?_)
       have hg := HGM.out
       repeat (first | exact HEA.out | refine Below.setCell ?_ (by simp <;> omega) _)
      subst g0
      have hE0 := HE0.out
      have hwd := balV_inj hE0 HWV.out
      have HFE2 := Lib.hid (first_next hlt HFE.out HNEW.out)
      clear HFE HE0 HWV HNEW
      obtain ⟨e0, e1, t0, t1, q1, q2, q3, q4, q5, q6, q7⟩ := tank_step (by have := H9.out; omega) HZ.out HY.out hE0 HUT.out HST.out
      rw [hwd] at q7
      have CH : Hid (∀ W, Below w.heap.size w W → Calls Tryz.prog 37 #[.agg #[.int .i64 z.1.id, .int .i64 z.1.al, .int .i64 z.1.ah, .slice z.2.A z.2.n z.2.c, .slice z.2.B z.2.m z.2.d, .slice z.2.C z.2.l z.2.e], .agg #[.int .i64 y.tank, .bool y.pr, .int .i64 y.s0, .int .i64 y.s1, .int .i64 y.d0, .int .i64 y.d1]] W fun x w' => x = .returned (.tuple #[.agg #[.int .i64 e0, .int .i64 e1], .int .i64 0]) ∧ Below W.heap.size W w') := Lib.hid fun W hW => by
       have q := sSurface_any z.1 z.2 y W (HIN.out.below hW)
       rw [q1] at q
       exact q
      have Q3 := Lib.hid q3; have Q4 := Lib.hid q4; have Q5 := Lib.hid q5; have Q6 := Lib.hid q6; have Q7 := Lib.hid q7
      have HLE : Hid (((upTo L fs n).1 ++ (upToT T ls k).1).length ≤ 18) := Lib.hid (by
       have j1 := upTo_len L fs n; have j2 := upToT_len T ls k; have := H9.out
       rw [List.length_append]; omega)
      obtain ⟨LS, hLS⟩ : ∃ x, (upTo L fs n).1 ++ (upToT T ls k).1 = x := ⟨_, rfl⟩
      rw [hLS] at HO HLE
      have HLS := Lib.hid hLS
      clear hLS
      clear hE0 HIN q1 q2 q3 q4 q5 q6 q7 hwd HZ HY
      go_upto_region 32 with fail
      go_cut [21] (fun s21 wx => ∃ N, s21 = .pointer (some ⟨N, 0, none⟩) ∧ Boxes wx ((N, 30, #[.int .i64 e0, .int .i64 e1]) :: ((N1, 63, #[.int .i64 m0, .int .i64 m1, .int .i64 a0, .int .i64 a1, .int .i64 z0, .int .i64 z1]) :: [(M, 32, #[v2, .int .i64 u0, .int .i64 u1, .int .i64 s0, .int .i64 s1]), (G, 32, #[.slice none 0 0, .int .i64 0, .int .i64 0, .int .i64 0, .int .i64 0])])) ∧ Below wr.heap.size wr wx ∧ wr.heap.size ≤ N)
      case first =>
       clear HX
       obtain ⟨LB, hLB⟩ : ∃ x, (((N1, 63, #[.int .i64 m0, .int .i64 m1, .int .i64 a0, .int .i64 a1, .int .i64 z0, .int .i64 z1]) :: [(M, 32, #[v2, .int .i64 u0, .int .i64 u1, .int .i64 s0, .int .i64 s1]), (G, 32, #[.slice none 0 0, .int .i64 0, .int .i64 0, .int .i64 0, .int .i64 0])]) : List (Nat × TypeId × Array Value)) = x := ⟨_, rfl⟩
       have hS0 : BB wr LB WA.drew := ⟨by rw [← hLB]; exact HX1.out, HB1.out.drew⟩
       have HLB := Lib.hid hLB
       clear hLB
       refine wp_region_held_drew (S := BB wr LB) (by kernel_rfl) hS0 (fun hHeld => ?_)
       obtain ⟨yq, hW⟩ : ∃ W', WA.drew = W' := ⟨_, rfl⟩
       rw [hW] at hHeld ⊢
       clear hW hS0 HB1 HX1
       refine tK 163 (i := 0) (v := .slice (some ⟨b, o, none⟩) l e) rfl rfl (by kernel_rfl) ?_ hHeld ?_
       ·intro w hSw; clear hSw; go_simp; try with_reducible rfl
       simp only [uZ, uS]
       refine tK 164 (i := 1) (v := .int .i64 k) rfl rfl (by kernel_rfl) ?_ hHeld ?_
       ·intro w hSw; clear hSw; go_simp; try with_reducible rfl
       simp only [uZ, uS]
       refine tK 165 (i := 2) (v := .pointer (some ⟨b, o + k * 6, none⟩)) rfl rfl (by kernel_rfl) ?_ hHeld ?_
       ·intro w hSw; clear hSw; go_simp; try with_reducible rfl
       simp only [uZ, uS]
       refine tK 166 (i := 3) (v := .agg #[.int .i64 z.1.id, .int .i64 z.1.al, .int .i64 z.1.ah, .slice z.2.A z.2.n z.2.c, .slice z.2.B z.2.m z.2.d, .slice z.2.C z.2.l z.2.e]) rfl rfl (by kernel_rfl) ?_ hHeld ?_
       ·intro w hSw; obtain ⟨c0, c1, c2, c3, c4, c5⟩ := HCK.out _ (below_then HB.out hSw.be); clear hSw; go_simp; try with_reducible rfl
       simp only [uZ, uS]
       refine tK 167 (i := 4) (v := .slice (some ⟨p, q, none⟩) r s) rfl rfl (by kernel_rfl) ?_ hHeld ?_
       ·intro w hSw; clear hSw; go_simp; try with_reducible rfl
       simp only [uZ, uS]
       refine tK 168 (i := 5) (v := .int .i64 k) rfl rfl (by kernel_rfl) ?_ hHeld ?_
       ·intro w hSw; clear hSw; go_simp; try with_reducible rfl
       simp only [uZ, uS]
       refine tK 169 (i := 6) (v := .pointer (some ⟨p, q + k * 6, none⟩)) rfl rfl (by kernel_rfl) ?_ hHeld ?_
       ·intro w hSw; clear hSw; go_simp; try with_reducible rfl
       simp only [uZ, uS]
       refine tK 170 (i := 7) (v := .agg #[.int .i64 y.tank, .bool y.pr, .int .i64 y.s0, .int .i64 y.s1, .int .i64 y.d0, .int .i64 y.d1]) rfl rfl (by kernel_rfl) ?_ hHeld ?_
       ·intro w hSw; obtain ⟨c0, c1, c2, c3, c4, c5⟩ := HCF.out _ (below_then HB.out hSw.be); clear hSw; go_simp; try with_reducible rfl
       simp only [uZ, uS]
       refine wpAnyH_ready (rs := [8, 12]) (by kernel_rfl) (by simp) ?_
       refine AllReadyH.cons rfl (fun K hK => ?_) (AllReadyH.cons rfl (fun K hK => ?_) AllReadyH.nil)
       rotate_left
       rename World => yq
       go_simp
       have HDN := Lib.hid (boxes_lt hHeld.bx); have HZN := Lib.hid hHeld.be.size; have HY := Lib.hid (hHeld.bx.new 30 #[.int .i64 0, .int .i64 0])
       refine hK.out _ _ (hHeld.on (below_alloc1 _ _)) (fun hHeld2 => ?_)
       try simp only [Act.put, uA, uZ, uS]
       clear hK K hHeld
       have hHeld := hHeld2
       clear hHeld2
       obtain ⟨yr, hW⟩ : ∃ W', yq.alloc (.cells #[.int .i64 0, .int .i64 0] 30) = W' := ⟨_, rfl⟩
       rw [hW] at HY hHeld ⊢
       clear hW
       obtain ⟨N, hN⟩ : ∃ N, yq.heap.size = N := ⟨_, rfl⟩
       rw [hN] at HY HDN HZN ⊢
       clear hN
       refine wpAnyH_ready (rs := [8]) (by kernel_rfl) (by simp) ?_
       refine AllReadyH.cons rfl (fun K hK => ?_) AllReadyH.nil
       go_simp
       (with_reducible refine (CH.out _ (below_then HB.out hHeld.be)).mono ?_)
       rintro x y ⟨rfl, hq⟩
       have HY := Lib.hid (HY.out.on hq)
       refine hK.out _ _ (hHeld.on hq) (fun hHeld2 => ?_)
       clear hq
       try simp only [Act.put, uA, uZ, uS]
       clear hK K hHeld
       have hHeld := hHeld2
       clear hHeld2
       refine tK 162 (i := 9) (v := .tuple #[.agg #[.int .i64 e0, .int .i64 e1], .int .i64 0]) rfl rfl (by kernel_rfl) ?_ hHeld ?_
       ·intro w hSw; clear hSw; go_simp; try with_reducible rfl
       simp only [uZ, uS]
       refine tK 172 (i := 10) (v := .agg #[.int .i64 e0, .int .i64 e1]) rfl rfl (by kernel_rfl) ?_ hHeld ?_
       ·intro w hSw; clear hSw; go_simp; try with_reducible rfl
       simp only [uZ, uS]
       refine tK 173 (i := 11) (v := .int .i64 0) rfl rfl (by kernel_rfl) ?_ hHeld ?_
       ·intro w hSw; clear hSw; go_simp; try with_reducible rfl
       simp only [uZ, uS]
       rotate_left
       go_simp
       (with_reducible refine (CH.out _ (below_then HB.out hHeld.be)).mono ?_)
       rintro x y ⟨rfl, hq⟩
       refine hK.out _ _ (hHeld.on hq) (fun hHeld2 => ?_)
       clear hq
       try simp only [Act.put, uA, uZ, uS]
       clear hK K hHeld
       have hHeld := hHeld2
       clear hHeld2
       refine tK 162 (i := 9) (v := .tuple #[.agg #[.int .i64 e0, .int .i64 e1], .int .i64 0]) rfl rfl (by kernel_rfl) ?_ hHeld ?_
       ·intro w hSw; clear hSw; go_simp; try with_reducible rfl
       simp only [uZ, uS]
       refine tK 172 (i := 10) (v := .agg #[.int .i64 e0, .int .i64 e1]) rfl rfl (by kernel_rfl) ?_ hHeld ?_
       ·intro w hSw; clear hSw; go_simp; try with_reducible rfl
       simp only [uZ, uS]
       refine tK 173 (i := 11) (v := .int .i64 0) rfl rfl (by kernel_rfl) ?_ hHeld ?_
       ·intro w hSw; clear hSw; go_simp; try with_reducible rfl
       simp only [uZ, uS]
       refine wpAnyH_ready (rs := [12]) (by kernel_rfl) (by simp) ?_
       refine AllReadyH.cons rfl (fun K hK => ?_) AllReadyH.nil
       rename World => yq
       go_simp
       have HDN := Lib.hid (boxes_lt hHeld.bx); have HZN := Lib.hid hHeld.be.size; have HY := Lib.hid (hHeld.bx.new 30 #[.int .i64 0, .int .i64 0])
       refine hK.out _ _ (hHeld.on (below_alloc1 _ _)) (fun hHeld2 => ?_)
       try simp only [Act.put, uA, uZ, uS]
       clear hK K hHeld
       have hHeld := hHeld2
       clear hHeld2
       obtain ⟨yr, hW⟩ : ∃ W', yq.alloc (.cells #[.int .i64 0, .int .i64 0] 30) = W' := ⟨_, rfl⟩
       rw [hW] at HY hHeld ⊢
       clear hW
       obtain ⟨N, hN⟩ : ∃ N, yq.heap.size = N := ⟨_, rfl⟩
       rw [hN] at HY HDN HZN ⊢
       clear hN
       all_goals
        refine wpAnyH_ready (rs := [13]) (by kernel_rfl) (by simp) ?_
        refine AllReadyH.cons rfl (fun K hK => ?_) AllReadyH.nil
        rw [if_pos (by kernel_rfl)]
        rename World => yq
        have HXs : Hid (Boxes (yq.setRow N #[.int .i64 e0, .int .i64 e1]) ((N, 30, #[.int .i64 e0, .int .i64 e1]) :: LB)) := Lib.hid (Boxes.row HY.out (.head _) (fun p hp => ⟨.tail _ hp, HDN.out p hp⟩) #[.int .i64 e0, .int .i64 e1])
        have hS := hHeld.row HDN.out HZN.out #[.int .i64 e0, .int .i64 e1]
        have HEs := Lib.hid hS.be
        refine wp_store_row 30 (.tmp 21) (.tmp 172) rfl N #[.int .i64 e0, .int .i64 e1] rfl rfl 30 _ (HY.out _ (.head _)) (by kernel_rfl) rfl (by kernel_rfl) ?_
        obtain ⟨Ws, hW⟩ : ∃ W', yq.setRow N #[.int .i64 e0, .int .i64 e1] = W' := ⟨_, rfl⟩
        rw [hW] at HXs HEs hS ⊢
        refine hK.out _ _ hS (fun hHeld2 => ?_)
        clear hW hS HY
        try simp only [Act.put, uA, uZ, uS]
        clear hK K hHeld
        have hHeld := hHeld2
        clear hHeld2
        refine tK 22 (i := 14) (v := .int .i64 0) rfl rfl (by kernel_rfl) ?_ hHeld ?_
        ·intro w hSw; clear hSw; go_simp; try with_reducible rfl
        simp only [uZ, uS]
        refine wpAnyH_done (by kernel_rfl) ?_ _
        clear hHeld
        go_wp2_with fail
        go_meet
        rw [← HLB.out] at HXs
        exact ⟨N, rfl, HXs.out, HEs.out, HZN.out⟩
      case rest =>
       obtain ⟨N2, rfl, hX2, hB2, hN2⟩ := hcut
       rename World => WB
       have HX2 := Lib.hid hX2
       have HNN : Hid (wr.heap.size ≤ N1 ∧ wr.heap.size ≤ N2 ∧ M < wr.heap.size) := Lib.hid ⟨HN1.out, hN2, (HX.out _ (.head _)).lt⟩
       have HBB := Lib.hid (below_then HB.out hB2); have HOB := Lib.hid (HO.out.on hB2)
       clear hX2 hB2 hN2 HX1 HB1 HX HN1 CH HCK
       clear HCF
       go_upto_region 33 with fail
       have HXm : Hid (Boxes WB [(M, 32, #[v2, .int .i64 u0, .int .i64 u1, .int .i64 s0, .int .i64 s1]), (N2, 30, #[.int .i64 e0, .int .i64 e1]), (N1, 63, #[.int .i64 m0, .int .i64 m1, .int .i64 a0, .int .i64 a1, .int .i64 z0, .int .i64 z1]), (G, 32, #[.slice none 0 0, .int .i64 0, .int .i64 0, .int .i64 0, .int .i64 0])]) := Lib.hid (HX2.out.sub (fun x hx => by
        simp only [List.mem_cons, List.not_mem_nil, or_false] at hx ⊢
        rcases hx with h | h | h | h <;> simp [h]))
       have HFAR : Hid (∀ x ∈ ([(N2, 30, #[.int .i64 e0, .int .i64 e1]), (N1, 63, #[.int .i64 m0, .int .i64 m1, .int .i64 a0, .int .i64 a1, .int .i64 z0, .int .i64 z1]), (G, 32, #[.slice none 0 0, .int .i64 0, .int .i64 0, .int .i64 0, .int .i64 0])] : List (Nat × TypeId × Array Value)), x.1 ≠ M) := Lib.hid (fun x hx => by
        have q1 := HNN.out; have q2 := HGM.out
        simp only [List.mem_cons, List.not_mem_nil, or_false] at hx
        rcases hx with h | h | h <;> (rw [h]; dsimp only; omega))
       have m_ := HXm.out _ (.head _)
       have m_1 := m_.cell 1
       have m_f1 := m_.frozen 1
       have m_2 := m_.cell 2
       have m_f2 := m_.frozen 2
       have m_l := m_.lt
       simp at m_1 m_f1 m_2 m_f2
       clear m_
       have n_ := HXm.out _ (.tail _ (.head _))
       have n_0 := n_.cell 0
       have n_1 := n_.cell 1
       simp at n_0 n_1
       clear n_
       have q3 := Q3.out; have q4 := Q4.out
       go_upto_region 34 with fail
       clear q3 q4 m_1 m_2 m_f1 m_f2 m_l n_0 n_1
       have HXb : Hid (Boxes (WB.setCell ⟨M, 1, none⟩ (.int .i64 t0)) [(M, 32, #[v2, .int .i64 t0, .int .i64 u1, .int .i64 s0, .int .i64 s1]), (N2, 30, #[.int .i64 e0, .int .i64 e1]), (N1, 63, #[.int .i64 m0, .int .i64 m1, .int .i64 a0, .int .i64 a1, .int .i64 z0, .int .i64 z1]), (G, 32, #[.slice none 0 0, .int .i64 0, .int .i64 0, .int .i64 0, .int .i64 0])]) := Lib.hid (HXm.out.set1 HFAR.out 1 (.int .i64 t0) _ rfl)
       have HX6 : Hid (Boxes ((WB.setCell ⟨M, 1, none⟩ (.int .i64 t0)).setCell ⟨M, 2, none⟩ (.int .i64 t1)) [(M, 32, #[v2, .int .i64 t0, .int .i64 t1, .int .i64 s0, .int .i64 s1]), (N2, 30, #[.int .i64 e0, .int .i64 e1]), (N1, 63, #[.int .i64 m0, .int .i64 m1, .int .i64 a0, .int .i64 a1, .int .i64 z0, .int .i64 z1]), (G, 32, #[.slice none 0 0, .int .i64 0, .int .i64 0, .int .i64 0, .int .i64 0])]) := Lib.hid (HXb.out.set1 HFAR.out 2 (.int .i64 t1) _ rfl)
       have HE6 := Lib.hid ((HBB.out.setCell (p := ⟨M, 1, none⟩) (by have := HGM.out; simp; omega) (.int .i64 t0)).setCell (p := ⟨M, 2, none⟩) (by have := HGM.out; simp; omega) (.int .i64 t1))
       have HO6 := Lib.hid ((HOB.out.kept (grownBy_setCellAt WB M 1 (.int .i64 t0)) (Nat.lt_succ_self M)).kept (grownBy_setCellAt (WB.setCell ⟨M, 1, none⟩ (.int .i64 t0)) M 2 (.int .i64 t1)) (Nat.lt_succ_self M))
       clear HXm HXb HFAR HX2 HBB HOB
       obtain ⟨W6, hW⟩ : ∃ W', ((WB.setCell ⟨M, 1, none⟩ (.int .i64 t0)).setCell ⟨M, 2, none⟩ (.int .i64 t1)) = W' := ⟨_, rfl⟩
       rw [hW] at HX6 HE6 HO6 ⊢
       clear hW
       have Q9 := Q7
       clear Q7
       have m_ := HX6.out _ (.head _)
       have m_0 := m_.cell 0
       simp at m_0
       clear m_
       have n_ := HX6.out _ (.tail _ (.tail _ (.head _)))
       have n_0 := n_.cell 0
       have n_1 := n_.cell 1
       have n_2 := n_.cell 2
       have n_3 := n_.cell 3
       have n_4 := n_.cell 4
       have n_5 := n_.cell 5
       simp at n_0 n_1 n_2 n_3 n_4 n_5
       clear n_
       have HOW := Lib.hid (World.ownsRow.alloc (o := .cells #[.int .i64 m0, .int .i64 m1, .int .i64 a0, .int .i64 a1, .int .i64 z0, .int .i64 z1] 63) (show W6.ownsRow (M + 1) 63 6 v2 _ _ from HO6.out.1))
       have HCE : Hid (∀ (j : Nat) (u : Value), ([.int .i64 m0, .int .i64 m1, .int .i64 a0, .int .i64 a1, .int .i64 z0, .int .i64 z1] : List Value)[j]? = some u → (W6.alloc (.cells #[.int .i64 m0, .int .i64 m1, .int .i64 a0, .int .i64 a1, .int .i64 z0, .int .i64 z1] 63)).cell? ((⟨W6.heap.size, 0, none⟩ : Addr).add j) = some u) := Lib.hid (World.news_of_block (cs := #[.int .i64 m0, .int .i64 m1, .int .i64 a0, .int .i64 a1, .int .i64 z0, .int .i64 z1]) (t := 63) (fr := (0, 0)) (heap_alloc_new W6 _))
       go_wp2_with (at_builtin; refine wpList_append_own _ rfl (.tmp 189) (.tmp 191) 28 rfl (M + 1) 63 i0 (.agg #[.int .i64 0, .int .i64 0, .int .i64 0, .int .i64 0, .int .i64 0, .int .i64 0]) 6 48 Tryz.underlying28 i1 i2 i3 i4 rfl (by decide) _ _ _ rfl HOW.out ⟨W6.heap.size, 0, none⟩ 1 1 [.int .i64 m0, .int .i64 m1, .int .i64 a0, .int .i64 a1, .int .i64 z0, .int .i64 z1] rfl rfl HCE.out ?c2 ?c3 ?c4 ?c5 ?_)
       case c2 => simp [Value.oneCell']
       case c3 => simp only [maxLen]; have := HLE.out; omega
       case c4 => have := HLE.out; omega
       case c5 => have q := (HX6.out _ (.head _)).lt; simp; omega
       intro v' w5 hown1 hgrow hnil
       have hrow : ∀ j, Value.ownBlock v2 = some j → M + 1 ≤ j ∧ j < wr.heap.size := fun j hj => World.ownsRow.lt (show wr.ownsRow (M + 1) 63 6 v2 _ _ from HO.out.1) j hj
       have HX5 : Hid (Boxes w5 [(M, 32, #[v2, .int .i64 t0, .int .i64 t1, .int .i64 s0, .int .i64 s1]), (G, 32, #[.slice none 0 0, .int .i64 0, .int .i64 0, .int .i64 0, .int .i64 0])]) := Lib.hid (((HX6.out.on (below_alloc1 W6 (.cells #[.int .i64 m0, .int .i64 m1, .int .i64 a0, .int .i64 a1, .int .i64 z0, .int .i64 z1] 63))).sub (fun x hx => by
        simp only [List.mem_cons, List.not_mem_nil, or_false] at hx ⊢
        rcases hx with h | h <;> simp [h])).grown hgrow (fun x hx hj => by
        have q := hrow _ hj.symm
        have q1 := HNN.out; have q2 := HGM.out
        simp only [List.mem_cons, List.not_mem_nil, or_false] at hx
        rcases hx with h | h <;> (rw [h] at q; dsimp only at q; omega)))
       have HE5 : Hid (Below w.heap.size w w5) := Lib.hid ((HE6.out.alloc HE6.out.size _).grown hgrow (by have := HE6.out.size; simp; omega) (fun j hj => by have := (hrow j hj).1; have := HGM.out; omega))
       have HO5 := Lib.hid (NWs.push (r := ⟨m0, m1, a0, a1, z0, z1⟩) hown1 hnil)
       clear hown1 hgrow hrow hnil HOW HCE HE6 HX6
       obtain ⟨vp, vn, vc, rfl⟩ := HO5.out.slice
       clear m_0 n_0 n_1 n_2 n_3 n_4 n_5
       have m_ := HX5.out _ (.head _)
       have m_0 := m_.cell 0
       have m_f0 := m_.frozen 0
       have m_l := m_.lt
       simp at m_0 m_f0
       clear m_
       have HX7 : Hid (Boxes (w5.setCell ⟨M, 0, none⟩ (.slice vp vn vc)) [(M, 32, #[.slice vp vn vc, .int .i64 t0, .int .i64 t1, .int .i64 s0, .int .i64 s1]), (G, 32, #[.slice none 0 0, .int .i64 0, .int .i64 0, .int .i64 0, .int .i64 0])]) := Lib.hid (HX5.out.set1 (fun x hx => by
        have q2 := HGM.out
        simp only [List.mem_cons, List.not_mem_nil, or_false] at hx
        rw [hx]; dsimp only; omega) 0 (.slice vp vn vc) _ rfl)
       have HE7 : Hid (Below w.heap.size w (w5.setCell ⟨M, 0, none⟩ (.slice vp vn vc))) := Lib.hid (HE5.out.setCell (by have := HGM.out; simp; omega) _)
       have HO7 := Lib.hid (HO5.out.kept (grownBy_setCellAt w5 M 0 (.slice vp vn vc)) (Nat.lt_succ_self M))
       clear HX5 HE5 HO5 HNN
       have h9 := H9.out
       go_wp2
       go_roundw
       case rel =>
        exact ⟨k + 1, _, t0, t1, by omega, by go_num, HE7.out, HX7.out, by rw [Q9.out, ← List.append_assoc, HLS.out]; exact HO7.out, Q5.out, Q6.out, HFE2.out⟩
       case measure => simp [intOf]; omega
  clear HY0
  have k1 : (k : Int) < (n : Int) := by omega
  have k4 : (k : Int) < (m : Int) := by have := HMN.out; omega
  have k3 : (0 : Int) ≤ (k : Int) := by omega
  obtain ⟨b, o, p, q, rfl, lb, hA, rfl, lp, hF⟩ : ∃ b o p q, A = some ⟨b, o, none⟩ ∧ b < w.heap.size ∧ HoldsMem w b o L ∧ B = some ⟨p, q, none⟩ ∧ p < w.heap.size ∧ FillsAt w p q fs := by
   rcases HAB.out with h | h
   ·exfalso; have := HN.out; rw [h] at this; simp at this; omega
   ·exact h
  obtain ⟨z, hz⟩ : ∃ z, L[k]? = some z := ⟨_, List.getElem?_eq_getElem (show k < L.length by rw [← HN.out]; omega)⟩
  obtain ⟨y, hy⟩ : ∃ y, fs[k]? = some y := ⟨_, List.getElem?_eq_getElem (show k < fs.length by rw [← HM.out]; omega)⟩
  have HZ := Lib.hid hz; have HY := Lib.hid hy; have HA := Lib.hid hA
  have hin := IH.out z (List.mem_of_getElem? hz)
  have HIN := Lib.hid hin
  clear hin
  have HCK : Hid (∀ W : World, Below w.heap.size w W → W.cell? ⟨b, o + k * 14, none⟩ = some (.int .i64 z.1.id) ∧ W.cell? ⟨b, o + k * 14 + 1, none⟩ = some (.int .i64 z.1.al) ∧ W.cell? ⟨b, o + k * 14 + 2, none⟩ = some (.int .i64 z.1.ah) ∧ W.cell? ⟨b, o + k * 14 + 3, none⟩ = some (.slice z.2.A z.2.n z.2.c) ∧ W.cell? ⟨b, o + k * 14 + 4, none⟩ = some (.slice z.2.B z.2.m z.2.d) ∧ W.cell? ⟨b, o + k * 14 + 5, none⟩ = some (.slice z.2.C z.2.l z.2.e) ∧ W.cell? ⟨b, o + k * 14 + 6, none⟩ = some (.int .i64 z.1.t0) ∧ W.cell? ⟨b, o + k * 14 + 7, none⟩ = some (.int .i64 z.1.t1) ∧ W.cell? ⟨b, o + k * 14 + 8, none⟩ = some (.int .i64 z.1.u0) ∧ W.cell? ⟨b, o + k * 14 + 9, none⟩ = some (.int .i64 z.1.u1) ∧ W.cell? ⟨b, o + k * 14 + 10, none⟩ = some (.int .i64 z.1.v0) ∧ W.cell? ⟨b, o + k * 14 + 11, none⟩ = some (.int .i64 z.1.v1) ∧ W.cell? ⟨b, o + k * 14 + 12, none⟩ = some (.int .i64 z.1.h0) ∧ W.cell? ⟨b, o + k * 14 + 13, none⟩ = some (.int .i64 z.1.h1)) := Lib.hid fun W hW => hA.below hW lb k z hz
  have HCF : Hid (∀ W : World, Below w.heap.size w W → W.cell? ⟨p, q + k * 6, none⟩ = some (.int .i64 y.hold) ∧ W.cell? ⟨p, q + k * 6 + 1, none⟩ = some (.int .i64 y.st) ∧ W.cell? ⟨p, q + k * 6 + 2, none⟩ = some (.int .i64 y.x0) ∧ W.cell? ⟨p, q + k * 6 + 3, none⟩ = some (.int .i64 y.x1) ∧ W.cell? ⟨p, q + k * 6 + 4, none⟩ = some (.int .i64 y.d0) ∧ W.cell? ⟨p, q + k * 6 + 5, none⟩ = some (.int .i64 y.d1)) := Lib.hid fun W hW => hF.below hW lp k y hy
  clear hz hy hA hF
  go_wp2_with fail
  rename World => WO
  go_loopw [12] (fun i wr => ∃ j : Nat, j ≤ k ∧ i = .int .i64 j ∧ Below WO.heap.size WO wr ∧ hasHold (L.take j) z.1.id = false) (fun i _ => k - (intOf i).toNat)
  case atStart => exact ⟨0, by omega, rfl, Below.refl _ _, rfl⟩
  case round =>
   obtain ⟨j, hj2, rfl, hI, hno⟩ := hrel
   have HI := Lib.hid hI; have HNO := Lib.hid hno
   clear hI hno
   by_cases hlt2 : j < k
   ·have k5 : (j : Int) < (k : Int) := by omega
    have k6 : (j : Int) < (n : Int) := by omega
    have k7 : (0 : Int) ≤ (j : Int) := by omega
    obtain ⟨x, hx⟩ : ∃ x, L[j]? = some x := ⟨_, List.getElem?_eq_getElem (show j < L.length by rw [← HN.out]; omega)⟩
    have HCJ : Hid (∀ W : World, Below w.heap.size w W → W.cell? ⟨b, o + j * 14, none⟩ = some (.int .i64 x.1.id)) := Lib.hid fun W hW => (HA.out.below hW lb j x hx).1
    have HCI : Hid (∀ W : World, Below w.heap.size w W → W.cell? ⟨b, o + k * 14, none⟩ = some (.int .i64 z.1.id)) := Lib.hid fun W hW => (HA.out.below hW lb k z HZ.out).1
    have HXX := Lib.hid hx
    have HEI := Lib.hid (below_then HB.out HI.out)
    have HXI := Lib.hid (HX.out.on HI.out)
    clear hx
    go_upto_region 12 with fail
    have hS0 : Below w.heap.size w wr.drew ∧ Below wr.heap.size wr wr.drew := ⟨HEI.out.drew, (Below.refl _ _).drew⟩
    have HS0 := Lib.hid hS0
    refine wp_region_held_drew (S := fun w' => Below w.heap.size w w' ∧ Below wr.heap.size wr w') (by kernel_rfl) hS0 (fun hHeld => ?_)
    obtain ⟨Wd, hW⟩ : ∃ W', wr.drew = W' := ⟨_, rfl⟩
    rw [hW] at HS0 hHeld ⊢
    clear hW hS0
    refine tK 57 (i := 0) (v := .slice (some ⟨b, o, none⟩) n c) rfl rfl (by kernel_rfl) ?_ hHeld ?_
    ·intro w hSw; clear hSw; go_simp; try with_reducible rfl
    simp only [uZ, uS]
    refine tK 58 (i := 1) (v := .int .i64 j) rfl rfl (by kernel_rfl) ?_ hHeld ?_
    ·intro w hSw; clear hSw; go_simp; try with_reducible rfl
    simp only [uZ, uS]
    refine tK 59 (i := 2) (v := .pointer (some ⟨b, o + j * 14, none⟩)) rfl rfl (by kernel_rfl) ?_ hHeld ?_
    ·intro w hSw; clear hSw; go_simp; try with_reducible rfl
    simp only [uZ, uS]
    refine tK 60 (i := 3) (v := .pointer (some ⟨b, o + j * 14, none⟩)) rfl rfl (by kernel_rfl) ?_ hHeld ?_
    ·intro w hSw; clear hSw; go_simp; try with_reducible rfl
    simp only [uZ, uS]
    refine tK 61 (i := 4) (v := .int .i64 x.1.id) rfl rfl (by kernel_rfl) ?_ hHeld ?_
    ·intro w hSw; have cj := HCJ.out _ hSw.1; clear hSw; go_simp; try with_reducible rfl
    simp only [uZ, uS]
    refine tK 62 (i := 5) (v := .slice (some ⟨b, o, none⟩) n c) rfl rfl (by kernel_rfl) ?_ hHeld ?_
    ·intro w hSw; clear hSw; go_simp; try with_reducible rfl
    simp only [uZ, uS]
    refine tK 63 (i := 6) (v := .int .i64 k) rfl rfl (by kernel_rfl) ?_ hHeld ?_
    ·intro w hSw; clear hSw; go_simp; try with_reducible rfl
    simp only [uZ, uS]
    refine tK 64 (i := 7) (v := .pointer (some ⟨b, o + k * 14, none⟩)) rfl rfl (by kernel_rfl) ?_ hHeld ?_
    ·intro w hSw; clear hSw; go_simp; try with_reducible rfl
    simp only [uZ, uS]
    refine tK 65 (i := 8) (v := .pointer (some ⟨b, o + k * 14, none⟩)) rfl rfl (by kernel_rfl) ?_ hHeld ?_
    ·intro w hSw; clear hSw; go_simp; try with_reducible rfl
    simp only [uZ, uS]
    refine tK 66 (i := 9) (v := .int .i64 z.1.id) rfl rfl (by kernel_rfl) ?_ hHeld ?_
    ·intro w hSw; have ci := HCI.out _ hSw.1; clear hSw; go_simp; try with_reducible rfl
    simp only [uZ, uS]
    refine tK 67 (i := 10) (v := .bool (x.1.id == z.1.id)) rfl rfl (by kernel_rfl) ?_ hHeld ?_
    ·intro w hSw; clear hSw; go_simp; try with_reducible rfl
    simp only [uZ, uS]
    refine wpAnyH_done (by kernel_rfl) ?_ _
    clear hHeld HCJ HCI
    by_cases hid : x.1.id = z.1.id
    ·have b5 : (x.1.id == z.1.id) = true := by simp [hid]
     have HDUP : Hid (hasHold (L.take k) z.1.id = true) := Lib.hid (hasHold_found HXX.out hlt2 hid)
     clear hid
     have HXE := Lib.hid (HXI.out.on HS0.out.2); have HEE := Lib.hid HS0.out.1
     have hX20 : X = 20 := by
      have q := errHold_dup HZ.out HY.out HDUP.out
      rw [← first_here hlt HFE.out (by rw [q]; decide), q]
     obtain rfl : E = 20 := by rw [← HXY.out, hX20, if_neg (by decide)]
     clear hX20 HDUP
     have h_ := HXE.out _ (.tail _ (.head _))
     have h_0 := h_.cell 0
     have h_f0 := h_.frozen 0
     have h_1 := h_.cell 1
     have h_f1 := h_.frozen 1
     have h_2 := h_.cell 2
     have h_f2 := h_.frozen 2
     have h_3 := h_.cell 3
     have h_f3 := h_.frozen 3
     have h_4 := h_.cell 4
     have h_f4 := h_.frozen 4
     have h_l := h_.lt
     simp at h_0 h_f0 h_1 h_f1 h_2 h_f2 h_3 h_f3 h_4 h_f4
     clear h_
     go_wp2
     refine bodyPost_ret (v := .tuple #[.agg #[.slice none 0 0, .int .i64 0, .int .i64 0, .int .i64 0, .int .i64 0], .int .i64 20]) (by simp [results, Tryz.results8, go_sem, h_0, h_1, h_2, h_3, h_4]) rfl (LoadPost.err (by decide) ?_)
     have hg := HGM.out
     repeat (first | exact HEE.out | refine Below.setCell ?_ (by simp <;> omega) _)

    have b5 : (x.1.id == z.1.id) = false := beq_eq_false_iff_ne.2 hid
    have HNX := Lib.hid (hasHold_next HXX.out HNO.out hid)
    have HIE := Lib.hid (below_then HI.out HS0.out.2)
    clear hid HXX HS0 HXI HEI
    have h9 := H9.out
    go_wp2
    go_roundw
    case rel => exact ⟨j + 1, by omega, by go_num, HIE.out, HNX.out⟩
    case measure => simp [intOf]; omega
   have hjk : k = j := by omega
   subst hjk
   have k5 : ¬ (k : Int) < (k : Int) := by omega
   have HB2 := Lib.hid (below_then HB.out HI.out)
   have HX2 := Lib.hid (HX.out.on HI.out)
   have HO2 := Lib.hid (HO.out.on HI.out)
   clear HB HX HO HI hlt2 hj2
   have HB := HB2; have HX := HX2; have HO := HO2
   clear HB2 HX2 HO2
   have hnew := errHold_new HZ.out HY.out HNO.out
   obtain ⟨E0, hE0⟩ : ∃ x, fillErr z.1 y = x := ⟨_, rfl⟩
   obtain ⟨m0, m1, a0, a1, z0, z1, hwv⟩ := weightV_form z.1 y
   rw [hE0] at hnew hwv
   have CW : Hid (∀ W, Below w.heap.size w W → Calls Tryz.prog 34 #[.agg #[.int .i64 z.1.id, .int .i64 z.1.al, .int .i64 z.1.ah, .slice z.2.A z.2.n z.2.c, .slice z.2.B z.2.m z.2.d, .slice z.2.C z.2.l z.2.e, .int .i64 z.1.t0, .int .i64 z.1.t1, .int .i64 z.1.u0, .int .i64 z.1.u1, .int .i64 z.1.v0, .int .i64 z.1.v1, .int .i64 z.1.h0, .int .i64 z.1.h1], .agg #[.int .i64 y.hold, .int .i64 y.st, .int .i64 y.x0, .int .i64 y.x1, .int .i64 y.d0, .int .i64 y.d1]] W fun x w' => x = .returned (.tuple #[.agg #[.int .i64 m0, .int .i64 m1, .int .i64 a0, .int .i64 a1, .int .i64 z0, .int .i64 z1], .int .i64 E0]) ∧ Below W.heap.size W w') := Lib.hid fun W hW => by
    have q := sWeight_any z.1 z.2 y W (HIN.out.below hW)
    rw [hwv] at q
    exact q
   have HWV := Lib.hid hwv; have HNEW := Lib.hid hnew; have HE0 := Lib.hid hE0
   clear HNO hnew hE0 hwv
   go_upto_region 14 with fail
   go_cut [13, 14] (fun s13 s14 wx => ∃ N, s13 = .pointer (some ⟨N, 0, none⟩) ∧ s14 = .int .i64 E0 ∧ Boxes wx ((N, 63, #[.int .i64 m0, .int .i64 m1, .int .i64 a0, .int .i64 a1, .int .i64 z0, .int .i64 z1]) :: [(M, 32, #[v, .int .i64 0, .int .i64 0, .int .i64 s0, .int .i64 s1]), (G, 32, #[.slice none 0 0, .int .i64 0, .int .i64 0, .int .i64 0, .int .i64 0])]) ∧ Below wr.heap.size wr wx ∧ wr.heap.size ≤ N)
   case first =>
    have HX_0 := HX; have HE_0 := Lib.hid (Below.refl wr.heap.size wr)
    obtain ⟨LB, hLB⟩ : ∃ x, ([(M, 32, #[v, .int .i64 0, .int .i64 0, .int .i64 s0, .int .i64 s1]), (G, 32, #[.slice none 0 0, .int .i64 0, .int .i64 0, .int .i64 0, .int .i64 0])] : List (Nat × TypeId × Array Value)) = x := ⟨_, rfl⟩
    have hS0 : BB wr LB wr.drew := ⟨by rw [← hLB]; exact HX_0.out, HE_0.out.drew⟩
    have HLB := Lib.hid hLB
    clear hLB
    refine wp_region_held_drew (S := BB wr LB) (by kernel_rfl) hS0 (fun hHeld => ?_)
    obtain ⟨yq, hW⟩ : ∃ W', wr.drew = W' := ⟨_, rfl⟩
    rw [hW] at hHeld ⊢
    clear hW hS0 HE_0 HX_0
    refine tK 70 (i := 0) (v := .slice (some ⟨b, o, none⟩) n c) rfl rfl (by kernel_rfl) ?_ hHeld ?_
    ·intro w hSw; clear hSw; go_simp; try with_reducible rfl
    simp only [uZ, uS]
    refine tK 71 (i := 1) (v := .int .i64 k) rfl rfl (by kernel_rfl) ?_ hHeld ?_
    ·intro w hSw; clear hSw; go_simp; try with_reducible rfl
    simp only [uZ, uS]
    refine tK 72 (i := 2) (v := .pointer (some ⟨b, o + k * 14, none⟩)) rfl rfl (by kernel_rfl) ?_ hHeld ?_
    ·intro w hSw; clear hSw; go_simp; try with_reducible rfl
    simp only [uZ, uS]
    refine tK 73 (i := 3) (v := .agg #[.int .i64 z.1.id, .int .i64 z.1.al, .int .i64 z.1.ah, .slice z.2.A z.2.n z.2.c, .slice z.2.B z.2.m z.2.d, .slice z.2.C z.2.l z.2.e, .int .i64 z.1.t0, .int .i64 z.1.t1, .int .i64 z.1.u0, .int .i64 z.1.u1, .int .i64 z.1.v0, .int .i64 z.1.v1, .int .i64 z.1.h0, .int .i64 z.1.h1]) rfl rfl (by kernel_rfl) ?_ hHeld ?_
    ·intro w hSw; obtain ⟨c0, c1, c2, c3, c4, c5, c6, c7, c8, c9, c10, c11, c12, c13⟩ := HCK.out _ (below_then HB.out hSw.be); clear hSw; go_simp; try with_reducible rfl
    simp only [uZ, uS]
    refine tK 74 (i := 4) (v := .slice (some ⟨p, q, none⟩) m d) rfl rfl (by kernel_rfl) ?_ hHeld ?_
    ·intro w hSw; clear hSw; go_simp; try with_reducible rfl
    simp only [uZ, uS]
    refine tK 75 (i := 5) (v := .int .i64 k) rfl rfl (by kernel_rfl) ?_ hHeld ?_
    ·intro w hSw; clear hSw; go_simp; try with_reducible rfl
    simp only [uZ, uS]
    refine tK 76 (i := 6) (v := .pointer (some ⟨p, q + k * 6, none⟩)) rfl rfl (by kernel_rfl) ?_ hHeld ?_
    ·intro w hSw; clear hSw; go_simp; try with_reducible rfl
    simp only [uZ, uS]
    refine tK 77 (i := 7) (v := .agg #[.int .i64 y.hold, .int .i64 y.st, .int .i64 y.x0, .int .i64 y.x1, .int .i64 y.d0, .int .i64 y.d1]) rfl rfl (by kernel_rfl) ?_ hHeld ?_
    ·intro w hSw; obtain ⟨c0, c1, c2, c3, c4, c5⟩ := HCF.out _ (below_then HB.out hSw.be); clear hSw; go_simp; try with_reducible rfl
    simp only [uZ, uS]
    refine wpAnyH_ready (rs := [8, 12]) (by kernel_rfl) (by simp) ?_
    refine AllReadyH.cons rfl (fun K hK => ?_) (AllReadyH.cons rfl (fun K hK => ?_) AllReadyH.nil)
    rotate_left
    rename World => yq
    go_simp
    have HDN := Lib.hid (boxes_lt hHeld.bx); have HZN := Lib.hid hHeld.be.size; have HY := Lib.hid (hHeld.bx.new 63 #[.int .i64 0, .int .i64 0, .int .i64 0, .int .i64 0, .int .i64 0, .int .i64 0])
    refine hK.out _ _ (hHeld.on (below_alloc1 _ _)) (fun hHeld2 => ?_)
    try simp only [Act.put, uA, uZ, uS]
    clear hK K hHeld
    have hHeld := hHeld2
    clear hHeld2
    obtain ⟨yr, hW⟩ : ∃ W', yq.alloc (.cells #[.int .i64 0, .int .i64 0, .int .i64 0, .int .i64 0, .int .i64 0, .int .i64 0] 63) = W' := ⟨_, rfl⟩
    rw [hW] at HY hHeld ⊢
    clear hW
    obtain ⟨N, hN⟩ : ∃ N, yq.heap.size = N := ⟨_, rfl⟩
    rw [hN] at HY HDN HZN ⊢
    clear hN
    refine wpAnyH_ready (rs := [8]) (by kernel_rfl) (by simp) ?_
    refine AllReadyH.cons rfl (fun K hK => ?_) AllReadyH.nil
    go_simp
    (with_reducible refine (CW.out _ (below_then HB.out hHeld.be)).mono ?_)
    rintro x y ⟨rfl, hq⟩
    have HY := Lib.hid (HY.out.on hq)
    refine hK.out _ _ (hHeld.on hq) (fun hHeld2 => ?_)
    clear hq
    try simp only [Act.put, uA, uZ, uS]
    clear hK K hHeld
    have hHeld := hHeld2
    clear hHeld2
    refine tK 69 (i := 9) (v := .tuple #[.agg #[.int .i64 m0, .int .i64 m1, .int .i64 a0, .int .i64 a1, .int .i64 z0, .int .i64 z1], .int .i64 E0]) rfl rfl (by kernel_rfl) ?_ hHeld ?_
    ·intro w hSw; clear hSw; go_simp; try with_reducible rfl
    simp only [uZ, uS]
    refine tK 79 (i := 10) (v := .agg #[.int .i64 m0, .int .i64 m1, .int .i64 a0, .int .i64 a1, .int .i64 z0, .int .i64 z1]) rfl rfl (by kernel_rfl) ?_ hHeld ?_
    ·intro w hSw; clear hSw; go_simp; try with_reducible rfl
    simp only [uZ, uS]
    refine tK 80 (i := 11) (v := .int .i64 E0) rfl rfl (by kernel_rfl) ?_ hHeld ?_
    ·intro w hSw; clear hSw; go_simp; try with_reducible rfl
    simp only [uZ, uS]
    rotate_left
    go_simp
    (with_reducible refine (CW.out _ (below_then HB.out hHeld.be)).mono ?_)
    rintro x y ⟨rfl, hq⟩
    refine hK.out _ _ (hHeld.on hq) (fun hHeld2 => ?_)
    clear hq
    try simp only [Act.put, uA, uZ, uS]
    clear hK K hHeld
    have hHeld := hHeld2
    clear hHeld2
    refine tK 69 (i := 9) (v := .tuple #[.agg #[.int .i64 m0, .int .i64 m1, .int .i64 a0, .int .i64 a1, .int .i64 z0, .int .i64 z1], .int .i64 E0]) rfl rfl (by kernel_rfl) ?_ hHeld ?_
    ·intro w hSw; clear hSw; go_simp; try with_reducible rfl
    simp only [uZ, uS]
    refine tK 79 (i := 10) (v := .agg #[.int .i64 m0, .int .i64 m1, .int .i64 a0, .int .i64 a1, .int .i64 z0, .int .i64 z1]) rfl rfl (by kernel_rfl) ?_ hHeld ?_
    ·intro w hSw; clear hSw; go_simp; try with_reducible rfl
    simp only [uZ, uS]
    refine tK 80 (i := 11) (v := .int .i64 E0) rfl rfl (by kernel_rfl) ?_ hHeld ?_
    ·intro w hSw; clear hSw; go_simp; try with_reducible rfl
    simp only [uZ, uS]
    refine wpAnyH_ready (rs := [12]) (by kernel_rfl) (by simp) ?_
    refine AllReadyH.cons rfl (fun K hK => ?_) AllReadyH.nil
    rename World => yq
    go_simp
    have HDN := Lib.hid (boxes_lt hHeld.bx); have HZN := Lib.hid hHeld.be.size; have HY := Lib.hid (hHeld.bx.new 63 #[.int .i64 0, .int .i64 0, .int .i64 0, .int .i64 0, .int .i64 0, .int .i64 0])
    refine hK.out _ _ (hHeld.on (below_alloc1 _ _)) (fun hHeld2 => ?_)
    try simp only [Act.put, uA, uZ, uS]
    clear hK K hHeld
    have hHeld := hHeld2
    clear hHeld2
    obtain ⟨yr, hW⟩ : ∃ W', yq.alloc (.cells #[.int .i64 0, .int .i64 0, .int .i64 0, .int .i64 0, .int .i64 0, .int .i64 0] 63) = W' := ⟨_, rfl⟩
    rw [hW] at HY hHeld ⊢
    clear hW
    obtain ⟨N, hN⟩ : ∃ N, yq.heap.size = N := ⟨_, rfl⟩
    rw [hN] at HY HDN HZN ⊢
    clear hN
    all_goals
     refine wpAnyH_ready (rs := [13]) (by kernel_rfl) (by simp) ?_
     refine AllReadyH.cons rfl (fun K hK => ?_) AllReadyH.nil
     rw [if_pos (by kernel_rfl)]
     rename World => yq
     have HXs : Hid (Boxes (yq.setRow N #[.int .i64 m0, .int .i64 m1, .int .i64 a0, .int .i64 a1, .int .i64 z0, .int .i64 z1]) ((N, 63, #[.int .i64 m0, .int .i64 m1, .int .i64 a0, .int .i64 a1, .int .i64 z0, .int .i64 z1]) :: LB)) := Lib.hid (Boxes.row HY.out (.head _) (fun p hp => ⟨.tail _ hp, HDN.out p hp⟩) #[.int .i64 m0, .int .i64 m1, .int .i64 a0, .int .i64 a1, .int .i64 z0, .int .i64 z1])
     have hS := hHeld.row HDN.out HZN.out #[.int .i64 m0, .int .i64 m1, .int .i64 a0, .int .i64 a1, .int .i64 z0, .int .i64 z1]
     have HEs := Lib.hid hS.be
     refine wp_store_row 63 (.tmp 13) (.tmp 79) rfl N #[.int .i64 m0, .int .i64 m1, .int .i64 a0, .int .i64 a1, .int .i64 z0, .int .i64 z1] rfl rfl 63 _ (HY.out _ (.head _)) (by kernel_rfl) rfl (by kernel_rfl) ?_
     obtain ⟨Ws, hW⟩ : ∃ W', yq.setRow N #[.int .i64 m0, .int .i64 m1, .int .i64 a0, .int .i64 a1, .int .i64 z0, .int .i64 z1] = W' := ⟨_, rfl⟩
     rw [hW] at HXs HEs hS ⊢
     refine hK.out _ _ hS (fun hHeld2 => ?_)
     clear hW hS HY
     try simp only [Act.put, uA, uZ, uS]
     clear hK K hHeld
     have hHeld := hHeld2
     clear hHeld2
     refine tK 14 (i := 14) (v := .int .i64 E0) rfl rfl (by kernel_rfl) ?_ hHeld ?_
     ·intro w hSw; clear hSw; go_simp; try with_reducible rfl
     simp only [uZ, uS]
     refine wpAnyH_done (by kernel_rfl) ?_ _
     clear hHeld
     go_wp2_with fail
     go_meet
     rw [← HLB.out] at HXs
     exact ⟨N, rfl, rfl, HXs.out, HEs.out, HZN.out⟩
   case rest =>
    obtain ⟨N1, rfl, rfl, hX1, hB1, hN1⟩ := hcut
    have HX1 := Lib.hid hX1; have HB1 := Lib.hid hB1; have HN1 := Lib.hid hN1
    clear hX1 hB1 hN1 CW
    rename World => WA
    by_cases g0 : E0 = 0
    rotate_left
    ·skip
     have hX0 : X = E0 := by rw [← first_here hlt HFE.out (by rw [HNEW.out]; exact g0), HNEW.out]
     obtain rfl : E = E0 := by rw [← HXY.out, hX0, if_neg g0]
     have HG0 := Lib.hid g0; have HEA := Lib.hid (below_then HB.out HB1.out)
     have b6 : (E == 0) = false := beq_eq_false_iff_ne.2 g0
     have b7 : (E != 0) = true := bne_iff_ne.2 g0
     clear g0 hX0 HCK HCF HB1
     have h_ := HX1.out _ (.tail _ (.tail _ (.head _)))
     have h_0 := h_.cell 0
     have h_f0 := h_.frozen 0
     have h_1 := h_.cell 1
     have h_f1 := h_.frozen 1
     have h_2 := h_.cell 2
     have h_f2 := h_.frozen 2
     have h_3 := h_.cell 3
     have h_f3 := h_.frozen 3
     have h_4 := h_.cell 4
     have h_f4 := h_.frozen 4
     have h_l := h_.lt
     simp at h_0 h_f0 h_1 h_f1 h_2 h_f2 h_3 h_f3 h_4 h_f4
     clear h_
     go_wp2
     refine bodyPost_ret (v := .tuple #[.agg #[.slice none 0 0, .int .i64 0, .int .i64 0, .int .i64 0, .int .i64 0], .int .i64 E]) (by simp [results, Tryz.results8, go_sem, h_0, h_1, h_2, h_3, h_4]) rfl (LoadPost.err (HG0.out) ?_)
     have hg := HGM.out
     repeat (first | exact HEA.out | refine Below.setCell ?_ (by simp <;> omega) _)
    subst g0
    have hE0 := HE0.out
    have hwd := weightV_inj hE0 HWV.out
    have HFE2 := Lib.hid (first_next hlt HFE.out HNEW.out)
    clear HFE HE0 HWV HNEW
    obtain ⟨e0, e1, t0, t1, q1, q2, q3, q4, q5, q6, q7, q8⟩ := hold_step (by have := H9.out; omega) HZ.out HY.out hE0 HU.out HS.out
    rw [hwd] at q8
    have CH : Hid (∀ W, Below w.heap.size w W → Calls Tryz.prog 35 #[.agg #[.int .i64 z.1.id, .int .i64 z.1.al, .int .i64 z.1.ah, .slice z.2.A z.2.n z.2.c, .slice z.2.B z.2.m z.2.d, .slice z.2.C z.2.l z.2.e, .int .i64 z.1.t0, .int .i64 z.1.t1, .int .i64 z.1.u0, .int .i64 z.1.u1, .int .i64 z.1.v0, .int .i64 z.1.v1, .int .i64 z.1.h0, .int .i64 z.1.h1], .agg #[.int .i64 y.hold, .int .i64 y.st, .int .i64 y.x0, .int .i64 y.x1, .int .i64 y.d0, .int .i64 y.d1]] W fun x w' => x = .returned (.tuple #[.agg #[.int .i64 e0, .int .i64 e1], .int .i64 0]) ∧ Below W.heap.size W w') := Lib.hid fun W hW => by
     have q := sHeel_any z.1 z.2 y W (HIN.out.below hW)
     rw [tell_ok hE0, q1] at q
     exact q
    have Q3 := Lib.hid q3; have Q4 := Lib.hid q4; have Q5 := Lib.hid q5; have Q6 := Lib.hid q6; have Q7 := Lib.hid q7
    have Q8 := Lib.hid q8
    have HLE : Hid ((upTo L fs k).1.length ≤ 9) := Lib.hid (Nat.le_trans (upTo_len L fs k) (by have := H9.out; omega))
    clear hE0 HIN q1 q2 q3 q4 q5 q6 q7 q8 hwd HZ HY
    go_upto_region 17 with fail
    go_cut [15] (fun s15 wx => ∃ N, s15 = .pointer (some ⟨N, 0, none⟩) ∧ Boxes wx ((N, 30, #[.int .i64 e0, .int .i64 e1]) :: ((N1, 63, #[.int .i64 m0, .int .i64 m1, .int .i64 a0, .int .i64 a1, .int .i64 z0, .int .i64 z1]) :: [(M, 32, #[v, .int .i64 0, .int .i64 0, .int .i64 s0, .int .i64 s1]), (G, 32, #[.slice none 0 0, .int .i64 0, .int .i64 0, .int .i64 0, .int .i64 0])])) ∧ Below wr.heap.size wr wx ∧ wr.heap.size ≤ N)
    case first =>
     clear HX
     obtain ⟨LB, hLB⟩ : ∃ x, (((N1, 63, #[.int .i64 m0, .int .i64 m1, .int .i64 a0, .int .i64 a1, .int .i64 z0, .int .i64 z1]) :: [(M, 32, #[v, .int .i64 0, .int .i64 0, .int .i64 s0, .int .i64 s1]), (G, 32, #[.slice none 0 0, .int .i64 0, .int .i64 0, .int .i64 0, .int .i64 0])]) : List (Nat × TypeId × Array Value)) = x := ⟨_, rfl⟩
     have hS0 : BB wr LB WA.drew := ⟨by rw [← hLB]; exact HX1.out, HB1.out.drew⟩
     have HLB := Lib.hid hLB
     clear hLB
     refine wp_region_held_drew (S := BB wr LB) (by kernel_rfl) hS0 (fun hHeld => ?_)
     obtain ⟨yq, hW⟩ : ∃ W', WA.drew = W' := ⟨_, rfl⟩
     rw [hW] at hHeld ⊢
     clear hW hS0 HB1 HX1
     refine tK 86 (i := 0) (v := .slice (some ⟨b, o, none⟩) n c) rfl rfl (by kernel_rfl) ?_ hHeld ?_
     ·intro w hSw; clear hSw; go_simp; try with_reducible rfl
     simp only [uZ, uS]
     refine tK 87 (i := 1) (v := .int .i64 k) rfl rfl (by kernel_rfl) ?_ hHeld ?_
     ·intro w hSw; clear hSw; go_simp; try with_reducible rfl
     simp only [uZ, uS]
     refine tK 88 (i := 2) (v := .pointer (some ⟨b, o + k * 14, none⟩)) rfl rfl (by kernel_rfl) ?_ hHeld ?_
     ·intro w hSw; clear hSw; go_simp; try with_reducible rfl
     simp only [uZ, uS]
     refine tK 89 (i := 3) (v := .agg #[.int .i64 z.1.id, .int .i64 z.1.al, .int .i64 z.1.ah, .slice z.2.A z.2.n z.2.c, .slice z.2.B z.2.m z.2.d, .slice z.2.C z.2.l z.2.e, .int .i64 z.1.t0, .int .i64 z.1.t1, .int .i64 z.1.u0, .int .i64 z.1.u1, .int .i64 z.1.v0, .int .i64 z.1.v1, .int .i64 z.1.h0, .int .i64 z.1.h1]) rfl rfl (by kernel_rfl) ?_ hHeld ?_
     ·intro w hSw; obtain ⟨c0, c1, c2, c3, c4, c5, c6, c7, c8, c9, c10, c11, c12, c13⟩ := HCK.out _ (below_then HB.out hSw.be); clear hSw; go_simp; try with_reducible rfl
     simp only [uZ, uS]
     refine tK 90 (i := 4) (v := .slice (some ⟨p, q, none⟩) m d) rfl rfl (by kernel_rfl) ?_ hHeld ?_
     ·intro w hSw; clear hSw; go_simp; try with_reducible rfl
     simp only [uZ, uS]
     refine tK 91 (i := 5) (v := .int .i64 k) rfl rfl (by kernel_rfl) ?_ hHeld ?_
     ·intro w hSw; clear hSw; go_simp; try with_reducible rfl
     simp only [uZ, uS]
     refine tK 92 (i := 6) (v := .pointer (some ⟨p, q + k * 6, none⟩)) rfl rfl (by kernel_rfl) ?_ hHeld ?_
     ·intro w hSw; clear hSw; go_simp; try with_reducible rfl
     simp only [uZ, uS]
     refine tK 93 (i := 7) (v := .agg #[.int .i64 y.hold, .int .i64 y.st, .int .i64 y.x0, .int .i64 y.x1, .int .i64 y.d0, .int .i64 y.d1]) rfl rfl (by kernel_rfl) ?_ hHeld ?_
     ·intro w hSw; obtain ⟨c0, c1, c2, c3, c4, c5⟩ := HCF.out _ (below_then HB.out hSw.be); clear hSw; go_simp; try with_reducible rfl
     simp only [uZ, uS]
     refine wpAnyH_ready (rs := [8, 12]) (by kernel_rfl) (by simp) ?_
     refine AllReadyH.cons rfl (fun K hK => ?_) (AllReadyH.cons rfl (fun K hK => ?_) AllReadyH.nil)
     rotate_left
     rename World => yq
     go_simp
     have HDN := Lib.hid (boxes_lt hHeld.bx); have HZN := Lib.hid hHeld.be.size; have HY := Lib.hid (hHeld.bx.new 30 #[.int .i64 0, .int .i64 0])
     refine hK.out _ _ (hHeld.on (below_alloc1 _ _)) (fun hHeld2 => ?_)
     try simp only [Act.put, uA, uZ, uS]
     clear hK K hHeld
     have hHeld := hHeld2
     clear hHeld2
     obtain ⟨yr, hW⟩ : ∃ W', yq.alloc (.cells #[.int .i64 0, .int .i64 0] 30) = W' := ⟨_, rfl⟩
     rw [hW] at HY hHeld ⊢
     clear hW
     obtain ⟨N, hN⟩ : ∃ N, yq.heap.size = N := ⟨_, rfl⟩
     rw [hN] at HY HDN HZN ⊢
     clear hN
     refine wpAnyH_ready (rs := [8]) (by kernel_rfl) (by simp) ?_
     refine AllReadyH.cons rfl (fun K hK => ?_) AllReadyH.nil
     go_simp
     (with_reducible refine (CH.out _ (below_then HB.out hHeld.be)).mono ?_)
     rintro x y ⟨rfl, hq⟩
     have HY := Lib.hid (HY.out.on hq)
     refine hK.out _ _ (hHeld.on hq) (fun hHeld2 => ?_)
     clear hq
     try simp only [Act.put, uA, uZ, uS]
     clear hK K hHeld
     have hHeld := hHeld2
     clear hHeld2
     refine tK 85 (i := 9) (v := .tuple #[.agg #[.int .i64 e0, .int .i64 e1], .int .i64 0]) rfl rfl (by kernel_rfl) ?_ hHeld ?_
     ·intro w hSw; clear hSw; go_simp; try with_reducible rfl
     simp only [uZ, uS]
     refine tK 95 (i := 10) (v := .agg #[.int .i64 e0, .int .i64 e1]) rfl rfl (by kernel_rfl) ?_ hHeld ?_
     ·intro w hSw; clear hSw; go_simp; try with_reducible rfl
     simp only [uZ, uS]
     refine tK 96 (i := 11) (v := .int .i64 0) rfl rfl (by kernel_rfl) ?_ hHeld ?_
     ·intro w hSw; clear hSw; go_simp; try with_reducible rfl
     simp only [uZ, uS]
     rotate_left
     go_simp
     (with_reducible refine (CH.out _ (below_then HB.out hHeld.be)).mono ?_)
     rintro x y ⟨rfl, hq⟩
     refine hK.out _ _ (hHeld.on hq) (fun hHeld2 => ?_)
     clear hq
     try simp only [Act.put, uA, uZ, uS]
     clear hK K hHeld
     have hHeld := hHeld2
     clear hHeld2
     refine tK 85 (i := 9) (v := .tuple #[.agg #[.int .i64 e0, .int .i64 e1], .int .i64 0]) rfl rfl (by kernel_rfl) ?_ hHeld ?_
     ·intro w hSw; clear hSw; go_simp; try with_reducible rfl
     simp only [uZ, uS]
     refine tK 95 (i := 10) (v := .agg #[.int .i64 e0, .int .i64 e1]) rfl rfl (by kernel_rfl) ?_ hHeld ?_
     ·intro w hSw; clear hSw; go_simp; try with_reducible rfl
     simp only [uZ, uS]
     refine tK 96 (i := 11) (v := .int .i64 0) rfl rfl (by kernel_rfl) ?_ hHeld ?_
     ·intro w hSw; clear hSw; go_simp; try with_reducible rfl
     simp only [uZ, uS]
     refine wpAnyH_ready (rs := [12]) (by kernel_rfl) (by simp) ?_
     refine AllReadyH.cons rfl (fun K hK => ?_) AllReadyH.nil
     rename World => yq
     go_simp
     have HDN := Lib.hid (boxes_lt hHeld.bx); have HZN := Lib.hid hHeld.be.size; have HY := Lib.hid (hHeld.bx.new 30 #[.int .i64 0, .int .i64 0])
     refine hK.out _ _ (hHeld.on (below_alloc1 _ _)) (fun hHeld2 => ?_)
     try simp only [Act.put, uA, uZ, uS]
     clear hK K hHeld
     have hHeld := hHeld2
     clear hHeld2
     obtain ⟨yr, hW⟩ : ∃ W', yq.alloc (.cells #[.int .i64 0, .int .i64 0] 30) = W' := ⟨_, rfl⟩
     rw [hW] at HY hHeld ⊢
     clear hW
     obtain ⟨N, hN⟩ : ∃ N, yq.heap.size = N := ⟨_, rfl⟩
     rw [hN] at HY HDN HZN ⊢
     clear hN
     all_goals
      refine wpAnyH_ready (rs := [13]) (by kernel_rfl) (by simp) ?_
      refine AllReadyH.cons rfl (fun K hK => ?_) AllReadyH.nil
      rw [if_pos (by kernel_rfl)]
      rename World => yq
      have HXs : Hid (Boxes (yq.setRow N #[.int .i64 e0, .int .i64 e1]) ((N, 30, #[.int .i64 e0, .int .i64 e1]) :: LB)) := Lib.hid (Boxes.row HY.out (.head _) (fun p hp => ⟨.tail _ hp, HDN.out p hp⟩) #[.int .i64 e0, .int .i64 e1])
      have hS := hHeld.row HDN.out HZN.out #[.int .i64 e0, .int .i64 e1]
      have HEs := Lib.hid hS.be
      refine wp_store_row 30 (.tmp 15) (.tmp 95) rfl N #[.int .i64 e0, .int .i64 e1] rfl rfl 30 _ (HY.out _ (.head _)) (by kernel_rfl) rfl (by kernel_rfl) ?_
      obtain ⟨Ws, hW⟩ : ∃ W', yq.setRow N #[.int .i64 e0, .int .i64 e1] = W' := ⟨_, rfl⟩
      rw [hW] at HXs HEs hS ⊢
      refine hK.out _ _ hS (fun hHeld2 => ?_)
      clear hW hS HY
      try simp only [Act.put, uA, uZ, uS]
      clear hK K hHeld
      have hHeld := hHeld2
      clear hHeld2
      refine tK 16 (i := 14) (v := .int .i64 0) rfl rfl (by kernel_rfl) ?_ hHeld ?_
      ·intro w hSw; clear hSw; go_simp; try with_reducible rfl
      simp only [uZ, uS]
      refine wpAnyH_done (by kernel_rfl) ?_ _
      clear hHeld
      go_wp2_with fail
      go_meet
      rw [← HLB.out] at HXs
      exact ⟨N, rfl, HXs.out, HEs.out, HZN.out⟩
    case rest =>
     obtain ⟨N2, rfl, hX2, hB2, hN2⟩ := hcut
     rename World => WB
     have HX2 := Lib.hid hX2
     have HNN : Hid (wr.heap.size ≤ N1 ∧ wr.heap.size ≤ N2 ∧ M < wr.heap.size) := Lib.hid ⟨HN1.out, hN2, (HX.out _ (.head _)).lt⟩
     have HBB := Lib.hid (below_then HB.out hB2); have HOB := Lib.hid (HO.out.on hB2)
     clear hX2 hB2 hN2 HX1 HB1 HX HN1 CH HCK
     go_upto_region 18 with fail
     have HXm : Hid (Boxes WB [(M, 32, #[v, .int .i64 0, .int .i64 0, .int .i64 s0, .int .i64 s1]), (N2, 30, #[.int .i64 e0, .int .i64 e1]), (N1, 63, #[.int .i64 m0, .int .i64 m1, .int .i64 a0, .int .i64 a1, .int .i64 z0, .int .i64 z1]), (G, 32, #[.slice none 0 0, .int .i64 0, .int .i64 0, .int .i64 0, .int .i64 0])]) := Lib.hid (HX2.out.sub (fun x hx => by
      simp only [List.mem_cons, List.not_mem_nil, or_false] at hx ⊢
      rcases hx with h | h | h | h <;> simp [h]))
     have HFAR : Hid (∀ x ∈ ([(N2, 30, #[.int .i64 e0, .int .i64 e1]), (N1, 63, #[.int .i64 m0, .int .i64 m1, .int .i64 a0, .int .i64 a1, .int .i64 z0, .int .i64 z1]), (G, 32, #[.slice none 0 0, .int .i64 0, .int .i64 0, .int .i64 0, .int .i64 0])] : List (Nat × TypeId × Array Value)), x.1 ≠ M) := Lib.hid (fun x hx => by
      have q1 := HNN.out; have q2 := HGM.out
      simp only [List.mem_cons, List.not_mem_nil, or_false] at hx
      rcases hx with h | h | h <;> (rw [h]; dsimp only; omega))
     have m_ := HXm.out _ (.head _)
     have m_3 := m_.cell 3
     have m_f3 := m_.frozen 3
     have m_4 := m_.cell 4
     have m_f4 := m_.frozen 4
     have m_l := m_.lt
     simp at m_3 m_f3 m_4 m_f4
     clear m_
     have n_ := HXm.out _ (.tail _ (.head _))
     have n_0 := n_.cell 0
     have n_1 := n_.cell 1
     simp at n_0 n_1
     clear n_
     have q3 := Q3.out; have q4 := Q4.out
     go_upto_region 19 with fail
     clear q3 q4 m_3 m_4 m_f3 m_f4 m_l n_0 n_1
     have HXb : Hid (Boxes (WB.setCell ⟨M, 3, none⟩ (.int .i64 t0)) [(M, 32, #[v, .int .i64 0, .int .i64 0, .int .i64 t0, .int .i64 s1]), (N2, 30, #[.int .i64 e0, .int .i64 e1]), (N1, 63, #[.int .i64 m0, .int .i64 m1, .int .i64 a0, .int .i64 a1, .int .i64 z0, .int .i64 z1]), (G, 32, #[.slice none 0 0, .int .i64 0, .int .i64 0, .int .i64 0, .int .i64 0])]) := Lib.hid (HXm.out.set1 HFAR.out 3 (.int .i64 t0) _ rfl)
     have HX6 : Hid (Boxes ((WB.setCell ⟨M, 3, none⟩ (.int .i64 t0)).setCell ⟨M, 4, none⟩ (.int .i64 t1)) [(M, 32, #[v, .int .i64 0, .int .i64 0, .int .i64 t0, .int .i64 t1]), (N2, 30, #[.int .i64 e0, .int .i64 e1]), (N1, 63, #[.int .i64 m0, .int .i64 m1, .int .i64 a0, .int .i64 a1, .int .i64 z0, .int .i64 z1]), (G, 32, #[.slice none 0 0, .int .i64 0, .int .i64 0, .int .i64 0, .int .i64 0])]) := Lib.hid (HXb.out.set1 HFAR.out 4 (.int .i64 t1) _ rfl)
     have HE6 := Lib.hid ((HBB.out.setCell (p := ⟨M, 3, none⟩) (by have := HGM.out; simp; omega) (.int .i64 t0)).setCell (p := ⟨M, 4, none⟩) (by have := HGM.out; simp; omega) (.int .i64 t1))
     have HO6 := Lib.hid ((HOB.out.kept (grownBy_setCellAt WB M 3 (.int .i64 t0)) (Nat.lt_succ_self M)).kept (grownBy_setCellAt (WB.setCell ⟨M, 3, none⟩ (.int .i64 t0)) M 4 (.int .i64 t1)) (Nat.lt_succ_self M))
     clear HXm HXb HFAR HX2 HBB HOB
     obtain ⟨W6, hW⟩ : ∃ W', ((WB.setCell ⟨M, 3, none⟩ (.int .i64 t0)).setCell ⟨M, 4, none⟩ (.int .i64 t1)) = W' := ⟨_, rfl⟩
     rw [hW] at HX6 HE6 HO6 ⊢
     clear hW
     have f1 := (HCF.out W6 HE6.out).2.1
     by_cases g : y.st = 0
     ·have b1 : (y.st == 0) = true := by simp [g]
      have b2 : (y.st != 0) = false := by simp [g]
      have HX7 : Hid (Boxes W6 [(M, 32, #[v, .int .i64 0, .int .i64 0, .int .i64 t0, .int .i64 t1]), (G, 32, #[.slice none 0 0, .int .i64 0, .int .i64 0, .int .i64 0, .int .i64 0])]) := Lib.hid (HX6.out.sub (fun x hx => by
       simp only [List.mem_cons, List.not_mem_nil, or_false] at hx ⊢
       rcases hx with h | h <;> simp [h]))
      clear HCF HX6
      have h9 := H9.out
      go_wp2
      go_roundw
      case rel =>
       obtain ⟨j1, j2, j3⟩ := Q7.out g
       exact ⟨k + 1, v, t0, t1, by omega, by go_num, HE6.out, HX7.out, by rw [j3]; exact HO6.out, Q5.out, Q6.out, HFE2.out⟩
      case measure => simp [intOf]; omega
     have b1 : (y.st == 0) = false := beq_eq_false_iff_ne.2 g
     have b2 : (y.st != 0) = true := bne_iff_ne.2 g
     have Q9 := Lib.hid (Q8.out g)
     clear Q7 Q8
     go_upto_region 20 with fail
     clear b1 b2 f1 g HCF
     have m_ := HX6.out _ (.head _)
     have m_0 := m_.cell 0
     simp at m_0
     clear m_
     have n_ := HX6.out _ (.tail _ (.tail _ (.head _)))
     have n_0 := n_.cell 0
     have n_1 := n_.cell 1
     have n_2 := n_.cell 2
     have n_3 := n_.cell 3
     have n_4 := n_.cell 4
     have n_5 := n_.cell 5
     simp at n_0 n_1 n_2 n_3 n_4 n_5
     clear n_
     have HOW := Lib.hid (World.ownsRow.alloc (o := .cells #[.int .i64 m0, .int .i64 m1, .int .i64 a0, .int .i64 a1, .int .i64 z0, .int .i64 z1] 63) (show W6.ownsRow (M + 1) 63 6 v _ _ from HO6.out.1))
     have HCE : Hid (∀ (j : Nat) (u : Value), ([.int .i64 m0, .int .i64 m1, .int .i64 a0, .int .i64 a1, .int .i64 z0, .int .i64 z1] : List Value)[j]? = some u → (W6.alloc (.cells #[.int .i64 m0, .int .i64 m1, .int .i64 a0, .int .i64 a1, .int .i64 z0, .int .i64 z1] 63)).cell? ((⟨W6.heap.size, 0, none⟩ : Addr).add j) = some u) := Lib.hid (World.news_of_block (cs := #[.int .i64 m0, .int .i64 m1, .int .i64 a0, .int .i64 a1, .int .i64 z0, .int .i64 z1]) (t := 63) (fr := (0, 0)) (heap_alloc_new W6 _))
     go_wp2_with (at_builtin; refine wpList_append_own _ rfl (.tmp 118) (.tmp 120) 28 rfl (M + 1) 63 i0 (.agg #[.int .i64 0, .int .i64 0, .int .i64 0, .int .i64 0, .int .i64 0, .int .i64 0]) 6 48 Tryz.underlying28 i1 i2 i3 i4 rfl (by decide) _ _ _ rfl HOW.out ⟨W6.heap.size, 0, none⟩ 1 1 [.int .i64 m0, .int .i64 m1, .int .i64 a0, .int .i64 a1, .int .i64 z0, .int .i64 z1] rfl rfl HCE.out ?c2 ?c3 ?c4 ?c5 ?_)
     case c2 => simp [Value.oneCell']
     case c3 => simp only [maxLen]; have := HLE.out; omega
     case c4 => have := HLE.out; omega
     case c5 => have q := (HX6.out _ (.head _)).lt; simp; omega
     intro v' w5 hown1 hgrow hnil
     have hrow : ∀ j, Value.ownBlock v = some j → M + 1 ≤ j ∧ j < wr.heap.size := fun j hj => World.ownsRow.lt (show wr.ownsRow (M + 1) 63 6 v _ _ from HO.out.1) j hj
     have HX5 : Hid (Boxes w5 [(M, 32, #[v, .int .i64 0, .int .i64 0, .int .i64 t0, .int .i64 t1]), (G, 32, #[.slice none 0 0, .int .i64 0, .int .i64 0, .int .i64 0, .int .i64 0])]) := Lib.hid (((HX6.out.on (below_alloc1 W6 (.cells #[.int .i64 m0, .int .i64 m1, .int .i64 a0, .int .i64 a1, .int .i64 z0, .int .i64 z1] 63))).sub (fun x hx => by
      simp only [List.mem_cons, List.not_mem_nil, or_false] at hx ⊢
      rcases hx with h | h <;> simp [h])).grown hgrow (fun x hx hj => by
      have q := hrow _ hj.symm
      have q1 := HNN.out; have q2 := HGM.out
      simp only [List.mem_cons, List.not_mem_nil, or_false] at hx
      rcases hx with h | h <;> (rw [h] at q; dsimp only at q; omega)))
     have HE5 : Hid (Below w.heap.size w w5) := Lib.hid ((HE6.out.alloc HE6.out.size _).grown hgrow (by have := HE6.out.size; simp; omega) (fun j hj => by have := (hrow j hj).1; have := HGM.out; omega))
     have HO5 := Lib.hid (NWs.push (r := ⟨m0, m1, a0, a1, z0, z1⟩) hown1 hnil)
     clear hown1 hgrow hrow hnil HOW HCE HE6 HX6
     obtain ⟨vp, vn, vc, rfl⟩ := HO5.out.slice
     clear m_0 n_0 n_1 n_2 n_3 n_4 n_5
     have m_ := HX5.out _ (.head _)
     have m_0 := m_.cell 0
     have m_f0 := m_.frozen 0
     have m_l := m_.lt
     simp at m_0 m_f0
     clear m_
     have HX7 : Hid (Boxes (w5.setCell ⟨M, 0, none⟩ (.slice vp vn vc)) [(M, 32, #[.slice vp vn vc, .int .i64 0, .int .i64 0, .int .i64 t0, .int .i64 t1]), (G, 32, #[.slice none 0 0, .int .i64 0, .int .i64 0, .int .i64 0, .int .i64 0])]) := Lib.hid (HX5.out.set1 (fun x hx => by
      have q2 := HGM.out
      simp only [List.mem_cons, List.not_mem_nil, or_false] at hx
      rw [hx]; dsimp only; omega) 0 (.slice vp vn vc) _ rfl)
     have HE7 : Hid (Below w.heap.size w (w5.setCell ⟨M, 0, none⟩ (.slice vp vn vc))) := Lib.hid (HE5.out.setCell (by have := HGM.out; simp; omega) _)
     have HO7 := Lib.hid (HO5.out.kept (grownBy_setCellAt w5 M 0 (.slice vp vn vc)) (Nat.lt_succ_self M))
     clear HX5 HE5 HO5 HNN
     have h9 := H9.out
     go_wp2
     go_roundw
     case rel =>
      exact ⟨k + 1, _, t0, t1, by omega, by go_num, HE7.out, HX7.out, by rw [Q9.out]; exact HO7.out, Q5.out, Q6.out, HFE2.out⟩
     case measure => simp [intOf]; omega
end

end Go.Proofs.YtekkiedlajhaiaaGreat
