/- The contracts of at and beside (the specification of layer 2). Their conditions: the table is valid and lies in memory; the place is one of its own. -/
import Derived.Test.YtemlaaipnhmcoaaGreatR37
import Derived.Test.YtemlaaipnhmcoaaGreatR38
import Derived.Test.YtemlaaipnhmcoaaGreatR25
import Derived.Test.YtemlaaipnhmcoaaGreatR05
import Derived.Test.YtemlaaipnhmcoaaGreatR11
import Derived.Test.YtemlaaipnhmcoaaGreatR10
import Derived.Test.YtemlaaipnhmcoaaGreatQ98
set_option linter.unusedVariables false
set_option linter.unusedSimpArgs false
set_option linter.constructorNameAsVariable false
namespace Go.Proofs.YtemlaaipnhmcoaaGreat

section
open Go.RowKit

def stOf (x : Int) : Int := if 5 < x % 9 then 3 else x % 9
def madeF (h : HoldD) (x0 x1 x2 x3 x4 : Int) : FillD :=
  if stOf x0 = 0 then ⟨h.id, 0, 0, 0, 0, 0⟩
  else if 3 ≤ stOf x0 ∧ stOf x0 ≤ 5 then ⟨h.id, stOf x0, (spanS (firstX h.vol) (lastX h.vol) x1 x2).1, (spanS (firstX h.vol) (lastX h.vol) x1 x2).2, (densityS x3 x4).1, (densityS x3 x4).2⟩
  else ⟨h.id, stOf x0, 0, 0, (densityS x3 x4).1, (densityS x3 x4).2⟩
theorem stOf_in (x : Int) : 0 ≤ stOf x ∧ stOf x ≤ 5 := by
  obtain ⟨h1, h2⟩ := emod_in x (show (0 : Int) < 9 by omega)
  unfold stOf
  split <;> omega

set_option maxRecDepth 100000 in
set_option maxHeartbeats 4000000 in
theorem sfill_to (h : HoldD) (m : HoldM) (x0 x1 x2 x3 x4 : Int) (w : World) (hi : HoldIn w h m) (ht : tabOk h.vol = true) (hle : firstX h.vol ≤ lastX h.vol) (hlo : 0 ≤ firstX h.vol) (hhi : lastX h.vol ≤ 1000000) :
  Calls Tryz.prog 27 #[holdV h m, .agg #[.int .i64 x0, .int .i64 x1, .int .i64 x2, .int .i64 x3, .int .i64 x4]] w fun e w' => e = .returned (fillV (madeF h x0 x1 x2 x3 x4)) ∧ Below w.heap.size w w' := by
 have CSP : Hid (∀ W, Below w.heap.size w W → Calls Tryz.prog 73 #[tv m.A m.n m.c, .int .i64 x1, .int .i64 x2] W fun e w' => e = .returned (rv (spanS (firstX h.vol) (lastX h.vol) x1 x2).1 (spanS (firstX h.vol) (lastX h.vol) x1 x2).2) ∧ Below W.heap.size W w') := Lib.hid fun W hW => sspan_to m.A m.n m.c h.vol x1 x2 W (hi.1.below hW) ht hle (by omega) (by omega)
 have CDE : Hid (∀ W, Calls Tryz.prog 18 #[.int .i64 x3, .int .i64 x4] W fun e w' => e = .returned (rv (densityS x3 x4).1 (densityS x3 x4).2) ∧ Below W.heap.size W w') := Lib.hid fun W => sDensityN_to x3 x4 W
 clear hi ht hle hlo hhi
 have hR : madeF h x0 x1 x2 x3 x4 = if stOf x0 = 0 then ⟨h.id, 0, 0, 0, 0, 0⟩ else if 3 ≤ stOf x0 ∧ stOf x0 ≤ 5 then ⟨h.id, stOf x0, (spanS (firstX h.vol) (lastX h.vol) x1 x2).1, (spanS (firstX h.vol) (lastX h.vol) x1 x2).2, (densityS x3 x4).1, (densityS x3 x4).2⟩ else ⟨h.id, stOf x0, 0, 0, (densityS x3 x4).1, (densityS x3 x4).2⟩ := rfl
 obtain ⟨RR, hRR⟩ : ∃ R, madeF h x0 x1 x2 x3 x4 = R := ⟨_, rfl⟩
 rw [hRR] at hR ⊢
 clear hRR
 obtain ⟨⟨p0, p1⟩, hsp⟩ : ∃ y, spanS (firstX h.vol) (lastX h.vol) x1 x2 = y := ⟨_, rfl⟩
 obtain ⟨⟨d0, d1⟩, hde⟩ : ∃ y, densityS x3 x4 = y := ⟨_, rfl⟩
 rw [hsp] at CSP hR
 rw [hde] at CDE hR
 have hst := stOf_in x0
 obtain ⟨q0, hq0⟩ : ∃ z, x0 % 9 = z := ⟨_, rfl⟩
 obtain ⟨st, hs⟩ : ∃ z, stOf x0 = z := ⟨_, rfl⟩
 have hsq : (5 < q0 → st = 3) ∧ (¬ 5 < q0 → st = q0) := by
  rw [← hs, ← hq0]; unfold stOf
  exact ⟨fun g => if_pos g, fun g => if_neg g⟩
 rw [hs] at hR hst
 obtain ⟨id, al, ah, vol, mom, hei, t0, t1, u0, u1, v0, v1, h0, h1⟩ := h
 obtain ⟨A, n, c, B, mm, d, C, l, ee⟩ := m
 dsimp only at CSP CDE hR ⊢
 have CM0 : Hid (∀ W, Calls Tryz.prog 23 #[.int .i64 x0, .int .i64 9] W fun e w' => e = .returned (.int .i64 q0) ∧ Below W.heap.size W w') := Lib.hid fun W => int_to (smod_to x0 9 W (by omega) (by omega)) hq0
 have HR := Lib.hid hR; have HSQ := Lib.hid hsq
 clear hsp hde hs hq0 hR hsq
 have HE := Lib.hid (show Below w.heap.size w (((w.alloc (.cells #[.int .i64 id, .int .i64 al, .int .i64 ah, .slice A n c, .slice B mm d, .slice C l ee, .int .i64 t0, .int .i64 t1, .int .i64 u0, .int .i64 u1, .int .i64 v0, .int .i64 v1, .int .i64 h0, .int .i64 h1] 35)).alloc (.cells #[.int .i64 x0, .int .i64 x1, .int .i64 x2, .int .i64 x3, .int .i64 x4] 53)).alloc (.cells #[.int .i64 0, .int .i64 0, .int .i64 0, .int .i64 0, .int .i64 0, .int .i64 0] 55)) from below_a3 (Below.refl _ _))
 have HK := Lib.hid (boxes3' w 35 53 55 #[.int .i64 id, .int .i64 al, .int .i64 ah, .slice A n c, .slice B mm d, .slice C l ee, .int .i64 t0, .int .i64 t1, .int .i64 u0, .int .i64 u1, .int .i64 v0, .int .i64 v1, .int .i64 h0, .int .i64 h1] #[.int .i64 x0, .int .i64 x1, .int .i64 x2, .int .i64 x3, .int .i64 x4] #[.int .i64 0, .int .i64 0, .int .i64 0, .int .i64 0, .int .i64 0, .int .i64 0])
 go_enter Tryz.func27, Tryz.ntmps27
 go_upto_region 1 with fail
 obtain ⟨W0, hW0⟩ : ∃ W0 : World, (((w.alloc (.cells #[.int .i64 id, .int .i64 al, .int .i64 ah, .slice A n c, .slice B mm d, .slice C l ee, .int .i64 t0, .int .i64 t1, .int .i64 u0, .int .i64 u1, .int .i64 v0, .int .i64 v1, .int .i64 h0, .int .i64 h1] 35)).alloc (.cells #[.int .i64 x0, .int .i64 x1, .int .i64 x2, .int .i64 x3, .int .i64 x4] 53)).alloc (.cells #[.int .i64 0, .int .i64 0, .int .i64 0, .int .i64 0, .int .i64 0, .int .i64 0] 55)) = W0 := ⟨_, rfl⟩
 rw [hW0] at HE HK ⊢
 clear hW0
 obtain ⟨G, hG⟩ : ∃ G, w.heap.size = G := ⟨_, rfl⟩
 rw [hG] at HK ⊢
 have HG := Lib.hid hG; clear hG
 have HX_0 := HK
 go_cut [5] (fun s5 wx => ∃ N, s5 = .pointer (some ⟨N, 0, none⟩) ∧ Boxes wx ((N, 55, #[.int .i64 id, .int .i64 q0, .int .i64 0, .int .i64 0, .int .i64 0, .int .i64 0]) :: [(G + 1 + 1, 55, #[.int .i64 0, .int .i64 0, .int .i64 0, .int .i64 0, .int .i64 0, .int .i64 0]), (G + 1, 53, #[.int .i64 x0, .int .i64 x1, .int .i64 x2, .int .i64 x3, .int .i64 x4]), (G, 35, #[.int .i64 id, .int .i64 al, .int .i64 ah, .slice A n c, .slice B mm d, .slice C l ee, .int .i64 t0, .int .i64 t1, .int .i64 u0, .int .i64 u1, .int .i64 v0, .int .i64 v1, .int .i64 h0, .int .i64 h1])]) ∧ Below w.heap.size w wx ∧ G + 1 + 1 < N)
 case first =>
  obtain ⟨LB, hLB⟩ : ∃ x, ([(G + 1 + 1, 55, #[.int .i64 0, .int .i64 0, .int .i64 0, .int .i64 0, .int .i64 0, .int .i64 0]), (G + 1, 53, #[.int .i64 x0, .int .i64 x1, .int .i64 x2, .int .i64 x3, .int .i64 x4]), (G, 35, #[.int .i64 id, .int .i64 al, .int .i64 ah, .slice A n c, .slice B mm d, .slice C l ee, .int .i64 t0, .int .i64 t1, .int .i64 u0, .int .i64 u1, .int .i64 v0, .int .i64 v1, .int .i64 h0, .int .i64 h1])] : List (Nat × TypeId × Array Value)) = x := ⟨_, rfl⟩
  have hl0 : (G, 35, #[.int .i64 id, .int .i64 al, .int .i64 ah, .slice A n c, .slice B mm d, .slice C l ee, .int .i64 t0, .int .i64 t1, .int .i64 u0, .int .i64 u1, .int .i64 v0, .int .i64 v1, .int .i64 h0, .int .i64 h1]) ∈ LB ∧ (G + 1, 53, #[.int .i64 x0, .int .i64 x1, .int .i64 x2, .int .i64 x3, .int .i64 x4]) ∈ LB ∧ (G + 1 + 1, 55, #[.int .i64 0, .int .i64 0, .int .i64 0, .int .i64 0, .int .i64 0, .int .i64 0]) ∈ LB := by rw [← hLB]; simp
  have HL0 := Lib.hid hl0
  have hS0 : BB2 w LB W0.drew := ⟨by rw [← hLB]; exact HK.out, HE.out.drew⟩
  have HLB := Lib.hid hLB
  clear hLB hl0
  refine wp_region_held_drew (S := BB2 w LB) (by kernel_rfl) hS0 (fun hHeld => ?_)
  obtain ⟨yq, hW⟩ : ∃ W', W0.drew = W' := ⟨_, rfl⟩
  rw [hW] at hHeld ⊢
  clear hW hS0 HE HK HX_0
  refine tK 6 (i := 0) (v := .pointer (some ⟨G, 0, none⟩)) rfl rfl (by kernel_rfl) ?_ hHeld ?_
  ·intro w hSw; clear hSw; go_simp; try with_reducible rfl
  simp only [uZ, uS]
  refine tK 7 (i := 1) (v := .int .i64 id) rfl rfl (by kernel_rfl) ?_ hHeld ?_
  ·intro w hSw; have cx := (hSw.1 _ HL0.out.1).cell 0; simp at cx; clear hSw; go_simp; try with_reducible rfl
  simp only [uZ, uS]
  refine tK 8 (i := 2) (v := .pointer (some ⟨G + 1, 0, none⟩)) rfl rfl (by kernel_rfl) ?_ hHeld ?_
  ·intro w hSw; clear hSw; go_simp; try with_reducible rfl
  simp only [uZ, uS]
  refine tK 9 (i := 3) (v := .int .i64 x0) rfl rfl (by kernel_rfl) ?_ hHeld ?_
  ·intro w hSw; have cx := (hSw.1 _ HL0.out.2.1).cell 0; simp at cx; clear hSw; go_simp; try with_reducible rfl
  simp only [uZ, uS]
  refine wpAnyH_ready (rs := [4, 6]) (by kernel_rfl) (by simp) ?_
  refine AllReadyH.cons rfl (fun K hK => ?_) (AllReadyH.cons rfl (fun K hK => ?_) AllReadyH.nil)
  rotate_left
  rename World => yq
  go_simp
  have HDN := Lib.hid (boxes_lt hHeld.1); have HZN := Lib.hid hHeld.2.size; have HGN := Lib.hid (hHeld.1 _ HL0.out.2.2).lt; have HY := Lib.hid (hHeld.1.new 55 #[.int .i64 0, .int .i64 0, .int .i64 0, .int .i64 0, .int .i64 0, .int .i64 0])
  refine hK.out _ _ ⟨hHeld.1.on (below_alloc1 _ _), below_then hHeld.2 (below_alloc1 _ _)⟩ (fun hHeld2 => ?_)
  try simp only [Act.put, uA, uZ, uS]
  clear hK K hHeld
  have hHeld := hHeld2
  clear hHeld2
  obtain ⟨yr, hW⟩ : ∃ W', yq.alloc (.cells #[.int .i64 0, .int .i64 0, .int .i64 0, .int .i64 0, .int .i64 0, .int .i64 0] 55) = W' := ⟨_, rfl⟩
  rw [hW] at HY hHeld ⊢
  clear hW
  obtain ⟨N, hN⟩ : ∃ N, yq.heap.size = N := ⟨_, rfl⟩
  rw [hN] at HY HDN HZN HGN ⊢
  clear hN
  refine wpAnyH_ready (rs := [4]) (by kernel_rfl) (by simp) ?_
  refine AllReadyH.cons rfl (fun K hK => ?_) AllReadyH.nil
  go_simp
  (with_reducible refine (CM0.out _).mono ?_)
  rintro x y ⟨rfl, hq⟩
  have HY := Lib.hid (HY.out.on hq)
  refine hK.out _ _ ⟨hHeld.1.on hq, below_then hHeld.2 hq⟩ (fun hHeld2 => ?_)
  clear hq
  try simp only [Act.put, uA, uZ, uS]
  clear hK K hHeld
  have hHeld := hHeld2
  clear hHeld2
  refine tK 11 (i := 5) (v := .agg #[.int .i64 id, .int .i64 q0, .int .i64 0, .int .i64 0, .int .i64 0, .int .i64 0]) rfl rfl (by kernel_rfl) ?_ hHeld ?_
  ·intro w hSw; clear hSw; go_simp; try with_reducible rfl
  simp only [uZ, uS]
  rotate_left
  go_simp
  (with_reducible refine (CM0.out _).mono ?_)
  rintro x y ⟨rfl, hq⟩
  refine hK.out _ _ ⟨hHeld.1.on hq, below_then hHeld.2 hq⟩ (fun hHeld2 => ?_)
  clear hq
  try simp only [Act.put, uA, uZ, uS]
  clear hK K hHeld
  have hHeld := hHeld2
  clear hHeld2
  refine tK 11 (i := 5) (v := .agg #[.int .i64 id, .int .i64 q0, .int .i64 0, .int .i64 0, .int .i64 0, .int .i64 0]) rfl rfl (by kernel_rfl) ?_ hHeld ?_
  ·intro w hSw; clear hSw; go_simp; try with_reducible rfl
  simp only [uZ, uS]
  refine wpAnyH_ready (rs := [6]) (by kernel_rfl) (by simp) ?_
  refine AllReadyH.cons rfl (fun K hK => ?_) AllReadyH.nil
  rename World => yq
  go_simp
  have HDN := Lib.hid (boxes_lt hHeld.1); have HZN := Lib.hid hHeld.2.size; have HGN := Lib.hid (hHeld.1 _ HL0.out.2.2).lt; have HY := Lib.hid (hHeld.1.new 55 #[.int .i64 0, .int .i64 0, .int .i64 0, .int .i64 0, .int .i64 0, .int .i64 0])
  refine hK.out _ _ ⟨hHeld.1.on (below_alloc1 _ _), below_then hHeld.2 (below_alloc1 _ _)⟩ (fun hHeld2 => ?_)
  try simp only [Act.put, uA, uZ, uS]
  clear hK K hHeld
  have hHeld := hHeld2
  clear hHeld2
  obtain ⟨yr, hW⟩ : ∃ W', yq.alloc (.cells #[.int .i64 0, .int .i64 0, .int .i64 0, .int .i64 0, .int .i64 0, .int .i64 0] 55) = W' := ⟨_, rfl⟩
  rw [hW] at HY hHeld ⊢
  clear hW
  obtain ⟨N, hN⟩ : ∃ N, yq.heap.size = N := ⟨_, rfl⟩
  rw [hN] at HY HDN HZN HGN ⊢
  clear hN
  all_goals
   refine wpAnyH_ready (rs := [7]) (by kernel_rfl) (by simp) ?_
   refine AllReadyH.cons rfl (fun K hK => ?_) AllReadyH.nil
   rw [if_pos (by kernel_rfl)]
   rename World => yq
   have HXs : Hid (Boxes (yq.setRow N #[.int .i64 id, .int .i64 q0, .int .i64 0, .int .i64 0, .int .i64 0, .int .i64 0]) ((N, 55, #[.int .i64 id, .int .i64 q0, .int .i64 0, .int .i64 0, .int .i64 0, .int .i64 0]) :: LB)) := Lib.hid (Boxes.row HY.out (.head _) (fun p hp => ⟨.tail _ hp, HDN.out p hp⟩) #[.int .i64 id, .int .i64 q0, .int .i64 0, .int .i64 0, .int .i64 0, .int .i64 0])
   have HEs := Lib.hid (below_setRow hHeld.2 (show w.heap.size ≤ N from HZN.out) #[.int .i64 id, .int .i64 q0, .int .i64 0, .int .i64 0, .int .i64 0, .int .i64 0])
   refine wp_store_row 55 (.tmp 5) (.tmp 11) rfl N #[.int .i64 id, .int .i64 q0, .int .i64 0, .int .i64 0, .int .i64 0, .int .i64 0] rfl rfl 55 _ (HY.out _ (.head _)) (by kernel_rfl) rfl (by kernel_rfl) ?_
   refine hK.out _ _ ⟨hHeld.1.farRow (g := N) HDN.out _, HEs.out⟩ (fun hHeld2 => ?_)
   try simp only [Act.put, uA, uZ, uS]
   clear hK K hHeld
   have hHeld := hHeld2
   clear hHeld2
   refine wpAnyH_done (by kernel_rfl) ?_ _
   clear hHeld
   go_wp2_with fail
   go_meet
   rw [← HLB.out] at HXs
   exact ⟨N, rfl, HXs.out, HEs.out, HGN.out⟩
 case rest =>
  obtain ⟨M, rfl, hX, hB, hM⟩ := hcut
  have HX0 := Lib.hid hX; have HB0 := Lib.hid hB
  have HMG : Hid (G + 1 + 1 < M ∧ w.heap.size ≤ G) := Lib.hid ⟨hM, by rw [HG.out]; exact Nat.le_refl _⟩
  clear hX hB hM HE HK HX_0 CM0
  rename World => V0
  have HFAR : Hid (∀ p ∈ ([(G + 1 + 1, 55, #[.int .i64 0, .int .i64 0, .int .i64 0, .int .i64 0, .int .i64 0, .int .i64 0]), (G + 1, 53, #[.int .i64 x0, .int .i64 x1, .int .i64 x2, .int .i64 x3, .int .i64 x4]), (G, 35, #[.int .i64 id, .int .i64 al, .int .i64 ah, .slice A n c, .slice B mm d, .slice C l ee, .int .i64 t0, .int .i64 t1, .int .i64 u0, .int .i64 u1, .int .i64 v0, .int .i64 v1, .int .i64 h0, .int .i64 h1])] : List (Nat × TypeId × Array Value)), p.1 ≠ M) := Lib.hid (fun p hp => by
   have hm := HMG.out
   simp only [List.mem_cons, List.not_mem_nil, or_false] at hp
   rcases hp with h | h | h <;> (rw [h]; dsimp only; omega))
  by_cases g5 : 5 < q0
  ·skip
   have m_ := HX0.out _ (.head _)
   have m_1 := m_.cell 1
   have m_f1 := m_.frozen 1
   have m_l := m_.lt
   simp at m_1 m_f1
   clear m_
   go_upto_region 4 with fail
   have HX1 : Hid (Boxes (V0.setCell ⟨M, 1, none⟩ (.int .i64 3)) [(M, 55, #[.int .i64 id, .int .i64 3, .int .i64 0, .int .i64 0, .int .i64 0, .int .i64 0]), (G + 1 + 1, 55, #[.int .i64 0, .int .i64 0, .int .i64 0, .int .i64 0, .int .i64 0, .int .i64 0]), (G + 1, 53, #[.int .i64 x0, .int .i64 x1, .int .i64 x2, .int .i64 x3, .int .i64 x4]), (G, 35, #[.int .i64 id, .int .i64 al, .int .i64 ah, .slice A n c, .slice B mm d, .slice C l ee, .int .i64 t0, .int .i64 t1, .int .i64 u0, .int .i64 u1, .int .i64 v0, .int .i64 v1, .int .i64 h0, .int .i64 h1])]) := Lib.hid (HX0.out.set1 HFAR.out 1 (.int .i64 3) _ rfl)
   have HB1 : Hid (Below w.heap.size w (V0.setCell ⟨M, 1, none⟩ (.int .i64 3))) := Lib.hid (by
    have hm := HMG.out
    exact HB0.out.setCell (by simp <;> omega) _)
   obtain ⟨V1, hW⟩ : ∃ W', V0.setCell ⟨M, 1, none⟩ (.int .i64 3) = W' := ⟨_, rfl⟩
   rw [hW] at HX1 HB1 ⊢
   clear hW HX0 HB0 m_1 m_f1 m_l
   obtain ⟨ss, hss⟩ : ∃ z, (3 : Int) = z := ⟨_, rfl⟩
   have HSS : Hid (st = ss) := Lib.hid ((HSQ.out.1 g5).trans hss)
   rw [hss] at HX1
   clear hss
   clear g5
   have m_ := HX1.out _ (.head _)
   have m_1 := m_.cell 1
   simp at m_1
   clear m_
   have hst' : 0 ≤ ss ∧ ss ≤ 5 := by rw [← HSS.out]; exact hst
   by_cases hs0 : ss = 0
   ·skip
    subst hs0
    have HV : Hid (RR = ⟨id, 0, 0, 0, 0, 0⟩) := Lib.hid (by rw [HR.out, if_pos HSS.out])
    have m_ := HX1.out _ (.head _)
    have m_0 := m_.cell 0
    have m_1 := m_.cell 1
    have m_2 := m_.cell 2
    have m_3 := m_.cell 3
    have m_4 := m_.cell 4
    have m_5 := m_.cell 5
    simp at m_0 m_1 m_2 m_3 m_4 m_5
    clear m_
    go_upto_region 5 with fail
    refine wp_region_lit ?_
    refine wpList_plain rfl (fun K hK => ?_)
    go_simp
    refine hK _ _ ?_
    clear hK K
    have HKR : Hid (Blk (V1.setRow (G + 1 + 1) #[.int .i64 id, .int .i64 0, .int .i64 0, .int .i64 0, .int .i64 0, .int .i64 0]) (G + 1 + 1) 55 #[.int .i64 id, .int .i64 0, .int .i64 0, .int .i64 0, .int .i64 0, .int .i64 0]) := Lib.hid (setRow_heap V1 (G + 1 + 1) _ _ 55 _ (HX1.out _ (.tail _ (.head _))))
    have HE9 := Lib.hid (below_setRow HB1.out (show w.heap.size ≤ G + 1 + 1 by have := HMG.out; omega) #[.int .i64 id, .int .i64 0, .int .i64 0, .int .i64 0, .int .i64 0, .int .i64 0])
    refine wpList_store_row rfl 55 (.tmp 4) (.tmp 19) rfl (G + 1 + 1) #[.int .i64 id, .int .i64 0, .int .i64 0, .int .i64 0, .int .i64 0, .int .i64 0] rfl rfl 55 _ (HX1.out _ (.tail _ (.head _))) (by kernel_rfl) rfl (by kernel_rfl) ?_
    obtain ⟨W9, hW9⟩ : ∃ W9, V1.setRow (G + 1 + 1) #[.int .i64 id, .int .i64 0, .int .i64 0, .int .i64 0, .int .i64 0, .int .i64 0] = W9 := ⟨_, rfl⟩
    rw [hW9] at HKR HE9 ⊢
    clear hW9
    have hv : fillV RR = .agg #[.int .i64 id, .int .i64 0, .int .i64 0, .int .i64 0, .int .i64 0, .int .i64 0] := by rw [HV.out]
    go_wp2
    exact bodyPost_ret (v := .agg #[.int .i64 id, .int .i64 0, .int .i64 0, .int .i64 0, .int .i64 0, .int .i64 0]) (results_cell_row Tryz.results27 _ _ (G + 1 + 1) 55 #[.int .i64 id, .int .i64 0, .int .i64 0, .int .i64 0, .int .i64 0, .int .i64 0] (0, 0) _ rfl HKR.out Tryz.underlying55 rfl (by kernel_rfl)) rfl ⟨by first | rfl | rw [hv], HE9.out⟩
   have b1 : (ss == 0) = false := beq_eq_false_iff_ne.2 hs0
   have x_ := HX1.out _ (.tail _ (.tail _ (.head _)))
   have x_3 := x_.cell 3
   have x_4 := x_.cell 4
   simp at x_3 x_4
   clear x_
   go_wp2_with fail
   refine (CDE.out _).mono ?_
   rintro e z2 ⟨rfl, hq⟩
   have HB2 := Lib.hid (below_then HB1.out hq); have HX2 := Lib.hid (HX1.out.on hq)
   clear hq HB1 HX1 x_3 x_4
   clear CDE m_1
   have m_ := HX2.out _ (.head _)
   have m_4 := m_.cell 4
   have m_f4 := m_.frozen 4
   have m_5 := m_.cell 5
   have m_f5 := m_.frozen 5
   have m_l := m_.lt
   simp at m_4 m_f4 m_5 m_f5
   clear m_
   go_upto_region 7 with fail
   have HXs2_0 : Hid (Boxes ((z2).setCell ⟨M, 4, none⟩ (.int .i64 d0)) [(M, 55, #[.int .i64 id, .int .i64 ss, .int .i64 0, .int .i64 0, .int .i64 d0, .int .i64 0]), (G + 1 + 1, 55, #[.int .i64 0, .int .i64 0, .int .i64 0, .int .i64 0, .int .i64 0, .int .i64 0]), (G + 1, 53, #[.int .i64 x0, .int .i64 x1, .int .i64 x2, .int .i64 x3, .int .i64 x4]), (G, 35, #[.int .i64 id, .int .i64 al, .int .i64 ah, .slice A n c, .slice B mm d, .slice C l ee, .int .i64 t0, .int .i64 t1, .int .i64 u0, .int .i64 u1, .int .i64 v0, .int .i64 v1, .int .i64 h0, .int .i64 h1])]) := Lib.hid (HX2.out.set1 HFAR.out 4 (.int .i64 d0) _ rfl)
   have HXs2_1 : Hid (Boxes (((z2).setCell ⟨M, 4, none⟩ (.int .i64 d0)).setCell ⟨M, 5, none⟩ (.int .i64 d1)) [(M, 55, #[.int .i64 id, .int .i64 ss, .int .i64 0, .int .i64 0, .int .i64 d0, .int .i64 d1]), (G + 1 + 1, 55, #[.int .i64 0, .int .i64 0, .int .i64 0, .int .i64 0, .int .i64 0, .int .i64 0]), (G + 1, 53, #[.int .i64 x0, .int .i64 x1, .int .i64 x2, .int .i64 x3, .int .i64 x4]), (G, 35, #[.int .i64 id, .int .i64 al, .int .i64 ah, .slice A n c, .slice B mm d, .slice C l ee, .int .i64 t0, .int .i64 t1, .int .i64 u0, .int .i64 u1, .int .i64 v0, .int .i64 v1, .int .i64 h0, .int .i64 h1])]) := Lib.hid (HXs2_0.out.set1 HFAR.out 5 (.int .i64 d1) _ rfl)
   have HB3 : Hid (Below w.heap.size w (((z2).setCell ⟨M, 4, none⟩ (.int .i64 d0)).setCell ⟨M, 5, none⟩ (.int .i64 d1))) := Lib.hid (by
    have hm := HMG.out
    repeat (first | exact HB2.out | refine Below.setCell ?_ (by simp <;> omega) _))
   have HX3 := HXs2_1
   obtain ⟨V3, hW⟩ : ∃ W', ((z2).setCell ⟨M, 4, none⟩ (.int .i64 d0)).setCell ⟨M, 5, none⟩ (.int .i64 d1) = W' := ⟨_, rfl⟩
   rw [hW] at HB3 HX3  ⊢
   clear hW HB2 HX2 HXs2_0 m_4 m_f4 m_5 m_f5 m_l
   have m_ := HX3.out _ (.head _)
   have m_1 := m_.cell 1
   simp at m_1
   clear m_
   have CFR : Hid (∀ W, Calls Tryz.prog 36 #[.int .i64 ss] W fun e w' => e = .returned (.bool (decide (3 ≤ ss ∧ ss ≤ 5))) ∧ Below W.heap.size W w') := Lib.hid fun W => sFree_to ss _ W rfl
   by_cases hf : 3 ≤ ss ∧ ss ≤ 5
   ·skip
    rw [decide_eq_true hf] at CFR
    go_wp2_with fail
    refine (CFR.out _).mono ?_
    rintro e z4 ⟨rfl, hq⟩
    have HB4 := Lib.hid (below_then HB3.out hq); have HX4 := Lib.hid (HX3.out.on hq)
    clear hq HB3 HX3 m_1
    clear CFR
    have h_ := HX4.out _ (.tail _ (.tail _ (.tail _ (.head _))))
    have h_3 := h_.cell 3
    simp at h_3
    clear h_
    have x_ := HX4.out _ (.tail _ (.tail _ (.head _)))
    have x_1 := x_.cell 1
    have x_2 := x_.cell 2
    simp at x_1 x_2
    clear x_
    go_wp2_with fail
    refine (CSP.out _ HB4.out).mono ?_
    rintro e z5 ⟨rfl, hq⟩
    have HB5 := Lib.hid (below_then HB4.out hq); have HX5 := Lib.hid (HX4.out.on hq)
    clear hq HB4 HX4 h_3 x_1 x_2
    clear CSP
    have m_ := HX5.out _ (.head _)
    have m_2 := m_.cell 2
    have m_f2 := m_.frozen 2
    have m_3 := m_.cell 3
    have m_f3 := m_.frozen 3
    have m_l := m_.lt
    simp at m_2 m_f2 m_3 m_f3
    clear m_
    go_upto_region 9 with fail
    have HXs5_0 : Hid (Boxes ((z5).setCell ⟨M, 2, none⟩ (.int .i64 p0)) [(M, 55, #[.int .i64 id, .int .i64 ss, .int .i64 p0, .int .i64 0, .int .i64 d0, .int .i64 d1]), (G + 1 + 1, 55, #[.int .i64 0, .int .i64 0, .int .i64 0, .int .i64 0, .int .i64 0, .int .i64 0]), (G + 1, 53, #[.int .i64 x0, .int .i64 x1, .int .i64 x2, .int .i64 x3, .int .i64 x4]), (G, 35, #[.int .i64 id, .int .i64 al, .int .i64 ah, .slice A n c, .slice B mm d, .slice C l ee, .int .i64 t0, .int .i64 t1, .int .i64 u0, .int .i64 u1, .int .i64 v0, .int .i64 v1, .int .i64 h0, .int .i64 h1])]) := Lib.hid (HX5.out.set1 HFAR.out 2 (.int .i64 p0) _ rfl)
    have HXs5_1 : Hid (Boxes (((z5).setCell ⟨M, 2, none⟩ (.int .i64 p0)).setCell ⟨M, 3, none⟩ (.int .i64 p1)) [(M, 55, #[.int .i64 id, .int .i64 ss, .int .i64 p0, .int .i64 p1, .int .i64 d0, .int .i64 d1]), (G + 1 + 1, 55, #[.int .i64 0, .int .i64 0, .int .i64 0, .int .i64 0, .int .i64 0, .int .i64 0]), (G + 1, 53, #[.int .i64 x0, .int .i64 x1, .int .i64 x2, .int .i64 x3, .int .i64 x4]), (G, 35, #[.int .i64 id, .int .i64 al, .int .i64 ah, .slice A n c, .slice B mm d, .slice C l ee, .int .i64 t0, .int .i64 t1, .int .i64 u0, .int .i64 u1, .int .i64 v0, .int .i64 v1, .int .i64 h0, .int .i64 h1])]) := Lib.hid (HXs5_0.out.set1 HFAR.out 3 (.int .i64 p1) _ rfl)
    have HB6 : Hid (Below w.heap.size w (((z5).setCell ⟨M, 2, none⟩ (.int .i64 p0)).setCell ⟨M, 3, none⟩ (.int .i64 p1))) := Lib.hid (by
     have hm := HMG.out
     repeat (first | exact HB5.out | refine Below.setCell ?_ (by simp <;> omega) _))
    have HX6 := HXs5_1
    obtain ⟨V6, hW⟩ : ∃ W', ((z5).setCell ⟨M, 2, none⟩ (.int .i64 p0)).setCell ⟨M, 3, none⟩ (.int .i64 p1) = W' := ⟨_, rfl⟩
    rw [hW] at HB6 HX6  ⊢
    clear hW HB5 HX5 HXs5_0 m_2 m_f2 m_3 m_f3 m_l
    have HV : Hid (RR = ⟨id, ss, p0, p1, d0, d1⟩) := Lib.hid (by rw [HR.out, HSS.out, if_neg hs0, if_pos hf])
    have m_ := HX6.out _ (.head _)
    have m_0 := m_.cell 0
    have m_1 := m_.cell 1
    have m_2 := m_.cell 2
    have m_3 := m_.cell 3
    have m_4 := m_.cell 4
    have m_5 := m_.cell 5
    simp at m_0 m_1 m_2 m_3 m_4 m_5
    clear m_
    go_upto_region 9 with fail
    refine wp_region_lit ?_
    refine wpList_plain rfl (fun K hK => ?_)
    go_simp
    refine hK _ _ ?_
    clear hK K
    have HKR : Hid (Blk (V6.setRow (G + 1 + 1) #[.int .i64 id, .int .i64 ss, .int .i64 p0, .int .i64 p1, .int .i64 d0, .int .i64 d1]) (G + 1 + 1) 55 #[.int .i64 id, .int .i64 ss, .int .i64 p0, .int .i64 p1, .int .i64 d0, .int .i64 d1]) := Lib.hid (setRow_heap V6 (G + 1 + 1) _ _ 55 _ (HX6.out _ (.tail _ (.head _))))
    have HE9 := Lib.hid (below_setRow HB6.out (show w.heap.size ≤ G + 1 + 1 by have := HMG.out; omega) #[.int .i64 id, .int .i64 ss, .int .i64 p0, .int .i64 p1, .int .i64 d0, .int .i64 d1])
    refine wpList_store_row rfl 55 (.tmp 4) (.tmp 37) rfl (G + 1 + 1) #[.int .i64 id, .int .i64 ss, .int .i64 p0, .int .i64 p1, .int .i64 d0, .int .i64 d1] rfl rfl 55 _ (HX6.out _ (.tail _ (.head _))) (by kernel_rfl) rfl (by kernel_rfl) ?_
    obtain ⟨W9, hW9⟩ : ∃ W9, V6.setRow (G + 1 + 1) #[.int .i64 id, .int .i64 ss, .int .i64 p0, .int .i64 p1, .int .i64 d0, .int .i64 d1] = W9 := ⟨_, rfl⟩
    rw [hW9] at HKR HE9 ⊢
    clear hW9
    have hv : fillV RR = .agg #[.int .i64 id, .int .i64 ss, .int .i64 p0, .int .i64 p1, .int .i64 d0, .int .i64 d1] := by rw [HV.out]
    go_wp2
    exact bodyPost_ret (v := .agg #[.int .i64 id, .int .i64 ss, .int .i64 p0, .int .i64 p1, .int .i64 d0, .int .i64 d1]) (results_cell_row Tryz.results27 _ _ (G + 1 + 1) 55 #[.int .i64 id, .int .i64 ss, .int .i64 p0, .int .i64 p1, .int .i64 d0, .int .i64 d1] (0, 0) _ rfl HKR.out Tryz.underlying55 rfl (by kernel_rfl)) rfl ⟨by first | rfl | rw [hv], HE9.out⟩
   rw [decide_eq_false hf] at CFR
   go_wp2_with fail
   refine (CFR.out _).mono ?_
   rintro e z4 ⟨rfl, hq⟩
   have HB4 := Lib.hid (below_then HB3.out hq); have HX4 := Lib.hid (HX3.out.on hq)
   clear hq HB3 HX3 m_1
   clear CFR
   go_upto_region 9 with fail
   have HV : Hid (RR = ⟨id, ss, 0, 0, d0, d1⟩) := Lib.hid (by rw [HR.out, HSS.out, if_neg hs0, if_neg hf])
   have m_ := HX4.out _ (.head _)
   have m_0 := m_.cell 0
   have m_1 := m_.cell 1
   have m_2 := m_.cell 2
   have m_3 := m_.cell 3
   have m_4 := m_.cell 4
   have m_5 := m_.cell 5
   simp at m_0 m_1 m_2 m_3 m_4 m_5
   clear m_
   refine wp_region_lit ?_
   refine wpList_plain rfl (fun K hK => ?_)
   go_simp
   refine hK _ _ ?_
   clear hK K
   have HKR : Hid (Blk (z4.setRow (G + 1 + 1) #[.int .i64 id, .int .i64 ss, .int .i64 0, .int .i64 0, .int .i64 d0, .int .i64 d1]) (G + 1 + 1) 55 #[.int .i64 id, .int .i64 ss, .int .i64 0, .int .i64 0, .int .i64 d0, .int .i64 d1]) := Lib.hid (setRow_heap z4 (G + 1 + 1) _ _ 55 _ (HX4.out _ (.tail _ (.head _))))
   have HE9 := Lib.hid (below_setRow HB4.out (show w.heap.size ≤ G + 1 + 1 by have := HMG.out; omega) #[.int .i64 id, .int .i64 ss, .int .i64 0, .int .i64 0, .int .i64 d0, .int .i64 d1])
   refine wpList_store_row rfl 55 (.tmp 4) (.tmp 37) rfl (G + 1 + 1) #[.int .i64 id, .int .i64 ss, .int .i64 0, .int .i64 0, .int .i64 d0, .int .i64 d1] rfl rfl 55 _ (HX4.out _ (.tail _ (.head _))) (by kernel_rfl) rfl (by kernel_rfl) ?_
   obtain ⟨W9, hW9⟩ : ∃ W9, z4.setRow (G + 1 + 1) #[.int .i64 id, .int .i64 ss, .int .i64 0, .int .i64 0, .int .i64 d0, .int .i64 d1] = W9 := ⟨_, rfl⟩
   rw [hW9] at HKR HE9 ⊢
   clear hW9
   have hv : fillV RR = .agg #[.int .i64 id, .int .i64 ss, .int .i64 0, .int .i64 0, .int .i64 d0, .int .i64 d1] := by rw [HV.out]
   go_wp2
   exact bodyPost_ret (v := .agg #[.int .i64 id, .int .i64 ss, .int .i64 0, .int .i64 0, .int .i64 d0, .int .i64 d1]) (results_cell_row Tryz.results27 _ _ (G + 1 + 1) 55 #[.int .i64 id, .int .i64 ss, .int .i64 0, .int .i64 0, .int .i64 d0, .int .i64 d1] (0, 0) _ rfl HKR.out Tryz.underlying55 rfl (by kernel_rfl)) rfl ⟨by first | rfl | rw [hv], HE9.out⟩
  have m_ := HX0.out _ (.head _)
  have m_1 := m_.cell 1
  have m_f1 := m_.frozen 1
  have m_l := m_.lt
  simp at m_1 m_f1
  clear m_
  go_upto_region 4 with fail
  have HX1 := HX0; have HB1 := HB0
  rename World => V1
  have HSS : Hid (st = q0) := Lib.hid (HSQ.out.2 g5)
  clear HX0 HB0 m_1 m_f1 m_l g5
  obtain ⟨ss, hss⟩ : ∃ z, q0 = z := ⟨_, rfl⟩
  rw [hss] at HX1 HSS
  clear hss
  have m_ := HX1.out _ (.head _)
  have m_1 := m_.cell 1
  simp at m_1
  clear m_
  have hst' : 0 ≤ ss ∧ ss ≤ 5 := by rw [← HSS.out]; exact hst
  by_cases hs0 : ss = 0
  ·skip
   subst hs0
   have HV : Hid (RR = ⟨id, 0, 0, 0, 0, 0⟩) := Lib.hid (by rw [HR.out, if_pos HSS.out])
   have m_ := HX1.out _ (.head _)
   have m_0 := m_.cell 0
   have m_1 := m_.cell 1
   have m_2 := m_.cell 2
   have m_3 := m_.cell 3
   have m_4 := m_.cell 4
   have m_5 := m_.cell 5
   simp at m_0 m_1 m_2 m_3 m_4 m_5
   clear m_
   go_upto_region 5 with fail
   refine wp_region_lit ?_
   refine wpList_plain rfl (fun K hK => ?_)
   go_simp
   refine hK _ _ ?_
   clear hK K
   have HKR : Hid (Blk (V1.setRow (G + 1 + 1) #[.int .i64 id, .int .i64 0, .int .i64 0, .int .i64 0, .int .i64 0, .int .i64 0]) (G + 1 + 1) 55 #[.int .i64 id, .int .i64 0, .int .i64 0, .int .i64 0, .int .i64 0, .int .i64 0]) := Lib.hid (setRow_heap V1 (G + 1 + 1) _ _ 55 _ (HX1.out _ (.tail _ (.head _))))
   have HE9 := Lib.hid (below_setRow HB1.out (show w.heap.size ≤ G + 1 + 1 by have := HMG.out; omega) #[.int .i64 id, .int .i64 0, .int .i64 0, .int .i64 0, .int .i64 0, .int .i64 0])
   refine wpList_store_row rfl 55 (.tmp 4) (.tmp 19) rfl (G + 1 + 1) #[.int .i64 id, .int .i64 0, .int .i64 0, .int .i64 0, .int .i64 0, .int .i64 0] rfl rfl 55 _ (HX1.out _ (.tail _ (.head _))) (by kernel_rfl) rfl (by kernel_rfl) ?_
   obtain ⟨W9, hW9⟩ : ∃ W9, V1.setRow (G + 1 + 1) #[.int .i64 id, .int .i64 0, .int .i64 0, .int .i64 0, .int .i64 0, .int .i64 0] = W9 := ⟨_, rfl⟩
   rw [hW9] at HKR HE9 ⊢
   clear hW9
   have hv : fillV RR = .agg #[.int .i64 id, .int .i64 0, .int .i64 0, .int .i64 0, .int .i64 0, .int .i64 0] := by rw [HV.out]
   go_wp2
   exact bodyPost_ret (v := .agg #[.int .i64 id, .int .i64 0, .int .i64 0, .int .i64 0, .int .i64 0, .int .i64 0]) (results_cell_row Tryz.results27 _ _ (G + 1 + 1) 55 #[.int .i64 id, .int .i64 0, .int .i64 0, .int .i64 0, .int .i64 0, .int .i64 0] (0, 0) _ rfl HKR.out Tryz.underlying55 rfl (by kernel_rfl)) rfl ⟨by first | rfl | rw [hv], HE9.out⟩
  have b1 : (ss == 0) = false := beq_eq_false_iff_ne.2 hs0
  have x_ := HX1.out _ (.tail _ (.tail _ (.head _)))
  have x_3 := x_.cell 3
  have x_4 := x_.cell 4
  simp at x_3 x_4
  clear x_
  go_wp2_with fail
  refine (CDE.out _).mono ?_
  rintro e z2 ⟨rfl, hq⟩
  have HB2 := Lib.hid (below_then HB1.out hq); have HX2 := Lib.hid (HX1.out.on hq)
  clear hq HB1 HX1 x_3 x_4
  clear CDE m_1
  have m_ := HX2.out _ (.head _)
  have m_4 := m_.cell 4
  have m_f4 := m_.frozen 4
  have m_5 := m_.cell 5
  have m_f5 := m_.frozen 5
  have m_l := m_.lt
  simp at m_4 m_f4 m_5 m_f5
  clear m_
  go_upto_region 7 with fail
  have HXs2_0 : Hid (Boxes ((z2).setCell ⟨M, 4, none⟩ (.int .i64 d0)) [(M, 55, #[.int .i64 id, .int .i64 ss, .int .i64 0, .int .i64 0, .int .i64 d0, .int .i64 0]), (G + 1 + 1, 55, #[.int .i64 0, .int .i64 0, .int .i64 0, .int .i64 0, .int .i64 0, .int .i64 0]), (G + 1, 53, #[.int .i64 x0, .int .i64 x1, .int .i64 x2, .int .i64 x3, .int .i64 x4]), (G, 35, #[.int .i64 id, .int .i64 al, .int .i64 ah, .slice A n c, .slice B mm d, .slice C l ee, .int .i64 t0, .int .i64 t1, .int .i64 u0, .int .i64 u1, .int .i64 v0, .int .i64 v1, .int .i64 h0, .int .i64 h1])]) := Lib.hid (HX2.out.set1 HFAR.out 4 (.int .i64 d0) _ rfl)
  have HXs2_1 : Hid (Boxes (((z2).setCell ⟨M, 4, none⟩ (.int .i64 d0)).setCell ⟨M, 5, none⟩ (.int .i64 d1)) [(M, 55, #[.int .i64 id, .int .i64 ss, .int .i64 0, .int .i64 0, .int .i64 d0, .int .i64 d1]), (G + 1 + 1, 55, #[.int .i64 0, .int .i64 0, .int .i64 0, .int .i64 0, .int .i64 0, .int .i64 0]), (G + 1, 53, #[.int .i64 x0, .int .i64 x1, .int .i64 x2, .int .i64 x3, .int .i64 x4]), (G, 35, #[.int .i64 id, .int .i64 al, .int .i64 ah, .slice A n c, .slice B mm d, .slice C l ee, .int .i64 t0, .int .i64 t1, .int .i64 u0, .int .i64 u1, .int .i64 v0, .int .i64 v1, .int .i64 h0, .int .i64 h1])]) := Lib.hid (HXs2_0.out.set1 HFAR.out 5 (.int .i64 d1) _ rfl)
  have HB3 : Hid (Below w.heap.size w (((z2).setCell ⟨M, 4, none⟩ (.int .i64 d0)).setCell ⟨M, 5, none⟩ (.int .i64 d1))) := Lib.hid (by
   have hm := HMG.out
   repeat (first | exact HB2.out | refine Below.setCell ?_ (by simp <;> omega) _))
  have HX3 := HXs2_1
  obtain ⟨V3, hW⟩ : ∃ W', ((z2).setCell ⟨M, 4, none⟩ (.int .i64 d0)).setCell ⟨M, 5, none⟩ (.int .i64 d1) = W' := ⟨_, rfl⟩
  rw [hW] at HB3 HX3  ⊢
  clear hW HB2 HX2 HXs2_0 m_4 m_f4 m_5 m_f5 m_l
  have m_ := HX3.out _ (.head _)
  have m_1 := m_.cell 1
  simp at m_1
  clear m_
  have CFR : Hid (∀ W, Calls Tryz.prog 36 #[.int .i64 ss] W fun e w' => e = .returned (.bool (decide (3 ≤ ss ∧ ss ≤ 5))) ∧ Below W.heap.size W w') := Lib.hid fun W => sFree_to ss _ W rfl
  by_cases hf : 3 ≤ ss ∧ ss ≤ 5
  ·skip
   rw [decide_eq_true hf] at CFR
   go_wp2_with fail
   refine (CFR.out _).mono ?_
   rintro e z4 ⟨rfl, hq⟩
   have HB4 := Lib.hid (below_then HB3.out hq); have HX4 := Lib.hid (HX3.out.on hq)
   clear hq HB3 HX3 m_1
   clear CFR
   have h_ := HX4.out _ (.tail _ (.tail _ (.tail _ (.head _))))
   have h_3 := h_.cell 3
   simp at h_3
   clear h_
   have x_ := HX4.out _ (.tail _ (.tail _ (.head _)))
   have x_1 := x_.cell 1
   have x_2 := x_.cell 2
   simp at x_1 x_2
   clear x_
   go_wp2_with fail
   refine (CSP.out _ HB4.out).mono ?_
   rintro e z5 ⟨rfl, hq⟩
   have HB5 := Lib.hid (below_then HB4.out hq); have HX5 := Lib.hid (HX4.out.on hq)
   clear hq HB4 HX4 h_3 x_1 x_2
   clear CSP
   have m_ := HX5.out _ (.head _)
   have m_2 := m_.cell 2
   have m_f2 := m_.frozen 2
   have m_3 := m_.cell 3
   have m_f3 := m_.frozen 3
   have m_l := m_.lt
   simp at m_2 m_f2 m_3 m_f3
   clear m_
   go_upto_region 9 with fail
   have HXs5_0 : Hid (Boxes ((z5).setCell ⟨M, 2, none⟩ (.int .i64 p0)) [(M, 55, #[.int .i64 id, .int .i64 ss, .int .i64 p0, .int .i64 0, .int .i64 d0, .int .i64 d1]), (G + 1 + 1, 55, #[.int .i64 0, .int .i64 0, .int .i64 0, .int .i64 0, .int .i64 0, .int .i64 0]), (G + 1, 53, #[.int .i64 x0, .int .i64 x1, .int .i64 x2, .int .i64 x3, .int .i64 x4]), (G, 35, #[.int .i64 id, .int .i64 al, .int .i64 ah, .slice A n c, .slice B mm d, .slice C l ee, .int .i64 t0, .int .i64 t1, .int .i64 u0, .int .i64 u1, .int .i64 v0, .int .i64 v1, .int .i64 h0, .int .i64 h1])]) := Lib.hid (HX5.out.set1 HFAR.out 2 (.int .i64 p0) _ rfl)
   have HXs5_1 : Hid (Boxes (((z5).setCell ⟨M, 2, none⟩ (.int .i64 p0)).setCell ⟨M, 3, none⟩ (.int .i64 p1)) [(M, 55, #[.int .i64 id, .int .i64 ss, .int .i64 p0, .int .i64 p1, .int .i64 d0, .int .i64 d1]), (G + 1 + 1, 55, #[.int .i64 0, .int .i64 0, .int .i64 0, .int .i64 0, .int .i64 0, .int .i64 0]), (G + 1, 53, #[.int .i64 x0, .int .i64 x1, .int .i64 x2, .int .i64 x3, .int .i64 x4]), (G, 35, #[.int .i64 id, .int .i64 al, .int .i64 ah, .slice A n c, .slice B mm d, .slice C l ee, .int .i64 t0, .int .i64 t1, .int .i64 u0, .int .i64 u1, .int .i64 v0, .int .i64 v1, .int .i64 h0, .int .i64 h1])]) := Lib.hid (HXs5_0.out.set1 HFAR.out 3 (.int .i64 p1) _ rfl)
   have HB6 : Hid (Below w.heap.size w (((z5).setCell ⟨M, 2, none⟩ (.int .i64 p0)).setCell ⟨M, 3, none⟩ (.int .i64 p1))) := Lib.hid (by
    have hm := HMG.out
    repeat (first | exact HB5.out | refine Below.setCell ?_ (by simp <;> omega) _))
   have HX6 := HXs5_1
   obtain ⟨V6, hW⟩ : ∃ W', ((z5).setCell ⟨M, 2, none⟩ (.int .i64 p0)).setCell ⟨M, 3, none⟩ (.int .i64 p1) = W' := ⟨_, rfl⟩
   rw [hW] at HB6 HX6  ⊢
   clear hW HB5 HX5 HXs5_0 m_2 m_f2 m_3 m_f3 m_l
   have HV : Hid (RR = ⟨id, ss, p0, p1, d0, d1⟩) := Lib.hid (by rw [HR.out, HSS.out, if_neg hs0, if_pos hf])
   have m_ := HX6.out _ (.head _)
   have m_0 := m_.cell 0
   have m_1 := m_.cell 1
   have m_2 := m_.cell 2
   have m_3 := m_.cell 3
   have m_4 := m_.cell 4
   have m_5 := m_.cell 5
   simp at m_0 m_1 m_2 m_3 m_4 m_5
   clear m_
   go_upto_region 9 with fail
   refine wp_region_lit ?_
   refine wpList_plain rfl (fun K hK => ?_)
   go_simp
   refine hK _ _ ?_
   clear hK K
   have HKR : Hid (Blk (V6.setRow (G + 1 + 1) #[.int .i64 id, .int .i64 ss, .int .i64 p0, .int .i64 p1, .int .i64 d0, .int .i64 d1]) (G + 1 + 1) 55 #[.int .i64 id, .int .i64 ss, .int .i64 p0, .int .i64 p1, .int .i64 d0, .int .i64 d1]) := Lib.hid (setRow_heap V6 (G + 1 + 1) _ _ 55 _ (HX6.out _ (.tail _ (.head _))))
   have HE9 := Lib.hid (below_setRow HB6.out (show w.heap.size ≤ G + 1 + 1 by have := HMG.out; omega) #[.int .i64 id, .int .i64 ss, .int .i64 p0, .int .i64 p1, .int .i64 d0, .int .i64 d1])
   refine wpList_store_row rfl 55 (.tmp 4) (.tmp 37) rfl (G + 1 + 1) #[.int .i64 id, .int .i64 ss, .int .i64 p0, .int .i64 p1, .int .i64 d0, .int .i64 d1] rfl rfl 55 _ (HX6.out _ (.tail _ (.head _))) (by kernel_rfl) rfl (by kernel_rfl) ?_
   obtain ⟨W9, hW9⟩ : ∃ W9, V6.setRow (G + 1 + 1) #[.int .i64 id, .int .i64 ss, .int .i64 p0, .int .i64 p1, .int .i64 d0, .int .i64 d1] = W9 := ⟨_, rfl⟩
   rw [hW9] at HKR HE9 ⊢
   clear hW9
   have hv : fillV RR = .agg #[.int .i64 id, .int .i64 ss, .int .i64 p0, .int .i64 p1, .int .i64 d0, .int .i64 d1] := by rw [HV.out]
   go_wp2
   exact bodyPost_ret (v := .agg #[.int .i64 id, .int .i64 ss, .int .i64 p0, .int .i64 p1, .int .i64 d0, .int .i64 d1]) (results_cell_row Tryz.results27 _ _ (G + 1 + 1) 55 #[.int .i64 id, .int .i64 ss, .int .i64 p0, .int .i64 p1, .int .i64 d0, .int .i64 d1] (0, 0) _ rfl HKR.out Tryz.underlying55 rfl (by kernel_rfl)) rfl ⟨by first | rfl | rw [hv], HE9.out⟩
  rw [decide_eq_false hf] at CFR
  go_wp2_with fail
  refine (CFR.out _).mono ?_
  rintro e z4 ⟨rfl, hq⟩
  have HB4 := Lib.hid (below_then HB3.out hq); have HX4 := Lib.hid (HX3.out.on hq)
  clear hq HB3 HX3 m_1
  clear CFR
  go_upto_region 9 with fail
  have HV : Hid (RR = ⟨id, ss, 0, 0, d0, d1⟩) := Lib.hid (by rw [HR.out, HSS.out, if_neg hs0, if_neg hf])
  have m_ := HX4.out _ (.head _)
  have m_0 := m_.cell 0
  have m_1 := m_.cell 1
  have m_2 := m_.cell 2
  have m_3 := m_.cell 3
  have m_4 := m_.cell 4
  have m_5 := m_.cell 5
  simp at m_0 m_1 m_2 m_3 m_4 m_5
  clear m_
  refine wp_region_lit ?_
  refine wpList_plain rfl (fun K hK => ?_)
  go_simp
  refine hK _ _ ?_
  clear hK K
  have HKR : Hid (Blk (z4.setRow (G + 1 + 1) #[.int .i64 id, .int .i64 ss, .int .i64 0, .int .i64 0, .int .i64 d0, .int .i64 d1]) (G + 1 + 1) 55 #[.int .i64 id, .int .i64 ss, .int .i64 0, .int .i64 0, .int .i64 d0, .int .i64 d1]) := Lib.hid (setRow_heap z4 (G + 1 + 1) _ _ 55 _ (HX4.out _ (.tail _ (.head _))))
  have HE9 := Lib.hid (below_setRow HB4.out (show w.heap.size ≤ G + 1 + 1 by have := HMG.out; omega) #[.int .i64 id, .int .i64 ss, .int .i64 0, .int .i64 0, .int .i64 d0, .int .i64 d1])
  refine wpList_store_row rfl 55 (.tmp 4) (.tmp 37) rfl (G + 1 + 1) #[.int .i64 id, .int .i64 ss, .int .i64 0, .int .i64 0, .int .i64 d0, .int .i64 d1] rfl rfl 55 _ (HX4.out _ (.tail _ (.head _))) (by kernel_rfl) rfl (by kernel_rfl) ?_
  obtain ⟨W9, hW9⟩ : ∃ W9, z4.setRow (G + 1 + 1) #[.int .i64 id, .int .i64 ss, .int .i64 0, .int .i64 0, .int .i64 d0, .int .i64 d1] = W9 := ⟨_, rfl⟩
  rw [hW9] at HKR HE9 ⊢
  clear hW9
  have hv : fillV RR = .agg #[.int .i64 id, .int .i64 ss, .int .i64 0, .int .i64 0, .int .i64 d0, .int .i64 d1] := by rw [HV.out]
  go_wp2
  exact bodyPost_ret (v := .agg #[.int .i64 id, .int .i64 ss, .int .i64 0, .int .i64 0, .int .i64 d0, .int .i64 d1]) (results_cell_row Tryz.results27 _ _ (G + 1 + 1) 55 #[.int .i64 id, .int .i64 ss, .int .i64 0, .int .i64 0, .int .i64 d0, .int .i64 d1] (0, 0) _ rfl HKR.out Tryz.underlying55 rfl (by kernel_rfl)) rfl ⟨by first | rfl | rw [hv], HE9.out⟩
end

section
open Go.RowKit

set_option maxRecDepth 100000 in
set_option maxHeartbeats 1000000 in
theorem swithin_yes (lo hi n d : Int) (w : World) (h1 : lo * d ≤ n) (h2 : n ≤ hi * d) (b1 : -9000000000000000000 ≤ lo * d) (b2 : hi * d ≤ 9000000000000000000) (hb : -9000000000000000000 ≤ n ∧ n ≤ 9000000000000000000) :
  Calls Tryz.prog 34 #[rv lo hi, .int .i64 n, .int .i64 d] w fun e w' => e = .returned (.bool true) ∧ Below w.heap.size w w' := by
 obtain ⟨p, hp⟩ : ∃ p, lo * d = p := ⟨_, rfl⟩
 obtain ⟨q, hq⟩ : ∃ q, hi * d = q := ⟨_, rfl⟩
 rw [hp] at h1 b1
 rw [hq] at h2 b2
 have w1 : IntKind.i64.wrap (lo * d) = p := by rw [hp]; exact IntWalk.i64_in _ ⟨by omega, by omega⟩
 have w2 : IntKind.i64.wrap (hi * d) = q := by rw [hq]; exact IntWalk.i64_in _ ⟨by omega, by omega⟩
 clear hp hq b1 b2 hb
 go_enter Tryz.func34, Tryz.ntmps34
 go_wp2
 go_ret
 exact ⟨by first | rfl | simp [h1, h2], below_alloc1 _ _⟩
theorem curveTo_in {ps : List P3} {pk : List Int} (h : ∀ p ∈ ps, p.2.1 ≤ p.2.2) : ∀ k : Nat, k ≤ ps.length → ∀ j p y, j < k → ps[j]? = some p → (curveTo ps pk k)[j]? = some y → p.2.1 ≤ y ∧ y ≤ p.2.2
  | 0, _, j, _, _, hj, _, _ => by omega
  | k + 1, hk, j, p, y, hj, hp, hy => by
    have hl := curveTo_len ps pk k (by omega)
    obtain ⟨r, hr⟩ : ∃ r, ps[k]? = some r := ⟨_, List.getElem?_eq_getElem (show k < ps.length by omega)⟩
    rw [curveTo_succ hr] at hy
    rcases Nat.lt_or_ge j k with c | c
    · rw [List.getElem?_append_left (by omega)] at hy
      exact curveTo_in h k (by omega) j p y c hp hy
    · obtain rfl : j = k := by omega
      rw [List.getElem?_append_right (by omega), hl] at hy
      simp at hy
      rw [hr] at hp
      injection hp with hp
      subst hp
      have h1 := h r (List.mem_of_getElem? hr)
      obtain ⟨h2, h3⟩ := emod_in (pickS pk j) (show (0 : Int) < r.2.2 - r.2.1 + 1 by omega)
      omega
theorem tab_wide {ps : List P3} (ht : tabOk ps = true) : ∀ p ∈ ps, NotWide p := by
  have hm : ∀ (ps : List P3) (last : Int), ptsOk last ps = true → ∀ p ∈ ps, p.2.1 ≤ p.2.2 ∧ -1000000000 ≤ p.2.1 ∧ p.2.2 ≤ 1000000000 := by
    intro ps
    induction ps with
    | nil => intro _ _ p hp; cases hp
    | cons a r ih =>
      intro last h p hp
      rw [ptsOk, Bool.and_eq_true] at h
      rcases List.mem_cons.1 hp with rfl | hp
      · have q := h.1
        unfold ptOk inB at q
        simp only [Bool.and_eq_true, decide_eq_true_eq] at q
        omega
      · exact ih _ h.2 p hp
  intro p hp
  have := hm ps (-1) (tabOk_pts ht) p hp
  unfold NotWide
  omega
theorem curve_inTabS {ps : List P3} (pk : List Int) (ht : tabOk ps = true) {n : Nat} (hn : n = ps.length) : InTab ps (curveTo ps pk n) := by
  subst hn
  have hl := curveTo_len ps pk ps.length (Nat.le_refl _)
  refine ⟨hl, fun k p y hp hy => curveTo_in (fun p hp => (tab_wide ht p hp).1) ps.length (Nat.le_refl _) k p y ?_ hp hy⟩
  have := (List.getElem?_eq_some_iff.1 hp).1
  omega
theorem madeF_ok {h : HoldD} (e : holdS h = true) (hle : firstX h.vol ≤ lastX h.vol) (x0 x1 x2 x3 x4 : Int) : fillErr h (madeF h x0 x1 x2 x3 x4) = 0 := by
  have hs := stOf_in x0
  obtain ⟨a1, a2⟩ := emod_in x1 (show (0 : Int) < lastX h.vol - firstX h.vol + 1 by omega)
  obtain ⟨a3, a4⟩ := emod_in x2 (show (0 : Int) < min (lastX h.vol - (firstX h.vol + x1 % (lastX h.vol - firstX h.vol + 1))) 25 + 1 by omega)
  obtain ⟨b1, b2⟩ := emod_in x3 (show (0 : Int) < 900 by omega)
  obtain ⟨b3, b4⟩ := emod_in x4 (show (0 : Int) < 200 by omega)
  unfold fillErr
  rw [if_pos e]
  have : fillS h (madeF h x0 x1 x2 x3 x4) = true := by
    unfold fillS madeF stateS densS inB
    split
    · rename_i h0
      simp
    · rename_i h0
      split
      · rename_i h1
        unfold spanS densityS
        simp only [Bool.and_eq_true, Bool.or_eq_true, decide_eq_true_eq]
        refine ⟨by trivial, .inr (.inr ⟨h1, ?_, ?_⟩)⟩ <;> omega
      · rename_i h1
        unfold densityS
        simp only [Bool.and_eq_true, Bool.or_eq_true, decide_eq_true_eq]
        refine ⟨by trivial, .inr (.inl ⟨by omega, ?_, ?_⟩)⟩
        · decide
        · omega
  rw [if_pos this]
theorem tab_places {ps : List P3} (ht : tabOk ps = true) : 0 ≤ firstX ps ∧ lastX ps ≤ 1000000 := by
  have hm := okp_of ps (-1) (tabOk_pts ht) (by omega)
  have hl := tabOk_len ht
  constructor
  · unfold firstX
    rw [List.head?_eq_getElem?, List.getElem?_eq_getElem (show 0 < ps.length by omega)]
    have := (hm _ (List.getElem_mem (show 0 < ps.length by omega))).1
    unfold Okp at this
    simpa using this.1
  · unfold lastX
    rw [List.getLast?_eq_getElem?, List.getElem?_eq_getElem (show ps.length - 1 < ps.length by omega)]
    have := (hm _ (List.getElem_mem (show ps.length - 1 < ps.length by omega))).1
    unfold Okp at this
    simpa using this.2.1
theorem overS_good {ps : List P3} {a b : Int} (ht : tabOk ps = true) (hab : inB a b (firstX ps) (lastX ps) = true) : overS ps a b = ((overGood ps a b).1, (overGood ps a b).2.1, 0) := by
  have hp := tab_places ht
  have q := hab
  simp only [inB, decide_eq_true_eq] at q
  have hv : vR a b = true := (vR_iff a b).2 (by omega)
  unfold overS
  rw [if_pos]
  unfold overE placesS
  rw [if_pos ht, if_pos hv, if_pos ht, if_pos hab]
theorem overS_has {ps : List P3} {cs : List Int} {a x b num den : Int} (ht : tabOk ps = true) (hi : InTab ps cs) (h : ValOf ps cs x num den) (hab : inB a b (firstX ps) (lastX ps) = true) (h1 : a ≤ x) (h2 : x ≤ b) :
    0 < den ∧ den ≤ 1000000 ∧ (overS ps a b).1 * den ≤ num ∧ num ≤ (overS ps a b).2.1 * den := by
  have q := hab
  simp only [inB, decide_eq_true_eq] at q
  obtain ⟨g1, g2, g3⟩ := val_over ht hi h (show firstX ps ≤ a by omega) h1 h2 (show b ≤ lastX ps by omega)
  have hden : den ≤ 1000000 := by
    obtain ⟨i, p, q, y, z, hp, hq, _, _, _, _, _, rfl⟩ := h
    obtain ⟨_, o1, o2⟩ := pts_rise ht hp hq
    unfold Okp at o1 o2
    omega
  refine ⟨g1, hden, ?_⟩
  rw [overS_good ht hab]
  exact ⟨g2, g3⟩
end

section
open Go.RowKit

def besideS (ps : List P3) (v0 v1 : Int) (f : Bool) (x : Int) : Bool := if f then moreF ps v1 x else lessF ps v0 x
end

end Go.Proofs.YtemlaaipnhmcoaaGreat
