/- The contracts of Surface, of hold and of the specification. Their condition: the tank's tables lie in memory. -/
import Derived.Test.YtekkiedlajhaiaaGreatR28
import Derived.Test.YtekkiedlajhaiaaGreatR18
import Derived.Test.YtekkiedlajhaiaaGreatQ98
set_option linter.unusedVariables false
set_option linter.unusedSimpArgs false
set_option linter.constructorNameAsVariable false
namespace Go.Proofs.YtekkiedlajhaiaaGreat

section
open Go.RowKit

set_option maxRecDepth 100000 in
set_option maxHeartbeats 4000000 in
theorem hLiquid_any (t : TankD) (m : HoldM) (lv : LevelD) (w : World) (hi : TankIn w t m) :
  Calls Tryz.prog 27 #[tankV t m, levelV lv] w fun e w' => e = .returned (rt (liqS t lv)) ∧ Below w.heap.size w w' := by
 obtain ⟨E, hE⟩ : ∃ E, levelErr t lv = E := ⟨_, rfl⟩
 obtain ⟨⟨va, vb⟩, qC2⟩ : ∃ v, ovL t.vol lv = v := ⟨_, rfl⟩
 obtain ⟨⟨ka, kb⟩, qC3⟩ : ∃ v, denL lv (va, vb) = v := ⟨_, rfl⟩
 obtain ⟨R, hR⟩ : ∃ R, liqS t lv = R := ⟨_, rfl⟩
 have HR : Hid ((if E = 0 then (ka, kb, 0) else (0, 0, E)) = R) := Lib.hid (by rw [← hR]; unfold liqS; rw [hE, qC2, qC3])
 have C1 : Hid (∀ W, Below w.heap.size w W → Calls Tryz.prog 59 #[tankV t m, levelV lv] W fun e w' => e = .returned (.int .i64 E) ∧ Below W.heap.size W w') := Lib.hid fun W hW => int_to (checkLevel_any t m lv W (hi.below hW)) hE
 have C2 : Hid (∀ W, Below w.heap.size w W → Calls Tryz.prog 60 #[tv m.A m.n m.c, rv lv.s0 lv.s1] W fun e w' => e = .returned (rv va vb) ∧ Below W.heap.size W w') := Lib.hid fun W hW => by
  have := hover_any m.A m.n m.c t.vol lv.s0 lv.s1 W (hi.1.below hW)
  rw [show ((overS t.vol lv.s0 lv.s1).1 = va) from congrArg Prod.fst qC2, show ((overS t.vol lv.s0 lv.s1).2.1 = vb) from congrArg Prod.snd qC2] at this; exact this
 have C3 : Hid (∀ W, Calls Tryz.prog 53 #[rv va vb, rv lv.d0 lv.d1] W fun e w' => e = .returned (rv ka kb) ∧ Below W.heap.size W w') := Lib.hid fun W => hdense_L lv qC3 W
 rw [hR]
 clear hR hE qC2 qC3 hi
 obtain ⟨id, al, ah, vol, sur, hei⟩ := t
 obtain ⟨A, n, c, B, mm, d, C, l, ee⟩ := m
 obtain ⟨tk, pr, s0, s1, d0, d1⟩ := lv
 have HE := Lib.hid (show Below w.heap.size w (((w.alloc (.cells #[.int .i64 id, .int .i64 al, .int .i64 ah, .slice A n c, .slice B mm d, .slice C l ee] 69)).alloc (.cells #[.int .i64 tk, .bool pr, .int .i64 s0, .int .i64 s1, .int .i64 d0, .int .i64 d1] 72)).alloc (.cells #[.int .i64 0, .int .i64 0] 30)) from below_a3 (Below.refl _ _))
 have HK := Lib.hid (boxes3' w 69 72 30 #[.int .i64 id, .int .i64 al, .int .i64 ah, .slice A n c, .slice B mm d, .slice C l ee] #[.int .i64 tk, .bool pr, .int .i64 s0, .int .i64 s1, .int .i64 d0, .int .i64 d1] #[.int .i64 0, .int .i64 0])
 go_enter Tryz.func27, Tryz.ntmps27
 go_wp2_with fail
 obtain ⟨W0, hW0⟩ : ∃ W0, (((w.alloc (.cells #[.int .i64 id, .int .i64 al, .int .i64 ah, .slice A n c, .slice B mm d, .slice C l ee] 69)).alloc (.cells #[.int .i64 tk, .bool pr, .int .i64 s0, .int .i64 s1, .int .i64 d0, .int .i64 d1] 72)).alloc (.cells #[.int .i64 0, .int .i64 0] 30)) = W0 := ⟨_, rfl⟩
 rw [hW0] at HE HK ⊢
 clear hW0
 obtain ⟨G, hG⟩ : ∃ G, w.heap.size = G := ⟨_, rfl⟩
 rw [hG] at HK ⊢
 have HG := Lib.hid hG; clear hG
 refine (C1.out _ HE.out).mono ?_
 rintro e w1 ⟨rfl, hq⟩
 have HE1 := Lib.hid (below_then HE.out hq); have HK1 := Lib.hid (HK.out.on hq)
 clear hq HE HK C1
 by_cases g : E = 0
 ·have eR := HR.out
  rw [if_pos g] at eR
  subst eR
  clear HR
  subst g
  go_upto_region 4 with fail
  have HKs : Hid (Boxes w1 [(G + 1, 72, #[.int .i64 tk, .bool pr, .int .i64 s0, .int .i64 s1, .int .i64 d0, .int .i64 d1]), (G, 69, #[.int .i64 id, .int .i64 al, .int .i64 ah, .slice A n c, .slice B mm d, .slice C l ee])]) := Lib.hid (HK1.out.sub (fun x hx => by
   simp only [List.mem_cons, List.not_mem_nil, or_false] at hx ⊢
   rcases hx with h | h <;> simp [h]))
  have HK9 : Hid (Blk w1 (G + 1 + 1) 30 #[.int .i64 0, .int .i64 0]) := Lib.hid (HK1.out _ (.head _))
  clear HK1
  have hne : ∀ zz ∈ ([(G + 1, 72, #[.int .i64 tk, .bool pr, .int .i64 s0, .int .i64 s1, .int .i64 d0, .int .i64 d1]), (G, 69, #[.int .i64 id, .int .i64 al, .int .i64 ah, .slice A n c, .slice B mm d, .slice C l ee])] : List (Nat × TypeId × Array Value)), zz.1 ≠ G + 1 + 1 := by
   intro zz hz
   simp only [List.mem_cons, List.not_mem_nil, or_false] at hz
   rcases hz with h | h <;> (rw [h]; dsimp only at *; omega)
  have HNE := Lib.hid hne
  clear hne
  have hS0 : Boxes w1.drew [(G + 1, 72, #[.int .i64 tk, .bool pr, .int .i64 s0, .int .i64 s1, .int .i64 d0, .int .i64 d1]), (G, 69, #[.int .i64 id, .int .i64 al, .int .i64 ah, .slice A n c, .slice B mm d, .slice C l ee])] := HKs.out
  have HEd := Lib.hid HE1.out.drew
  have HKd : Hid (Blk w1.drew (G + 1 + 1) 30 #[.int .i64 0, .int .i64 0]) := Lib.hid HK9.out.drew
  refine wp_region_held_drew (S := fun w' => Boxes w' [(G + 1, 72, #[.int .i64 tk, .bool pr, .int .i64 s0, .int .i64 s1, .int .i64 d0, .int .i64 d1]), (G, 69, #[.int .i64 id, .int .i64 al, .int .i64 ah, .slice A n c, .slice B mm d, .slice C l ee])]) (by kernel_rfl) hS0 (fun hHeld => ?_)
  obtain ⟨W3, hW⟩ : ∃ W', w1.drew = W' := ⟨_, rfl⟩
  rw [hW] at HEd HKd hHeld ⊢
  clear hW hS0 HE1 HKs
  clear HK9
  refine tK 14 (i := 0) (v := .pointer (some ⟨G, 3, none⟩)) rfl rfl (by kernel_rfl) ?_ hHeld ?_
  ·intro w hSw; clear hSw; go_simp; try with_reducible rfl
  simp only [uZ, uS]
  refine tK 15 (i := 1) (v := tv A n c) rfl rfl (by kernel_rfl) ?_ hHeld ?_
  ·intro w hSw; have hz := (hSw _ (.tail _ (.head _))); have c3 := hz.cell 3; simp at c3; clear hz hSw; go_simp; try with_reducible rfl
  simp only [uZ, uS]
  refine tK 16 (i := 2) (v := .pointer (some ⟨G + 1, 2, none⟩)) rfl rfl (by kernel_rfl) ?_ hHeld ?_
  ·intro w hSw; clear hSw; go_simp; try with_reducible rfl
  simp only [uZ, uS]
  refine tK 17 (i := 3) (v := rv s0 s1) rfl rfl (by kernel_rfl) ?_ hHeld ?_
  ·intro w hSw; have hz := (hSw _ (.head _)); have c2 := hz.cell 2; have c3 := hz.cell 3; simp at c2 c3; clear hz hSw; go_simp; try with_reducible rfl
  simp only [uZ, uS]
  refine tK 19 (i := 5) (v := .pointer (some ⟨G + 1, 4, none⟩)) rfl rfl (by kernel_rfl) ?_ hHeld ?_
  ·intro w hSw; clear hSw; go_simp; try with_reducible rfl
  simp only [uZ, uS]
  refine tK 20 (i := 6) (v := rv d0 d1) rfl rfl (by kernel_rfl) ?_ hHeld ?_
  ·intro w hSw; have hz := (hSw _ (.head _)); have c4 := hz.cell 4; have c5 := hz.cell 5; simp at c4 c5; clear hz hSw; go_simp; try with_reducible rfl
  simp only [uZ, uS]
  refine wpAnyH_ready (rs := [4]) (by kernel_rfl) (by simp) ?_
  refine AllReadyH.cons rfl (fun K hK => ?_) AllReadyH.nil
  go_simp
  (with_reducible refine (C2.out _ HEd.out).mono ?_)
  rintro e z1 ⟨rfl, hq⟩
  have HEz1 := Lib.hid (below_then HEd.out hq); have HKz1 := Lib.hid (blkOn HKd.out hq)
  have hS := hHeld.on hq
  clear hq
  refine hK.out _ _ (hS) (fun hHeld2 => ?_)
  try simp only [Act.put, uA, uZ, uS]
  clear hK K hHeld
  have hHeld := hHeld2
  clear hHeld2
  clear hS HEd HKd
  refine wpAnyH_ready (rs := [7]) (by kernel_rfl) (by simp) ?_
  refine AllReadyH.cons rfl (fun K hK => ?_) AllReadyH.nil
  go_simp
  (with_reducible refine (C3.out _).mono ?_)
  rintro e z2 ⟨rfl, hq⟩
  have HEz2 := Lib.hid (below_then HEz1.out hq); have HKz2 := Lib.hid (blkOn HKz1.out hq)
  have hS := hHeld.on hq
  clear hq
  refine hK.out _ _ (hS) (fun hHeld2 => ?_)
  try simp only [Act.put, uA, uZ, uS]
  clear hK K hHeld
  have hHeld := hHeld2
  clear hHeld2
  clear hS HEz1 HKz1
  refine wpAnyH_ready (rs := [8]) (by kernel_rfl) (by simp) ?_
  refine AllReadyH.cons rfl (fun K hK => ?_) AllReadyH.nil
  rw [if_pos (by kernel_rfl)]
  have HKR : Hid (Blk (z2.setRow (G + 1 + 1) #[.int .i64 ka, .int .i64 kb]) (G + 1 + 1) 30 #[.int .i64 ka, .int .i64 kb]) := Lib.hid (setRow_heap z2 (G + 1 + 1) _ _ 30 _ HKz2.out)
  have HE9 := Lib.hid (below_setRow HEz2.out (show w.heap.size ≤ G + 1 + 1 by have := HG.out; omega) #[.int .i64 ka, .int .i64 kb])
  have hS := hHeld.farRow (g := (G + 1 + 1)) HNE.out #[.int .i64 ka, .int .i64 kb]
  refine wp_store_row 30 (.tmp 4) (.tmp 21) rfl (G + 1 + 1) #[.int .i64 ka, .int .i64 kb] rfl rfl 30 _ HKz2.out (by kernel_rfl) rfl (by kernel_rfl) ?_
  obtain ⟨Wz, hW⟩ : ∃ W', z2.setRow (G + 1 + 1) #[.int .i64 ka, .int .i64 kb] = W' := ⟨_, rfl⟩
  rw [hW] at HKR HE9 hS ⊢
  refine hK.out _ _ hS (fun hHeld2 => ?_)
  try simp only [Act.put, uA, uZ, uS]
  clear hW hS hK K hHeld HKz2 HEz2
  have hHeld := hHeld2
  clear hHeld2
  refine tK 5 (i := 9) (v := .int .i64 0) rfl rfl (by kernel_rfl) ?_ hHeld ?_
  ·intro w hSw; clear hSw; go_simp; try with_reducible rfl
  simp only [uZ, uS]
  refine wpAnyH_done (by kernel_rfl) ?_ _
  clear hHeld
  go_wp2
  exact bodyPost_ret (v := .tuple #[.agg #[.int .i64 ka, .int .i64 kb], .int .i64 0]) (results_cell_tmp_row Tryz.results27 _ _ (G + 1 + 1) 30 #[.int .i64 ka, .int .i64 kb] (0, 0) _ _ rfl rfl HKR.out Tryz.underlying30 rfl (by kernel_rfl)) rfl ⟨rfl, HE9.out⟩
 ·have eR := HR.out
  rw [if_neg g] at eR
  subst eR
  clear HR
  go_upto_region 3 with fail
  refine wp_region_lit ?_
  refine wpList_plain rfl (fun K hK => ?_)
  go_simp
  refine hK _ _ ?_
  clear hK K
  refine wpList_plain rfl (fun K hK => ?_)
  go_simp
  refine hK _ _ ?_
  clear hK K
  have HKR : Hid (Blk (w1.setRow (G + 1 + 1) #[.int .i64 0, .int .i64 0]) (G + 1 + 1) 30 #[.int .i64 0, .int .i64 0]) := Lib.hid (setRow_heap w1 (G + 1 + 1) _ _ 30 _ (HK1.out _ (.head _)))
  have HE9 := Lib.hid (below_setRow HE1.out (show w.heap.size ≤ G + 1 + 1 by have := HG.out; omega) #[.int .i64 0, .int .i64 0])
  refine wpList_store_row rfl 30 (.tmp 4) (.tmp 12) rfl (G + 1 + 1) #[.int .i64 0, .int .i64 0] rfl rfl 30 _ (HK1.out _ (.head _)) (by kernel_rfl) rfl (by kernel_rfl) ?_
  obtain ⟨W9, hW9⟩ : ∃ W9, w1.setRow (G + 1 + 1) #[.int .i64 0, .int .i64 0] = W9 := ⟨_, rfl⟩
  rw [hW9] at HKR HE9 ⊢
  clear hW9
  go_wp2
  exact bodyPost_ret (v := .tuple #[.agg #[.int .i64 0, .int .i64 0], .int .i64 E]) (results_cell_tmp_row Tryz.results27 _ _ (G + 1 + 1) 30 #[.int .i64 0, .int .i64 0] (0, 0) _ _ rfl rfl HKR.out Tryz.underlying30 rfl (by kernel_rfl)) rfl ⟨rfl, HE9.out⟩

set_option maxRecDepth 100000 in
set_option maxHeartbeats 4000000 in
theorem hBallast_any (t : TankD) (m : HoldM) (lv : LevelD) (w : World) (hi : TankIn w t m) :
  Calls Tryz.prog 29 #[tankV t m, levelV lv] w fun e w' => e = .returned (balV t lv) ∧ Below w.heap.size w w' := by
 obtain ⟨E, hE⟩ : ∃ E, levelErr t lv = E := ⟨_, rfl⟩
 obtain ⟨⟨va, vb⟩, qv⟩ : ∃ v, ovL t.vol lv = v := ⟨_, rfl⟩
 obtain ⟨⟨ka, kb⟩, qk⟩ : ∃ v, denL lv (va, vb) = v := ⟨_, rfl⟩
 obtain ⟨⟨ha, hb⟩, qC2⟩ : ∃ v, ovL t.hei lv = v := ⟨_, rfl⟩
 obtain ⟨R, hR⟩ : ∃ R, balV t lv = R := ⟨_, rfl⟩
 have HR : Hid ((if E = 0 then wt ka kb t.al t.ah ha hb 0 else wt 0 0 0 0 0 0 E) = R) := Lib.hid (by rw [← hR]; unfold balV; rw [hE, qv, qk, qC2])
 obtain ⟨qa, qb, qe, hq⟩ : ∃ qa qb qe, liqS t lv = (qa, qb, qe) := ⟨_, _, _, rfl⟩
 have HQ : Hid ((if E = 0 then (ka, kb, 0) else (0, 0, E)) = (qa, qb, qe)) := Lib.hid (by rw [← hq]; unfold liqS; rw [hE, qv, qk])
 have C1 : Hid (∀ W, Below w.heap.size w W → Calls Tryz.prog 27 #[tankV t m, levelV lv] W fun e w' => e = .returned (.tuple #[rv qa qb, .int .i64 qe]) ∧ Below W.heap.size W w') := Lib.hid fun W hW => rt_to (hLiquid_any t m lv W (hi.below hW)) hq
 have C2 : Hid (∀ W, Below w.heap.size w W → Calls Tryz.prog 60 #[tv m.C m.l m.e, rv lv.s0 lv.s1] W fun e w' => e = .returned (rv ha hb) ∧ Below W.heap.size W w') := Lib.hid fun W hW => by
  have := hover_any m.C m.l m.e t.hei lv.s0 lv.s1 W (hi.2.2.below hW)
  rw [show ((overS t.hei lv.s0 lv.s1).1 = ha) from congrArg Prod.fst qC2, show ((overS t.hei lv.s0 lv.s1).2.1 = hb) from congrArg Prod.snd qC2] at this; exact this
 rw [hR]
 clear hR hE qv qk qC2 hq hi
 obtain ⟨id, al, ah, vol, sur, hei⟩ := t
 obtain ⟨A, n, c, B, mm, d, C, l, ee⟩ := m
 obtain ⟨tk, pr, s0, s1, d0, d1⟩ := lv
 have HE := Lib.hid (show Below w.heap.size w (((w.alloc (.cells #[.int .i64 id, .int .i64 al, .int .i64 ah, .slice A n c, .slice B mm d, .slice C l ee] 69)).alloc (.cells #[.int .i64 tk, .bool pr, .int .i64 s0, .int .i64 s1, .int .i64 d0, .int .i64 d1] 72)).alloc (.cells #[.int .i64 0, .int .i64 0, .int .i64 0, .int .i64 0, .int .i64 0, .int .i64 0] 63)) from below_a3 (Below.refl _ _))
 have HK := Lib.hid (boxes3' w 69 72 63 #[.int .i64 id, .int .i64 al, .int .i64 ah, .slice A n c, .slice B mm d, .slice C l ee] #[.int .i64 tk, .bool pr, .int .i64 s0, .int .i64 s1, .int .i64 d0, .int .i64 d1] #[.int .i64 0, .int .i64 0, .int .i64 0, .int .i64 0, .int .i64 0, .int .i64 0])
 go_enter Tryz.func29, Tryz.ntmps29
 go_wp2_with fail
 obtain ⟨W0, hW0⟩ : ∃ W0, (((w.alloc (.cells #[.int .i64 id, .int .i64 al, .int .i64 ah, .slice A n c, .slice B mm d, .slice C l ee] 69)).alloc (.cells #[.int .i64 tk, .bool pr, .int .i64 s0, .int .i64 s1, .int .i64 d0, .int .i64 d1] 72)).alloc (.cells #[.int .i64 0, .int .i64 0, .int .i64 0, .int .i64 0, .int .i64 0, .int .i64 0] 63)) = W0 := ⟨_, rfl⟩
 rw [hW0] at HE HK ⊢
 clear hW0
 obtain ⟨G, hG⟩ : ∃ G, w.heap.size = G := ⟨_, rfl⟩
 rw [hG] at HK ⊢
 have HG := Lib.hid hG; clear hG
 refine (C1.out _ HE.out).mono ?_
 rintro e w1 ⟨rfl, hq⟩
 have HE1 := Lib.hid (below_then (below_then HE.out hq) (below_alloc1 w1 (.cells #[.int .i64 qa, .int .i64 qb] 30))); have HK1 := Lib.hid ((HK.out.on hq).new 30 #[.int .i64 qa, .int .i64 qb])
 have HDM := Lib.hid (boxes_lt (HK.out.on hq))
 clear hq HE HK C1
 go_upto_region 2 with fail
 obtain ⟨W2, hW⟩ : ∃ W2, w1.alloc (.cells #[.int .i64 qa, .int .i64 qb] 30) = W2 := ⟨_, rfl⟩
 rw [hW] at HE1 HK1 ⊢
 clear hW
 obtain ⟨N, hN⟩ : ∃ N, w1.heap.size = N := ⟨_, rfl⟩
 rw [hN] at HK1 HDM ⊢
 clear hN
 by_cases g : E = 0
 ·have eR := HR.out
  rw [if_pos g] at eR
  have eQ := HQ.out
  rw [if_pos g] at eQ
  injection eQ with q1 q2
  injection q2 with q2 q3
  subst eR q1 q2 q3
  clear HR HQ g
  go_upto_region 4 with fail
  have HKs : Hid (Boxes W2 [(N, 30, #[.int .i64 ka, .int .i64 kb]), (G + 1, 72, #[.int .i64 tk, .bool pr, .int .i64 s0, .int .i64 s1, .int .i64 d0, .int .i64 d1]), (G, 69, #[.int .i64 id, .int .i64 al, .int .i64 ah, .slice A n c, .slice B mm d, .slice C l ee])]) := Lib.hid (HK1.out.sub (fun x hx => by
   simp only [List.mem_cons, List.not_mem_nil, or_false] at hx ⊢
   rcases hx with h | h | h <;> simp [h]))
  have HK9 : Hid (Blk W2 (G + 1 + 1) 63 #[.int .i64 0, .int .i64 0, .int .i64 0, .int .i64 0, .int .i64 0, .int .i64 0]) := Lib.hid (HK1.out _ (.tail _ (.head _)))
  clear HK1
  have hne : ∀ zz ∈ ([(N, 30, #[.int .i64 ka, .int .i64 kb]), (G + 1, 72, #[.int .i64 tk, .bool pr, .int .i64 s0, .int .i64 s1, .int .i64 d0, .int .i64 d1]), (G, 69, #[.int .i64 id, .int .i64 al, .int .i64 ah, .slice A n c, .slice B mm d, .slice C l ee])] : List (Nat × TypeId × Array Value)), zz.1 ≠ G + 1 + 1 := by
   have a1 := HDM.out _ (.head _)
   intro zz hz
   simp only [List.mem_cons, List.not_mem_nil, or_false] at hz
   rcases hz with h | h | h <;> (rw [h]; dsimp only at *; omega)
  have HNE := Lib.hid hne
  clear hne
  have hS0 : Boxes W2.drew [(N, 30, #[.int .i64 ka, .int .i64 kb]), (G + 1, 72, #[.int .i64 tk, .bool pr, .int .i64 s0, .int .i64 s1, .int .i64 d0, .int .i64 d1]), (G, 69, #[.int .i64 id, .int .i64 al, .int .i64 ah, .slice A n c, .slice B mm d, .slice C l ee])] := HKs.out
  have HEd := Lib.hid HE1.out.drew
  have HKd : Hid (Blk W2.drew (G + 1 + 1) 63 #[.int .i64 0, .int .i64 0, .int .i64 0, .int .i64 0, .int .i64 0, .int .i64 0]) := Lib.hid HK9.out.drew
  refine wp_region_held_drew (S := fun w' => Boxes w' [(N, 30, #[.int .i64 ka, .int .i64 kb]), (G + 1, 72, #[.int .i64 tk, .bool pr, .int .i64 s0, .int .i64 s1, .int .i64 d0, .int .i64 d1]), (G, 69, #[.int .i64 id, .int .i64 al, .int .i64 ah, .slice A n c, .slice B mm d, .slice C l ee])]) (by kernel_rfl) hS0 (fun hHeld => ?_)
  obtain ⟨W3, hW⟩ : ∃ W', W2.drew = W' := ⟨_, rfl⟩
  rw [hW] at HEd HKd hHeld ⊢
  clear hW hS0 HE1 HKs
  clear HK9
  refine tK 18 (i := 0) (v := rv ka kb) rfl rfl (by kernel_rfl) ?_ hHeld ?_
  ·intro w hSw; have hz := (hSw _ (.head _)); have c0 := hz.cell 0; have c1 := hz.cell 1; simp at c0 c1; clear hz hSw; go_simp; try with_reducible rfl
  simp only [uZ, uS]
  refine tK 19 (i := 1) (v := .pointer (some ⟨G, 1, none⟩)) rfl rfl (by kernel_rfl) ?_ hHeld ?_
  ·intro w hSw; clear hSw; go_simp; try with_reducible rfl
  simp only [uZ, uS]
  refine tK 20 (i := 2) (v := rv al ah) rfl rfl (by kernel_rfl) ?_ hHeld ?_
  ·intro w hSw; have hz := (hSw _ (.tail _ (.tail _ (.head _)))); have c1 := hz.cell 1; have c2 := hz.cell 2; simp at c1 c2; clear hz hSw; go_simp; try with_reducible rfl
  simp only [uZ, uS]
  refine tK 21 (i := 3) (v := .pointer (some ⟨G, 5, none⟩)) rfl rfl (by kernel_rfl) ?_ hHeld ?_
  ·intro w hSw; clear hSw; go_simp; try with_reducible rfl
  simp only [uZ, uS]
  refine tK 22 (i := 4) (v := tv C l ee) rfl rfl (by kernel_rfl) ?_ hHeld ?_
  ·intro w hSw; have hz := (hSw _ (.tail _ (.tail _ (.head _)))); have c5 := hz.cell 5; simp at c5; clear hz hSw; go_simp; try with_reducible rfl
  simp only [uZ, uS]
  refine tK 23 (i := 5) (v := .pointer (some ⟨G + 1, 2, none⟩)) rfl rfl (by kernel_rfl) ?_ hHeld ?_
  ·intro w hSw; clear hSw; go_simp; try with_reducible rfl
  simp only [uZ, uS]
  refine tK 24 (i := 6) (v := rv s0 s1) rfl rfl (by kernel_rfl) ?_ hHeld ?_
  ·intro w hSw; have hz := (hSw _ (.tail _ (.head _))); have c2 := hz.cell 2; have c3 := hz.cell 3; simp at c2 c3; clear hz hSw; go_simp; try with_reducible rfl
  simp only [uZ, uS]
  refine wpAnyH_ready (rs := [7]) (by kernel_rfl) (by simp) ?_
  refine AllReadyH.cons rfl (fun K hK => ?_) AllReadyH.nil
  go_simp
  (with_reducible refine (C2.out _ HEd.out).mono ?_)
  rintro e z1 ⟨rfl, hq⟩
  have HEz1 := Lib.hid (below_then HEd.out hq); have HKz1 := Lib.hid (blkOn HKd.out hq)
  have hS := hHeld.on hq
  clear hq
  refine hK.out _ _ (hS) (fun hHeld2 => ?_)
  try simp only [Act.put, uA, uZ, uS]
  clear hK K hHeld
  have hHeld := hHeld2
  clear hHeld2
  clear hS HEd HKd
  refine tK 26 (i := 8) (v := .agg #[.int .i64 ka, .int .i64 kb, .int .i64 al, .int .i64 ah, .int .i64 ha, .int .i64 hb]) rfl rfl (by kernel_rfl) ?_ hHeld ?_
  ·intro w hSw; clear hSw; go_simp; try with_reducible rfl
  simp only [uZ, uS]
  refine wpAnyH_ready (rs := [9]) (by kernel_rfl) (by simp) ?_
  refine AllReadyH.cons rfl (fun K hK => ?_) AllReadyH.nil
  rw [if_pos (by kernel_rfl)]
  have HKR : Hid (Blk (z1.setRow (G + 1 + 1) #[.int .i64 ka, .int .i64 kb, .int .i64 al, .int .i64 ah, .int .i64 ha, .int .i64 hb]) (G + 1 + 1) 63 #[.int .i64 ka, .int .i64 kb, .int .i64 al, .int .i64 ah, .int .i64 ha, .int .i64 hb]) := Lib.hid (setRow_heap z1 (G + 1 + 1) _ _ 63 _ HKz1.out)
  have HE9 := Lib.hid (below_setRow HEz1.out (show w.heap.size ≤ G + 1 + 1 by have := HG.out; omega) #[.int .i64 ka, .int .i64 kb, .int .i64 al, .int .i64 ah, .int .i64 ha, .int .i64 hb])
  have hS := hHeld.farRow (g := (G + 1 + 1)) HNE.out #[.int .i64 ka, .int .i64 kb, .int .i64 al, .int .i64 ah, .int .i64 ha, .int .i64 hb]
  refine wp_store_row 63 (.tmp 4) (.tmp 26) rfl (G + 1 + 1) #[.int .i64 ka, .int .i64 kb, .int .i64 al, .int .i64 ah, .int .i64 ha, .int .i64 hb] rfl rfl 63 _ HKz1.out (by kernel_rfl) rfl (by kernel_rfl) ?_
  obtain ⟨Wz, hW⟩ : ∃ W', z1.setRow (G + 1 + 1) #[.int .i64 ka, .int .i64 kb, .int .i64 al, .int .i64 ah, .int .i64 ha, .int .i64 hb] = W' := ⟨_, rfl⟩
  rw [hW] at HKR HE9 hS ⊢
  refine hK.out _ _ hS (fun hHeld2 => ?_)
  try simp only [Act.put, uA, uZ, uS]
  clear hW hS hK K hHeld HKz1 HEz1
  have hHeld := hHeld2
  clear hHeld2
  refine tK 5 (i := 10) (v := .int .i64 0) rfl rfl (by kernel_rfl) ?_ hHeld ?_
  ·intro w hSw; clear hSw; go_simp; try with_reducible rfl
  simp only [uZ, uS]
  refine wpAnyH_done (by kernel_rfl) ?_ _
  clear hHeld
  go_wp2
  exact bodyPost_ret (v := .tuple #[.agg #[.int .i64 ka, .int .i64 kb, .int .i64 al, .int .i64 ah, .int .i64 ha, .int .i64 hb], .int .i64 0]) (results_cell_tmp_row Tryz.results29 _ _ (G + 1 + 1) 63 #[.int .i64 ka, .int .i64 kb, .int .i64 al, .int .i64 ah, .int .i64 ha, .int .i64 hb] (0, 0) _ _ rfl rfl HKR.out Tryz.underlying63 rfl (by kernel_rfl)) rfl ⟨rfl, HE9.out⟩
 ·have eR := HR.out
  rw [if_neg g] at eR
  have eQ := HQ.out
  rw [if_neg g] at eQ
  injection eQ with q1 q2
  injection q2 with q2 q3
  subst eR q1 q2 q3
  clear HR HQ
  go_upto_region 3 with fail
  refine wp_region_lit ?_
  refine wpList_plain rfl (fun K hK => ?_)
  go_simp
  refine hK _ _ ?_
  clear hK K
  refine wpList_plain rfl (fun K hK => ?_)
  go_simp
  refine hK _ _ ?_
  clear hK K
  have HKR : Hid (Blk (W2.setRow (G + 1 + 1) #[.int .i64 0, .int .i64 0, .int .i64 0, .int .i64 0, .int .i64 0, .int .i64 0]) (G + 1 + 1) 63 #[.int .i64 0, .int .i64 0, .int .i64 0, .int .i64 0, .int .i64 0, .int .i64 0]) := Lib.hid (setRow_heap W2 (G + 1 + 1) _ _ 63 _ (HK1.out _ (.tail _ (.head _))))
  have HE9 := Lib.hid (below_setRow HE1.out (show w.heap.size ≤ G + 1 + 1 by have := HG.out; omega) #[.int .i64 0, .int .i64 0, .int .i64 0, .int .i64 0, .int .i64 0, .int .i64 0])
  refine wpList_store_row rfl 63 (.tmp 4) (.tmp 16) rfl (G + 1 + 1) #[.int .i64 0, .int .i64 0, .int .i64 0, .int .i64 0, .int .i64 0, .int .i64 0] rfl rfl 63 _ (HK1.out _ (.tail _ (.head _))) (by kernel_rfl) rfl (by kernel_rfl) ?_
  obtain ⟨W9, hW9⟩ : ∃ W9, W2.setRow (G + 1 + 1) #[.int .i64 0, .int .i64 0, .int .i64 0, .int .i64 0, .int .i64 0, .int .i64 0] = W9 := ⟨_, rfl⟩
  rw [hW9] at HKR HE9 ⊢
  clear hW9
  go_wp2
  exact bodyPost_ret (v := .tuple #[.agg #[.int .i64 0, .int .i64 0, .int .i64 0, .int .i64 0, .int .i64 0, .int .i64 0], .int .i64 E]) (results_cell_tmp_row Tryz.results29 _ _ (G + 1 + 1) 63 #[.int .i64 0, .int .i64 0, .int .i64 0, .int .i64 0, .int .i64 0, .int .i64 0] (0, 0) _ _ rfl rfl HKR.out Tryz.underlying63 rfl (by kernel_rfl)) rfl ⟨rfl, HE9.out⟩
end

section
open Go.RowKit

set_option maxRecDepth 100000 in
set_option maxHeartbeats 4000000 in
theorem hSurface_any (t : TankD) (m : HoldM) (lv : LevelD) (w : World) (hi : TankIn w t m) :
  Calls Tryz.prog 28 #[tankV t m, levelV lv] w fun e w' => e = .returned (rt (srfS t lv)) ∧ Below w.heap.size w w' := by
 obtain ⟨E, hE⟩ : ∃ E, levelErr t lv = E := ⟨_, rfl⟩
 obtain ⟨⟨va, vb⟩, qC2⟩ : ∃ v, ovL t.vol lv = v := ⟨_, rfl⟩
 obtain ⟨⟨sa, sb⟩, qC4⟩ : ∃ v, ovL t.sur lv = v := ⟨_, rfl⟩
 obtain ⟨⟨ka, kb⟩, qC5⟩ : ∃ v, denL lv (sa, sb) = v := ⟨_, rfl⟩
 obtain ⟨R, hR⟩ : ∃ R, srfS t lv = R := ⟨_, rfl⟩
 have HR : Hid ((if E = 0 then (if lv.pr = true ∨ vb = 0 then (0, 0, 0) else (if va = 0 then 0 else ka, kb, 0)) else (0, 0, E)) = R) := Lib.hid (by rw [← hR]; unfold srfS; rw [hE, qC2, qC4, qC5])
 have C1 : Hid (∀ W, Below w.heap.size w W → Calls Tryz.prog 59 #[tankV t m, levelV lv] W fun e w' => e = .returned (.int .i64 E) ∧ Below W.heap.size W w') := Lib.hid fun W hW => int_to (checkLevel_any t m lv W (hi.below hW)) hE
 have C2 : Hid (∀ W, Below w.heap.size w W → Calls Tryz.prog 60 #[tv m.A m.n m.c, rv lv.s0 lv.s1] W fun e w' => e = .returned (rv va vb) ∧ Below W.heap.size W w') := Lib.hid fun W hW => by
  have := hover_any m.A m.n m.c t.vol lv.s0 lv.s1 W (hi.1.below hW)
  rw [show ((overS t.vol lv.s0 lv.s1).1 = va) from congrArg Prod.fst qC2, show ((overS t.vol lv.s0 lv.s1).2.1 = vb) from congrArg Prod.snd qC2] at this; exact this
 have C4 : Hid (∀ W, Below w.heap.size w W → Calls Tryz.prog 60 #[tv m.B m.m m.d, rv lv.s0 lv.s1] W fun e w' => e = .returned (rv sa sb) ∧ Below W.heap.size W w') := Lib.hid fun W hW => by
  have := hover_any m.B m.m m.d t.sur lv.s0 lv.s1 W (hi.2.1.below hW)
  rw [show ((overS t.sur lv.s0 lv.s1).1 = sa) from congrArg Prod.fst qC4, show ((overS t.sur lv.s0 lv.s1).2.1 = sb) from congrArg Prod.snd qC4] at this; exact this
 have C5 : Hid (∀ W, Calls Tryz.prog 53 #[rv sa sb, rv lv.d0 lv.d1] W fun e w' => e = .returned (rv ka kb) ∧ Below W.heap.size W w') := Lib.hid fun W => hdense_L lv qC5 W
 rw [hR]
 clear hR hE qC2 qC4 qC5 hi
 obtain ⟨id, al, ah, vol, sur, hei⟩ := t
 obtain ⟨A, n, c, B, mm, d, C, l, ee⟩ := m
 obtain ⟨tk, pr, s0, s1, d0, d1⟩ := lv
 dsimp only at HR
 have HE := Lib.hid (show Below w.heap.size w (((w.alloc (.cells #[.int .i64 id, .int .i64 al, .int .i64 ah, .slice A n c, .slice B mm d, .slice C l ee] 69)).alloc (.cells #[.int .i64 tk, .bool pr, .int .i64 s0, .int .i64 s1, .int .i64 d0, .int .i64 d1] 72)).alloc (.cells #[.int .i64 0, .int .i64 0] 30)) from below_a3 (Below.refl _ _))
 have HK := Lib.hid (boxes3' w 69 72 30 #[.int .i64 id, .int .i64 al, .int .i64 ah, .slice A n c, .slice B mm d, .slice C l ee] #[.int .i64 tk, .bool pr, .int .i64 s0, .int .i64 s1, .int .i64 d0, .int .i64 d1] #[.int .i64 0, .int .i64 0])
 go_enter Tryz.func28, Tryz.ntmps28
 go_wp2_with fail
 obtain ⟨W0, hW0⟩ : ∃ W0, (((w.alloc (.cells #[.int .i64 id, .int .i64 al, .int .i64 ah, .slice A n c, .slice B mm d, .slice C l ee] 69)).alloc (.cells #[.int .i64 tk, .bool pr, .int .i64 s0, .int .i64 s1, .int .i64 d0, .int .i64 d1] 72)).alloc (.cells #[.int .i64 0, .int .i64 0] 30)) = W0 := ⟨_, rfl⟩
 rw [hW0] at HE HK ⊢
 clear hW0
 obtain ⟨G, hG⟩ : ∃ G, w.heap.size = G := ⟨_, rfl⟩
 rw [hG] at HK ⊢
 have HG := Lib.hid hG; clear hG
 refine (C1.out _ HE.out).mono ?_
 rintro e w1 ⟨rfl, hq⟩
 have HE1 := Lib.hid (below_then HE.out hq); have HK1 := Lib.hid (HK.out.on hq)
 clear hq HE HK C1
 by_cases g : E = 0
 rotate_left
 ·have eR := HR.out
  rw [if_neg g] at eR
  subst eR
  clear HR
  go_upto_region 3 with fail
  refine wp_region_lit ?_
  refine wpList_plain rfl (fun K hK => ?_)
  go_simp
  refine hK _ _ ?_
  clear hK K
  refine wpList_plain rfl (fun K hK => ?_)
  go_simp
  refine hK _ _ ?_
  clear hK K
  have HKR : Hid (Blk (w1.setRow (G + 1 + 1) #[.int .i64 0, .int .i64 0]) (G + 1 + 1) 30 #[.int .i64 0, .int .i64 0]) := Lib.hid (setRow_heap w1 (G + 1 + 1) _ _ 30 _ (HK1.out _ (.head _)))
  have HE9 := Lib.hid (below_setRow HE1.out (show w.heap.size ≤ G + 1 + 1 by have := HG.out; omega) #[.int .i64 0, .int .i64 0])
  refine wpList_store_row rfl 30 (.tmp 4) (.tmp 14) rfl (G + 1 + 1) #[.int .i64 0, .int .i64 0] rfl rfl 30 _ (HK1.out _ (.head _)) (by kernel_rfl) rfl (by kernel_rfl) ?_
  obtain ⟨W9, hW9⟩ : ∃ W9, w1.setRow (G + 1 + 1) #[.int .i64 0, .int .i64 0] = W9 := ⟨_, rfl⟩
  rw [hW9] at HKR HE9 ⊢
  clear hW9
  go_wp2
  exact bodyPost_ret (v := .tuple #[.agg #[.int .i64 0, .int .i64 0], .int .i64 E]) (results_cell_tmp_row Tryz.results28 _ _ (G + 1 + 1) 30 #[.int .i64 0, .int .i64 0] (0, 0) _ _ rfl rfl HKR.out Tryz.underlying30 rfl (by kernel_rfl)) rfl ⟨rfl, HE9.out⟩
 have hR := HR.out
 rw [if_pos g] at hR
 have HR2 := Lib.hid hR
 clear hR HR
 subst g
 have r := HK1.out _ (.tail _ (.tail _ (.head _)))
 have r3 := r.cell 3
 simp at r3
 clear r
 have f := HK1.out _ (.tail _ (.head _))
 have f2 := f.cell 2
 have f3 := f.cell 3
 simp at f2 f3
 clear f
 go_wp2_with fail
 refine (C2.out _ HE1.out).mono ?_
 rintro e y1 ⟨rfl, hq⟩
 have HE2 := Lib.hid (below_then (below_then HE1.out hq) (below_alloc1 y1 (.cells #[.int .i64 va, .int .i64 vb] 30))); have HK2 := Lib.hid ((HK1.out.on hq).new 30 #[.int .i64 va, .int .i64 vb])
 have HD2 := Lib.hid (boxes_lt (HK1.out.on hq))
 clear hq HE1 HK1 C2 r3 f2 f3
 go_upto_region 5 with fail
 obtain ⟨W2, hW⟩ : ∃ W', y1.alloc (.cells #[.int .i64 va, .int .i64 vb] 30) = W' := ⟨_, rfl⟩
 rw [hW] at HE2 HK2 ⊢
 clear hW
 obtain ⟨N2, hN⟩ : ∃ N, y1.heap.size = N := ⟨_, rfl⟩
 rw [hN] at HK2 HD2 ⊢
 clear hN
 have f := HK2.out _ (.tail _ (.tail _ (.head _)))
 have f1 := f.cell 1
 simp at f1
 clear f
 cases pr
 rotate_left
 ·skip
  have eR : R = (0, 0, 0) := by rw [← HR2.out, if_pos (.inl rfl)]
  subst eR
  clear HR2
  have z := HK2.out _ (.tail _ (.head _))
  have z0 := z.cell 0
  have zf0 := z.frozen 0
  have z1 := z.cell 1
  have zf1 := z.frozen 1
  have zl := z.lt
  simp at z0 zf0 z1 zf1
  clear z
  go_wp2
  refine bodyPost_ret (v := rt (0, 0, 0)) (by simp [results, Tryz.results28, go_sem, z0, z1]) rfl ⟨rfl, ?_⟩
  have hg := HG.out
  repeat (first | exact HE2.out | refine Below.setCell ?_ (by simp <;> omega) _)
 have a := HK2.out _ (.head _)
 have a1 := a.cell 1
 simp at a1
 clear a
 by_cases hv : vb = 0
 ·have eR : R = (0, 0, 0) := by rw [← HR2.out, if_pos (.inr hv)]
  subst eR hv
  clear HR2
  have z := HK2.out _ (.tail _ (.head _))
  have z0 := z.cell 0
  have zf0 := z.frozen 0
  have z1 := z.cell 1
  have zf1 := z.frozen 1
  have zl := z.lt
  simp at z0 zf0 z1 zf1
  clear z
  go_wp2
  refine bodyPost_ret (v := rt (0, 0, 0)) (by simp [results, Tryz.results28, go_sem, z0, z1]) rfl ⟨rfl, ?_⟩
  have hg := HG.out
  repeat (first | exact HE2.out | refine Below.setCell ?_ (by simp <;> omega) _)
 have eR := HR2.out
 rw [if_neg (show ¬ (false = true ∨ vb = 0) from fun q => q.elim (fun q => absurd q (by decide)) hv)] at eR
 have HR3 := Lib.hid eR
 clear HR2 eR
 have b0 : (vb == 0) = false := beq_eq_false_iff_ne.2 hv
 go_upto_region 7 with fail
 clear b0 hv f1 a1
 go_cut [8] (fun s8 wx => ∃ N1, s8 = .pointer (some ⟨N1, 0, none⟩) ∧ Boxes wx ((N1, 30, #[.int .i64 ka, .int .i64 kb]) :: ((N2, 30, #[.int .i64 va, .int .i64 vb]) :: [(G + 1 + 1, 30, #[.int .i64 0, .int .i64 0]), (G + 1, 72, #[.int .i64 tk, .bool false, .int .i64 s0, .int .i64 s1, .int .i64 d0, .int .i64 d1]), (G, 69, #[.int .i64 id, .int .i64 al, .int .i64 ah, .slice A n c, .slice B mm d, .slice C l ee])] : List (Nat × TypeId × Array Value))) ∧ Below w.heap.size w wx ∧ w.heap.size ≤ N1 ∧ N2 ≠ N1 ∧ G + 1 + 1 ≠ N1)
 case first =>
  have hS0 : Boxes W2.drew ((N2, 30, #[.int .i64 va, .int .i64 vb]) :: [(G + 1 + 1, 30, #[.int .i64 0, .int .i64 0]), (G + 1, 72, #[.int .i64 tk, .bool false, .int .i64 s0, .int .i64 s1, .int .i64 d0, .int .i64 d1]), (G, 69, #[.int .i64 id, .int .i64 al, .int .i64 ah, .slice A n c, .slice B mm d, .slice C l ee])] : List (Nat × TypeId × Array Value)) := HK2.out
  have HEd := Lib.hid HE2.out.drew
  have HKd := Lib.hid hS0
  refine wp_region_held_drew (S := fun w' => Boxes w' ((N2, 30, #[.int .i64 va, .int .i64 vb]) :: [(G + 1 + 1, 30, #[.int .i64 0, .int .i64 0]), (G + 1, 72, #[.int .i64 tk, .bool false, .int .i64 s0, .int .i64 s1, .int .i64 d0, .int .i64 d1]), (G, 69, #[.int .i64 id, .int .i64 al, .int .i64 ah, .slice A n c, .slice B mm d, .slice C l ee])] : List (Nat × TypeId × Array Value))) (by kernel_rfl) hS0 (fun hHeld => ?_)
  obtain ⟨W4, hW⟩ : ∃ W', W2.drew = W' := ⟨_, rfl⟩
  rw [hW] at HEd HKd hHeld ⊢
  clear hW hS0 HE2 HK2
  refine tK 29 (i := 0) (v := .pointer (some ⟨G, 4, none⟩)) rfl rfl (by kernel_rfl) ?_ hHeld ?_
  ·intro w hSw; clear hSw; go_simp; try with_reducible rfl
  simp only [uZ, uS]
  refine tK 30 (i := 1) (v := tv B mm d) rfl rfl (by kernel_rfl) ?_ hHeld ?_
  ·intro w hSw; have hz := (hSw _ (.tail _ (.tail _ (.tail _ (.head _))))); have c4 := hz.cell 4; simp at c4; clear hz hSw; go_simp; try with_reducible rfl
  simp only [uZ, uS]
  refine tK 31 (i := 2) (v := .pointer (some ⟨G + 1, 2, none⟩)) rfl rfl (by kernel_rfl) ?_ hHeld ?_
  ·intro w hSw; clear hSw; go_simp; try with_reducible rfl
  simp only [uZ, uS]
  refine tK 32 (i := 3) (v := rv s0 s1) rfl rfl (by kernel_rfl) ?_ hHeld ?_
  ·intro w hSw; have hz := (hSw _ (.tail _ (.tail _ (.head _)))); have c2 := hz.cell 2; have c3 := hz.cell 3; simp at c2 c3; clear hz hSw; go_simp; try with_reducible rfl
  simp only [uZ, uS]
  refine tK 34 (i := 5) (v := .pointer (some ⟨G + 1, 4, none⟩)) rfl rfl (by kernel_rfl) ?_ hHeld ?_
  ·intro w hSw; clear hSw; go_simp; try with_reducible rfl
  simp only [uZ, uS]
  refine tK 35 (i := 6) (v := rv d0 d1) rfl rfl (by kernel_rfl) ?_ hHeld ?_
  ·intro w hSw; have hz := (hSw _ (.tail _ (.tail _ (.head _)))); have c4 := hz.cell 4; have c5 := hz.cell 5; simp at c4 c5; clear hz hSw; go_simp; try with_reducible rfl
  simp only [uZ, uS]
  have HEq := HEd
  have HKq := HKd
  clear HEd HKd
  rename World => yq
  refine wpAnyH_ready (rs := [4, 8]) (by kernel_rfl) (by simp) ?_
  refine AllReadyH.cons rfl (fun K hK => ?_) (AllReadyH.cons rfl (fun K hK => ?_) AllReadyH.nil)
  all_goals
   go_simp
   first
   | (
    (with_reducible refine (C4.out _ HEq.out).mono ?_)
    rintro e yn ⟨rfl, hb⟩
    have HEr := Lib.hid (below_then HEq.out hb)
    have HKr := Lib.hid (HKq.out.on hb)
    have hS := hHeld.on hb
    clear hb
    refine hK.out _ _ hS (fun hHeld2 => ?_)
    try simp only [Act.put, uA, uZ, uS]
    clear hS hK K hHeld HEq HKq
    have hHeld := hHeld2
    clear hHeld2
    have HEq := HEr
    clear HEr
    have HKq := HKr
    clear HKr
    rename World => yq)
   | (
    (with_reducible refine (C5.out _).mono ?_)
    rintro e yn ⟨rfl, hb⟩
    have HEr := Lib.hid (below_then HEq.out hb)
    have HKr := Lib.hid (HKq.out.on hb)
    have hS := hHeld.on hb
    clear hb
    refine hK.out _ _ hS (fun hHeld2 => ?_)
    try simp only [Act.put, uA, uZ, uS]
    clear hS hK K hHeld HEq HKq
    have hHeld := hHeld2
    clear hHeld2
    have HEq := HEr
    clear HEr
    have HKq := HKr
    clear HKr
    rename World => yq)
   | (
    have HEr := Lib.hid (below_then HEq.out (below_alloc1 yq (.cells #[.int .i64 0, .int .i64 0] 30)))
    have HKr := Lib.hid (HKq.out.new 30 #[.int .i64 0, .int .i64 0])
    have hS := hHeld.on (below_alloc1 yq (.cells #[.int .i64 0, .int .i64 0] 30))
    have HDA := Lib.hid (boxes_lt HKq.out)
    have HZA := Lib.hid HEq.out.size
    refine hK.out _ _ hS (fun hHeld2 => ?_)
    try simp only [Act.put, uA, uZ, uS]
    clear hS hK K hHeld HEq HKq
    have hHeld := hHeld2
    clear hHeld2
    have HEq := HEr
    clear HEr
    have HKq := HKr
    clear HKr
    obtain ⟨y2, hW⟩ : ∃ W', yq.alloc (.cells #[.int .i64 0, .int .i64 0] 30) = W' := ⟨_, rfl⟩
    rw [hW] at HEq HKq hHeld ⊢
    clear hW
    obtain ⟨NA, hN⟩ : ∃ N, yq.heap.size = N := ⟨_, rfl⟩
    rw [hN] at HKq HDA HZA ⊢
    clear hN
    rename World => yq)
  refine wpAnyH_ready (rs := [7, 8]) (by kernel_rfl) (by simp) ?_
  refine AllReadyH.cons rfl (fun K hK => ?_) (AllReadyH.cons rfl (fun K hK => ?_) AllReadyH.nil)
  rotate_left 2
  refine wpAnyH_ready (rs := [4]) (by kernel_rfl) (by simp) ?_
  refine AllReadyH.cons rfl (fun K hK => ?_) AllReadyH.nil
  rotate_left 1
  all_goals
   go_simp
   first
   | (
    (with_reducible refine (C4.out _ HEq.out).mono ?_)
    rintro e yn ⟨rfl, hb⟩
    have HEr := Lib.hid (below_then HEq.out hb)
    have HKr := Lib.hid (HKq.out.on hb)
    have hS := hHeld.on hb
    clear hb
    refine hK.out _ _ hS (fun hHeld2 => ?_)
    try simp only [Act.put, uA, uZ, uS]
    clear hS hK K hHeld HEq HKq
    have hHeld := hHeld2
    clear hHeld2
    have HEq := HEr
    clear HEr
    have HKq := HKr
    clear HKr
    rename World => yq)
   | (
    (with_reducible refine (C5.out _).mono ?_)
    rintro e yn ⟨rfl, hb⟩
    have HEr := Lib.hid (below_then HEq.out hb)
    have HKr := Lib.hid (HKq.out.on hb)
    have hS := hHeld.on hb
    clear hb
    refine hK.out _ _ hS (fun hHeld2 => ?_)
    try simp only [Act.put, uA, uZ, uS]
    clear hS hK K hHeld HEq HKq
    have hHeld := hHeld2
    clear hHeld2
    have HEq := HEr
    clear HEr
    have HKq := HKr
    clear HKr
    rename World => yq)
   | (
    have HEr := Lib.hid (below_then HEq.out (below_alloc1 yq (.cells #[.int .i64 0, .int .i64 0] 30)))
    have HKr := Lib.hid (HKq.out.new 30 #[.int .i64 0, .int .i64 0])
    have hS := hHeld.on (below_alloc1 yq (.cells #[.int .i64 0, .int .i64 0] 30))
    have HDA := Lib.hid (boxes_lt HKq.out)
    have HZA := Lib.hid HEq.out.size
    refine hK.out _ _ hS (fun hHeld2 => ?_)
    try simp only [Act.put, uA, uZ, uS]
    clear hS hK K hHeld HEq HKq
    have hHeld := hHeld2
    clear hHeld2
    have HEq := HEr
    clear HEr
    have HKq := HKr
    clear HKr
    obtain ⟨y2, hW⟩ : ∃ W', yq.alloc (.cells #[.int .i64 0, .int .i64 0] 30) = W' := ⟨_, rfl⟩
    rw [hW] at HEq HKq hHeld ⊢
    clear hW
    obtain ⟨NA, hN⟩ : ∃ N, yq.heap.size = N := ⟨_, rfl⟩
    rw [hN] at HKq HDA HZA ⊢
    clear hN
    rename World => yq)
  refine wpAnyH_ready (rs := [8]) (by kernel_rfl) (by simp) ?_
  refine AllReadyH.cons rfl (fun K hK => ?_) AllReadyH.nil
  rotate_left 1
  refine wpAnyH_ready (rs := [7]) (by kernel_rfl) (by simp) ?_
  refine AllReadyH.cons rfl (fun K hK => ?_) AllReadyH.nil
  rotate_left 1
  refine wpAnyH_ready (rs := [7]) (by kernel_rfl) (by simp) ?_
  refine AllReadyH.cons rfl (fun K hK => ?_) AllReadyH.nil
  rotate_left 1
  all_goals
   go_simp
   first
   | (
    (with_reducible refine (C4.out _ HEq.out).mono ?_)
    rintro e yn ⟨rfl, hb⟩
    have HEr := Lib.hid (below_then HEq.out hb)
    have HKr := Lib.hid (HKq.out.on hb)
    have hS := hHeld.on hb
    clear hb
    refine hK.out _ _ hS (fun hHeld2 => ?_)
    try simp only [Act.put, uA, uZ, uS]
    clear hS hK K hHeld HEq HKq
    have hHeld := hHeld2
    clear hHeld2
    have HEq := HEr
    clear HEr
    have HKq := HKr
    clear HKr
    rename World => yq)
   | (
    (with_reducible refine (C5.out _).mono ?_)
    rintro e yn ⟨rfl, hb⟩
    have HEr := Lib.hid (below_then HEq.out hb)
    have HKr := Lib.hid (HKq.out.on hb)
    have hS := hHeld.on hb
    clear hb
    refine hK.out _ _ hS (fun hHeld2 => ?_)
    try simp only [Act.put, uA, uZ, uS]
    clear hS hK K hHeld HEq HKq
    have hHeld := hHeld2
    clear hHeld2
    have HEq := HEr
    clear HEr
    have HKq := HKr
    clear HKr
    rename World => yq)
   | (
    have HEr := Lib.hid (below_then HEq.out (below_alloc1 yq (.cells #[.int .i64 0, .int .i64 0] 30)))
    have HKr := Lib.hid (HKq.out.new 30 #[.int .i64 0, .int .i64 0])
    have hS := hHeld.on (below_alloc1 yq (.cells #[.int .i64 0, .int .i64 0] 30))
    have HDA := Lib.hid (boxes_lt HKq.out)
    have HZA := Lib.hid HEq.out.size
    refine hK.out _ _ hS (fun hHeld2 => ?_)
    try simp only [Act.put, uA, uZ, uS]
    clear hS hK K hHeld HEq HKq
    have hHeld := hHeld2
    clear hHeld2
    have HEq := HEr
    clear HEr
    have HKq := HKr
    clear HKr
    obtain ⟨y2, hW⟩ : ∃ W', yq.alloc (.cells #[.int .i64 0, .int .i64 0] 30) = W' := ⟨_, rfl⟩
    rw [hW] at HEq HKq hHeld ⊢
    clear hW
    obtain ⟨NA, hN⟩ : ∃ N, yq.heap.size = N := ⟨_, rfl⟩
    rw [hN] at HKq HDA HZA ⊢
    clear hN
    rename World => yq)
  all_goals
   first
   | (
    refine wpAnyH_ready (rs := [9]) (by kernel_rfl) (by simp) ?_
    refine AllReadyH.cons rfl (fun K hK => ?_) AllReadyH.nil
    rw [if_pos (by kernel_rfl)]
    have ne1 : ∀ zz ∈ (((N2, 30, #[.int .i64 va, .int .i64 vb]) :: [(G + 1 + 1, 30, #[.int .i64 0, .int .i64 0]), (G + 1, 72, #[.int .i64 tk, .bool false, .int .i64 s0, .int .i64 s1, .int .i64 d0, .int .i64 d1]), (G, 69, #[.int .i64 id, .int .i64 al, .int .i64 ah, .slice A n c, .slice B mm d, .slice C l ee])] : List (Nat × TypeId × Array Value)) : List (Nat × TypeId × Array Value)), zz.1 ≠ NA := HDA.out
    have HK1 : Hid (Boxes (yq.setRow NA #[.int .i64 ka, .int .i64 kb]) ((NA, 30, #[.int .i64 ka, .int .i64 kb]) :: ((N2, 30, #[.int .i64 va, .int .i64 vb]) :: [(G + 1 + 1, 30, #[.int .i64 0, .int .i64 0]), (G + 1, 72, #[.int .i64 tk, .bool false, .int .i64 s0, .int .i64 s1, .int .i64 d0, .int .i64 d1]), (G, 69, #[.int .i64 id, .int .i64 al, .int .i64 ah, .slice A n c, .slice B mm d, .slice C l ee])] : List (Nat × TypeId × Array Value)))) := Lib.hid (Boxes.row HKq.out (.head _) (fun p hp => ⟨.tail _ hp, ne1 p hp⟩) #[.int .i64 ka, .int .i64 kb])
    have HE1 := Lib.hid (below_setRow HEq.out (show w.heap.size ≤ NA from HZA.out) #[.int .i64 ka, .int .i64 kb])
    have hS := hHeld.farRow (g := NA) (fun p hp => ne1 p (hp)) #[.int .i64 ka, .int .i64 kb]
    refine wp_store_row 30 (.tmp 8) (.tmp 36) rfl NA #[.int .i64 ka, .int .i64 kb] rfl rfl 30 _ (HKq.out _ (.head _)) (by kernel_rfl) rfl (by kernel_rfl) ?_
    obtain ⟨y1, hW⟩ : ∃ W', yq.setRow NA #[.int .i64 ka, .int .i64 kb] = W' := ⟨_, rfl⟩
    rw [hW] at HE1 HK1 hS ⊢
    refine hK.out _ _ hS (fun hHeld2 => ?_)
    try simp only [Act.put, uA, uZ, uS]
    clear hW hS hK K hHeld ne1 HEq HKq
    have hHeld := hHeld2
    clear hHeld2
    refine wpAnyH_done (by kernel_rfl) ?_ _
    go_wp2_with fail
    go_meet
    exact ⟨NA, rfl, HK1.out, HE1.out, HZA.out, HDA.out (_, _, _) (.head _), HDA.out (_, _, _) (.tail _ (.head _))⟩)
 case rest =>
  obtain ⟨N1, rfl, hB, hE, hz, n1, n2⟩ := hcut
  have HE5 := Lib.hid hE
  have HK5 := Lib.hid hB
  have n1' : N1 ≠ N2 := fun q => n1 q.symm
  have n2' : N1 ≠ G + 1 + 1 := fun q => n2 q.symm
  have hzz : G ≤ N1 := by have hg := HG.out; omega
  clear hB hE HE2 HK2 C4 C5 HD2 hz
  have k := HK5.out _ (.head _)
  have k0 := k.cell 0
  have kf0 := k.frozen 0
  have k1 := k.cell 1
  have kf1 := k.frozen 1
  have kl := k.lt
  simp at k0 kf0 k1 kf1
  clear k
  have a := HK5.out _ (.tail _ (.head _))
  have a0 := a.cell 0
  simp at a0
  clear a
  have z := HK5.out _ (.tail _ (.tail _ (.head _)))
  have z0 := z.cell 0
  have zf0 := z.frozen 0
  have z1 := z.cell 1
  have zf1 := z.frozen 1
  have zl := z.lt
  simp at z0 zf0 z1 zf1
  clear z
  by_cases hv : va = 0
  ·have eR : R = (0, kb, 0) := by rw [← HR3.out, if_pos hv]
   subst eR hv
   clear HR3
   go_wp2
   refine bodyPost_ret (v := rt (0, kb, 0)) (by simp [results, Tryz.results28, go_sem, z0, z1, n2, n2']) rfl ⟨rfl, ?_⟩
   have hg := HG.out
   repeat (first | exact HE5.out | refine Below.setCell ?_ (by simp <;> omega) _)
  ·have b0 : (va == 0) = false := beq_eq_false_iff_ne.2 hv
   have eR : R = (ka, kb, 0) := by rw [← HR3.out, if_neg hv]
   subst eR
   clear HR3
   go_wp2
   refine bodyPost_ret (v := rt (ka, kb, 0)) (by simp [results, Tryz.results28, go_sem, z0, z1, n2, n2']) rfl ⟨rfl, ?_⟩
   have hg := HG.out
   repeat (first | exact HE5.out | refine Below.setCell ?_ (by simp <;> omega) _)
end

end Go.Proofs.YtekkiedlajhaiaaGreat
