/- The contracts of Weight of hold and of the specification of layer 2. Their condition: the hold's tables lie in memory. -/
import Derived.Test.YtemlaaipnhmcoaaGreatR37
import Derived.Test.YtemlaaipnhmcoaaGreatR34
import Derived.Test.YtemlaaipnhmcoaaGreatQ98
set_option linter.unusedVariables false
set_option linter.unusedSimpArgs false
set_option linter.constructorNameAsVariable false
namespace Go.Proofs.YtemlaaipnhmcoaaGreat

section
open Go.RowKit

theorem fieldM3 (b0 b1 b2 b3 b4 b5 b6 b7 : Value) (w : World) : (Instr.field 123 (.agg #[b0, b1, b2, b3, b4, b5, b6, b7]) 3).run Tryz.prog w = .ok b3 w := by kernel_rfl
attribute [local go_sem ↓] fieldM3
abbrev wt (m0 m1 a0 a1 z0 z1 e : Int) : Value := .tuple #[.agg #[.int .i64 m0, .int .i64 m1, .int .i64 a0, .int .i64 a1, .int .i64 z0, .int .i64 z1], .int .i64 e]

set_option maxRecDepth 100000 in
set_option maxHeartbeats 4000000 in
theorem hweight_0 (E p r s t : Int) (ma mb mc me : Nat) (mx my mz : Int) (id al ah t0 t1 u0 u1 v0 v1 h0 h1 : Int) (A B C : Option Addr) (n c mm d l ee : Nat) (fh st x0 x1 d0 d1 : Int) (w : World)
  (C1 : ∀ W, Below w.heap.size w W → Calls Tryz.prog 44 #[.agg #[.int .i64 id, .int .i64 al, .int .i64 ah, .slice A n c, .slice B mm d, .slice C l ee, .int .i64 t0, .int .i64 t1, .int .i64 u0, .int .i64 u1, .int .i64 v0, .int .i64 v1, .int .i64 h0, .int .i64 h1], .agg #[.int .i64 fh, .int .i64 st, .int .i64 x0, .int .i64 x1, .int .i64 d0, .int .i64 d1]] W fun e w' => e = .returned (.tuple #[rv p r, .int .i64 E]) ∧ Below W.heap.size W w')
  (C2 : E = 0 → ∀ W, Calls Tryz.prog 75 #[.agg #[.int .i64 fh, .int .i64 st, .int .i64 x0, .int .i64 x1, .int .i64 d0, .int .i64 d1]] W fun e w' => e = .returned (.agg #[fnV ma, fnV mb, fnV mc, fnV 188, fnV me, .int .i64 mx, .int .i64 my, .int .i64 mz]) ∧ Below W.heap.size W w')
  (C3 : E = 0 → ∀ W, Below w.heap.size w W → Calls Tryz.prog 188 #[.agg #[.int .i64 id, .int .i64 al, .int .i64 ah, .slice A n c, .slice B mm d, .slice C l ee, .int .i64 t0, .int .i64 t1, .int .i64 u0, .int .i64 u1, .int .i64 v0, .int .i64 v1, .int .i64 h0, .int .i64 h1], .agg #[.int .i64 fh, .int .i64 st, .int .i64 x0, .int .i64 x1, .int .i64 d0, .int .i64 d1]] W fun e w' => e = .returned (rv s t) ∧ Below W.heap.size W w') :
  Calls Tryz.prog 37 #[.agg #[.int .i64 id, .int .i64 al, .int .i64 ah, .slice A n c, .slice B mm d, .slice C l ee, .int .i64 t0, .int .i64 t1, .int .i64 u0, .int .i64 u1, .int .i64 v0, .int .i64 v1, .int .i64 h0, .int .i64 h1], .agg #[.int .i64 fh, .int .i64 st, .int .i64 x0, .int .i64 x1, .int .i64 d0, .int .i64 d1]] w fun e w' => e = .returned (if E = 0 then wt p r al ah s t 0 else wt 0 0 0 0 0 0 E) ∧ Below w.heap.size w w' := by
 have HE := Lib.hid (show Below w.heap.size w (((w.alloc (.cells #[.int .i64 id, .int .i64 al, .int .i64 ah, .slice A n c, .slice B mm d, .slice C l ee, .int .i64 t0, .int .i64 t1, .int .i64 u0, .int .i64 u1, .int .i64 v0, .int .i64 v1, .int .i64 h0, .int .i64 h1] 35)).alloc (.cells #[.int .i64 fh, .int .i64 st, .int .i64 x0, .int .i64 x1, .int .i64 d0, .int .i64 d1] 55)).alloc (.cells #[.int .i64 0, .int .i64 0, .int .i64 0, .int .i64 0, .int .i64 0, .int .i64 0] 74)) from below_a3 (Below.refl _ _))
 have HK := Lib.hid (boxes3' w 35 55 74 #[.int .i64 id, .int .i64 al, .int .i64 ah, .slice A n c, .slice B mm d, .slice C l ee, .int .i64 t0, .int .i64 t1, .int .i64 u0, .int .i64 u1, .int .i64 v0, .int .i64 v1, .int .i64 h0, .int .i64 h1] #[.int .i64 fh, .int .i64 st, .int .i64 x0, .int .i64 x1, .int .i64 d0, .int .i64 d1] #[.int .i64 0, .int .i64 0, .int .i64 0, .int .i64 0, .int .i64 0, .int .i64 0])
 have D1 := Lib.hid C1
 have D2 := Lib.hid C2
 have D3 := Lib.hid C3
 clear C1 C2 C3
 obtain ⟨R, hR⟩ : ∃ R, (if E = 0 then wt p r al ah s t 0 else wt 0 0 0 0 0 0 E) = R := ⟨_, rfl⟩
 rw [hR]
 have HR := Lib.hid hR
 clear hR
 go_enter Tryz.func37, Tryz.ntmps37
 go_wp2_with fail
 obtain ⟨W0, hW0⟩ : ∃ W0, (((w.alloc (.cells #[.int .i64 id, .int .i64 al, .int .i64 ah, .slice A n c, .slice B mm d, .slice C l ee, .int .i64 t0, .int .i64 t1, .int .i64 u0, .int .i64 u1, .int .i64 v0, .int .i64 v1, .int .i64 h0, .int .i64 h1] 35)).alloc (.cells #[.int .i64 fh, .int .i64 st, .int .i64 x0, .int .i64 x1, .int .i64 d0, .int .i64 d1] 55)).alloc (.cells #[.int .i64 0, .int .i64 0, .int .i64 0, .int .i64 0, .int .i64 0, .int .i64 0] 74)) = W0 := ⟨_, rfl⟩
 rw [hW0] at HE HK ⊢
 clear hW0
 obtain ⟨G, hG⟩ : ∃ G, w.heap.size = G := ⟨_, rfl⟩
 rw [hG] at HK ⊢
 have HG := Lib.hid hG; clear hG
 refine (D1.out _ HE.out).mono ?_
 rintro e w1 ⟨rfl, hb⟩
 have HE1 := Lib.hid (below_then (below_then HE.out hb) (below_alloc1 w1 (.cells #[.int .i64 p, .int .i64 r] 30))); have HK1 := Lib.hid ((HK.out.on hb).new 30 #[.int .i64 p, .int .i64 r])
 have HDM := Lib.hid (boxes_lt (HK.out.on hb))
 clear hb HE HK D1
 go_upto_region 2 with fail
 obtain ⟨W1, hW⟩ : ∃ W1, w1.alloc (.cells #[.int .i64 p, .int .i64 r] 30) = W1 := ⟨_, rfl⟩
 rw [hW] at HE1 HK1 ⊢
 clear hW
 obtain ⟨M, hM⟩ : ∃ M, w1.heap.size = M := ⟨_, rfl⟩
 rw [hM] at HK1 HDM ⊢
 clear hM
 by_cases g : E = 0
 ·have eR := HR.out
  rw [if_pos g] at eR
  subst eR
  have X2 := Lib.hid (D2.out g)
  have X3 := Lib.hid (D3.out g)
  clear HR D2 D3
  subst g
  go_upto_region 4 with fail
  go_cut [8] (fun s8 wx => ∃ N3, s8 = .pointer (some ⟨N3, 0, none⟩) ∧ Boxes wx ((N3, 30, #[.int .i64 s, .int .i64 t]) :: ((M, 30, #[.int .i64 p, .int .i64 r]) :: [(G + 1 + 1, 74, #[.int .i64 0, .int .i64 0, .int .i64 0, .int .i64 0, .int .i64 0, .int .i64 0]), (G + 1, 55, #[.int .i64 fh, .int .i64 st, .int .i64 x0, .int .i64 x1, .int .i64 d0, .int .i64 d1]), (G, 35, #[.int .i64 id, .int .i64 al, .int .i64 ah, .slice A n c, .slice B mm d, .slice C l ee, .int .i64 t0, .int .i64 t1, .int .i64 u0, .int .i64 u1, .int .i64 v0, .int .i64 v1, .int .i64 h0, .int .i64 h1])] : List (Nat × TypeId × Array Value))) ∧ Below w.heap.size w wx ∧ G + 1 + 1 ≠ N3)
  case first =>
   have hS0 : Boxes W1.drew ((M, 30, #[.int .i64 p, .int .i64 r]) :: [(G + 1 + 1, 74, #[.int .i64 0, .int .i64 0, .int .i64 0, .int .i64 0, .int .i64 0, .int .i64 0]), (G + 1, 55, #[.int .i64 fh, .int .i64 st, .int .i64 x0, .int .i64 x1, .int .i64 d0, .int .i64 d1]), (G, 35, #[.int .i64 id, .int .i64 al, .int .i64 ah, .slice A n c, .slice B mm d, .slice C l ee, .int .i64 t0, .int .i64 t1, .int .i64 u0, .int .i64 u1, .int .i64 v0, .int .i64 v1, .int .i64 h0, .int .i64 h1])] : List (Nat × TypeId × Array Value)) := HK1.out
   have HEd := Lib.hid HE1.out.drew
   have HKd := Lib.hid hS0
   refine wp_region_held_drew (S := fun w' => Boxes w' ((M, 30, #[.int .i64 p, .int .i64 r]) :: [(G + 1 + 1, 74, #[.int .i64 0, .int .i64 0, .int .i64 0, .int .i64 0, .int .i64 0, .int .i64 0]), (G + 1, 55, #[.int .i64 fh, .int .i64 st, .int .i64 x0, .int .i64 x1, .int .i64 d0, .int .i64 d1]), (G, 35, #[.int .i64 id, .int .i64 al, .int .i64 ah, .slice A n c, .slice B mm d, .slice C l ee, .int .i64 t0, .int .i64 t1, .int .i64 u0, .int .i64 u1, .int .i64 v0, .int .i64 v1, .int .i64 h0, .int .i64 h1])] : List (Nat × TypeId × Array Value))) (by kernel_rfl) hS0 (fun hHeld => ?_)
   obtain ⟨W2, hW⟩ : ∃ W', W1.drew = W' := ⟨_, rfl⟩
   rw [hW] at HEd HKd hHeld ⊢
   clear hW hS0 HE1 HK1
   refine tK 19 (i := 0) (v := .agg #[.int .i64 fh, .int .i64 st, .int .i64 x0, .int .i64 x1, .int .i64 d0, .int .i64 d1]) rfl rfl (by kernel_rfl) ?_ hHeld ?_
   ·intro w hSw; have hz := (hSw _ (.tail _ (.tail _ (.head _)))); have c0 := hz.cell 0; have c1 := hz.cell 1; have c2 := hz.cell 2; have c3 := hz.cell 3; have c4 := hz.cell 4; have c5 := hz.cell 5; simp at c0 c1 c2 c3 c4 c5; clear hz hSw; go_simp; try with_reducible rfl
   simp only [uZ, uS]
   refine tK 22 (i := 3) (v := .agg #[.int .i64 id, .int .i64 al, .int .i64 ah, .slice A n c, .slice B mm d, .slice C l ee, .int .i64 t0, .int .i64 t1, .int .i64 u0, .int .i64 u1, .int .i64 v0, .int .i64 v1, .int .i64 h0, .int .i64 h1]) rfl rfl (by kernel_rfl) ?_ hHeld ?_
   ·intro w hSw; have hz := (hSw _ (.tail _ (.tail _ (.tail _ (.head _))))); have c0 := hz.cell 0; have c1 := hz.cell 1; have c2 := hz.cell 2; have c3 := hz.cell 3; have c4 := hz.cell 4; have c5 := hz.cell 5; have c6 := hz.cell 6; have c7 := hz.cell 7; have c8 := hz.cell 8; have c9 := hz.cell 9; have c10 := hz.cell 10; have c11 := hz.cell 11; have c12 := hz.cell 12; have c13 := hz.cell 13; simp at c0 c1 c2 c3 c4 c5 c6 c7 c8 c9 c10 c11 c12 c13; clear hz hSw; go_simp; try with_reducible rfl
   simp only [uZ, uS]
   refine tK 23 (i := 4) (v := .agg #[.int .i64 fh, .int .i64 st, .int .i64 x0, .int .i64 x1, .int .i64 d0, .int .i64 d1]) rfl rfl (by kernel_rfl) ?_ hHeld ?_
   ·intro w hSw; have hz := (hSw _ (.tail _ (.tail _ (.head _)))); have c0 := hz.cell 0; have c1 := hz.cell 1; have c2 := hz.cell 2; have c3 := hz.cell 3; have c4 := hz.cell 4; have c5 := hz.cell 5; simp at c0 c1 c2 c3 c4 c5; clear hz hSw; go_simp; try with_reducible rfl
   simp only [uZ, uS]
   refine wpAnyH_ready (rs := [1, 6]) (by kernel_rfl) (by simp) ?_
   refine AllReadyH.cons rfl (fun K hK => ?_) (AllReadyH.cons rfl (fun K hK => ?_) AllReadyH.nil)
   ·skip
    go_simp
    (with_reducible refine (X2.out _).mono ?_)
    rintro e y1 ⟨rfl, hb⟩
    have HE1 := Lib.hid (below_then HEd.out hb); have HK1 := Lib.hid (HKd.out.on hb)
    have hS := hHeld.on hb
    clear hb
    refine hK.out _ _ hS (fun hHeld2 => ?_)
    try simp only [Act.put, uA, uZ, uS]
    clear hS hK K hHeld HEd HKd
    have hHeld := hHeld2
    clear hHeld2
    refine tK 21 (i := 2) (v := fnV 188) rfl rfl (by kernel_rfl) ?_ hHeld ?_
    ·intro w hSw; clear hSw; go_simp; try with_reducible rfl
    simp only [uZ, uS]
    refine wpAnyH_ready (rs := [5, 6]) (by kernel_rfl) (by simp) ?_
    refine AllReadyH.cons rfl (fun K hK => ?_) (AllReadyH.cons rfl (fun K hK => ?_) AllReadyH.nil)
    ·skip
     go_simp
     (with_reducible refine (X3.out _ HE1.out).mono ?_)
     rintro e y2 ⟨rfl, hb⟩
     have HE2 := Lib.hid (below_then HE1.out hb); have HK2 := Lib.hid (HK1.out.on hb)
     have hS := hHeld.on hb
     clear hb
     refine hK.out _ _ hS (fun hHeld2 => ?_)
     try simp only [Act.put, uA, uZ, uS]
     clear hS hK K hHeld HE1 HK1
     have hHeld := hHeld2
     clear hHeld2
     refine wpAnyH_ready (rs := [6]) (by kernel_rfl) (by simp) ?_
     refine AllReadyH.cons rfl (fun K hK => ?_) AllReadyH.nil
     go_simp
     have HE3 := Lib.hid (below_then HE2.out (below_alloc1 y2 (.cells #[.int .i64 0, .int .i64 0] 30))); have HK3 := Lib.hid (HK2.out.new 30 #[.int .i64 0, .int .i64 0])
     have hS := hHeld.on (below_alloc1 y2 (.cells #[.int .i64 0, .int .i64 0] 30))
     have HD3 := Lib.hid (boxes_lt HK2.out)
     have HZ3 := Lib.hid HE2.out.size
     refine hK.out _ _ hS (fun hHeld2 => ?_)
     try simp only [Act.put, uA, uZ, uS]
     clear hS hK K hHeld HE2 HK2
     have hHeld := hHeld2
     clear hHeld2
     obtain ⟨y3, hW⟩ : ∃ W', y2.alloc (.cells #[.int .i64 0, .int .i64 0] 30) = W' := ⟨_, rfl⟩
     rw [hW] at HE3 HK3 hHeld ⊢
     clear hW
     obtain ⟨N3, hN⟩ : ∃ N, y2.heap.size = N := ⟨_, rfl⟩
     rw [hN] at HK3 HD3 HZ3 ⊢
     clear hN
     refine wpAnyH_ready (rs := [7]) (by kernel_rfl) (by simp) ?_
     refine AllReadyH.cons rfl (fun K hK => ?_) AllReadyH.nil
     rw [if_pos (by kernel_rfl)]
     have ne4 : ∀ zz ∈ (((M, 30, #[.int .i64 p, .int .i64 r]) :: [(G + 1 + 1, 74, #[.int .i64 0, .int .i64 0, .int .i64 0, .int .i64 0, .int .i64 0, .int .i64 0]), (G + 1, 55, #[.int .i64 fh, .int .i64 st, .int .i64 x0, .int .i64 x1, .int .i64 d0, .int .i64 d1]), (G, 35, #[.int .i64 id, .int .i64 al, .int .i64 ah, .slice A n c, .slice B mm d, .slice C l ee, .int .i64 t0, .int .i64 t1, .int .i64 u0, .int .i64 u1, .int .i64 v0, .int .i64 v1, .int .i64 h0, .int .i64 h1])] : List (Nat × TypeId × Array Value)) : List (Nat × TypeId × Array Value)), zz.1 ≠ N3 := HD3.out
     have HK4 : Hid (Boxes (y3.setRow N3 #[.int .i64 s, .int .i64 t]) ((N3, 30, #[.int .i64 s, .int .i64 t]) :: ((M, 30, #[.int .i64 p, .int .i64 r]) :: [(G + 1 + 1, 74, #[.int .i64 0, .int .i64 0, .int .i64 0, .int .i64 0, .int .i64 0, .int .i64 0]), (G + 1, 55, #[.int .i64 fh, .int .i64 st, .int .i64 x0, .int .i64 x1, .int .i64 d0, .int .i64 d1]), (G, 35, #[.int .i64 id, .int .i64 al, .int .i64 ah, .slice A n c, .slice B mm d, .slice C l ee, .int .i64 t0, .int .i64 t1, .int .i64 u0, .int .i64 u1, .int .i64 v0, .int .i64 v1, .int .i64 h0, .int .i64 h1])] : List (Nat × TypeId × Array Value)))) := Lib.hid (Boxes.row HK3.out (.head _) (fun p hp => ⟨.tail _ hp, ne4 p hp⟩) #[.int .i64 s, .int .i64 t])
     have HE4 := Lib.hid (below_setRow HE3.out (show w.heap.size ≤ N3 from HZ3.out) #[.int .i64 s, .int .i64 t])
     have hS := hHeld.farRow (g := N3) (fun p hp => ne4 p (hp)) #[.int .i64 s, .int .i64 t]
     refine wp_store_row 30 (.tmp 8) (.tmp 24) rfl N3 #[.int .i64 s, .int .i64 t] rfl rfl 30 _ (HK3.out _ (.head _)) (by kernel_rfl) rfl (by kernel_rfl) ?_
     obtain ⟨y4, hW⟩ : ∃ W', y3.setRow N3 #[.int .i64 s, .int .i64 t] = W' := ⟨_, rfl⟩
     rw [hW] at HE4 HK4 hS ⊢
     refine hK.out _ _ hS (fun hHeld2 => ?_)
     try simp only [Act.put, uA, uZ, uS]
     clear hW hS hK K hHeld ne4 HE3 HK3
     have hHeld := hHeld2
     clear hHeld2
     refine wpAnyH_done (by kernel_rfl) ?_ _
     go_wp2_with fail
     go_meet
     exact ⟨N3, rfl, HK4.out, HE4.out, HD3.out (_, _, _) (.tail _ (.head _))⟩
    ·skip
     go_simp
     have HE5 := Lib.hid (below_then HE1.out (below_alloc1 y1 (.cells #[.int .i64 0, .int .i64 0] 30))); have HK5 := Lib.hid (HK1.out.new 30 #[.int .i64 0, .int .i64 0])
     have hS := hHeld.on (below_alloc1 y1 (.cells #[.int .i64 0, .int .i64 0] 30))
     have HD5 := Lib.hid (boxes_lt HK1.out)
     have HZ5 := Lib.hid HE1.out.size
     refine hK.out _ _ hS (fun hHeld2 => ?_)
     try simp only [Act.put, uA, uZ, uS]
     clear hS hK K hHeld HE1 HK1
     have hHeld := hHeld2
     clear hHeld2
     obtain ⟨y5, hW⟩ : ∃ W', y1.alloc (.cells #[.int .i64 0, .int .i64 0] 30) = W' := ⟨_, rfl⟩
     rw [hW] at HE5 HK5 hHeld ⊢
     clear hW
     obtain ⟨N5, hN⟩ : ∃ N, y1.heap.size = N := ⟨_, rfl⟩
     rw [hN] at HK5 HD5 HZ5 ⊢
     clear hN
     refine wpAnyH_ready (rs := [5]) (by kernel_rfl) (by simp) ?_
     refine AllReadyH.cons rfl (fun K hK => ?_) AllReadyH.nil
     go_simp
     (with_reducible refine (X3.out _ HE5.out).mono ?_)
     rintro e y6 ⟨rfl, hb⟩
     have HE6 := Lib.hid (below_then HE5.out hb); have HK6 := Lib.hid (HK5.out.on hb)
     have hS := hHeld.on hb
     clear hb
     refine hK.out _ _ hS (fun hHeld2 => ?_)
     try simp only [Act.put, uA, uZ, uS]
     clear hS hK K hHeld HE5 HK5
     have hHeld := hHeld2
     clear hHeld2
     refine wpAnyH_ready (rs := [7]) (by kernel_rfl) (by simp) ?_
     refine AllReadyH.cons rfl (fun K hK => ?_) AllReadyH.nil
     rw [if_pos (by kernel_rfl)]
     have ne7 : ∀ zz ∈ (((M, 30, #[.int .i64 p, .int .i64 r]) :: [(G + 1 + 1, 74, #[.int .i64 0, .int .i64 0, .int .i64 0, .int .i64 0, .int .i64 0, .int .i64 0]), (G + 1, 55, #[.int .i64 fh, .int .i64 st, .int .i64 x0, .int .i64 x1, .int .i64 d0, .int .i64 d1]), (G, 35, #[.int .i64 id, .int .i64 al, .int .i64 ah, .slice A n c, .slice B mm d, .slice C l ee, .int .i64 t0, .int .i64 t1, .int .i64 u0, .int .i64 u1, .int .i64 v0, .int .i64 v1, .int .i64 h0, .int .i64 h1])] : List (Nat × TypeId × Array Value)) : List (Nat × TypeId × Array Value)), zz.1 ≠ N5 := HD5.out
     have HK7 : Hid (Boxes (y6.setRow N5 #[.int .i64 s, .int .i64 t]) ((N5, 30, #[.int .i64 s, .int .i64 t]) :: ((M, 30, #[.int .i64 p, .int .i64 r]) :: [(G + 1 + 1, 74, #[.int .i64 0, .int .i64 0, .int .i64 0, .int .i64 0, .int .i64 0, .int .i64 0]), (G + 1, 55, #[.int .i64 fh, .int .i64 st, .int .i64 x0, .int .i64 x1, .int .i64 d0, .int .i64 d1]), (G, 35, #[.int .i64 id, .int .i64 al, .int .i64 ah, .slice A n c, .slice B mm d, .slice C l ee, .int .i64 t0, .int .i64 t1, .int .i64 u0, .int .i64 u1, .int .i64 v0, .int .i64 v1, .int .i64 h0, .int .i64 h1])] : List (Nat × TypeId × Array Value)))) := Lib.hid (Boxes.row HK6.out (.head _) (fun p hp => ⟨.tail _ hp, ne7 p hp⟩) #[.int .i64 s, .int .i64 t])
     have HE7 := Lib.hid (below_setRow HE6.out (show w.heap.size ≤ N5 from HZ5.out) #[.int .i64 s, .int .i64 t])
     have hS := hHeld.farRow (g := N5) (fun p hp => ne7 p (hp)) #[.int .i64 s, .int .i64 t]
     refine wp_store_row 30 (.tmp 8) (.tmp 24) rfl N5 #[.int .i64 s, .int .i64 t] rfl rfl 30 _ (HK6.out _ (.head _)) (by kernel_rfl) rfl (by kernel_rfl) ?_
     obtain ⟨y7, hW⟩ : ∃ W', y6.setRow N5 #[.int .i64 s, .int .i64 t] = W' := ⟨_, rfl⟩
     rw [hW] at HE7 HK7 hS ⊢
     refine hK.out _ _ hS (fun hHeld2 => ?_)
     try simp only [Act.put, uA, uZ, uS]
     clear hW hS hK K hHeld ne7 HE6 HK6
     have hHeld := hHeld2
     clear hHeld2
     refine wpAnyH_done (by kernel_rfl) ?_ _
     go_wp2_with fail
     go_meet
     exact ⟨N5, rfl, HK7.out, HE7.out, HD5.out (_, _, _) (.tail _ (.head _))⟩
   ·skip
    go_simp
    have HE8 := Lib.hid (below_then HEd.out (below_alloc1 W2 (.cells #[.int .i64 0, .int .i64 0] 30))); have HK8 := Lib.hid (HKd.out.new 30 #[.int .i64 0, .int .i64 0])
    have hS := hHeld.on (below_alloc1 W2 (.cells #[.int .i64 0, .int .i64 0] 30))
    have HD8 := Lib.hid (boxes_lt HKd.out)
    have HZ8 := Lib.hid HEd.out.size
    refine hK.out _ _ hS (fun hHeld2 => ?_)
    try simp only [Act.put, uA, uZ, uS]
    clear hS hK K hHeld HEd HKd
    have hHeld := hHeld2
    clear hHeld2
    obtain ⟨y8, hW⟩ : ∃ W', W2.alloc (.cells #[.int .i64 0, .int .i64 0] 30) = W' := ⟨_, rfl⟩
    rw [hW] at HE8 HK8 hHeld ⊢
    clear hW
    obtain ⟨N8, hN⟩ : ∃ N, W2.heap.size = N := ⟨_, rfl⟩
    rw [hN] at HK8 HD8 HZ8 ⊢
    clear hN
    refine wpAnyH_ready (rs := [1]) (by kernel_rfl) (by simp) ?_
    refine AllReadyH.cons rfl (fun K hK => ?_) AllReadyH.nil
    go_simp
    (with_reducible refine (X2.out _).mono ?_)
    rintro e y9 ⟨rfl, hb⟩
    have HE9 := Lib.hid (below_then HE8.out hb); have HK9 := Lib.hid (HK8.out.on hb)
    have hS := hHeld.on hb
    clear hb
    refine hK.out _ _ hS (fun hHeld2 => ?_)
    try simp only [Act.put, uA, uZ, uS]
    clear hS hK K hHeld HE8 HK8
    have hHeld := hHeld2
    clear hHeld2
    refine tK 21 (i := 2) (v := fnV 188) rfl rfl (by kernel_rfl) ?_ hHeld ?_
    ·intro w hSw; clear hSw; go_simp; try with_reducible rfl
    simp only [uZ, uS]
    refine wpAnyH_ready (rs := [5]) (by kernel_rfl) (by simp) ?_
    refine AllReadyH.cons rfl (fun K hK => ?_) AllReadyH.nil
    go_simp
    (with_reducible refine (X3.out _ HE9.out).mono ?_)
    rintro e y10 ⟨rfl, hb⟩
    have HE10 := Lib.hid (below_then HE9.out hb); have HK10 := Lib.hid (HK9.out.on hb)
    have hS := hHeld.on hb
    clear hb
    refine hK.out _ _ hS (fun hHeld2 => ?_)
    try simp only [Act.put, uA, uZ, uS]
    clear hS hK K hHeld HE9 HK9
    have hHeld := hHeld2
    clear hHeld2
    refine wpAnyH_ready (rs := [7]) (by kernel_rfl) (by simp) ?_
    refine AllReadyH.cons rfl (fun K hK => ?_) AllReadyH.nil
    rw [if_pos (by kernel_rfl)]
    have ne11 : ∀ zz ∈ (((M, 30, #[.int .i64 p, .int .i64 r]) :: [(G + 1 + 1, 74, #[.int .i64 0, .int .i64 0, .int .i64 0, .int .i64 0, .int .i64 0, .int .i64 0]), (G + 1, 55, #[.int .i64 fh, .int .i64 st, .int .i64 x0, .int .i64 x1, .int .i64 d0, .int .i64 d1]), (G, 35, #[.int .i64 id, .int .i64 al, .int .i64 ah, .slice A n c, .slice B mm d, .slice C l ee, .int .i64 t0, .int .i64 t1, .int .i64 u0, .int .i64 u1, .int .i64 v0, .int .i64 v1, .int .i64 h0, .int .i64 h1])] : List (Nat × TypeId × Array Value)) : List (Nat × TypeId × Array Value)), zz.1 ≠ N8 := HD8.out
    have HK11 : Hid (Boxes (y10.setRow N8 #[.int .i64 s, .int .i64 t]) ((N8, 30, #[.int .i64 s, .int .i64 t]) :: ((M, 30, #[.int .i64 p, .int .i64 r]) :: [(G + 1 + 1, 74, #[.int .i64 0, .int .i64 0, .int .i64 0, .int .i64 0, .int .i64 0, .int .i64 0]), (G + 1, 55, #[.int .i64 fh, .int .i64 st, .int .i64 x0, .int .i64 x1, .int .i64 d0, .int .i64 d1]), (G, 35, #[.int .i64 id, .int .i64 al, .int .i64 ah, .slice A n c, .slice B mm d, .slice C l ee, .int .i64 t0, .int .i64 t1, .int .i64 u0, .int .i64 u1, .int .i64 v0, .int .i64 v1, .int .i64 h0, .int .i64 h1])] : List (Nat × TypeId × Array Value)))) := Lib.hid (Boxes.row HK10.out (.head _) (fun p hp => ⟨.tail _ hp, ne11 p hp⟩) #[.int .i64 s, .int .i64 t])
    have HE11 := Lib.hid (below_setRow HE10.out (show w.heap.size ≤ N8 from HZ8.out) #[.int .i64 s, .int .i64 t])
    have hS := hHeld.farRow (g := N8) (fun p hp => ne11 p (hp)) #[.int .i64 s, .int .i64 t]
    refine wp_store_row 30 (.tmp 8) (.tmp 24) rfl N8 #[.int .i64 s, .int .i64 t] rfl rfl 30 _ (HK10.out _ (.head _)) (by kernel_rfl) rfl (by kernel_rfl) ?_
    obtain ⟨y11, hW⟩ : ∃ W', y10.setRow N8 #[.int .i64 s, .int .i64 t] = W' := ⟨_, rfl⟩
    rw [hW] at HE11 HK11 hS ⊢
    refine hK.out _ _ hS (fun hHeld2 => ?_)
    try simp only [Act.put, uA, uZ, uS]
    clear hW hS hK K hHeld ne11 HE10 HK10
    have hHeld := hHeld2
    clear hHeld2
    refine wpAnyH_done (by kernel_rfl) ?_ _
    go_wp2_with fail
    go_meet
    exact ⟨N8, rfl, HK11.out, HE11.out, HD8.out (_, _, _) (.tail _ (.head _))⟩
  case rest =>
   obtain ⟨N3, rfl, hB, hE, n3⟩ := hcut
   have HE5 := Lib.hid hE
   have HK5 := Lib.hid hB
   rename World => W5
   clear hB hE n3 HE1 HK1 HDM X2 X3
   have aa := HK5.out _ (.head _)
   have aa0 := aa.cell 0
   have aa1 := aa.cell 1
   simp at aa0 aa1
   clear aa
   have ab := HK5.out _ (.tail _ (.head _))
   have ab0 := ab.cell 0
   have ab1 := ab.cell 1
   simp at ab0 ab1
   clear ab
   have ac := HK5.out _ (.tail _ (.tail _ (.tail _ (.tail _ (.head _)))))
   have ac1 := ac.cell 1
   have ac2 := ac.cell 2
   simp at ac1 ac2
   clear ac
   go_upto_region 5 with fail
   refine wp_region_lit ?_
   refine wpList_plain rfl (fun K hK => ?_)
   go_simp
   refine hK _ _ ?_
   clear hK K
   refine wpList_plain rfl (fun K hK => ?_)
   go_simp
   refine hK _ _ ?_
   clear hK K
   refine wpList_plain rfl (fun K hK => ?_)
   go_simp
   refine hK _ _ ?_
   clear hK K
   refine wpList_plain rfl (fun K hK => ?_)
   go_simp
   refine hK _ _ ?_
   clear hK K
   refine wpList_plain rfl (fun K hK => ?_)
   go_simp
   refine hK _ _ ?_
   clear hK K
   have HKR : Hid (Blk (W5.setRow (G + 1 + 1) #[.int .i64 p, .int .i64 r, .int .i64 al, .int .i64 ah, .int .i64 s, .int .i64 t]) (G + 1 + 1) 74 #[.int .i64 p, .int .i64 r, .int .i64 al, .int .i64 ah, .int .i64 s, .int .i64 t]) := Lib.hid (setRow_heap W5 (G + 1 + 1) _ _ 74 _ (HK5.out _ (.tail _ (.tail _ (.head _)))))
   have HE9 := Lib.hid (below_setRow HE5.out (show w.heap.size ≤ G + 1 + 1 by have := HG.out; omega) #[.int .i64 p, .int .i64 r, .int .i64 al, .int .i64 ah, .int .i64 s, .int .i64 t])
   refine wpList_store_row rfl 74 (.tmp 4) (.tmp 29) rfl (G + 1 + 1) #[.int .i64 p, .int .i64 r, .int .i64 al, .int .i64 ah, .int .i64 s, .int .i64 t] rfl rfl 74 _ (HK5.out _ (.tail _ (.tail _ (.head _)))) (by kernel_rfl) rfl (by kernel_rfl) ?_
   obtain ⟨W9, hW9⟩ : ∃ W9, W5.setRow (G + 1 + 1) #[.int .i64 p, .int .i64 r, .int .i64 al, .int .i64 ah, .int .i64 s, .int .i64 t] = W9 := ⟨_, rfl⟩
   rw [hW9] at HKR HE9 ⊢
   clear hW9
   go_wp2
   exact bodyPost_ret (v := .tuple #[.agg #[.int .i64 p, .int .i64 r, .int .i64 al, .int .i64 ah, .int .i64 s, .int .i64 t], .int .i64 0]) (results_cell_tmp_row Tryz.results37 _ _ (G + 1 + 1) 74 #[.int .i64 p, .int .i64 r, .int .i64 al, .int .i64 ah, .int .i64 s, .int .i64 t] (0, 0) _ _ rfl rfl HKR.out Tryz.underlying74 rfl (by kernel_rfl)) rfl ⟨rfl, HE9.out⟩
 ·have eR := HR.out
  rw [if_neg g] at eR
  subst eR
  clear HR D2 D3
  go_upto_region 3 with fail
  refine wp_region_lit ?_
  refine wpList_plain rfl (fun K hK => ?_)
  go_simp
  refine hK _ _ ?_
  clear hK K
  refine wpList_plain rfl (fun K hK => ?_)
  go_simp
  refine hK _ _ ?_
  clear hK K
  have HKR : Hid (Blk (W1.setRow (G + 1 + 1) #[.int .i64 0, .int .i64 0, .int .i64 0, .int .i64 0, .int .i64 0, .int .i64 0]) (G + 1 + 1) 74 #[.int .i64 0, .int .i64 0, .int .i64 0, .int .i64 0, .int .i64 0, .int .i64 0]) := Lib.hid (setRow_heap W1 (G + 1 + 1) _ _ 74 _ (HK1.out _ (.tail _ (.head _))))
  have HE9 := Lib.hid (below_setRow HE1.out (show w.heap.size ≤ G + 1 + 1 by have := HG.out; omega) #[.int .i64 0, .int .i64 0, .int .i64 0, .int .i64 0, .int .i64 0, .int .i64 0])
  refine wpList_store_row rfl 74 (.tmp 4) (.tmp 17) rfl (G + 1 + 1) #[.int .i64 0, .int .i64 0, .int .i64 0, .int .i64 0, .int .i64 0, .int .i64 0] rfl rfl 74 _ (HK1.out _ (.tail _ (.head _))) (by kernel_rfl) rfl (by kernel_rfl) ?_
  obtain ⟨W9, hW9⟩ : ∃ W9, W1.setRow (G + 1 + 1) #[.int .i64 0, .int .i64 0, .int .i64 0, .int .i64 0, .int .i64 0, .int .i64 0] = W9 := ⟨_, rfl⟩
  rw [hW9] at HKR HE9 ⊢
  clear hW9
  go_wp2
  exact bodyPost_ret (v := .tuple #[.agg #[.int .i64 0, .int .i64 0, .int .i64 0, .int .i64 0, .int .i64 0, .int .i64 0], .int .i64 E]) (results_cell_tmp_row Tryz.results37 _ _ (G + 1 + 1) 74 #[.int .i64 0, .int .i64 0, .int .i64 0, .int .i64 0, .int .i64 0, .int .i64 0] (0, 0) _ _ rfl rfl HKR.out Tryz.underlying74 rfl (by kernel_rfl)) rfl ⟨rfl, HE9.out⟩

set_option maxRecDepth 100000 in
set_option maxHeartbeats 4000000 in
theorem hweight_1 (E p r s t : Int) (ma mb mc me : Nat) (mx my mz : Int) (id al ah t0 t1 u0 u1 v0 v1 h0 h1 : Int) (A B C : Option Addr) (n c mm d l ee : Nat) (fh st x0 x1 d0 d1 : Int) (w : World)
  (C1 : ∀ W, Below w.heap.size w W → Calls Tryz.prog 44 #[.agg #[.int .i64 id, .int .i64 al, .int .i64 ah, .slice A n c, .slice B mm d, .slice C l ee, .int .i64 t0, .int .i64 t1, .int .i64 u0, .int .i64 u1, .int .i64 v0, .int .i64 v1, .int .i64 h0, .int .i64 h1], .agg #[.int .i64 fh, .int .i64 st, .int .i64 x0, .int .i64 x1, .int .i64 d0, .int .i64 d1]] W fun e w' => e = .returned (.tuple #[rv p r, .int .i64 E]) ∧ Below W.heap.size W w')
  (C2 : E = 0 → ∀ W, Calls Tryz.prog 75 #[.agg #[.int .i64 fh, .int .i64 st, .int .i64 x0, .int .i64 x1, .int .i64 d0, .int .i64 d1]] W fun e w' => e = .returned (.agg #[fnV ma, fnV mb, fnV mc, fnV 192, fnV me, .int .i64 mx, .int .i64 my, .int .i64 mz]) ∧ Below W.heap.size W w')
  (C3 : E = 0 → ∀ W, Below w.heap.size w W → Calls Tryz.prog 192 #[.agg #[.int .i64 id, .int .i64 al, .int .i64 ah, .slice A n c, .slice B mm d, .slice C l ee, .int .i64 t0, .int .i64 t1, .int .i64 u0, .int .i64 u1, .int .i64 v0, .int .i64 v1, .int .i64 h0, .int .i64 h1], .agg #[.int .i64 fh, .int .i64 st, .int .i64 x0, .int .i64 x1, .int .i64 d0, .int .i64 d1]] W fun e w' => e = .returned (rv s t) ∧ Below W.heap.size W w') :
  Calls Tryz.prog 37 #[.agg #[.int .i64 id, .int .i64 al, .int .i64 ah, .slice A n c, .slice B mm d, .slice C l ee, .int .i64 t0, .int .i64 t1, .int .i64 u0, .int .i64 u1, .int .i64 v0, .int .i64 v1, .int .i64 h0, .int .i64 h1], .agg #[.int .i64 fh, .int .i64 st, .int .i64 x0, .int .i64 x1, .int .i64 d0, .int .i64 d1]] w fun e w' => e = .returned (if E = 0 then wt p r al ah s t 0 else wt 0 0 0 0 0 0 E) ∧ Below w.heap.size w w' := by
 have HE := Lib.hid (show Below w.heap.size w (((w.alloc (.cells #[.int .i64 id, .int .i64 al, .int .i64 ah, .slice A n c, .slice B mm d, .slice C l ee, .int .i64 t0, .int .i64 t1, .int .i64 u0, .int .i64 u1, .int .i64 v0, .int .i64 v1, .int .i64 h0, .int .i64 h1] 35)).alloc (.cells #[.int .i64 fh, .int .i64 st, .int .i64 x0, .int .i64 x1, .int .i64 d0, .int .i64 d1] 55)).alloc (.cells #[.int .i64 0, .int .i64 0, .int .i64 0, .int .i64 0, .int .i64 0, .int .i64 0] 74)) from below_a3 (Below.refl _ _))
 have HK := Lib.hid (boxes3' w 35 55 74 #[.int .i64 id, .int .i64 al, .int .i64 ah, .slice A n c, .slice B mm d, .slice C l ee, .int .i64 t0, .int .i64 t1, .int .i64 u0, .int .i64 u1, .int .i64 v0, .int .i64 v1, .int .i64 h0, .int .i64 h1] #[.int .i64 fh, .int .i64 st, .int .i64 x0, .int .i64 x1, .int .i64 d0, .int .i64 d1] #[.int .i64 0, .int .i64 0, .int .i64 0, .int .i64 0, .int .i64 0, .int .i64 0])
 have D1 := Lib.hid C1
 have D2 := Lib.hid C2
 have D3 := Lib.hid C3
 clear C1 C2 C3
 obtain ⟨R, hR⟩ : ∃ R, (if E = 0 then wt p r al ah s t 0 else wt 0 0 0 0 0 0 E) = R := ⟨_, rfl⟩
 rw [hR]
 have HR := Lib.hid hR
 clear hR
 go_enter Tryz.func37, Tryz.ntmps37
 go_wp2_with fail
 obtain ⟨W0, hW0⟩ : ∃ W0, (((w.alloc (.cells #[.int .i64 id, .int .i64 al, .int .i64 ah, .slice A n c, .slice B mm d, .slice C l ee, .int .i64 t0, .int .i64 t1, .int .i64 u0, .int .i64 u1, .int .i64 v0, .int .i64 v1, .int .i64 h0, .int .i64 h1] 35)).alloc (.cells #[.int .i64 fh, .int .i64 st, .int .i64 x0, .int .i64 x1, .int .i64 d0, .int .i64 d1] 55)).alloc (.cells #[.int .i64 0, .int .i64 0, .int .i64 0, .int .i64 0, .int .i64 0, .int .i64 0] 74)) = W0 := ⟨_, rfl⟩
 rw [hW0] at HE HK ⊢
 clear hW0
 obtain ⟨G, hG⟩ : ∃ G, w.heap.size = G := ⟨_, rfl⟩
 rw [hG] at HK ⊢
 have HG := Lib.hid hG; clear hG
 refine (D1.out _ HE.out).mono ?_
 rintro e w1 ⟨rfl, hb⟩
 have HE1 := Lib.hid (below_then (below_then HE.out hb) (below_alloc1 w1 (.cells #[.int .i64 p, .int .i64 r] 30))); have HK1 := Lib.hid ((HK.out.on hb).new 30 #[.int .i64 p, .int .i64 r])
 have HDM := Lib.hid (boxes_lt (HK.out.on hb))
 clear hb HE HK D1
 go_upto_region 2 with fail
 obtain ⟨W1, hW⟩ : ∃ W1, w1.alloc (.cells #[.int .i64 p, .int .i64 r] 30) = W1 := ⟨_, rfl⟩
 rw [hW] at HE1 HK1 ⊢
 clear hW
 obtain ⟨M, hM⟩ : ∃ M, w1.heap.size = M := ⟨_, rfl⟩
 rw [hM] at HK1 HDM ⊢
 clear hM
 by_cases g : E = 0
 ·have eR := HR.out
  rw [if_pos g] at eR
  subst eR
  have X2 := Lib.hid (D2.out g)
  have X3 := Lib.hid (D3.out g)
  clear HR D2 D3
  subst g
  go_upto_region 4 with fail
  go_cut [8] (fun s8 wx => ∃ N3, s8 = .pointer (some ⟨N3, 0, none⟩) ∧ Boxes wx ((N3, 30, #[.int .i64 s, .int .i64 t]) :: ((M, 30, #[.int .i64 p, .int .i64 r]) :: [(G + 1 + 1, 74, #[.int .i64 0, .int .i64 0, .int .i64 0, .int .i64 0, .int .i64 0, .int .i64 0]), (G + 1, 55, #[.int .i64 fh, .int .i64 st, .int .i64 x0, .int .i64 x1, .int .i64 d0, .int .i64 d1]), (G, 35, #[.int .i64 id, .int .i64 al, .int .i64 ah, .slice A n c, .slice B mm d, .slice C l ee, .int .i64 t0, .int .i64 t1, .int .i64 u0, .int .i64 u1, .int .i64 v0, .int .i64 v1, .int .i64 h0, .int .i64 h1])] : List (Nat × TypeId × Array Value))) ∧ Below w.heap.size w wx ∧ G + 1 + 1 ≠ N3)
  case first =>
   have hS0 : Boxes W1.drew ((M, 30, #[.int .i64 p, .int .i64 r]) :: [(G + 1 + 1, 74, #[.int .i64 0, .int .i64 0, .int .i64 0, .int .i64 0, .int .i64 0, .int .i64 0]), (G + 1, 55, #[.int .i64 fh, .int .i64 st, .int .i64 x0, .int .i64 x1, .int .i64 d0, .int .i64 d1]), (G, 35, #[.int .i64 id, .int .i64 al, .int .i64 ah, .slice A n c, .slice B mm d, .slice C l ee, .int .i64 t0, .int .i64 t1, .int .i64 u0, .int .i64 u1, .int .i64 v0, .int .i64 v1, .int .i64 h0, .int .i64 h1])] : List (Nat × TypeId × Array Value)) := HK1.out
   have HEd := Lib.hid HE1.out.drew
   have HKd := Lib.hid hS0
   refine wp_region_held_drew (S := fun w' => Boxes w' ((M, 30, #[.int .i64 p, .int .i64 r]) :: [(G + 1 + 1, 74, #[.int .i64 0, .int .i64 0, .int .i64 0, .int .i64 0, .int .i64 0, .int .i64 0]), (G + 1, 55, #[.int .i64 fh, .int .i64 st, .int .i64 x0, .int .i64 x1, .int .i64 d0, .int .i64 d1]), (G, 35, #[.int .i64 id, .int .i64 al, .int .i64 ah, .slice A n c, .slice B mm d, .slice C l ee, .int .i64 t0, .int .i64 t1, .int .i64 u0, .int .i64 u1, .int .i64 v0, .int .i64 v1, .int .i64 h0, .int .i64 h1])] : List (Nat × TypeId × Array Value))) (by kernel_rfl) hS0 (fun hHeld => ?_)
   obtain ⟨W2, hW⟩ : ∃ W', W1.drew = W' := ⟨_, rfl⟩
   rw [hW] at HEd HKd hHeld ⊢
   clear hW hS0 HE1 HK1
   refine tK 19 (i := 0) (v := .agg #[.int .i64 fh, .int .i64 st, .int .i64 x0, .int .i64 x1, .int .i64 d0, .int .i64 d1]) rfl rfl (by kernel_rfl) ?_ hHeld ?_
   ·intro w hSw; have hz := (hSw _ (.tail _ (.tail _ (.head _)))); have c0 := hz.cell 0; have c1 := hz.cell 1; have c2 := hz.cell 2; have c3 := hz.cell 3; have c4 := hz.cell 4; have c5 := hz.cell 5; simp at c0 c1 c2 c3 c4 c5; clear hz hSw; go_simp; try with_reducible rfl
   simp only [uZ, uS]
   refine tK 22 (i := 3) (v := .agg #[.int .i64 id, .int .i64 al, .int .i64 ah, .slice A n c, .slice B mm d, .slice C l ee, .int .i64 t0, .int .i64 t1, .int .i64 u0, .int .i64 u1, .int .i64 v0, .int .i64 v1, .int .i64 h0, .int .i64 h1]) rfl rfl (by kernel_rfl) ?_ hHeld ?_
   ·intro w hSw; have hz := (hSw _ (.tail _ (.tail _ (.tail _ (.head _))))); have c0 := hz.cell 0; have c1 := hz.cell 1; have c2 := hz.cell 2; have c3 := hz.cell 3; have c4 := hz.cell 4; have c5 := hz.cell 5; have c6 := hz.cell 6; have c7 := hz.cell 7; have c8 := hz.cell 8; have c9 := hz.cell 9; have c10 := hz.cell 10; have c11 := hz.cell 11; have c12 := hz.cell 12; have c13 := hz.cell 13; simp at c0 c1 c2 c3 c4 c5 c6 c7 c8 c9 c10 c11 c12 c13; clear hz hSw; go_simp; try with_reducible rfl
   simp only [uZ, uS]
   refine tK 23 (i := 4) (v := .agg #[.int .i64 fh, .int .i64 st, .int .i64 x0, .int .i64 x1, .int .i64 d0, .int .i64 d1]) rfl rfl (by kernel_rfl) ?_ hHeld ?_
   ·intro w hSw; have hz := (hSw _ (.tail _ (.tail _ (.head _)))); have c0 := hz.cell 0; have c1 := hz.cell 1; have c2 := hz.cell 2; have c3 := hz.cell 3; have c4 := hz.cell 4; have c5 := hz.cell 5; simp at c0 c1 c2 c3 c4 c5; clear hz hSw; go_simp; try with_reducible rfl
   simp only [uZ, uS]
   refine wpAnyH_ready (rs := [1, 6]) (by kernel_rfl) (by simp) ?_
   refine AllReadyH.cons rfl (fun K hK => ?_) (AllReadyH.cons rfl (fun K hK => ?_) AllReadyH.nil)
   ·skip
    go_simp
    (with_reducible refine (X2.out _).mono ?_)
    rintro e y1 ⟨rfl, hb⟩
    have HE1 := Lib.hid (below_then HEd.out hb); have HK1 := Lib.hid (HKd.out.on hb)
    have hS := hHeld.on hb
    clear hb
    refine hK.out _ _ hS (fun hHeld2 => ?_)
    try simp only [Act.put, uA, uZ, uS]
    clear hS hK K hHeld HEd HKd
    have hHeld := hHeld2
    clear hHeld2
    refine tK 21 (i := 2) (v := fnV 192) rfl rfl (by kernel_rfl) ?_ hHeld ?_
    ·intro w hSw; clear hSw; go_simp; try with_reducible rfl
    simp only [uZ, uS]
    refine wpAnyH_ready (rs := [5, 6]) (by kernel_rfl) (by simp) ?_
    refine AllReadyH.cons rfl (fun K hK => ?_) (AllReadyH.cons rfl (fun K hK => ?_) AllReadyH.nil)
    ·skip
     go_simp
     (with_reducible refine (X3.out _ HE1.out).mono ?_)
     rintro e y2 ⟨rfl, hb⟩
     have HE2 := Lib.hid (below_then HE1.out hb); have HK2 := Lib.hid (HK1.out.on hb)
     have hS := hHeld.on hb
     clear hb
     refine hK.out _ _ hS (fun hHeld2 => ?_)
     try simp only [Act.put, uA, uZ, uS]
     clear hS hK K hHeld HE1 HK1
     have hHeld := hHeld2
     clear hHeld2
     refine wpAnyH_ready (rs := [6]) (by kernel_rfl) (by simp) ?_
     refine AllReadyH.cons rfl (fun K hK => ?_) AllReadyH.nil
     go_simp
     have HE3 := Lib.hid (below_then HE2.out (below_alloc1 y2 (.cells #[.int .i64 0, .int .i64 0] 30))); have HK3 := Lib.hid (HK2.out.new 30 #[.int .i64 0, .int .i64 0])
     have hS := hHeld.on (below_alloc1 y2 (.cells #[.int .i64 0, .int .i64 0] 30))
     have HD3 := Lib.hid (boxes_lt HK2.out)
     have HZ3 := Lib.hid HE2.out.size
     refine hK.out _ _ hS (fun hHeld2 => ?_)
     try simp only [Act.put, uA, uZ, uS]
     clear hS hK K hHeld HE2 HK2
     have hHeld := hHeld2
     clear hHeld2
     obtain ⟨y3, hW⟩ : ∃ W', y2.alloc (.cells #[.int .i64 0, .int .i64 0] 30) = W' := ⟨_, rfl⟩
     rw [hW] at HE3 HK3 hHeld ⊢
     clear hW
     obtain ⟨N3, hN⟩ : ∃ N, y2.heap.size = N := ⟨_, rfl⟩
     rw [hN] at HK3 HD3 HZ3 ⊢
     clear hN
     refine wpAnyH_ready (rs := [7]) (by kernel_rfl) (by simp) ?_
     refine AllReadyH.cons rfl (fun K hK => ?_) AllReadyH.nil
     rw [if_pos (by kernel_rfl)]
     have ne4 : ∀ zz ∈ (((M, 30, #[.int .i64 p, .int .i64 r]) :: [(G + 1 + 1, 74, #[.int .i64 0, .int .i64 0, .int .i64 0, .int .i64 0, .int .i64 0, .int .i64 0]), (G + 1, 55, #[.int .i64 fh, .int .i64 st, .int .i64 x0, .int .i64 x1, .int .i64 d0, .int .i64 d1]), (G, 35, #[.int .i64 id, .int .i64 al, .int .i64 ah, .slice A n c, .slice B mm d, .slice C l ee, .int .i64 t0, .int .i64 t1, .int .i64 u0, .int .i64 u1, .int .i64 v0, .int .i64 v1, .int .i64 h0, .int .i64 h1])] : List (Nat × TypeId × Array Value)) : List (Nat × TypeId × Array Value)), zz.1 ≠ N3 := HD3.out
     have HK4 : Hid (Boxes (y3.setRow N3 #[.int .i64 s, .int .i64 t]) ((N3, 30, #[.int .i64 s, .int .i64 t]) :: ((M, 30, #[.int .i64 p, .int .i64 r]) :: [(G + 1 + 1, 74, #[.int .i64 0, .int .i64 0, .int .i64 0, .int .i64 0, .int .i64 0, .int .i64 0]), (G + 1, 55, #[.int .i64 fh, .int .i64 st, .int .i64 x0, .int .i64 x1, .int .i64 d0, .int .i64 d1]), (G, 35, #[.int .i64 id, .int .i64 al, .int .i64 ah, .slice A n c, .slice B mm d, .slice C l ee, .int .i64 t0, .int .i64 t1, .int .i64 u0, .int .i64 u1, .int .i64 v0, .int .i64 v1, .int .i64 h0, .int .i64 h1])] : List (Nat × TypeId × Array Value)))) := Lib.hid (Boxes.row HK3.out (.head _) (fun p hp => ⟨.tail _ hp, ne4 p hp⟩) #[.int .i64 s, .int .i64 t])
     have HE4 := Lib.hid (below_setRow HE3.out (show w.heap.size ≤ N3 from HZ3.out) #[.int .i64 s, .int .i64 t])
     have hS := hHeld.farRow (g := N3) (fun p hp => ne4 p (hp)) #[.int .i64 s, .int .i64 t]
     refine wp_store_row 30 (.tmp 8) (.tmp 24) rfl N3 #[.int .i64 s, .int .i64 t] rfl rfl 30 _ (HK3.out _ (.head _)) (by kernel_rfl) rfl (by kernel_rfl) ?_
     obtain ⟨y4, hW⟩ : ∃ W', y3.setRow N3 #[.int .i64 s, .int .i64 t] = W' := ⟨_, rfl⟩
     rw [hW] at HE4 HK4 hS ⊢
     refine hK.out _ _ hS (fun hHeld2 => ?_)
     try simp only [Act.put, uA, uZ, uS]
     clear hW hS hK K hHeld ne4 HE3 HK3
     have hHeld := hHeld2
     clear hHeld2
     refine wpAnyH_done (by kernel_rfl) ?_ _
     go_wp2_with fail
     go_meet
     exact ⟨N3, rfl, HK4.out, HE4.out, HD3.out (_, _, _) (.tail _ (.head _))⟩
    ·skip
     go_simp
     have HE5 := Lib.hid (below_then HE1.out (below_alloc1 y1 (.cells #[.int .i64 0, .int .i64 0] 30))); have HK5 := Lib.hid (HK1.out.new 30 #[.int .i64 0, .int .i64 0])
     have hS := hHeld.on (below_alloc1 y1 (.cells #[.int .i64 0, .int .i64 0] 30))
     have HD5 := Lib.hid (boxes_lt HK1.out)
     have HZ5 := Lib.hid HE1.out.size
     refine hK.out _ _ hS (fun hHeld2 => ?_)
     try simp only [Act.put, uA, uZ, uS]
     clear hS hK K hHeld HE1 HK1
     have hHeld := hHeld2
     clear hHeld2
     obtain ⟨y5, hW⟩ : ∃ W', y1.alloc (.cells #[.int .i64 0, .int .i64 0] 30) = W' := ⟨_, rfl⟩
     rw [hW] at HE5 HK5 hHeld ⊢
     clear hW
     obtain ⟨N5, hN⟩ : ∃ N, y1.heap.size = N := ⟨_, rfl⟩
     rw [hN] at HK5 HD5 HZ5 ⊢
     clear hN
     refine wpAnyH_ready (rs := [5]) (by kernel_rfl) (by simp) ?_
     refine AllReadyH.cons rfl (fun K hK => ?_) AllReadyH.nil
     go_simp
     (with_reducible refine (X3.out _ HE5.out).mono ?_)
     rintro e y6 ⟨rfl, hb⟩
     have HE6 := Lib.hid (below_then HE5.out hb); have HK6 := Lib.hid (HK5.out.on hb)
     have hS := hHeld.on hb
     clear hb
     refine hK.out _ _ hS (fun hHeld2 => ?_)
     try simp only [Act.put, uA, uZ, uS]
     clear hS hK K hHeld HE5 HK5
     have hHeld := hHeld2
     clear hHeld2
     refine wpAnyH_ready (rs := [7]) (by kernel_rfl) (by simp) ?_
     refine AllReadyH.cons rfl (fun K hK => ?_) AllReadyH.nil
     rw [if_pos (by kernel_rfl)]
     have ne7 : ∀ zz ∈ (((M, 30, #[.int .i64 p, .int .i64 r]) :: [(G + 1 + 1, 74, #[.int .i64 0, .int .i64 0, .int .i64 0, .int .i64 0, .int .i64 0, .int .i64 0]), (G + 1, 55, #[.int .i64 fh, .int .i64 st, .int .i64 x0, .int .i64 x1, .int .i64 d0, .int .i64 d1]), (G, 35, #[.int .i64 id, .int .i64 al, .int .i64 ah, .slice A n c, .slice B mm d, .slice C l ee, .int .i64 t0, .int .i64 t1, .int .i64 u0, .int .i64 u1, .int .i64 v0, .int .i64 v1, .int .i64 h0, .int .i64 h1])] : List (Nat × TypeId × Array Value)) : List (Nat × TypeId × Array Value)), zz.1 ≠ N5 := HD5.out
     have HK7 : Hid (Boxes (y6.setRow N5 #[.int .i64 s, .int .i64 t]) ((N5, 30, #[.int .i64 s, .int .i64 t]) :: ((M, 30, #[.int .i64 p, .int .i64 r]) :: [(G + 1 + 1, 74, #[.int .i64 0, .int .i64 0, .int .i64 0, .int .i64 0, .int .i64 0, .int .i64 0]), (G + 1, 55, #[.int .i64 fh, .int .i64 st, .int .i64 x0, .int .i64 x1, .int .i64 d0, .int .i64 d1]), (G, 35, #[.int .i64 id, .int .i64 al, .int .i64 ah, .slice A n c, .slice B mm d, .slice C l ee, .int .i64 t0, .int .i64 t1, .int .i64 u0, .int .i64 u1, .int .i64 v0, .int .i64 v1, .int .i64 h0, .int .i64 h1])] : List (Nat × TypeId × Array Value)))) := Lib.hid (Boxes.row HK6.out (.head _) (fun p hp => ⟨.tail _ hp, ne7 p hp⟩) #[.int .i64 s, .int .i64 t])
     have HE7 := Lib.hid (below_setRow HE6.out (show w.heap.size ≤ N5 from HZ5.out) #[.int .i64 s, .int .i64 t])
     have hS := hHeld.farRow (g := N5) (fun p hp => ne7 p (hp)) #[.int .i64 s, .int .i64 t]
     refine wp_store_row 30 (.tmp 8) (.tmp 24) rfl N5 #[.int .i64 s, .int .i64 t] rfl rfl 30 _ (HK6.out _ (.head _)) (by kernel_rfl) rfl (by kernel_rfl) ?_
     obtain ⟨y7, hW⟩ : ∃ W', y6.setRow N5 #[.int .i64 s, .int .i64 t] = W' := ⟨_, rfl⟩
     rw [hW] at HE7 HK7 hS ⊢
     refine hK.out _ _ hS (fun hHeld2 => ?_)
     try simp only [Act.put, uA, uZ, uS]
     clear hW hS hK K hHeld ne7 HE6 HK6
     have hHeld := hHeld2
     clear hHeld2
     refine wpAnyH_done (by kernel_rfl) ?_ _
     go_wp2_with fail
     go_meet
     exact ⟨N5, rfl, HK7.out, HE7.out, HD5.out (_, _, _) (.tail _ (.head _))⟩
   ·skip
    go_simp
    have HE8 := Lib.hid (below_then HEd.out (below_alloc1 W2 (.cells #[.int .i64 0, .int .i64 0] 30))); have HK8 := Lib.hid (HKd.out.new 30 #[.int .i64 0, .int .i64 0])
    have hS := hHeld.on (below_alloc1 W2 (.cells #[.int .i64 0, .int .i64 0] 30))
    have HD8 := Lib.hid (boxes_lt HKd.out)
    have HZ8 := Lib.hid HEd.out.size
    refine hK.out _ _ hS (fun hHeld2 => ?_)
    try simp only [Act.put, uA, uZ, uS]
    clear hS hK K hHeld HEd HKd
    have hHeld := hHeld2
    clear hHeld2
    obtain ⟨y8, hW⟩ : ∃ W', W2.alloc (.cells #[.int .i64 0, .int .i64 0] 30) = W' := ⟨_, rfl⟩
    rw [hW] at HE8 HK8 hHeld ⊢
    clear hW
    obtain ⟨N8, hN⟩ : ∃ N, W2.heap.size = N := ⟨_, rfl⟩
    rw [hN] at HK8 HD8 HZ8 ⊢
    clear hN
    refine wpAnyH_ready (rs := [1]) (by kernel_rfl) (by simp) ?_
    refine AllReadyH.cons rfl (fun K hK => ?_) AllReadyH.nil
    go_simp
    (with_reducible refine (X2.out _).mono ?_)
    rintro e y9 ⟨rfl, hb⟩
    have HE9 := Lib.hid (below_then HE8.out hb); have HK9 := Lib.hid (HK8.out.on hb)
    have hS := hHeld.on hb
    clear hb
    refine hK.out _ _ hS (fun hHeld2 => ?_)
    try simp only [Act.put, uA, uZ, uS]
    clear hS hK K hHeld HE8 HK8
    have hHeld := hHeld2
    clear hHeld2
    refine tK 21 (i := 2) (v := fnV 192) rfl rfl (by kernel_rfl) ?_ hHeld ?_
    ·intro w hSw; clear hSw; go_simp; try with_reducible rfl
    simp only [uZ, uS]
    refine wpAnyH_ready (rs := [5]) (by kernel_rfl) (by simp) ?_
    refine AllReadyH.cons rfl (fun K hK => ?_) AllReadyH.nil
    go_simp
    (with_reducible refine (X3.out _ HE9.out).mono ?_)
    rintro e y10 ⟨rfl, hb⟩
    have HE10 := Lib.hid (below_then HE9.out hb); have HK10 := Lib.hid (HK9.out.on hb)
    have hS := hHeld.on hb
    clear hb
    refine hK.out _ _ hS (fun hHeld2 => ?_)
    try simp only [Act.put, uA, uZ, uS]
    clear hS hK K hHeld HE9 HK9
    have hHeld := hHeld2
    clear hHeld2
    refine wpAnyH_ready (rs := [7]) (by kernel_rfl) (by simp) ?_
    refine AllReadyH.cons rfl (fun K hK => ?_) AllReadyH.nil
    rw [if_pos (by kernel_rfl)]
    have ne11 : ∀ zz ∈ (((M, 30, #[.int .i64 p, .int .i64 r]) :: [(G + 1 + 1, 74, #[.int .i64 0, .int .i64 0, .int .i64 0, .int .i64 0, .int .i64 0, .int .i64 0]), (G + 1, 55, #[.int .i64 fh, .int .i64 st, .int .i64 x0, .int .i64 x1, .int .i64 d0, .int .i64 d1]), (G, 35, #[.int .i64 id, .int .i64 al, .int .i64 ah, .slice A n c, .slice B mm d, .slice C l ee, .int .i64 t0, .int .i64 t1, .int .i64 u0, .int .i64 u1, .int .i64 v0, .int .i64 v1, .int .i64 h0, .int .i64 h1])] : List (Nat × TypeId × Array Value)) : List (Nat × TypeId × Array Value)), zz.1 ≠ N8 := HD8.out
    have HK11 : Hid (Boxes (y10.setRow N8 #[.int .i64 s, .int .i64 t]) ((N8, 30, #[.int .i64 s, .int .i64 t]) :: ((M, 30, #[.int .i64 p, .int .i64 r]) :: [(G + 1 + 1, 74, #[.int .i64 0, .int .i64 0, .int .i64 0, .int .i64 0, .int .i64 0, .int .i64 0]), (G + 1, 55, #[.int .i64 fh, .int .i64 st, .int .i64 x0, .int .i64 x1, .int .i64 d0, .int .i64 d1]), (G, 35, #[.int .i64 id, .int .i64 al, .int .i64 ah, .slice A n c, .slice B mm d, .slice C l ee, .int .i64 t0, .int .i64 t1, .int .i64 u0, .int .i64 u1, .int .i64 v0, .int .i64 v1, .int .i64 h0, .int .i64 h1])] : List (Nat × TypeId × Array Value)))) := Lib.hid (Boxes.row HK10.out (.head _) (fun p hp => ⟨.tail _ hp, ne11 p hp⟩) #[.int .i64 s, .int .i64 t])
    have HE11 := Lib.hid (below_setRow HE10.out (show w.heap.size ≤ N8 from HZ8.out) #[.int .i64 s, .int .i64 t])
    have hS := hHeld.farRow (g := N8) (fun p hp => ne11 p (hp)) #[.int .i64 s, .int .i64 t]
    refine wp_store_row 30 (.tmp 8) (.tmp 24) rfl N8 #[.int .i64 s, .int .i64 t] rfl rfl 30 _ (HK10.out _ (.head _)) (by kernel_rfl) rfl (by kernel_rfl) ?_
    obtain ⟨y11, hW⟩ : ∃ W', y10.setRow N8 #[.int .i64 s, .int .i64 t] = W' := ⟨_, rfl⟩
    rw [hW] at HE11 HK11 hS ⊢
    refine hK.out _ _ hS (fun hHeld2 => ?_)
    try simp only [Act.put, uA, uZ, uS]
    clear hW hS hK K hHeld ne11 HE10 HK10
    have hHeld := hHeld2
    clear hHeld2
    refine wpAnyH_done (by kernel_rfl) ?_ _
    go_wp2_with fail
    go_meet
    exact ⟨N8, rfl, HK11.out, HE11.out, HD8.out (_, _, _) (.tail _ (.head _))⟩
  case rest =>
   obtain ⟨N3, rfl, hB, hE, n3⟩ := hcut
   have HE5 := Lib.hid hE
   have HK5 := Lib.hid hB
   rename World => W5
   clear hB hE n3 HE1 HK1 HDM X2 X3
   have aa := HK5.out _ (.head _)
   have aa0 := aa.cell 0
   have aa1 := aa.cell 1
   simp at aa0 aa1
   clear aa
   have ab := HK5.out _ (.tail _ (.head _))
   have ab0 := ab.cell 0
   have ab1 := ab.cell 1
   simp at ab0 ab1
   clear ab
   have ac := HK5.out _ (.tail _ (.tail _ (.tail _ (.tail _ (.head _)))))
   have ac1 := ac.cell 1
   have ac2 := ac.cell 2
   simp at ac1 ac2
   clear ac
   go_upto_region 5 with fail
   refine wp_region_lit ?_
   refine wpList_plain rfl (fun K hK => ?_)
   go_simp
   refine hK _ _ ?_
   clear hK K
   refine wpList_plain rfl (fun K hK => ?_)
   go_simp
   refine hK _ _ ?_
   clear hK K
   refine wpList_plain rfl (fun K hK => ?_)
   go_simp
   refine hK _ _ ?_
   clear hK K
   refine wpList_plain rfl (fun K hK => ?_)
   go_simp
   refine hK _ _ ?_
   clear hK K
   refine wpList_plain rfl (fun K hK => ?_)
   go_simp
   refine hK _ _ ?_
   clear hK K
   have HKR : Hid (Blk (W5.setRow (G + 1 + 1) #[.int .i64 p, .int .i64 r, .int .i64 al, .int .i64 ah, .int .i64 s, .int .i64 t]) (G + 1 + 1) 74 #[.int .i64 p, .int .i64 r, .int .i64 al, .int .i64 ah, .int .i64 s, .int .i64 t]) := Lib.hid (setRow_heap W5 (G + 1 + 1) _ _ 74 _ (HK5.out _ (.tail _ (.tail _ (.head _)))))
   have HE9 := Lib.hid (below_setRow HE5.out (show w.heap.size ≤ G + 1 + 1 by have := HG.out; omega) #[.int .i64 p, .int .i64 r, .int .i64 al, .int .i64 ah, .int .i64 s, .int .i64 t])
   refine wpList_store_row rfl 74 (.tmp 4) (.tmp 29) rfl (G + 1 + 1) #[.int .i64 p, .int .i64 r, .int .i64 al, .int .i64 ah, .int .i64 s, .int .i64 t] rfl rfl 74 _ (HK5.out _ (.tail _ (.tail _ (.head _)))) (by kernel_rfl) rfl (by kernel_rfl) ?_
   obtain ⟨W9, hW9⟩ : ∃ W9, W5.setRow (G + 1 + 1) #[.int .i64 p, .int .i64 r, .int .i64 al, .int .i64 ah, .int .i64 s, .int .i64 t] = W9 := ⟨_, rfl⟩
   rw [hW9] at HKR HE9 ⊢
   clear hW9
   go_wp2
   exact bodyPost_ret (v := .tuple #[.agg #[.int .i64 p, .int .i64 r, .int .i64 al, .int .i64 ah, .int .i64 s, .int .i64 t], .int .i64 0]) (results_cell_tmp_row Tryz.results37 _ _ (G + 1 + 1) 74 #[.int .i64 p, .int .i64 r, .int .i64 al, .int .i64 ah, .int .i64 s, .int .i64 t] (0, 0) _ _ rfl rfl HKR.out Tryz.underlying74 rfl (by kernel_rfl)) rfl ⟨rfl, HE9.out⟩
 ·have eR := HR.out
  rw [if_neg g] at eR
  subst eR
  clear HR D2 D3
  go_upto_region 3 with fail
  refine wp_region_lit ?_
  refine wpList_plain rfl (fun K hK => ?_)
  go_simp
  refine hK _ _ ?_
  clear hK K
  refine wpList_plain rfl (fun K hK => ?_)
  go_simp
  refine hK _ _ ?_
  clear hK K
  have HKR : Hid (Blk (W1.setRow (G + 1 + 1) #[.int .i64 0, .int .i64 0, .int .i64 0, .int .i64 0, .int .i64 0, .int .i64 0]) (G + 1 + 1) 74 #[.int .i64 0, .int .i64 0, .int .i64 0, .int .i64 0, .int .i64 0, .int .i64 0]) := Lib.hid (setRow_heap W1 (G + 1 + 1) _ _ 74 _ (HK1.out _ (.tail _ (.head _))))
  have HE9 := Lib.hid (below_setRow HE1.out (show w.heap.size ≤ G + 1 + 1 by have := HG.out; omega) #[.int .i64 0, .int .i64 0, .int .i64 0, .int .i64 0, .int .i64 0, .int .i64 0])
  refine wpList_store_row rfl 74 (.tmp 4) (.tmp 17) rfl (G + 1 + 1) #[.int .i64 0, .int .i64 0, .int .i64 0, .int .i64 0, .int .i64 0, .int .i64 0] rfl rfl 74 _ (HK1.out _ (.tail _ (.head _))) (by kernel_rfl) rfl (by kernel_rfl) ?_
  obtain ⟨W9, hW9⟩ : ∃ W9, W1.setRow (G + 1 + 1) #[.int .i64 0, .int .i64 0, .int .i64 0, .int .i64 0, .int .i64 0, .int .i64 0] = W9 := ⟨_, rfl⟩
  rw [hW9] at HKR HE9 ⊢
  clear hW9
  go_wp2
  exact bodyPost_ret (v := .tuple #[.agg #[.int .i64 0, .int .i64 0, .int .i64 0, .int .i64 0, .int .i64 0, .int .i64 0], .int .i64 E]) (results_cell_tmp_row Tryz.results37 _ _ (G + 1 + 1) 74 #[.int .i64 0, .int .i64 0, .int .i64 0, .int .i64 0, .int .i64 0, .int .i64 0] (0, 0) _ _ rfl rfl HKR.out Tryz.underlying74 rfl (by kernel_rfl)) rfl ⟨rfl, HE9.out⟩

set_option maxRecDepth 100000 in
set_option maxHeartbeats 4000000 in
theorem hweight_2 (E p r s t : Int) (ma mb mc me : Nat) (mx my mz : Int) (id al ah t0 t1 u0 u1 v0 v1 h0 h1 : Int) (A B C : Option Addr) (n c mm d l ee : Nat) (fh st x0 x1 d0 d1 : Int) (w : World)
  (C1 : ∀ W, Below w.heap.size w W → Calls Tryz.prog 44 #[.agg #[.int .i64 id, .int .i64 al, .int .i64 ah, .slice A n c, .slice B mm d, .slice C l ee, .int .i64 t0, .int .i64 t1, .int .i64 u0, .int .i64 u1, .int .i64 v0, .int .i64 v1, .int .i64 h0, .int .i64 h1], .agg #[.int .i64 fh, .int .i64 st, .int .i64 x0, .int .i64 x1, .int .i64 d0, .int .i64 d1]] W fun e w' => e = .returned (.tuple #[rv p r, .int .i64 E]) ∧ Below W.heap.size W w')
  (C2 : E = 0 → ∀ W, Calls Tryz.prog 75 #[.agg #[.int .i64 fh, .int .i64 st, .int .i64 x0, .int .i64 x1, .int .i64 d0, .int .i64 d1]] W fun e w' => e = .returned (.agg #[fnV ma, fnV mb, fnV mc, fnV 196, fnV me, .int .i64 mx, .int .i64 my, .int .i64 mz]) ∧ Below W.heap.size W w')
  (C3 : E = 0 → ∀ W, Below w.heap.size w W → Calls Tryz.prog 196 #[.agg #[.int .i64 id, .int .i64 al, .int .i64 ah, .slice A n c, .slice B mm d, .slice C l ee, .int .i64 t0, .int .i64 t1, .int .i64 u0, .int .i64 u1, .int .i64 v0, .int .i64 v1, .int .i64 h0, .int .i64 h1], .agg #[.int .i64 fh, .int .i64 st, .int .i64 x0, .int .i64 x1, .int .i64 d0, .int .i64 d1]] W fun e w' => e = .returned (rv s t) ∧ Below W.heap.size W w') :
  Calls Tryz.prog 37 #[.agg #[.int .i64 id, .int .i64 al, .int .i64 ah, .slice A n c, .slice B mm d, .slice C l ee, .int .i64 t0, .int .i64 t1, .int .i64 u0, .int .i64 u1, .int .i64 v0, .int .i64 v1, .int .i64 h0, .int .i64 h1], .agg #[.int .i64 fh, .int .i64 st, .int .i64 x0, .int .i64 x1, .int .i64 d0, .int .i64 d1]] w fun e w' => e = .returned (if E = 0 then wt p r al ah s t 0 else wt 0 0 0 0 0 0 E) ∧ Below w.heap.size w w' := by
 have HE := Lib.hid (show Below w.heap.size w (((w.alloc (.cells #[.int .i64 id, .int .i64 al, .int .i64 ah, .slice A n c, .slice B mm d, .slice C l ee, .int .i64 t0, .int .i64 t1, .int .i64 u0, .int .i64 u1, .int .i64 v0, .int .i64 v1, .int .i64 h0, .int .i64 h1] 35)).alloc (.cells #[.int .i64 fh, .int .i64 st, .int .i64 x0, .int .i64 x1, .int .i64 d0, .int .i64 d1] 55)).alloc (.cells #[.int .i64 0, .int .i64 0, .int .i64 0, .int .i64 0, .int .i64 0, .int .i64 0] 74)) from below_a3 (Below.refl _ _))
 have HK := Lib.hid (boxes3' w 35 55 74 #[.int .i64 id, .int .i64 al, .int .i64 ah, .slice A n c, .slice B mm d, .slice C l ee, .int .i64 t0, .int .i64 t1, .int .i64 u0, .int .i64 u1, .int .i64 v0, .int .i64 v1, .int .i64 h0, .int .i64 h1] #[.int .i64 fh, .int .i64 st, .int .i64 x0, .int .i64 x1, .int .i64 d0, .int .i64 d1] #[.int .i64 0, .int .i64 0, .int .i64 0, .int .i64 0, .int .i64 0, .int .i64 0])
 have D1 := Lib.hid C1
 have D2 := Lib.hid C2
 have D3 := Lib.hid C3
 clear C1 C2 C3
 obtain ⟨R, hR⟩ : ∃ R, (if E = 0 then wt p r al ah s t 0 else wt 0 0 0 0 0 0 E) = R := ⟨_, rfl⟩
 rw [hR]
 have HR := Lib.hid hR
 clear hR
 go_enter Tryz.func37, Tryz.ntmps37
 go_wp2_with fail
 obtain ⟨W0, hW0⟩ : ∃ W0, (((w.alloc (.cells #[.int .i64 id, .int .i64 al, .int .i64 ah, .slice A n c, .slice B mm d, .slice C l ee, .int .i64 t0, .int .i64 t1, .int .i64 u0, .int .i64 u1, .int .i64 v0, .int .i64 v1, .int .i64 h0, .int .i64 h1] 35)).alloc (.cells #[.int .i64 fh, .int .i64 st, .int .i64 x0, .int .i64 x1, .int .i64 d0, .int .i64 d1] 55)).alloc (.cells #[.int .i64 0, .int .i64 0, .int .i64 0, .int .i64 0, .int .i64 0, .int .i64 0] 74)) = W0 := ⟨_, rfl⟩
 rw [hW0] at HE HK ⊢
 clear hW0
 obtain ⟨G, hG⟩ : ∃ G, w.heap.size = G := ⟨_, rfl⟩
 rw [hG] at HK ⊢
 have HG := Lib.hid hG; clear hG
 refine (D1.out _ HE.out).mono ?_
 rintro e w1 ⟨rfl, hb⟩
 have HE1 := Lib.hid (below_then (below_then HE.out hb) (below_alloc1 w1 (.cells #[.int .i64 p, .int .i64 r] 30))); have HK1 := Lib.hid ((HK.out.on hb).new 30 #[.int .i64 p, .int .i64 r])
 have HDM := Lib.hid (boxes_lt (HK.out.on hb))
 clear hb HE HK D1
 go_upto_region 2 with fail
 obtain ⟨W1, hW⟩ : ∃ W1, w1.alloc (.cells #[.int .i64 p, .int .i64 r] 30) = W1 := ⟨_, rfl⟩
 rw [hW] at HE1 HK1 ⊢
 clear hW
 obtain ⟨M, hM⟩ : ∃ M, w1.heap.size = M := ⟨_, rfl⟩
 rw [hM] at HK1 HDM ⊢
 clear hM
 by_cases g : E = 0
 ·have eR := HR.out
  rw [if_pos g] at eR
  subst eR
  have X2 := Lib.hid (D2.out g)
  have X3 := Lib.hid (D3.out g)
  clear HR D2 D3
  subst g
  go_upto_region 4 with fail
  go_cut [8] (fun s8 wx => ∃ N3, s8 = .pointer (some ⟨N3, 0, none⟩) ∧ Boxes wx ((N3, 30, #[.int .i64 s, .int .i64 t]) :: ((M, 30, #[.int .i64 p, .int .i64 r]) :: [(G + 1 + 1, 74, #[.int .i64 0, .int .i64 0, .int .i64 0, .int .i64 0, .int .i64 0, .int .i64 0]), (G + 1, 55, #[.int .i64 fh, .int .i64 st, .int .i64 x0, .int .i64 x1, .int .i64 d0, .int .i64 d1]), (G, 35, #[.int .i64 id, .int .i64 al, .int .i64 ah, .slice A n c, .slice B mm d, .slice C l ee, .int .i64 t0, .int .i64 t1, .int .i64 u0, .int .i64 u1, .int .i64 v0, .int .i64 v1, .int .i64 h0, .int .i64 h1])] : List (Nat × TypeId × Array Value))) ∧ Below w.heap.size w wx ∧ G + 1 + 1 ≠ N3)
  case first =>
   have hS0 : Boxes W1.drew ((M, 30, #[.int .i64 p, .int .i64 r]) :: [(G + 1 + 1, 74, #[.int .i64 0, .int .i64 0, .int .i64 0, .int .i64 0, .int .i64 0, .int .i64 0]), (G + 1, 55, #[.int .i64 fh, .int .i64 st, .int .i64 x0, .int .i64 x1, .int .i64 d0, .int .i64 d1]), (G, 35, #[.int .i64 id, .int .i64 al, .int .i64 ah, .slice A n c, .slice B mm d, .slice C l ee, .int .i64 t0, .int .i64 t1, .int .i64 u0, .int .i64 u1, .int .i64 v0, .int .i64 v1, .int .i64 h0, .int .i64 h1])] : List (Nat × TypeId × Array Value)) := HK1.out
   have HEd := Lib.hid HE1.out.drew
   have HKd := Lib.hid hS0
   refine wp_region_held_drew (S := fun w' => Boxes w' ((M, 30, #[.int .i64 p, .int .i64 r]) :: [(G + 1 + 1, 74, #[.int .i64 0, .int .i64 0, .int .i64 0, .int .i64 0, .int .i64 0, .int .i64 0]), (G + 1, 55, #[.int .i64 fh, .int .i64 st, .int .i64 x0, .int .i64 x1, .int .i64 d0, .int .i64 d1]), (G, 35, #[.int .i64 id, .int .i64 al, .int .i64 ah, .slice A n c, .slice B mm d, .slice C l ee, .int .i64 t0, .int .i64 t1, .int .i64 u0, .int .i64 u1, .int .i64 v0, .int .i64 v1, .int .i64 h0, .int .i64 h1])] : List (Nat × TypeId × Array Value))) (by kernel_rfl) hS0 (fun hHeld => ?_)
   obtain ⟨W2, hW⟩ : ∃ W', W1.drew = W' := ⟨_, rfl⟩
   rw [hW] at HEd HKd hHeld ⊢
   clear hW hS0 HE1 HK1
   refine tK 19 (i := 0) (v := .agg #[.int .i64 fh, .int .i64 st, .int .i64 x0, .int .i64 x1, .int .i64 d0, .int .i64 d1]) rfl rfl (by kernel_rfl) ?_ hHeld ?_
   ·intro w hSw; have hz := (hSw _ (.tail _ (.tail _ (.head _)))); have c0 := hz.cell 0; have c1 := hz.cell 1; have c2 := hz.cell 2; have c3 := hz.cell 3; have c4 := hz.cell 4; have c5 := hz.cell 5; simp at c0 c1 c2 c3 c4 c5; clear hz hSw; go_simp; try with_reducible rfl
   simp only [uZ, uS]
   refine tK 22 (i := 3) (v := .agg #[.int .i64 id, .int .i64 al, .int .i64 ah, .slice A n c, .slice B mm d, .slice C l ee, .int .i64 t0, .int .i64 t1, .int .i64 u0, .int .i64 u1, .int .i64 v0, .int .i64 v1, .int .i64 h0, .int .i64 h1]) rfl rfl (by kernel_rfl) ?_ hHeld ?_
   ·intro w hSw; have hz := (hSw _ (.tail _ (.tail _ (.tail _ (.head _))))); have c0 := hz.cell 0; have c1 := hz.cell 1; have c2 := hz.cell 2; have c3 := hz.cell 3; have c4 := hz.cell 4; have c5 := hz.cell 5; have c6 := hz.cell 6; have c7 := hz.cell 7; have c8 := hz.cell 8; have c9 := hz.cell 9; have c10 := hz.cell 10; have c11 := hz.cell 11; have c12 := hz.cell 12; have c13 := hz.cell 13; simp at c0 c1 c2 c3 c4 c5 c6 c7 c8 c9 c10 c11 c12 c13; clear hz hSw; go_simp; try with_reducible rfl
   simp only [uZ, uS]
   refine tK 23 (i := 4) (v := .agg #[.int .i64 fh, .int .i64 st, .int .i64 x0, .int .i64 x1, .int .i64 d0, .int .i64 d1]) rfl rfl (by kernel_rfl) ?_ hHeld ?_
   ·intro w hSw; have hz := (hSw _ (.tail _ (.tail _ (.head _)))); have c0 := hz.cell 0; have c1 := hz.cell 1; have c2 := hz.cell 2; have c3 := hz.cell 3; have c4 := hz.cell 4; have c5 := hz.cell 5; simp at c0 c1 c2 c3 c4 c5; clear hz hSw; go_simp; try with_reducible rfl
   simp only [uZ, uS]
   refine wpAnyH_ready (rs := [1, 6]) (by kernel_rfl) (by simp) ?_
   refine AllReadyH.cons rfl (fun K hK => ?_) (AllReadyH.cons rfl (fun K hK => ?_) AllReadyH.nil)
   ·skip
    go_simp
    (with_reducible refine (X2.out _).mono ?_)
    rintro e y1 ⟨rfl, hb⟩
    have HE1 := Lib.hid (below_then HEd.out hb); have HK1 := Lib.hid (HKd.out.on hb)
    have hS := hHeld.on hb
    clear hb
    refine hK.out _ _ hS (fun hHeld2 => ?_)
    try simp only [Act.put, uA, uZ, uS]
    clear hS hK K hHeld HEd HKd
    have hHeld := hHeld2
    clear hHeld2
    refine tK 21 (i := 2) (v := fnV 196) rfl rfl (by kernel_rfl) ?_ hHeld ?_
    ·intro w hSw; clear hSw; go_simp; try with_reducible rfl
    simp only [uZ, uS]
    refine wpAnyH_ready (rs := [5, 6]) (by kernel_rfl) (by simp) ?_
    refine AllReadyH.cons rfl (fun K hK => ?_) (AllReadyH.cons rfl (fun K hK => ?_) AllReadyH.nil)
    ·skip
     go_simp
     (with_reducible refine (X3.out _ HE1.out).mono ?_)
     rintro e y2 ⟨rfl, hb⟩
     have HE2 := Lib.hid (below_then HE1.out hb); have HK2 := Lib.hid (HK1.out.on hb)
     have hS := hHeld.on hb
     clear hb
     refine hK.out _ _ hS (fun hHeld2 => ?_)
     try simp only [Act.put, uA, uZ, uS]
     clear hS hK K hHeld HE1 HK1
     have hHeld := hHeld2
     clear hHeld2
     refine wpAnyH_ready (rs := [6]) (by kernel_rfl) (by simp) ?_
     refine AllReadyH.cons rfl (fun K hK => ?_) AllReadyH.nil
     go_simp
     have HE3 := Lib.hid (below_then HE2.out (below_alloc1 y2 (.cells #[.int .i64 0, .int .i64 0] 30))); have HK3 := Lib.hid (HK2.out.new 30 #[.int .i64 0, .int .i64 0])
     have hS := hHeld.on (below_alloc1 y2 (.cells #[.int .i64 0, .int .i64 0] 30))
     have HD3 := Lib.hid (boxes_lt HK2.out)
     have HZ3 := Lib.hid HE2.out.size
     refine hK.out _ _ hS (fun hHeld2 => ?_)
     try simp only [Act.put, uA, uZ, uS]
     clear hS hK K hHeld HE2 HK2
     have hHeld := hHeld2
     clear hHeld2
     obtain ⟨y3, hW⟩ : ∃ W', y2.alloc (.cells #[.int .i64 0, .int .i64 0] 30) = W' := ⟨_, rfl⟩
     rw [hW] at HE3 HK3 hHeld ⊢
     clear hW
     obtain ⟨N3, hN⟩ : ∃ N, y2.heap.size = N := ⟨_, rfl⟩
     rw [hN] at HK3 HD3 HZ3 ⊢
     clear hN
     refine wpAnyH_ready (rs := [7]) (by kernel_rfl) (by simp) ?_
     refine AllReadyH.cons rfl (fun K hK => ?_) AllReadyH.nil
     rw [if_pos (by kernel_rfl)]
     have ne4 : ∀ zz ∈ (((M, 30, #[.int .i64 p, .int .i64 r]) :: [(G + 1 + 1, 74, #[.int .i64 0, .int .i64 0, .int .i64 0, .int .i64 0, .int .i64 0, .int .i64 0]), (G + 1, 55, #[.int .i64 fh, .int .i64 st, .int .i64 x0, .int .i64 x1, .int .i64 d0, .int .i64 d1]), (G, 35, #[.int .i64 id, .int .i64 al, .int .i64 ah, .slice A n c, .slice B mm d, .slice C l ee, .int .i64 t0, .int .i64 t1, .int .i64 u0, .int .i64 u1, .int .i64 v0, .int .i64 v1, .int .i64 h0, .int .i64 h1])] : List (Nat × TypeId × Array Value)) : List (Nat × TypeId × Array Value)), zz.1 ≠ N3 := HD3.out
     have HK4 : Hid (Boxes (y3.setRow N3 #[.int .i64 s, .int .i64 t]) ((N3, 30, #[.int .i64 s, .int .i64 t]) :: ((M, 30, #[.int .i64 p, .int .i64 r]) :: [(G + 1 + 1, 74, #[.int .i64 0, .int .i64 0, .int .i64 0, .int .i64 0, .int .i64 0, .int .i64 0]), (G + 1, 55, #[.int .i64 fh, .int .i64 st, .int .i64 x0, .int .i64 x1, .int .i64 d0, .int .i64 d1]), (G, 35, #[.int .i64 id, .int .i64 al, .int .i64 ah, .slice A n c, .slice B mm d, .slice C l ee, .int .i64 t0, .int .i64 t1, .int .i64 u0, .int .i64 u1, .int .i64 v0, .int .i64 v1, .int .i64 h0, .int .i64 h1])] : List (Nat × TypeId × Array Value)))) := Lib.hid (Boxes.row HK3.out (.head _) (fun p hp => ⟨.tail _ hp, ne4 p hp⟩) #[.int .i64 s, .int .i64 t])
     have HE4 := Lib.hid (below_setRow HE3.out (show w.heap.size ≤ N3 from HZ3.out) #[.int .i64 s, .int .i64 t])
     have hS := hHeld.farRow (g := N3) (fun p hp => ne4 p (hp)) #[.int .i64 s, .int .i64 t]
     refine wp_store_row 30 (.tmp 8) (.tmp 24) rfl N3 #[.int .i64 s, .int .i64 t] rfl rfl 30 _ (HK3.out _ (.head _)) (by kernel_rfl) rfl (by kernel_rfl) ?_
     obtain ⟨y4, hW⟩ : ∃ W', y3.setRow N3 #[.int .i64 s, .int .i64 t] = W' := ⟨_, rfl⟩
     rw [hW] at HE4 HK4 hS ⊢
     refine hK.out _ _ hS (fun hHeld2 => ?_)
     try simp only [Act.put, uA, uZ, uS]
     clear hW hS hK K hHeld ne4 HE3 HK3
     have hHeld := hHeld2
     clear hHeld2
     refine wpAnyH_done (by kernel_rfl) ?_ _
     go_wp2_with fail
     go_meet
     exact ⟨N3, rfl, HK4.out, HE4.out, HD3.out (_, _, _) (.tail _ (.head _))⟩
    ·skip
     go_simp
     have HE5 := Lib.hid (below_then HE1.out (below_alloc1 y1 (.cells #[.int .i64 0, .int .i64 0] 30))); have HK5 := Lib.hid (HK1.out.new 30 #[.int .i64 0, .int .i64 0])
     have hS := hHeld.on (below_alloc1 y1 (.cells #[.int .i64 0, .int .i64 0] 30))
     have HD5 := Lib.hid (boxes_lt HK1.out)
     have HZ5 := Lib.hid HE1.out.size
     refine hK.out _ _ hS (fun hHeld2 => ?_)
     try simp only [Act.put, uA, uZ, uS]
     clear hS hK K hHeld HE1 HK1
     have hHeld := hHeld2
     clear hHeld2
     obtain ⟨y5, hW⟩ : ∃ W', y1.alloc (.cells #[.int .i64 0, .int .i64 0] 30) = W' := ⟨_, rfl⟩
     rw [hW] at HE5 HK5 hHeld ⊢
     clear hW
     obtain ⟨N5, hN⟩ : ∃ N, y1.heap.size = N := ⟨_, rfl⟩
     rw [hN] at HK5 HD5 HZ5 ⊢
     clear hN
     refine wpAnyH_ready (rs := [5]) (by kernel_rfl) (by simp) ?_
     refine AllReadyH.cons rfl (fun K hK => ?_) AllReadyH.nil
     go_simp
     (with_reducible refine (X3.out _ HE5.out).mono ?_)
     rintro e y6 ⟨rfl, hb⟩
     have HE6 := Lib.hid (below_then HE5.out hb); have HK6 := Lib.hid (HK5.out.on hb)
     have hS := hHeld.on hb
     clear hb
     refine hK.out _ _ hS (fun hHeld2 => ?_)
     try simp only [Act.put, uA, uZ, uS]
     clear hS hK K hHeld HE5 HK5
     have hHeld := hHeld2
     clear hHeld2
     refine wpAnyH_ready (rs := [7]) (by kernel_rfl) (by simp) ?_
     refine AllReadyH.cons rfl (fun K hK => ?_) AllReadyH.nil
     rw [if_pos (by kernel_rfl)]
     have ne7 : ∀ zz ∈ (((M, 30, #[.int .i64 p, .int .i64 r]) :: [(G + 1 + 1, 74, #[.int .i64 0, .int .i64 0, .int .i64 0, .int .i64 0, .int .i64 0, .int .i64 0]), (G + 1, 55, #[.int .i64 fh, .int .i64 st, .int .i64 x0, .int .i64 x1, .int .i64 d0, .int .i64 d1]), (G, 35, #[.int .i64 id, .int .i64 al, .int .i64 ah, .slice A n c, .slice B mm d, .slice C l ee, .int .i64 t0, .int .i64 t1, .int .i64 u0, .int .i64 u1, .int .i64 v0, .int .i64 v1, .int .i64 h0, .int .i64 h1])] : List (Nat × TypeId × Array Value)) : List (Nat × TypeId × Array Value)), zz.1 ≠ N5 := HD5.out
     have HK7 : Hid (Boxes (y6.setRow N5 #[.int .i64 s, .int .i64 t]) ((N5, 30, #[.int .i64 s, .int .i64 t]) :: ((M, 30, #[.int .i64 p, .int .i64 r]) :: [(G + 1 + 1, 74, #[.int .i64 0, .int .i64 0, .int .i64 0, .int .i64 0, .int .i64 0, .int .i64 0]), (G + 1, 55, #[.int .i64 fh, .int .i64 st, .int .i64 x0, .int .i64 x1, .int .i64 d0, .int .i64 d1]), (G, 35, #[.int .i64 id, .int .i64 al, .int .i64 ah, .slice A n c, .slice B mm d, .slice C l ee, .int .i64 t0, .int .i64 t1, .int .i64 u0, .int .i64 u1, .int .i64 v0, .int .i64 v1, .int .i64 h0, .int .i64 h1])] : List (Nat × TypeId × Array Value)))) := Lib.hid (Boxes.row HK6.out (.head _) (fun p hp => ⟨.tail _ hp, ne7 p hp⟩) #[.int .i64 s, .int .i64 t])
     have HE7 := Lib.hid (below_setRow HE6.out (show w.heap.size ≤ N5 from HZ5.out) #[.int .i64 s, .int .i64 t])
     have hS := hHeld.farRow (g := N5) (fun p hp => ne7 p (hp)) #[.int .i64 s, .int .i64 t]
     refine wp_store_row 30 (.tmp 8) (.tmp 24) rfl N5 #[.int .i64 s, .int .i64 t] rfl rfl 30 _ (HK6.out _ (.head _)) (by kernel_rfl) rfl (by kernel_rfl) ?_
     obtain ⟨y7, hW⟩ : ∃ W', y6.setRow N5 #[.int .i64 s, .int .i64 t] = W' := ⟨_, rfl⟩
     rw [hW] at HE7 HK7 hS ⊢
     refine hK.out _ _ hS (fun hHeld2 => ?_)
     try simp only [Act.put, uA, uZ, uS]
     clear hW hS hK K hHeld ne7 HE6 HK6
     have hHeld := hHeld2
     clear hHeld2
     refine wpAnyH_done (by kernel_rfl) ?_ _
     go_wp2_with fail
     go_meet
     exact ⟨N5, rfl, HK7.out, HE7.out, HD5.out (_, _, _) (.tail _ (.head _))⟩
   ·skip
    go_simp
    have HE8 := Lib.hid (below_then HEd.out (below_alloc1 W2 (.cells #[.int .i64 0, .int .i64 0] 30))); have HK8 := Lib.hid (HKd.out.new 30 #[.int .i64 0, .int .i64 0])
    have hS := hHeld.on (below_alloc1 W2 (.cells #[.int .i64 0, .int .i64 0] 30))
    have HD8 := Lib.hid (boxes_lt HKd.out)
    have HZ8 := Lib.hid HEd.out.size
    refine hK.out _ _ hS (fun hHeld2 => ?_)
    try simp only [Act.put, uA, uZ, uS]
    clear hS hK K hHeld HEd HKd
    have hHeld := hHeld2
    clear hHeld2
    obtain ⟨y8, hW⟩ : ∃ W', W2.alloc (.cells #[.int .i64 0, .int .i64 0] 30) = W' := ⟨_, rfl⟩
    rw [hW] at HE8 HK8 hHeld ⊢
    clear hW
    obtain ⟨N8, hN⟩ : ∃ N, W2.heap.size = N := ⟨_, rfl⟩
    rw [hN] at HK8 HD8 HZ8 ⊢
    clear hN
    refine wpAnyH_ready (rs := [1]) (by kernel_rfl) (by simp) ?_
    refine AllReadyH.cons rfl (fun K hK => ?_) AllReadyH.nil
    go_simp
    (with_reducible refine (X2.out _).mono ?_)
    rintro e y9 ⟨rfl, hb⟩
    have HE9 := Lib.hid (below_then HE8.out hb); have HK9 := Lib.hid (HK8.out.on hb)
    have hS := hHeld.on hb
    clear hb
    refine hK.out _ _ hS (fun hHeld2 => ?_)
    try simp only [Act.put, uA, uZ, uS]
    clear hS hK K hHeld HE8 HK8
    have hHeld := hHeld2
    clear hHeld2
    refine tK 21 (i := 2) (v := fnV 196) rfl rfl (by kernel_rfl) ?_ hHeld ?_
    ·intro w hSw; clear hSw; go_simp; try with_reducible rfl
    simp only [uZ, uS]
    refine wpAnyH_ready (rs := [5]) (by kernel_rfl) (by simp) ?_
    refine AllReadyH.cons rfl (fun K hK => ?_) AllReadyH.nil
    go_simp
    (with_reducible refine (X3.out _ HE9.out).mono ?_)
    rintro e y10 ⟨rfl, hb⟩
    have HE10 := Lib.hid (below_then HE9.out hb); have HK10 := Lib.hid (HK9.out.on hb)
    have hS := hHeld.on hb
    clear hb
    refine hK.out _ _ hS (fun hHeld2 => ?_)
    try simp only [Act.put, uA, uZ, uS]
    clear hS hK K hHeld HE9 HK9
    have hHeld := hHeld2
    clear hHeld2
    refine wpAnyH_ready (rs := [7]) (by kernel_rfl) (by simp) ?_
    refine AllReadyH.cons rfl (fun K hK => ?_) AllReadyH.nil
    rw [if_pos (by kernel_rfl)]
    have ne11 : ∀ zz ∈ (((M, 30, #[.int .i64 p, .int .i64 r]) :: [(G + 1 + 1, 74, #[.int .i64 0, .int .i64 0, .int .i64 0, .int .i64 0, .int .i64 0, .int .i64 0]), (G + 1, 55, #[.int .i64 fh, .int .i64 st, .int .i64 x0, .int .i64 x1, .int .i64 d0, .int .i64 d1]), (G, 35, #[.int .i64 id, .int .i64 al, .int .i64 ah, .slice A n c, .slice B mm d, .slice C l ee, .int .i64 t0, .int .i64 t1, .int .i64 u0, .int .i64 u1, .int .i64 v0, .int .i64 v1, .int .i64 h0, .int .i64 h1])] : List (Nat × TypeId × Array Value)) : List (Nat × TypeId × Array Value)), zz.1 ≠ N8 := HD8.out
    have HK11 : Hid (Boxes (y10.setRow N8 #[.int .i64 s, .int .i64 t]) ((N8, 30, #[.int .i64 s, .int .i64 t]) :: ((M, 30, #[.int .i64 p, .int .i64 r]) :: [(G + 1 + 1, 74, #[.int .i64 0, .int .i64 0, .int .i64 0, .int .i64 0, .int .i64 0, .int .i64 0]), (G + 1, 55, #[.int .i64 fh, .int .i64 st, .int .i64 x0, .int .i64 x1, .int .i64 d0, .int .i64 d1]), (G, 35, #[.int .i64 id, .int .i64 al, .int .i64 ah, .slice A n c, .slice B mm d, .slice C l ee, .int .i64 t0, .int .i64 t1, .int .i64 u0, .int .i64 u1, .int .i64 v0, .int .i64 v1, .int .i64 h0, .int .i64 h1])] : List (Nat × TypeId × Array Value)))) := Lib.hid (Boxes.row HK10.out (.head _) (fun p hp => ⟨.tail _ hp, ne11 p hp⟩) #[.int .i64 s, .int .i64 t])
    have HE11 := Lib.hid (below_setRow HE10.out (show w.heap.size ≤ N8 from HZ8.out) #[.int .i64 s, .int .i64 t])
    have hS := hHeld.farRow (g := N8) (fun p hp => ne11 p (hp)) #[.int .i64 s, .int .i64 t]
    refine wp_store_row 30 (.tmp 8) (.tmp 24) rfl N8 #[.int .i64 s, .int .i64 t] rfl rfl 30 _ (HK10.out _ (.head _)) (by kernel_rfl) rfl (by kernel_rfl) ?_
    obtain ⟨y11, hW⟩ : ∃ W', y10.setRow N8 #[.int .i64 s, .int .i64 t] = W' := ⟨_, rfl⟩
    rw [hW] at HE11 HK11 hS ⊢
    refine hK.out _ _ hS (fun hHeld2 => ?_)
    try simp only [Act.put, uA, uZ, uS]
    clear hW hS hK K hHeld ne11 HE10 HK10
    have hHeld := hHeld2
    clear hHeld2
    refine wpAnyH_done (by kernel_rfl) ?_ _
    go_wp2_with fail
    go_meet
    exact ⟨N8, rfl, HK11.out, HE11.out, HD8.out (_, _, _) (.tail _ (.head _))⟩
  case rest =>
   obtain ⟨N3, rfl, hB, hE, n3⟩ := hcut
   have HE5 := Lib.hid hE
   have HK5 := Lib.hid hB
   rename World => W5
   clear hB hE n3 HE1 HK1 HDM X2 X3
   have aa := HK5.out _ (.head _)
   have aa0 := aa.cell 0
   have aa1 := aa.cell 1
   simp at aa0 aa1
   clear aa
   have ab := HK5.out _ (.tail _ (.head _))
   have ab0 := ab.cell 0
   have ab1 := ab.cell 1
   simp at ab0 ab1
   clear ab
   have ac := HK5.out _ (.tail _ (.tail _ (.tail _ (.tail _ (.head _)))))
   have ac1 := ac.cell 1
   have ac2 := ac.cell 2
   simp at ac1 ac2
   clear ac
   go_upto_region 5 with fail
   refine wp_region_lit ?_
   refine wpList_plain rfl (fun K hK => ?_)
   go_simp
   refine hK _ _ ?_
   clear hK K
   refine wpList_plain rfl (fun K hK => ?_)
   go_simp
   refine hK _ _ ?_
   clear hK K
   refine wpList_plain rfl (fun K hK => ?_)
   go_simp
   refine hK _ _ ?_
   clear hK K
   refine wpList_plain rfl (fun K hK => ?_)
   go_simp
   refine hK _ _ ?_
   clear hK K
   refine wpList_plain rfl (fun K hK => ?_)
   go_simp
   refine hK _ _ ?_
   clear hK K
   have HKR : Hid (Blk (W5.setRow (G + 1 + 1) #[.int .i64 p, .int .i64 r, .int .i64 al, .int .i64 ah, .int .i64 s, .int .i64 t]) (G + 1 + 1) 74 #[.int .i64 p, .int .i64 r, .int .i64 al, .int .i64 ah, .int .i64 s, .int .i64 t]) := Lib.hid (setRow_heap W5 (G + 1 + 1) _ _ 74 _ (HK5.out _ (.tail _ (.tail _ (.head _)))))
   have HE9 := Lib.hid (below_setRow HE5.out (show w.heap.size ≤ G + 1 + 1 by have := HG.out; omega) #[.int .i64 p, .int .i64 r, .int .i64 al, .int .i64 ah, .int .i64 s, .int .i64 t])
   refine wpList_store_row rfl 74 (.tmp 4) (.tmp 29) rfl (G + 1 + 1) #[.int .i64 p, .int .i64 r, .int .i64 al, .int .i64 ah, .int .i64 s, .int .i64 t] rfl rfl 74 _ (HK5.out _ (.tail _ (.tail _ (.head _)))) (by kernel_rfl) rfl (by kernel_rfl) ?_
   obtain ⟨W9, hW9⟩ : ∃ W9, W5.setRow (G + 1 + 1) #[.int .i64 p, .int .i64 r, .int .i64 al, .int .i64 ah, .int .i64 s, .int .i64 t] = W9 := ⟨_, rfl⟩
   rw [hW9] at HKR HE9 ⊢
   clear hW9
   go_wp2
   exact bodyPost_ret (v := .tuple #[.agg #[.int .i64 p, .int .i64 r, .int .i64 al, .int .i64 ah, .int .i64 s, .int .i64 t], .int .i64 0]) (results_cell_tmp_row Tryz.results37 _ _ (G + 1 + 1) 74 #[.int .i64 p, .int .i64 r, .int .i64 al, .int .i64 ah, .int .i64 s, .int .i64 t] (0, 0) _ _ rfl rfl HKR.out Tryz.underlying74 rfl (by kernel_rfl)) rfl ⟨rfl, HE9.out⟩
 ·have eR := HR.out
  rw [if_neg g] at eR
  subst eR
  clear HR D2 D3
  go_upto_region 3 with fail
  refine wp_region_lit ?_
  refine wpList_plain rfl (fun K hK => ?_)
  go_simp
  refine hK _ _ ?_
  clear hK K
  refine wpList_plain rfl (fun K hK => ?_)
  go_simp
  refine hK _ _ ?_
  clear hK K
  have HKR : Hid (Blk (W1.setRow (G + 1 + 1) #[.int .i64 0, .int .i64 0, .int .i64 0, .int .i64 0, .int .i64 0, .int .i64 0]) (G + 1 + 1) 74 #[.int .i64 0, .int .i64 0, .int .i64 0, .int .i64 0, .int .i64 0, .int .i64 0]) := Lib.hid (setRow_heap W1 (G + 1 + 1) _ _ 74 _ (HK1.out _ (.tail _ (.head _))))
  have HE9 := Lib.hid (below_setRow HE1.out (show w.heap.size ≤ G + 1 + 1 by have := HG.out; omega) #[.int .i64 0, .int .i64 0, .int .i64 0, .int .i64 0, .int .i64 0, .int .i64 0])
  refine wpList_store_row rfl 74 (.tmp 4) (.tmp 17) rfl (G + 1 + 1) #[.int .i64 0, .int .i64 0, .int .i64 0, .int .i64 0, .int .i64 0, .int .i64 0] rfl rfl 74 _ (HK1.out _ (.tail _ (.head _))) (by kernel_rfl) rfl (by kernel_rfl) ?_
  obtain ⟨W9, hW9⟩ : ∃ W9, W1.setRow (G + 1 + 1) #[.int .i64 0, .int .i64 0, .int .i64 0, .int .i64 0, .int .i64 0, .int .i64 0] = W9 := ⟨_, rfl⟩
  rw [hW9] at HKR HE9 ⊢
  clear hW9
  go_wp2
  exact bodyPost_ret (v := .tuple #[.agg #[.int .i64 0, .int .i64 0, .int .i64 0, .int .i64 0, .int .i64 0, .int .i64 0], .int .i64 E]) (results_cell_tmp_row Tryz.results37 _ _ (G + 1 + 1) 74 #[.int .i64 0, .int .i64 0, .int .i64 0, .int .i64 0, .int .i64 0, .int .i64 0] (0, 0) _ _ rfl rfl HKR.out Tryz.underlying74 rfl (by kernel_rfl)) rfl ⟨rfl, HE9.out⟩

def weightV (h : HoldD) (f : FillD) : Value := if fillErr h f = 0 then wt (denS h f (volS h f)).1 (denS h f (volS h f)).2 h.al h.ah (heiS h f).1 (heiS h f).2 0 else wt 0 0 0 0 0 0 (fillErr h f)
theorem hWeight_any (h : HoldD) (m : HoldM) (f : FillD) (w : World) (hi : HoldIn w h m) :
    Calls Tryz.prog 37 #[holdV h m, fillV f] w fun e w' => e = .returned (weightV h f) ∧ Below w.heap.size w w' := by
  obtain ⟨E, hE⟩ : ∃ E, fillErr h f = E := ⟨_, rfl⟩
  have hM : tellS h f (denS h f (volS h f)) = ((tellS h f (denS h f (volS h f))).1, (tellS h f (denS h f (volS h f))).2.1, E) := by
    unfold tellS; rw [hE]; by_cases g : E = 0
    · rw [if_pos g]; dsimp only; rw [g]
    · rw [if_neg g]
  have C1 := fun W (hW : Below w.heap.size w W) => rt_to (hMass_any h m f W (hi.below hW)) hM
  have hc := fun (e : E = 0) W (hW : Below w.heap.size w W) => heiF_to h m f W (hi.below hW) (fill_state (hE.trans e)).1 (fill_state (hE.trans e)).2
  have e1 : E = 0 → (tellS h f (denS h f (volS h f))).1 = (denS h f (volS h f)).1 ∧ (tellS h f (denS h f (volS h f))).2.1 = (denS h f (volS h f)).2 := fun e => by unfold tellS; rw [hE, if_pos e]; exact ⟨rfl, rfl⟩
  have goalE : weightV h f = if E = 0 then wt (tellS h f (denS h f (volS h f))).1 (tellS h f (denS h f (volS h f))).2.1 h.al h.ah (heiS h f).1 (heiS h f).2 0 else wt 0 0 0 0 0 0 E := by
    unfold weightV; rw [hE]; by_cases g : E = 0
    · rw [if_pos g, if_pos g, (e1 g).1, (e1 g).2]
    · rw [if_neg g, if_neg g]
  rw [goalE]
  clear goalE e1
  generalize (tellS h f (denS h f (volS h f))).1 = p at *
  generalize (tellS h f (denS h f (volS h f))).2.1 = r at *
  have q := fun (e : E = 0) => fill_state (hE.trans e)
  generalize (heiS h f).1 = s at *
  generalize (heiS h f).2 = t at *
  clear hM hE
  obtain ⟨id, al, ah, vol, mom, hei, t0, t1, u0, u1, v0, v1, h0, h1⟩ := h
  obtain ⟨A, n, c, B, mm, d, C, l, ee⟩ := m
  obtain ⟨fh, st, x0, x1, d0, d1⟩ := f
  dsimp only at C1 hc q ⊢
  by_cases k0 : st = 0
  · subst k0
    exact hweight_0 E p r s t _ _ _ _ _ _ _ id al ah t0 t1 u0 u1 v0 v1 h0 h1 A B C n c mm d l ee fh 0 x0 x1 d0 d1 w C1 (fun e W => (show mM 0 = emptyM from rfl) ▸ meaningOf_any fh 0 x0 x1 d0 d1 W (by omega) (by omega)) hc
  · by_cases k1 : st = 1
    · subst k1
      exact hweight_1 E p r s t _ _ _ _ _ _ _ id al ah t0 t1 u0 u1 v0 v1 h0 h1 A B C n c mm d l ee fh 1 x0 x1 d0 d1 w C1 (fun e W => (show mM 1 = filledM 150 from rfl) ▸ meaningOf_any fh 1 x0 x1 d0 d1 W (by omega) (by omega)) hc
    · by_cases k2 : st = 2
      · subst k2
        exact hweight_1 E p r s t _ _ _ _ _ _ _ id al ah t0 t1 u0 u1 v0 v1 h0 h1 A B C n c mm d l ee fh 2 x0 x1 d0 d1 w C1 (fun e W => (show mM 2 = filledM 151 from rfl) ▸ meaningOf_any fh 2 x0 x1 d0 d1 W (by omega) (by omega)) hc
      · by_cases k3 : st = 3
        · subst k3
          exact hweight_2 E p r s t _ _ _ _ _ _ _ id al ah t0 t1 u0 u1 v0 v1 h0 h1 A B C n c mm d l ee fh 3 x0 x1 d0 d1 w C1 (fun e W => (show mM 3 = partlyM 153 from rfl) ▸ meaningOf_any fh 3 x0 x1 d0 d1 W (by omega) (by omega)) hc
        · have k4 : E = 0 → mM st = heldM ∧ heiF st = 196 := fun e => by
            obtain ⟨z0, z5⟩ := q e
            have : st = 4 ∨ st = 5 := by omega
            rcases this with rfl | rfl <;> exact ⟨rfl, rfl⟩
          exact hweight_2 E p r s t _ _ _ _ _ _ _ id al ah t0 t1 u0 u1 v0 v1 h0 h1 A B C n c mm d l ee fh st x0 x1 d0 d1 w C1 (fun e W => (k4 e).1 ▸ meaningOf_any fh st x0 x1 d0 d1 W (q e).1 (q e).2) (fun e W hW => (k4 e).2 ▸ hc e W hW)
end

end Go.Proofs.YtemlaaipnhmcoaaGreat
