/- The contracts of the closures of Mass and Heel (hold). Their condition: the hold's tables lie in memory, and so do the hold and the fill. -/
import Derived.Test.YtemlaaipnhmcoaaGreatR31
import Derived.Test.YtemlaaipnhmcoaaGreatQ98
set_option linter.unusedVariables false
set_option linter.unusedSimpArgs false
set_option linter.constructorNameAsVariable false
namespace Go.Proofs.YtemlaaipnhmcoaaGreat

section
open Go.RowKit

theorem Boxes.farRow {W : World} {L : List (Nat × TypeId × Array Value)} (h : Boxes W L) {g : Nat} (hg : ∀ p ∈ L, p.1 ≠ g) (cs : Array Value) : Boxes (W.setRow g cs) L := fun p hp => (h p hp).farRow (hg p hp) cs

set_option maxRecDepth 100000 in
set_option maxHeartbeats 4000000 in
theorem mass1_0 (a kv km kh s : Nat) (x y z p q r t : Int) (id al ah t0 t1 u0 u1 v0 v1 h0 h1 : Int) (A B C : Option Addr) (n c mm d l ee : Nat) (fh st x0 x1 d0 d1 : Int) (Bh Bf : Nat) (w : World) (hB : Blk w Bh 35 #[.int .i64 id, .int .i64 al, .int .i64 ah, .slice A n c, .slice B mm d, .slice C l ee, .int .i64 t0, .int .i64 t1, .int .i64 u0, .int .i64 u1, .int .i64 v0, .int .i64 v1, .int .i64 h0, .int .i64 h1]) (fB : Blk w Bf 55 #[.int .i64 fh, .int .i64 st, .int .i64 x0, .int .i64 x1, .int .i64 d0, .int .i64 d1])
  (hC : ∀ W, Below w.heap.size w W → Calls Tryz.prog 188 #[.agg #[.int .i64 id, .int .i64 al, .int .i64 ah, .slice A n c, .slice B mm d, .slice C l ee, .int .i64 t0, .int .i64 t1, .int .i64 u0, .int .i64 u1, .int .i64 v0, .int .i64 v1, .int .i64 h0, .int .i64 h1], .agg #[.int .i64 fh, .int .i64 st, .int .i64 x0, .int .i64 x1, .int .i64 d0, .int .i64 d1]] W fun e w' => e = .returned (rv p q) ∧ Below W.heap.size W w') (hr : (denseS p q d0 d1).1 = r) (ht : (denseS p q d0 d1).2.1 = t) :
  Calls Tryz.prog 94 #[.agg #[fnV a, fnV 188, fnV km, fnV kh, fnV s, .int .i64 x, .int .i64 y, .int .i64 z], .pointer (some ⟨Bh, 0, none⟩), .pointer (some ⟨Bf, 0, none⟩)] w fun e w' => e = .returned (rv r t) ∧ Below w.heap.size w w' := by
 have HE := Lib.hid (show Below w.heap.size w ((w.alloc (.cells #[fnV a, fnV 188, fnV km, fnV kh, fnV s, .int .i64 x, .int .i64 y, .int .i64 z] 123)).alloc (.cells #[.int .i64 0, .int .i64 0] 30)) from below_a2 (Below.refl _ _))
 have HK := Lib.hid (boxes2' w 123 30 #[fnV a, fnV 188, fnV km, fnV kh, fnV s, .int .i64 x, .int .i64 y, .int .i64 z] #[.int .i64 0, .int .i64 0])
 have CC := Lib.hid hC
 have CD : Hid (∀ W, Calls Tryz.prog 87 #[rv p q, rv d0 d1] W fun e w' => e = .returned (rv r t) ∧ Below W.heap.size W w') := Lib.hid fun W => by rw [← hr, ← ht]; exact dense_any p q d0 d1 W
 have HH := Lib.hid (blkOn hB HE.out)
 have HF := Lib.hid (blkOn fB HE.out)
 have lb := hB.lt
 have lf := fB.lt
 clear hB fB hC hr ht
 go_enter Tryz.func94, Tryz.ntmps94
 go_upto_region 1 with fail
 obtain ⟨W0, hW0⟩ : ∃ W0, ((w.alloc (.cells #[fnV a, fnV 188, fnV km, fnV kh, fnV s, .int .i64 x, .int .i64 y, .int .i64 z] 123)).alloc (.cells #[.int .i64 0, .int .i64 0] 30)) = W0 := ⟨_, rfl⟩
 rw [hW0] at HE HK HH HF ⊢
 clear hW0
 obtain ⟨G, hG⟩ : ∃ G, w.heap.size = G := ⟨_, rfl⟩
 rw [hG] at HK lb lf ⊢
 have HG := Lib.hid hG; clear hG
 have HS : Hid (Boxes W0.drew [(G, 123, #[fnV a, fnV 188, fnV km, fnV kh, fnV s, .int .i64 x, .int .i64 y, .int .i64 z]), (Bh, 35, #[.int .i64 id, .int .i64 al, .int .i64 ah, .slice A n c, .slice B mm d, .slice C l ee, .int .i64 t0, .int .i64 t1, .int .i64 u0, .int .i64 u1, .int .i64 v0, .int .i64 v1, .int .i64 h0, .int .i64 h1]), (Bf, 55, #[.int .i64 fh, .int .i64 st, .int .i64 x0, .int .i64 x1, .int .i64 d0, .int .i64 d1])]) := Lib.hid (fun p hp => by
  rcases List.mem_cons.1 hp with rfl | hp
  ·exact HK.out _ (.tail _ (.head _))
  rcases List.mem_cons.1 hp with rfl | hp
  ·exact HH.out
  rcases List.mem_singleton.1 hp with rfl
  exact HF.out)
 clear HH HF
 refine wp_region_held_drew (S := fun w' => Boxes w' [(G, 123, #[fnV a, fnV 188, fnV km, fnV kh, fnV s, .int .i64 x, .int .i64 y, .int .i64 z]), (Bh, 35, #[.int .i64 id, .int .i64 al, .int .i64 ah, .slice A n c, .slice B mm d, .slice C l ee, .int .i64 t0, .int .i64 t1, .int .i64 u0, .int .i64 u1, .int .i64 v0, .int .i64 v1, .int .i64 h0, .int .i64 h1]), (Bf, 55, #[.int .i64 fh, .int .i64 st, .int .i64 x0, .int .i64 x1, .int .i64 d0, .int .i64 d1])]) (by kernel_rfl) HS.out (fun hHeld => ?_)
 refine tK 5 (i := 0) (v := .pointer (some ⟨G, 1, none⟩)) rfl rfl (by kernel_rfl) ?_ hHeld ?_
 ·intro w hSw; clear hSw; go_simp; try with_reducible rfl
 simp only [uZ, uS]
 refine tK 6 (i := 1) (v := fnV 188) rfl rfl (by kernel_rfl) ?_ hHeld ?_
 ·intro w hSw; have c := (hSw _ (.head _)).cell 1; simp at c; clear hSw; go_simp; try with_reducible rfl
 simp only [uZ, uS]
 refine tK 7 (i := 2) (v := .agg #[.int .i64 id, .int .i64 al, .int .i64 ah, .slice A n c, .slice B mm d, .slice C l ee, .int .i64 t0, .int .i64 t1, .int .i64 u0, .int .i64 u1, .int .i64 v0, .int .i64 v1, .int .i64 h0, .int .i64 h1]) rfl rfl (by kernel_rfl) ?_ hHeld ?_
 ·intro w hSw; have hz := (hSw _ (.tail _ (.head _))); have c0 := hz.cell 0; have c1 := hz.cell 1; have c2 := hz.cell 2; have c3 := hz.cell 3; have c4 := hz.cell 4; have c5 := hz.cell 5; have c6 := hz.cell 6; have c7 := hz.cell 7; have c8 := hz.cell 8; have c9 := hz.cell 9; have c10 := hz.cell 10; have c11 := hz.cell 11; have c12 := hz.cell 12; have c13 := hz.cell 13; simp at c0 c1 c2 c3 c4 c5 c6 c7 c8 c9 c10 c11 c12 c13; clear hz hSw; go_simp; try with_reducible rfl
 simp only [uZ, uS]
 refine tK 8 (i := 3) (v := .agg #[.int .i64 fh, .int .i64 st, .int .i64 x0, .int .i64 x1, .int .i64 d0, .int .i64 d1]) rfl rfl (by kernel_rfl) ?_ hHeld ?_
 ·intro w hSw; have hz := (hSw _ (.tail _ (.tail _ (.head _)))); have c0 := hz.cell 0; have c1 := hz.cell 1; have c2 := hz.cell 2; have c3 := hz.cell 3; have c4 := hz.cell 4; have c5 := hz.cell 5; simp at c0 c1 c2 c3 c4 c5; clear hz hSw; go_simp; try with_reducible rfl
 simp only [uZ, uS]
 refine tK 10 (i := 5) (v := .pointer (some ⟨Bf, 4, none⟩)) rfl rfl (by kernel_rfl) ?_ hHeld ?_
 ·intro w hSw; clear hSw; go_simp; try with_reducible rfl
 simp only [uZ, uS]
 refine tK 11 (i := 6) (v := rv d0 d1) rfl rfl (by kernel_rfl) ?_ hHeld ?_
 ·intro w hSw; have hz := (hSw _ (.tail _ (.tail _ (.head _)))); have c4 := hz.cell 4; have c5 := hz.cell 5; simp at c4 c5; clear hz hSw; go_simp; try with_reducible rfl
 simp only [uZ, uS]
 refine wpAnyH_ready (rs := [4]) (by kernel_rfl) (by simp) ?_
 refine AllReadyH.cons rfl (fun K hK => ?_) AllReadyH.nil
 go_simp
 (with_reducible refine (CC.out _ (below_then HE.out (below_drew1 _))).mono ?_)
 rintro e y1 ⟨rfl, hb⟩
 have HE3 := Lib.hid (below_then (below_then HE.out (below_drew1 _)) hb)
 have HK3 := Lib.hid ((HK.out.on (below_drew1 _)).on hb)
 have hS3 := hHeld.on hb
 clear hb
 refine hK.out _ _ (hS3) (fun hHeld2 => ?_)
 try simp only [Act.put, uA, uZ, uS]
 clear hK K hHeld
 have hHeld := hHeld2
 clear hHeld2
 clear hS3 HE HK
 refine wpAnyH_ready (rs := [7]) (by kernel_rfl) (by simp) ?_
 refine AllReadyH.cons rfl (fun K hK => ?_) AllReadyH.nil
 go_simp
 (with_reducible refine (CD.out _).mono ?_)
 rintro e y2 ⟨rfl, hb⟩
 have HE4 := Lib.hid (below_then HE3.out hb)
 have HK4 := Lib.hid (HK3.out.on hb)
 have hS4 := hHeld.on hb
 clear hb
 refine hK.out _ _ (hS4) (fun hHeld2 => ?_)
 try simp only [Act.put, uA, uZ, uS]
 clear hK K hHeld
 have hHeld := hHeld2
 clear hHeld2
 clear hS4 HE3 HK3
 refine wpAnyH_ready (rs := [8]) (by kernel_rfl) (by simp) ?_
 refine AllReadyH.cons rfl (fun K hK => ?_) AllReadyH.nil
 rw [if_pos (by kernel_rfl)]
 have HKR : Hid (Blk (y2.setRow (G + 1) #[.int .i64 r, .int .i64 t]) (G + 1) 30 #[.int .i64 r, .int .i64 t]) := Lib.hid (setRow_heap y2 (G + 1) _ _ 30 _ (HK4.out _ (.head _)))
 have HE6 := Lib.hid (below_setRow HE4.out (show w.heap.size ≤ G + 1 by have := HG.out; omega) #[.int .i64 r, .int .i64 t])
 have hS6 : Boxes (y2.setRow (G + 1) #[.int .i64 r, .int .i64 t]) [(G, 123, #[fnV a, fnV 188, fnV km, fnV kh, fnV s, .int .i64 x, .int .i64 y, .int .i64 z]), (Bh, 35, #[.int .i64 id, .int .i64 al, .int .i64 ah, .slice A n c, .slice B mm d, .slice C l ee, .int .i64 t0, .int .i64 t1, .int .i64 u0, .int .i64 u1, .int .i64 v0, .int .i64 v1, .int .i64 h0, .int .i64 h1]), (Bf, 55, #[.int .i64 fh, .int .i64 st, .int .i64 x0, .int .i64 x1, .int .i64 d0, .int .i64 d1])] := hHeld.farRow (fun p hp => by
  rcases List.mem_cons.1 hp with rfl | hp
  ·show G ≠ G + 1; omega
  rcases List.mem_cons.1 hp with rfl | hp
  ·show Bh ≠ G + 1; omega
  rcases List.mem_singleton.1 hp with rfl
  show Bf ≠ G + 1; omega) _
 refine wp_store_row 30 (.tmp 4) (.tmp 12) rfl (G + 1) #[.int .i64 r, .int .i64 t] rfl rfl 30 _ (HK4.out _ (.head _)) (by kernel_rfl) rfl (by kernel_rfl) ?_
 obtain ⟨W6, hW6⟩ : ∃ W6, y2.setRow (G + 1) #[.int .i64 r, .int .i64 t] = W6 := ⟨_, rfl⟩
 rw [hW6] at HKR HE6 hS6 ⊢
 refine hK.out _ _ hS6 (fun hHeld2 => ?_)
 clear hW6 hK K hHeld hHeld2 hS6
 refine wpAnyH_done (by kernel_rfl) ?_ _
 go_wp2
 exact bodyPost_ret (v := .agg #[.int .i64 r, .int .i64 t]) (results_cell_row Tryz.results94 _ _ (G + 1) 30 #[.int .i64 r, .int .i64 t] (0, 0) _ rfl HKR.out Tryz.underlying30 rfl (by kernel_rfl)) rfl ⟨rfl, HE6.out⟩

set_option maxRecDepth 100000 in
set_option maxHeartbeats 4000000 in
theorem mass1_1 (a kv km kh s : Nat) (x y z p q r t : Int) (id al ah t0 t1 u0 u1 v0 v1 h0 h1 : Int) (A B C : Option Addr) (n c mm d l ee : Nat) (fh st x0 x1 d0 d1 : Int) (Bh Bf : Nat) (w : World) (hB : Blk w Bh 35 #[.int .i64 id, .int .i64 al, .int .i64 ah, .slice A n c, .slice B mm d, .slice C l ee, .int .i64 t0, .int .i64 t1, .int .i64 u0, .int .i64 u1, .int .i64 v0, .int .i64 v1, .int .i64 h0, .int .i64 h1]) (fB : Blk w Bf 55 #[.int .i64 fh, .int .i64 st, .int .i64 x0, .int .i64 x1, .int .i64 d0, .int .i64 d1])
  (hC : ∀ W, Below w.heap.size w W → Calls Tryz.prog 191 #[.agg #[.int .i64 id, .int .i64 al, .int .i64 ah, .slice A n c, .slice B mm d, .slice C l ee, .int .i64 t0, .int .i64 t1, .int .i64 u0, .int .i64 u1, .int .i64 v0, .int .i64 v1, .int .i64 h0, .int .i64 h1], .agg #[.int .i64 fh, .int .i64 st, .int .i64 x0, .int .i64 x1, .int .i64 d0, .int .i64 d1]] W fun e w' => e = .returned (rv p q) ∧ Below W.heap.size W w') (hr : (denseS p q d0 d1).1 = r) (ht : (denseS p q d0 d1).2.1 = t) :
  Calls Tryz.prog 94 #[.agg #[fnV a, fnV 191, fnV km, fnV kh, fnV s, .int .i64 x, .int .i64 y, .int .i64 z], .pointer (some ⟨Bh, 0, none⟩), .pointer (some ⟨Bf, 0, none⟩)] w fun e w' => e = .returned (rv r t) ∧ Below w.heap.size w w' := by
 have HE := Lib.hid (show Below w.heap.size w ((w.alloc (.cells #[fnV a, fnV 191, fnV km, fnV kh, fnV s, .int .i64 x, .int .i64 y, .int .i64 z] 123)).alloc (.cells #[.int .i64 0, .int .i64 0] 30)) from below_a2 (Below.refl _ _))
 have HK := Lib.hid (boxes2' w 123 30 #[fnV a, fnV 191, fnV km, fnV kh, fnV s, .int .i64 x, .int .i64 y, .int .i64 z] #[.int .i64 0, .int .i64 0])
 have CC := Lib.hid hC
 have CD : Hid (∀ W, Calls Tryz.prog 87 #[rv p q, rv d0 d1] W fun e w' => e = .returned (rv r t) ∧ Below W.heap.size W w') := Lib.hid fun W => by rw [← hr, ← ht]; exact dense_any p q d0 d1 W
 have HH := Lib.hid (blkOn hB HE.out)
 have HF := Lib.hid (blkOn fB HE.out)
 have lb := hB.lt
 have lf := fB.lt
 clear hB fB hC hr ht
 go_enter Tryz.func94, Tryz.ntmps94
 go_upto_region 1 with fail
 obtain ⟨W0, hW0⟩ : ∃ W0, ((w.alloc (.cells #[fnV a, fnV 191, fnV km, fnV kh, fnV s, .int .i64 x, .int .i64 y, .int .i64 z] 123)).alloc (.cells #[.int .i64 0, .int .i64 0] 30)) = W0 := ⟨_, rfl⟩
 rw [hW0] at HE HK HH HF ⊢
 clear hW0
 obtain ⟨G, hG⟩ : ∃ G, w.heap.size = G := ⟨_, rfl⟩
 rw [hG] at HK lb lf ⊢
 have HG := Lib.hid hG; clear hG
 have HS : Hid (Boxes W0.drew [(G, 123, #[fnV a, fnV 191, fnV km, fnV kh, fnV s, .int .i64 x, .int .i64 y, .int .i64 z]), (Bh, 35, #[.int .i64 id, .int .i64 al, .int .i64 ah, .slice A n c, .slice B mm d, .slice C l ee, .int .i64 t0, .int .i64 t1, .int .i64 u0, .int .i64 u1, .int .i64 v0, .int .i64 v1, .int .i64 h0, .int .i64 h1]), (Bf, 55, #[.int .i64 fh, .int .i64 st, .int .i64 x0, .int .i64 x1, .int .i64 d0, .int .i64 d1])]) := Lib.hid (fun p hp => by
  rcases List.mem_cons.1 hp with rfl | hp
  ·exact HK.out _ (.tail _ (.head _))
  rcases List.mem_cons.1 hp with rfl | hp
  ·exact HH.out
  rcases List.mem_singleton.1 hp with rfl
  exact HF.out)
 clear HH HF
 refine wp_region_held_drew (S := fun w' => Boxes w' [(G, 123, #[fnV a, fnV 191, fnV km, fnV kh, fnV s, .int .i64 x, .int .i64 y, .int .i64 z]), (Bh, 35, #[.int .i64 id, .int .i64 al, .int .i64 ah, .slice A n c, .slice B mm d, .slice C l ee, .int .i64 t0, .int .i64 t1, .int .i64 u0, .int .i64 u1, .int .i64 v0, .int .i64 v1, .int .i64 h0, .int .i64 h1]), (Bf, 55, #[.int .i64 fh, .int .i64 st, .int .i64 x0, .int .i64 x1, .int .i64 d0, .int .i64 d1])]) (by kernel_rfl) HS.out (fun hHeld => ?_)
 refine tK 5 (i := 0) (v := .pointer (some ⟨G, 1, none⟩)) rfl rfl (by kernel_rfl) ?_ hHeld ?_
 ·intro w hSw; clear hSw; go_simp; try with_reducible rfl
 simp only [uZ, uS]
 refine tK 6 (i := 1) (v := fnV 191) rfl rfl (by kernel_rfl) ?_ hHeld ?_
 ·intro w hSw; have c := (hSw _ (.head _)).cell 1; simp at c; clear hSw; go_simp; try with_reducible rfl
 simp only [uZ, uS]
 refine tK 7 (i := 2) (v := .agg #[.int .i64 id, .int .i64 al, .int .i64 ah, .slice A n c, .slice B mm d, .slice C l ee, .int .i64 t0, .int .i64 t1, .int .i64 u0, .int .i64 u1, .int .i64 v0, .int .i64 v1, .int .i64 h0, .int .i64 h1]) rfl rfl (by kernel_rfl) ?_ hHeld ?_
 ·intro w hSw; have hz := (hSw _ (.tail _ (.head _))); have c0 := hz.cell 0; have c1 := hz.cell 1; have c2 := hz.cell 2; have c3 := hz.cell 3; have c4 := hz.cell 4; have c5 := hz.cell 5; have c6 := hz.cell 6; have c7 := hz.cell 7; have c8 := hz.cell 8; have c9 := hz.cell 9; have c10 := hz.cell 10; have c11 := hz.cell 11; have c12 := hz.cell 12; have c13 := hz.cell 13; simp at c0 c1 c2 c3 c4 c5 c6 c7 c8 c9 c10 c11 c12 c13; clear hz hSw; go_simp; try with_reducible rfl
 simp only [uZ, uS]
 refine tK 8 (i := 3) (v := .agg #[.int .i64 fh, .int .i64 st, .int .i64 x0, .int .i64 x1, .int .i64 d0, .int .i64 d1]) rfl rfl (by kernel_rfl) ?_ hHeld ?_
 ·intro w hSw; have hz := (hSw _ (.tail _ (.tail _ (.head _)))); have c0 := hz.cell 0; have c1 := hz.cell 1; have c2 := hz.cell 2; have c3 := hz.cell 3; have c4 := hz.cell 4; have c5 := hz.cell 5; simp at c0 c1 c2 c3 c4 c5; clear hz hSw; go_simp; try with_reducible rfl
 simp only [uZ, uS]
 refine tK 10 (i := 5) (v := .pointer (some ⟨Bf, 4, none⟩)) rfl rfl (by kernel_rfl) ?_ hHeld ?_
 ·intro w hSw; clear hSw; go_simp; try with_reducible rfl
 simp only [uZ, uS]
 refine tK 11 (i := 6) (v := rv d0 d1) rfl rfl (by kernel_rfl) ?_ hHeld ?_
 ·intro w hSw; have hz := (hSw _ (.tail _ (.tail _ (.head _)))); have c4 := hz.cell 4; have c5 := hz.cell 5; simp at c4 c5; clear hz hSw; go_simp; try with_reducible rfl
 simp only [uZ, uS]
 refine wpAnyH_ready (rs := [4]) (by kernel_rfl) (by simp) ?_
 refine AllReadyH.cons rfl (fun K hK => ?_) AllReadyH.nil
 go_simp
 (with_reducible refine (CC.out _ (below_then HE.out (below_drew1 _))).mono ?_)
 rintro e y1 ⟨rfl, hb⟩
 have HE3 := Lib.hid (below_then (below_then HE.out (below_drew1 _)) hb)
 have HK3 := Lib.hid ((HK.out.on (below_drew1 _)).on hb)
 have hS3 := hHeld.on hb
 clear hb
 refine hK.out _ _ (hS3) (fun hHeld2 => ?_)
 try simp only [Act.put, uA, uZ, uS]
 clear hK K hHeld
 have hHeld := hHeld2
 clear hHeld2
 clear hS3 HE HK
 refine wpAnyH_ready (rs := [7]) (by kernel_rfl) (by simp) ?_
 refine AllReadyH.cons rfl (fun K hK => ?_) AllReadyH.nil
 go_simp
 (with_reducible refine (CD.out _).mono ?_)
 rintro e y2 ⟨rfl, hb⟩
 have HE4 := Lib.hid (below_then HE3.out hb)
 have HK4 := Lib.hid (HK3.out.on hb)
 have hS4 := hHeld.on hb
 clear hb
 refine hK.out _ _ (hS4) (fun hHeld2 => ?_)
 try simp only [Act.put, uA, uZ, uS]
 clear hK K hHeld
 have hHeld := hHeld2
 clear hHeld2
 clear hS4 HE3 HK3
 refine wpAnyH_ready (rs := [8]) (by kernel_rfl) (by simp) ?_
 refine AllReadyH.cons rfl (fun K hK => ?_) AllReadyH.nil
 rw [if_pos (by kernel_rfl)]
 have HKR : Hid (Blk (y2.setRow (G + 1) #[.int .i64 r, .int .i64 t]) (G + 1) 30 #[.int .i64 r, .int .i64 t]) := Lib.hid (setRow_heap y2 (G + 1) _ _ 30 _ (HK4.out _ (.head _)))
 have HE6 := Lib.hid (below_setRow HE4.out (show w.heap.size ≤ G + 1 by have := HG.out; omega) #[.int .i64 r, .int .i64 t])
 have hS6 : Boxes (y2.setRow (G + 1) #[.int .i64 r, .int .i64 t]) [(G, 123, #[fnV a, fnV 191, fnV km, fnV kh, fnV s, .int .i64 x, .int .i64 y, .int .i64 z]), (Bh, 35, #[.int .i64 id, .int .i64 al, .int .i64 ah, .slice A n c, .slice B mm d, .slice C l ee, .int .i64 t0, .int .i64 t1, .int .i64 u0, .int .i64 u1, .int .i64 v0, .int .i64 v1, .int .i64 h0, .int .i64 h1]), (Bf, 55, #[.int .i64 fh, .int .i64 st, .int .i64 x0, .int .i64 x1, .int .i64 d0, .int .i64 d1])] := hHeld.farRow (fun p hp => by
  rcases List.mem_cons.1 hp with rfl | hp
  ·show G ≠ G + 1; omega
  rcases List.mem_cons.1 hp with rfl | hp
  ·show Bh ≠ G + 1; omega
  rcases List.mem_singleton.1 hp with rfl
  show Bf ≠ G + 1; omega) _
 refine wp_store_row 30 (.tmp 4) (.tmp 12) rfl (G + 1) #[.int .i64 r, .int .i64 t] rfl rfl 30 _ (HK4.out _ (.head _)) (by kernel_rfl) rfl (by kernel_rfl) ?_
 obtain ⟨W6, hW6⟩ : ∃ W6, y2.setRow (G + 1) #[.int .i64 r, .int .i64 t] = W6 := ⟨_, rfl⟩
 rw [hW6] at HKR HE6 hS6 ⊢
 refine hK.out _ _ hS6 (fun hHeld2 => ?_)
 clear hW6 hK K hHeld hHeld2 hS6
 refine wpAnyH_done (by kernel_rfl) ?_ _
 go_wp2
 exact bodyPost_ret (v := .agg #[.int .i64 r, .int .i64 t]) (results_cell_row Tryz.results94 _ _ (G + 1) 30 #[.int .i64 r, .int .i64 t] (0, 0) _ rfl HKR.out Tryz.underlying30 rfl (by kernel_rfl)) rfl ⟨rfl, HE6.out⟩

set_option maxRecDepth 100000 in
set_option maxHeartbeats 4000000 in
theorem mass1_2 (a kv km kh s : Nat) (x y z p q r t : Int) (id al ah t0 t1 u0 u1 v0 v1 h0 h1 : Int) (A B C : Option Addr) (n c mm d l ee : Nat) (fh st x0 x1 d0 d1 : Int) (Bh Bf : Nat) (w : World) (hB : Blk w Bh 35 #[.int .i64 id, .int .i64 al, .int .i64 ah, .slice A n c, .slice B mm d, .slice C l ee, .int .i64 t0, .int .i64 t1, .int .i64 u0, .int .i64 u1, .int .i64 v0, .int .i64 v1, .int .i64 h0, .int .i64 h1]) (fB : Blk w Bf 55 #[.int .i64 fh, .int .i64 st, .int .i64 x0, .int .i64 x1, .int .i64 d0, .int .i64 d1])
  (hC : ∀ W, Below w.heap.size w W → Calls Tryz.prog 195 #[.agg #[.int .i64 id, .int .i64 al, .int .i64 ah, .slice A n c, .slice B mm d, .slice C l ee, .int .i64 t0, .int .i64 t1, .int .i64 u0, .int .i64 u1, .int .i64 v0, .int .i64 v1, .int .i64 h0, .int .i64 h1], .agg #[.int .i64 fh, .int .i64 st, .int .i64 x0, .int .i64 x1, .int .i64 d0, .int .i64 d1]] W fun e w' => e = .returned (rv p q) ∧ Below W.heap.size W w') (hr : (denseS p q d0 d1).1 = r) (ht : (denseS p q d0 d1).2.1 = t) :
  Calls Tryz.prog 94 #[.agg #[fnV a, fnV 195, fnV km, fnV kh, fnV s, .int .i64 x, .int .i64 y, .int .i64 z], .pointer (some ⟨Bh, 0, none⟩), .pointer (some ⟨Bf, 0, none⟩)] w fun e w' => e = .returned (rv r t) ∧ Below w.heap.size w w' := by
 have HE := Lib.hid (show Below w.heap.size w ((w.alloc (.cells #[fnV a, fnV 195, fnV km, fnV kh, fnV s, .int .i64 x, .int .i64 y, .int .i64 z] 123)).alloc (.cells #[.int .i64 0, .int .i64 0] 30)) from below_a2 (Below.refl _ _))
 have HK := Lib.hid (boxes2' w 123 30 #[fnV a, fnV 195, fnV km, fnV kh, fnV s, .int .i64 x, .int .i64 y, .int .i64 z] #[.int .i64 0, .int .i64 0])
 have CC := Lib.hid hC
 have CD : Hid (∀ W, Calls Tryz.prog 87 #[rv p q, rv d0 d1] W fun e w' => e = .returned (rv r t) ∧ Below W.heap.size W w') := Lib.hid fun W => by rw [← hr, ← ht]; exact dense_any p q d0 d1 W
 have HH := Lib.hid (blkOn hB HE.out)
 have HF := Lib.hid (blkOn fB HE.out)
 have lb := hB.lt
 have lf := fB.lt
 clear hB fB hC hr ht
 go_enter Tryz.func94, Tryz.ntmps94
 go_upto_region 1 with fail
 obtain ⟨W0, hW0⟩ : ∃ W0, ((w.alloc (.cells #[fnV a, fnV 195, fnV km, fnV kh, fnV s, .int .i64 x, .int .i64 y, .int .i64 z] 123)).alloc (.cells #[.int .i64 0, .int .i64 0] 30)) = W0 := ⟨_, rfl⟩
 rw [hW0] at HE HK HH HF ⊢
 clear hW0
 obtain ⟨G, hG⟩ : ∃ G, w.heap.size = G := ⟨_, rfl⟩
 rw [hG] at HK lb lf ⊢
 have HG := Lib.hid hG; clear hG
 have HS : Hid (Boxes W0.drew [(G, 123, #[fnV a, fnV 195, fnV km, fnV kh, fnV s, .int .i64 x, .int .i64 y, .int .i64 z]), (Bh, 35, #[.int .i64 id, .int .i64 al, .int .i64 ah, .slice A n c, .slice B mm d, .slice C l ee, .int .i64 t0, .int .i64 t1, .int .i64 u0, .int .i64 u1, .int .i64 v0, .int .i64 v1, .int .i64 h0, .int .i64 h1]), (Bf, 55, #[.int .i64 fh, .int .i64 st, .int .i64 x0, .int .i64 x1, .int .i64 d0, .int .i64 d1])]) := Lib.hid (fun p hp => by
  rcases List.mem_cons.1 hp with rfl | hp
  ·exact HK.out _ (.tail _ (.head _))
  rcases List.mem_cons.1 hp with rfl | hp
  ·exact HH.out
  rcases List.mem_singleton.1 hp with rfl
  exact HF.out)
 clear HH HF
 refine wp_region_held_drew (S := fun w' => Boxes w' [(G, 123, #[fnV a, fnV 195, fnV km, fnV kh, fnV s, .int .i64 x, .int .i64 y, .int .i64 z]), (Bh, 35, #[.int .i64 id, .int .i64 al, .int .i64 ah, .slice A n c, .slice B mm d, .slice C l ee, .int .i64 t0, .int .i64 t1, .int .i64 u0, .int .i64 u1, .int .i64 v0, .int .i64 v1, .int .i64 h0, .int .i64 h1]), (Bf, 55, #[.int .i64 fh, .int .i64 st, .int .i64 x0, .int .i64 x1, .int .i64 d0, .int .i64 d1])]) (by kernel_rfl) HS.out (fun hHeld => ?_)
 refine tK 5 (i := 0) (v := .pointer (some ⟨G, 1, none⟩)) rfl rfl (by kernel_rfl) ?_ hHeld ?_
 ·intro w hSw; clear hSw; go_simp; try with_reducible rfl
 simp only [uZ, uS]
 refine tK 6 (i := 1) (v := fnV 195) rfl rfl (by kernel_rfl) ?_ hHeld ?_
 ·intro w hSw; have c := (hSw _ (.head _)).cell 1; simp at c; clear hSw; go_simp; try with_reducible rfl
 simp only [uZ, uS]
 refine tK 7 (i := 2) (v := .agg #[.int .i64 id, .int .i64 al, .int .i64 ah, .slice A n c, .slice B mm d, .slice C l ee, .int .i64 t0, .int .i64 t1, .int .i64 u0, .int .i64 u1, .int .i64 v0, .int .i64 v1, .int .i64 h0, .int .i64 h1]) rfl rfl (by kernel_rfl) ?_ hHeld ?_
 ·intro w hSw; have hz := (hSw _ (.tail _ (.head _))); have c0 := hz.cell 0; have c1 := hz.cell 1; have c2 := hz.cell 2; have c3 := hz.cell 3; have c4 := hz.cell 4; have c5 := hz.cell 5; have c6 := hz.cell 6; have c7 := hz.cell 7; have c8 := hz.cell 8; have c9 := hz.cell 9; have c10 := hz.cell 10; have c11 := hz.cell 11; have c12 := hz.cell 12; have c13 := hz.cell 13; simp at c0 c1 c2 c3 c4 c5 c6 c7 c8 c9 c10 c11 c12 c13; clear hz hSw; go_simp; try with_reducible rfl
 simp only [uZ, uS]
 refine tK 8 (i := 3) (v := .agg #[.int .i64 fh, .int .i64 st, .int .i64 x0, .int .i64 x1, .int .i64 d0, .int .i64 d1]) rfl rfl (by kernel_rfl) ?_ hHeld ?_
 ·intro w hSw; have hz := (hSw _ (.tail _ (.tail _ (.head _)))); have c0 := hz.cell 0; have c1 := hz.cell 1; have c2 := hz.cell 2; have c3 := hz.cell 3; have c4 := hz.cell 4; have c5 := hz.cell 5; simp at c0 c1 c2 c3 c4 c5; clear hz hSw; go_simp; try with_reducible rfl
 simp only [uZ, uS]
 refine tK 10 (i := 5) (v := .pointer (some ⟨Bf, 4, none⟩)) rfl rfl (by kernel_rfl) ?_ hHeld ?_
 ·intro w hSw; clear hSw; go_simp; try with_reducible rfl
 simp only [uZ, uS]
 refine tK 11 (i := 6) (v := rv d0 d1) rfl rfl (by kernel_rfl) ?_ hHeld ?_
 ·intro w hSw; have hz := (hSw _ (.tail _ (.tail _ (.head _)))); have c4 := hz.cell 4; have c5 := hz.cell 5; simp at c4 c5; clear hz hSw; go_simp; try with_reducible rfl
 simp only [uZ, uS]
 refine wpAnyH_ready (rs := [4]) (by kernel_rfl) (by simp) ?_
 refine AllReadyH.cons rfl (fun K hK => ?_) AllReadyH.nil
 go_simp
 (with_reducible refine (CC.out _ (below_then HE.out (below_drew1 _))).mono ?_)
 rintro e y1 ⟨rfl, hb⟩
 have HE3 := Lib.hid (below_then (below_then HE.out (below_drew1 _)) hb)
 have HK3 := Lib.hid ((HK.out.on (below_drew1 _)).on hb)
 have hS3 := hHeld.on hb
 clear hb
 refine hK.out _ _ (hS3) (fun hHeld2 => ?_)
 try simp only [Act.put, uA, uZ, uS]
 clear hK K hHeld
 have hHeld := hHeld2
 clear hHeld2
 clear hS3 HE HK
 refine wpAnyH_ready (rs := [7]) (by kernel_rfl) (by simp) ?_
 refine AllReadyH.cons rfl (fun K hK => ?_) AllReadyH.nil
 go_simp
 (with_reducible refine (CD.out _).mono ?_)
 rintro e y2 ⟨rfl, hb⟩
 have HE4 := Lib.hid (below_then HE3.out hb)
 have HK4 := Lib.hid (HK3.out.on hb)
 have hS4 := hHeld.on hb
 clear hb
 refine hK.out _ _ (hS4) (fun hHeld2 => ?_)
 try simp only [Act.put, uA, uZ, uS]
 clear hK K hHeld
 have hHeld := hHeld2
 clear hHeld2
 clear hS4 HE3 HK3
 refine wpAnyH_ready (rs := [8]) (by kernel_rfl) (by simp) ?_
 refine AllReadyH.cons rfl (fun K hK => ?_) AllReadyH.nil
 rw [if_pos (by kernel_rfl)]
 have HKR : Hid (Blk (y2.setRow (G + 1) #[.int .i64 r, .int .i64 t]) (G + 1) 30 #[.int .i64 r, .int .i64 t]) := Lib.hid (setRow_heap y2 (G + 1) _ _ 30 _ (HK4.out _ (.head _)))
 have HE6 := Lib.hid (below_setRow HE4.out (show w.heap.size ≤ G + 1 by have := HG.out; omega) #[.int .i64 r, .int .i64 t])
 have hS6 : Boxes (y2.setRow (G + 1) #[.int .i64 r, .int .i64 t]) [(G, 123, #[fnV a, fnV 195, fnV km, fnV kh, fnV s, .int .i64 x, .int .i64 y, .int .i64 z]), (Bh, 35, #[.int .i64 id, .int .i64 al, .int .i64 ah, .slice A n c, .slice B mm d, .slice C l ee, .int .i64 t0, .int .i64 t1, .int .i64 u0, .int .i64 u1, .int .i64 v0, .int .i64 v1, .int .i64 h0, .int .i64 h1]), (Bf, 55, #[.int .i64 fh, .int .i64 st, .int .i64 x0, .int .i64 x1, .int .i64 d0, .int .i64 d1])] := hHeld.farRow (fun p hp => by
  rcases List.mem_cons.1 hp with rfl | hp
  ·show G ≠ G + 1; omega
  rcases List.mem_cons.1 hp with rfl | hp
  ·show Bh ≠ G + 1; omega
  rcases List.mem_singleton.1 hp with rfl
  show Bf ≠ G + 1; omega) _
 refine wp_store_row 30 (.tmp 4) (.tmp 12) rfl (G + 1) #[.int .i64 r, .int .i64 t] rfl rfl 30 _ (HK4.out _ (.head _)) (by kernel_rfl) rfl (by kernel_rfl) ?_
 obtain ⟨W6, hW6⟩ : ∃ W6, y2.setRow (G + 1) #[.int .i64 r, .int .i64 t] = W6 := ⟨_, rfl⟩
 rw [hW6] at HKR HE6 hS6 ⊢
 refine hK.out _ _ hS6 (fun hHeld2 => ?_)
 clear hW6 hK K hHeld hHeld2 hS6
 refine wpAnyH_done (by kernel_rfl) ?_ _
 go_wp2
 exact bodyPost_ret (v := .agg #[.int .i64 r, .int .i64 t]) (results_cell_row Tryz.results94 _ _ (G + 1) 30 #[.int .i64 r, .int .i64 t] (0, 0) _ rfl HKR.out Tryz.underlying30 rfl (by kernel_rfl)) rfl ⟨rfl, HE6.out⟩
theorem mass1_any (h : HoldD) (m : HoldM) (f : FillD) (Bh Bf : Nat) (w : World) (hi : HoldIn w h m) (q0 : 0 ≤ f.st) (q5 : f.st ≤ 5) (hB : Blk w Bh 35 (holdCells h m)) (fB : Blk w Bf 55 (fillCells f)) :
    Calls Tryz.prog 94 #[.agg (mM f.st), .pointer (some ⟨Bh, 0, none⟩), .pointer (some ⟨Bf, 0, none⟩)] w fun e w' => e = .returned (rv (denseS (volS h f).1 (volS h f).2 f.d0 f.d1).1 (denseS (volS h f).1 (volS h f).2 f.d0 f.d1).2.1) ∧ Below w.heap.size w w' := by
  have hC := fun W (hW : Below w.heap.size w W) => volF_to h m f W (hi.below hW) q0 q5
  obtain ⟨id, al, ah, vol, mom, hei, t0, t1, u0, u1, v0, v1, h0, h1⟩ := h
  obtain ⟨A, n, c, B, mm, d, C, l, ee⟩ := m
  obtain ⟨fh, st, x0, x1, d0, d1⟩ := f
  dsimp only at hC q0 q5 hB fB ⊢
  rcases st_cases q0 q5 with rfl | rfl | rfl | rfl | rfl | rfl
  · rw [show mM 0 = emptyM from rfl]
    exact mass1_0 _ 0 _ _ _ _ _ _ _ _ _ _ id al ah t0 t1 u0 u1 v0 v1 h0 h1 A B C n c mm d l ee fh 0 x0 x1 d0 d1 Bh Bf w hB fB hC rfl rfl
  · rw [show mM 1 = filledM 150 from rfl]
    exact mass1_1 _ 0 _ _ _ _ _ _ _ _ _ _ id al ah t0 t1 u0 u1 v0 v1 h0 h1 A B C n c mm d l ee fh 1 x0 x1 d0 d1 Bh Bf w hB fB hC rfl rfl
  · rw [show mM 2 = filledM 151 from rfl]
    exact mass1_1 _ 0 _ _ _ _ _ _ _ _ _ _ id al ah t0 t1 u0 u1 v0 v1 h0 h1 A B C n c mm d l ee fh 2 x0 x1 d0 d1 Bh Bf w hB fB hC rfl rfl
  · rw [show mM 3 = partlyM 153 from rfl]
    exact mass1_2 _ 0 _ _ _ _ _ _ _ _ _ _ id al ah t0 t1 u0 u1 v0 v1 h0 h1 A B C n c mm d l ee fh 3 x0 x1 d0 d1 Bh Bf w hB fB hC rfl rfl
  · rw [show mM 4 = heldM from rfl]
    exact mass1_2 _ 0 _ _ _ _ _ _ _ _ _ _ id al ah t0 t1 u0 u1 v0 v1 h0 h1 A B C n c mm d l ee fh 4 x0 x1 d0 d1 Bh Bf w hB fB hC rfl rfl
  · rw [show mM 5 = heldM from rfl]
    exact mass1_2 _ 0 _ _ _ _ _ _ _ _ _ _ id al ah t0 t1 u0 u1 v0 v1 h0 h1 A B C n c mm d l ee fh 5 x0 x1 d0 d1 Bh Bf w hB fB hC rfl rfl

set_option maxRecDepth 100000 in
set_option maxHeartbeats 4000000 in
theorem heel1_0 (a kv km kh s : Nat) (x y z p q r t : Int) (id al ah t0 t1 u0 u1 v0 v1 h0 h1 : Int) (A B C : Option Addr) (n c mm d l ee : Nat) (fh st x0 x1 d0 d1 : Int) (Bh Bf : Nat) (w : World) (hB : Blk w Bh 35 #[.int .i64 id, .int .i64 al, .int .i64 ah, .slice A n c, .slice B mm d, .slice C l ee, .int .i64 t0, .int .i64 t1, .int .i64 u0, .int .i64 u1, .int .i64 v0, .int .i64 v1, .int .i64 h0, .int .i64 h1]) (fB : Blk w Bf 55 #[.int .i64 fh, .int .i64 st, .int .i64 x0, .int .i64 x1, .int .i64 d0, .int .i64 d1])
  (hC : ∀ W, Below w.heap.size w W → Calls Tryz.prog 188 #[.agg #[.int .i64 id, .int .i64 al, .int .i64 ah, .slice A n c, .slice B mm d, .slice C l ee, .int .i64 t0, .int .i64 t1, .int .i64 u0, .int .i64 u1, .int .i64 v0, .int .i64 v1, .int .i64 h0, .int .i64 h1], .agg #[.int .i64 fh, .int .i64 st, .int .i64 x0, .int .i64 x1, .int .i64 d0, .int .i64 d1]] W fun e w' => e = .returned (rv p q) ∧ Below W.heap.size W w') (hr : (denseS p q d0 d1).1 = r) (ht : (denseS p q d0 d1).2.1 = t) :
  Calls Tryz.prog 86 #[.agg #[fnV a, fnV kv, fnV 188, fnV kh, fnV s, .int .i64 x, .int .i64 y, .int .i64 z], .pointer (some ⟨Bh, 0, none⟩), .pointer (some ⟨Bf, 0, none⟩)] w fun e w' => e = .returned (rv r t) ∧ Below w.heap.size w w' := by
 have HE := Lib.hid (show Below w.heap.size w ((w.alloc (.cells #[fnV a, fnV kv, fnV 188, fnV kh, fnV s, .int .i64 x, .int .i64 y, .int .i64 z] 123)).alloc (.cells #[.int .i64 0, .int .i64 0] 30)) from below_a2 (Below.refl _ _))
 have HK := Lib.hid (boxes2' w 123 30 #[fnV a, fnV kv, fnV 188, fnV kh, fnV s, .int .i64 x, .int .i64 y, .int .i64 z] #[.int .i64 0, .int .i64 0])
 have CC := Lib.hid hC
 have CD : Hid (∀ W, Calls Tryz.prog 87 #[rv p q, rv d0 d1] W fun e w' => e = .returned (rv r t) ∧ Below W.heap.size W w') := Lib.hid fun W => by rw [← hr, ← ht]; exact dense_any p q d0 d1 W
 have HH := Lib.hid (blkOn hB HE.out)
 have HF := Lib.hid (blkOn fB HE.out)
 have lb := hB.lt
 have lf := fB.lt
 clear hB fB hC hr ht
 go_enter Tryz.func86, Tryz.ntmps86
 go_upto_region 1 with fail
 obtain ⟨W0, hW0⟩ : ∃ W0, ((w.alloc (.cells #[fnV a, fnV kv, fnV 188, fnV kh, fnV s, .int .i64 x, .int .i64 y, .int .i64 z] 123)).alloc (.cells #[.int .i64 0, .int .i64 0] 30)) = W0 := ⟨_, rfl⟩
 rw [hW0] at HE HK HH HF ⊢
 clear hW0
 obtain ⟨G, hG⟩ : ∃ G, w.heap.size = G := ⟨_, rfl⟩
 rw [hG] at HK lb lf ⊢
 have HG := Lib.hid hG; clear hG
 have HS : Hid (Boxes W0.drew [(G, 123, #[fnV a, fnV kv, fnV 188, fnV kh, fnV s, .int .i64 x, .int .i64 y, .int .i64 z]), (Bh, 35, #[.int .i64 id, .int .i64 al, .int .i64 ah, .slice A n c, .slice B mm d, .slice C l ee, .int .i64 t0, .int .i64 t1, .int .i64 u0, .int .i64 u1, .int .i64 v0, .int .i64 v1, .int .i64 h0, .int .i64 h1]), (Bf, 55, #[.int .i64 fh, .int .i64 st, .int .i64 x0, .int .i64 x1, .int .i64 d0, .int .i64 d1])]) := Lib.hid (fun p hp => by
  rcases List.mem_cons.1 hp with rfl | hp
  ·exact HK.out _ (.tail _ (.head _))
  rcases List.mem_cons.1 hp with rfl | hp
  ·exact HH.out
  rcases List.mem_singleton.1 hp with rfl
  exact HF.out)
 clear HH HF
 refine wp_region_held_drew (S := fun w' => Boxes w' [(G, 123, #[fnV a, fnV kv, fnV 188, fnV kh, fnV s, .int .i64 x, .int .i64 y, .int .i64 z]), (Bh, 35, #[.int .i64 id, .int .i64 al, .int .i64 ah, .slice A n c, .slice B mm d, .slice C l ee, .int .i64 t0, .int .i64 t1, .int .i64 u0, .int .i64 u1, .int .i64 v0, .int .i64 v1, .int .i64 h0, .int .i64 h1]), (Bf, 55, #[.int .i64 fh, .int .i64 st, .int .i64 x0, .int .i64 x1, .int .i64 d0, .int .i64 d1])]) (by kernel_rfl) HS.out (fun hHeld => ?_)
 refine tK 5 (i := 0) (v := .pointer (some ⟨G, 2, none⟩)) rfl rfl (by kernel_rfl) ?_ hHeld ?_
 ·intro w hSw; clear hSw; go_simp; try with_reducible rfl
 simp only [uZ, uS]
 refine tK 6 (i := 1) (v := fnV 188) rfl rfl (by kernel_rfl) ?_ hHeld ?_
 ·intro w hSw; have c := (hSw _ (.head _)).cell 2; simp at c; clear hSw; go_simp; try with_reducible rfl
 simp only [uZ, uS]
 refine tK 7 (i := 2) (v := .agg #[.int .i64 id, .int .i64 al, .int .i64 ah, .slice A n c, .slice B mm d, .slice C l ee, .int .i64 t0, .int .i64 t1, .int .i64 u0, .int .i64 u1, .int .i64 v0, .int .i64 v1, .int .i64 h0, .int .i64 h1]) rfl rfl (by kernel_rfl) ?_ hHeld ?_
 ·intro w hSw; have hz := (hSw _ (.tail _ (.head _))); have c0 := hz.cell 0; have c1 := hz.cell 1; have c2 := hz.cell 2; have c3 := hz.cell 3; have c4 := hz.cell 4; have c5 := hz.cell 5; have c6 := hz.cell 6; have c7 := hz.cell 7; have c8 := hz.cell 8; have c9 := hz.cell 9; have c10 := hz.cell 10; have c11 := hz.cell 11; have c12 := hz.cell 12; have c13 := hz.cell 13; simp at c0 c1 c2 c3 c4 c5 c6 c7 c8 c9 c10 c11 c12 c13; clear hz hSw; go_simp; try with_reducible rfl
 simp only [uZ, uS]
 refine tK 8 (i := 3) (v := .agg #[.int .i64 fh, .int .i64 st, .int .i64 x0, .int .i64 x1, .int .i64 d0, .int .i64 d1]) rfl rfl (by kernel_rfl) ?_ hHeld ?_
 ·intro w hSw; have hz := (hSw _ (.tail _ (.tail _ (.head _)))); have c0 := hz.cell 0; have c1 := hz.cell 1; have c2 := hz.cell 2; have c3 := hz.cell 3; have c4 := hz.cell 4; have c5 := hz.cell 5; simp at c0 c1 c2 c3 c4 c5; clear hz hSw; go_simp; try with_reducible rfl
 simp only [uZ, uS]
 refine tK 10 (i := 5) (v := .pointer (some ⟨Bf, 4, none⟩)) rfl rfl (by kernel_rfl) ?_ hHeld ?_
 ·intro w hSw; clear hSw; go_simp; try with_reducible rfl
 simp only [uZ, uS]
 refine tK 11 (i := 6) (v := rv d0 d1) rfl rfl (by kernel_rfl) ?_ hHeld ?_
 ·intro w hSw; have hz := (hSw _ (.tail _ (.tail _ (.head _)))); have c4 := hz.cell 4; have c5 := hz.cell 5; simp at c4 c5; clear hz hSw; go_simp; try with_reducible rfl
 simp only [uZ, uS]
 refine wpAnyH_ready (rs := [4]) (by kernel_rfl) (by simp) ?_
 refine AllReadyH.cons rfl (fun K hK => ?_) AllReadyH.nil
 go_simp
 (with_reducible refine (CC.out _ (below_then HE.out (below_drew1 _))).mono ?_)
 rintro e y1 ⟨rfl, hb⟩
 have HE3 := Lib.hid (below_then (below_then HE.out (below_drew1 _)) hb)
 have HK3 := Lib.hid ((HK.out.on (below_drew1 _)).on hb)
 have hS3 := hHeld.on hb
 clear hb
 refine hK.out _ _ (hS3) (fun hHeld2 => ?_)
 try simp only [Act.put, uA, uZ, uS]
 clear hK K hHeld
 have hHeld := hHeld2
 clear hHeld2
 clear hS3 HE HK
 refine wpAnyH_ready (rs := [7]) (by kernel_rfl) (by simp) ?_
 refine AllReadyH.cons rfl (fun K hK => ?_) AllReadyH.nil
 go_simp
 (with_reducible refine (CD.out _).mono ?_)
 rintro e y2 ⟨rfl, hb⟩
 have HE4 := Lib.hid (below_then HE3.out hb)
 have HK4 := Lib.hid (HK3.out.on hb)
 have hS4 := hHeld.on hb
 clear hb
 refine hK.out _ _ (hS4) (fun hHeld2 => ?_)
 try simp only [Act.put, uA, uZ, uS]
 clear hK K hHeld
 have hHeld := hHeld2
 clear hHeld2
 clear hS4 HE3 HK3
 refine wpAnyH_ready (rs := [8]) (by kernel_rfl) (by simp) ?_
 refine AllReadyH.cons rfl (fun K hK => ?_) AllReadyH.nil
 rw [if_pos (by kernel_rfl)]
 have HKR : Hid (Blk (y2.setRow (G + 1) #[.int .i64 r, .int .i64 t]) (G + 1) 30 #[.int .i64 r, .int .i64 t]) := Lib.hid (setRow_heap y2 (G + 1) _ _ 30 _ (HK4.out _ (.head _)))
 have HE6 := Lib.hid (below_setRow HE4.out (show w.heap.size ≤ G + 1 by have := HG.out; omega) #[.int .i64 r, .int .i64 t])
 have hS6 : Boxes (y2.setRow (G + 1) #[.int .i64 r, .int .i64 t]) [(G, 123, #[fnV a, fnV kv, fnV 188, fnV kh, fnV s, .int .i64 x, .int .i64 y, .int .i64 z]), (Bh, 35, #[.int .i64 id, .int .i64 al, .int .i64 ah, .slice A n c, .slice B mm d, .slice C l ee, .int .i64 t0, .int .i64 t1, .int .i64 u0, .int .i64 u1, .int .i64 v0, .int .i64 v1, .int .i64 h0, .int .i64 h1]), (Bf, 55, #[.int .i64 fh, .int .i64 st, .int .i64 x0, .int .i64 x1, .int .i64 d0, .int .i64 d1])] := hHeld.farRow (fun p hp => by
  rcases List.mem_cons.1 hp with rfl | hp
  ·show G ≠ G + 1; omega
  rcases List.mem_cons.1 hp with rfl | hp
  ·show Bh ≠ G + 1; omega
  rcases List.mem_singleton.1 hp with rfl
  show Bf ≠ G + 1; omega) _
 refine wp_store_row 30 (.tmp 4) (.tmp 12) rfl (G + 1) #[.int .i64 r, .int .i64 t] rfl rfl 30 _ (HK4.out _ (.head _)) (by kernel_rfl) rfl (by kernel_rfl) ?_
 obtain ⟨W6, hW6⟩ : ∃ W6, y2.setRow (G + 1) #[.int .i64 r, .int .i64 t] = W6 := ⟨_, rfl⟩
 rw [hW6] at HKR HE6 hS6 ⊢
 refine hK.out _ _ hS6 (fun hHeld2 => ?_)
 clear hW6 hK K hHeld hHeld2 hS6
 refine wpAnyH_done (by kernel_rfl) ?_ _
 go_wp2
 exact bodyPost_ret (v := .agg #[.int .i64 r, .int .i64 t]) (results_cell_row Tryz.results86 _ _ (G + 1) 30 #[.int .i64 r, .int .i64 t] (0, 0) _ rfl HKR.out Tryz.underlying30 rfl (by kernel_rfl)) rfl ⟨rfl, HE6.out⟩

set_option maxRecDepth 100000 in
set_option maxHeartbeats 4000000 in
theorem heel1_1 (a kv km kh s : Nat) (x y z p q r t : Int) (id al ah t0 t1 u0 u1 v0 v1 h0 h1 : Int) (A B C : Option Addr) (n c mm d l ee : Nat) (fh st x0 x1 d0 d1 : Int) (Bh Bf : Nat) (w : World) (hB : Blk w Bh 35 #[.int .i64 id, .int .i64 al, .int .i64 ah, .slice A n c, .slice B mm d, .slice C l ee, .int .i64 t0, .int .i64 t1, .int .i64 u0, .int .i64 u1, .int .i64 v0, .int .i64 v1, .int .i64 h0, .int .i64 h1]) (fB : Blk w Bf 55 #[.int .i64 fh, .int .i64 st, .int .i64 x0, .int .i64 x1, .int .i64 d0, .int .i64 d1])
  (hC : ∀ W, Below w.heap.size w W → Calls Tryz.prog 150 #[.agg #[.int .i64 id, .int .i64 al, .int .i64 ah, .slice A n c, .slice B mm d, .slice C l ee, .int .i64 t0, .int .i64 t1, .int .i64 u0, .int .i64 u1, .int .i64 v0, .int .i64 v1, .int .i64 h0, .int .i64 h1], .agg #[.int .i64 fh, .int .i64 st, .int .i64 x0, .int .i64 x1, .int .i64 d0, .int .i64 d1]] W fun e w' => e = .returned (rv p q) ∧ Below W.heap.size W w') (hr : (denseS p q d0 d1).1 = r) (ht : (denseS p q d0 d1).2.1 = t) :
  Calls Tryz.prog 86 #[.agg #[fnV a, fnV kv, fnV 150, fnV kh, fnV s, .int .i64 x, .int .i64 y, .int .i64 z], .pointer (some ⟨Bh, 0, none⟩), .pointer (some ⟨Bf, 0, none⟩)] w fun e w' => e = .returned (rv r t) ∧ Below w.heap.size w w' := by
 have HE := Lib.hid (show Below w.heap.size w ((w.alloc (.cells #[fnV a, fnV kv, fnV 150, fnV kh, fnV s, .int .i64 x, .int .i64 y, .int .i64 z] 123)).alloc (.cells #[.int .i64 0, .int .i64 0] 30)) from below_a2 (Below.refl _ _))
 have HK := Lib.hid (boxes2' w 123 30 #[fnV a, fnV kv, fnV 150, fnV kh, fnV s, .int .i64 x, .int .i64 y, .int .i64 z] #[.int .i64 0, .int .i64 0])
 have CC := Lib.hid hC
 have CD : Hid (∀ W, Calls Tryz.prog 87 #[rv p q, rv d0 d1] W fun e w' => e = .returned (rv r t) ∧ Below W.heap.size W w') := Lib.hid fun W => by rw [← hr, ← ht]; exact dense_any p q d0 d1 W
 have HH := Lib.hid (blkOn hB HE.out)
 have HF := Lib.hid (blkOn fB HE.out)
 have lb := hB.lt
 have lf := fB.lt
 clear hB fB hC hr ht
 go_enter Tryz.func86, Tryz.ntmps86
 go_upto_region 1 with fail
 obtain ⟨W0, hW0⟩ : ∃ W0, ((w.alloc (.cells #[fnV a, fnV kv, fnV 150, fnV kh, fnV s, .int .i64 x, .int .i64 y, .int .i64 z] 123)).alloc (.cells #[.int .i64 0, .int .i64 0] 30)) = W0 := ⟨_, rfl⟩
 rw [hW0] at HE HK HH HF ⊢
 clear hW0
 obtain ⟨G, hG⟩ : ∃ G, w.heap.size = G := ⟨_, rfl⟩
 rw [hG] at HK lb lf ⊢
 have HG := Lib.hid hG; clear hG
 have HS : Hid (Boxes W0.drew [(G, 123, #[fnV a, fnV kv, fnV 150, fnV kh, fnV s, .int .i64 x, .int .i64 y, .int .i64 z]), (Bh, 35, #[.int .i64 id, .int .i64 al, .int .i64 ah, .slice A n c, .slice B mm d, .slice C l ee, .int .i64 t0, .int .i64 t1, .int .i64 u0, .int .i64 u1, .int .i64 v0, .int .i64 v1, .int .i64 h0, .int .i64 h1]), (Bf, 55, #[.int .i64 fh, .int .i64 st, .int .i64 x0, .int .i64 x1, .int .i64 d0, .int .i64 d1])]) := Lib.hid (fun p hp => by
  rcases List.mem_cons.1 hp with rfl | hp
  ·exact HK.out _ (.tail _ (.head _))
  rcases List.mem_cons.1 hp with rfl | hp
  ·exact HH.out
  rcases List.mem_singleton.1 hp with rfl
  exact HF.out)
 clear HH HF
 refine wp_region_held_drew (S := fun w' => Boxes w' [(G, 123, #[fnV a, fnV kv, fnV 150, fnV kh, fnV s, .int .i64 x, .int .i64 y, .int .i64 z]), (Bh, 35, #[.int .i64 id, .int .i64 al, .int .i64 ah, .slice A n c, .slice B mm d, .slice C l ee, .int .i64 t0, .int .i64 t1, .int .i64 u0, .int .i64 u1, .int .i64 v0, .int .i64 v1, .int .i64 h0, .int .i64 h1]), (Bf, 55, #[.int .i64 fh, .int .i64 st, .int .i64 x0, .int .i64 x1, .int .i64 d0, .int .i64 d1])]) (by kernel_rfl) HS.out (fun hHeld => ?_)
 refine tK 5 (i := 0) (v := .pointer (some ⟨G, 2, none⟩)) rfl rfl (by kernel_rfl) ?_ hHeld ?_
 ·intro w hSw; clear hSw; go_simp; try with_reducible rfl
 simp only [uZ, uS]
 refine tK 6 (i := 1) (v := fnV 150) rfl rfl (by kernel_rfl) ?_ hHeld ?_
 ·intro w hSw; have c := (hSw _ (.head _)).cell 2; simp at c; clear hSw; go_simp; try with_reducible rfl
 simp only [uZ, uS]
 refine tK 7 (i := 2) (v := .agg #[.int .i64 id, .int .i64 al, .int .i64 ah, .slice A n c, .slice B mm d, .slice C l ee, .int .i64 t0, .int .i64 t1, .int .i64 u0, .int .i64 u1, .int .i64 v0, .int .i64 v1, .int .i64 h0, .int .i64 h1]) rfl rfl (by kernel_rfl) ?_ hHeld ?_
 ·intro w hSw; have hz := (hSw _ (.tail _ (.head _))); have c0 := hz.cell 0; have c1 := hz.cell 1; have c2 := hz.cell 2; have c3 := hz.cell 3; have c4 := hz.cell 4; have c5 := hz.cell 5; have c6 := hz.cell 6; have c7 := hz.cell 7; have c8 := hz.cell 8; have c9 := hz.cell 9; have c10 := hz.cell 10; have c11 := hz.cell 11; have c12 := hz.cell 12; have c13 := hz.cell 13; simp at c0 c1 c2 c3 c4 c5 c6 c7 c8 c9 c10 c11 c12 c13; clear hz hSw; go_simp; try with_reducible rfl
 simp only [uZ, uS]
 refine tK 8 (i := 3) (v := .agg #[.int .i64 fh, .int .i64 st, .int .i64 x0, .int .i64 x1, .int .i64 d0, .int .i64 d1]) rfl rfl (by kernel_rfl) ?_ hHeld ?_
 ·intro w hSw; have hz := (hSw _ (.tail _ (.tail _ (.head _)))); have c0 := hz.cell 0; have c1 := hz.cell 1; have c2 := hz.cell 2; have c3 := hz.cell 3; have c4 := hz.cell 4; have c5 := hz.cell 5; simp at c0 c1 c2 c3 c4 c5; clear hz hSw; go_simp; try with_reducible rfl
 simp only [uZ, uS]
 refine tK 10 (i := 5) (v := .pointer (some ⟨Bf, 4, none⟩)) rfl rfl (by kernel_rfl) ?_ hHeld ?_
 ·intro w hSw; clear hSw; go_simp; try with_reducible rfl
 simp only [uZ, uS]
 refine tK 11 (i := 6) (v := rv d0 d1) rfl rfl (by kernel_rfl) ?_ hHeld ?_
 ·intro w hSw; have hz := (hSw _ (.tail _ (.tail _ (.head _)))); have c4 := hz.cell 4; have c5 := hz.cell 5; simp at c4 c5; clear hz hSw; go_simp; try with_reducible rfl
 simp only [uZ, uS]
 refine wpAnyH_ready (rs := [4]) (by kernel_rfl) (by simp) ?_
 refine AllReadyH.cons rfl (fun K hK => ?_) AllReadyH.nil
 go_simp
 (with_reducible refine (CC.out _ (below_then HE.out (below_drew1 _))).mono ?_)
 rintro e y1 ⟨rfl, hb⟩
 have HE3 := Lib.hid (below_then (below_then HE.out (below_drew1 _)) hb)
 have HK3 := Lib.hid ((HK.out.on (below_drew1 _)).on hb)
 have hS3 := hHeld.on hb
 clear hb
 refine hK.out _ _ (hS3) (fun hHeld2 => ?_)
 try simp only [Act.put, uA, uZ, uS]
 clear hK K hHeld
 have hHeld := hHeld2
 clear hHeld2
 clear hS3 HE HK
 refine wpAnyH_ready (rs := [7]) (by kernel_rfl) (by simp) ?_
 refine AllReadyH.cons rfl (fun K hK => ?_) AllReadyH.nil
 go_simp
 (with_reducible refine (CD.out _).mono ?_)
 rintro e y2 ⟨rfl, hb⟩
 have HE4 := Lib.hid (below_then HE3.out hb)
 have HK4 := Lib.hid (HK3.out.on hb)
 have hS4 := hHeld.on hb
 clear hb
 refine hK.out _ _ (hS4) (fun hHeld2 => ?_)
 try simp only [Act.put, uA, uZ, uS]
 clear hK K hHeld
 have hHeld := hHeld2
 clear hHeld2
 clear hS4 HE3 HK3
 refine wpAnyH_ready (rs := [8]) (by kernel_rfl) (by simp) ?_
 refine AllReadyH.cons rfl (fun K hK => ?_) AllReadyH.nil
 rw [if_pos (by kernel_rfl)]
 have HKR : Hid (Blk (y2.setRow (G + 1) #[.int .i64 r, .int .i64 t]) (G + 1) 30 #[.int .i64 r, .int .i64 t]) := Lib.hid (setRow_heap y2 (G + 1) _ _ 30 _ (HK4.out _ (.head _)))
 have HE6 := Lib.hid (below_setRow HE4.out (show w.heap.size ≤ G + 1 by have := HG.out; omega) #[.int .i64 r, .int .i64 t])
 have hS6 : Boxes (y2.setRow (G + 1) #[.int .i64 r, .int .i64 t]) [(G, 123, #[fnV a, fnV kv, fnV 150, fnV kh, fnV s, .int .i64 x, .int .i64 y, .int .i64 z]), (Bh, 35, #[.int .i64 id, .int .i64 al, .int .i64 ah, .slice A n c, .slice B mm d, .slice C l ee, .int .i64 t0, .int .i64 t1, .int .i64 u0, .int .i64 u1, .int .i64 v0, .int .i64 v1, .int .i64 h0, .int .i64 h1]), (Bf, 55, #[.int .i64 fh, .int .i64 st, .int .i64 x0, .int .i64 x1, .int .i64 d0, .int .i64 d1])] := hHeld.farRow (fun p hp => by
  rcases List.mem_cons.1 hp with rfl | hp
  ·show G ≠ G + 1; omega
  rcases List.mem_cons.1 hp with rfl | hp
  ·show Bh ≠ G + 1; omega
  rcases List.mem_singleton.1 hp with rfl
  show Bf ≠ G + 1; omega) _
 refine wp_store_row 30 (.tmp 4) (.tmp 12) rfl (G + 1) #[.int .i64 r, .int .i64 t] rfl rfl 30 _ (HK4.out _ (.head _)) (by kernel_rfl) rfl (by kernel_rfl) ?_
 obtain ⟨W6, hW6⟩ : ∃ W6, y2.setRow (G + 1) #[.int .i64 r, .int .i64 t] = W6 := ⟨_, rfl⟩
 rw [hW6] at HKR HE6 hS6 ⊢
 refine hK.out _ _ hS6 (fun hHeld2 => ?_)
 clear hW6 hK K hHeld hHeld2 hS6
 refine wpAnyH_done (by kernel_rfl) ?_ _
 go_wp2
 exact bodyPost_ret (v := .agg #[.int .i64 r, .int .i64 t]) (results_cell_row Tryz.results86 _ _ (G + 1) 30 #[.int .i64 r, .int .i64 t] (0, 0) _ rfl HKR.out Tryz.underlying30 rfl (by kernel_rfl)) rfl ⟨rfl, HE6.out⟩

set_option maxRecDepth 100000 in
set_option maxHeartbeats 4000000 in
theorem heel1_2 (a kv km kh s : Nat) (x y z p q r t : Int) (id al ah t0 t1 u0 u1 v0 v1 h0 h1 : Int) (A B C : Option Addr) (n c mm d l ee : Nat) (fh st x0 x1 d0 d1 : Int) (Bh Bf : Nat) (w : World) (hB : Blk w Bh 35 #[.int .i64 id, .int .i64 al, .int .i64 ah, .slice A n c, .slice B mm d, .slice C l ee, .int .i64 t0, .int .i64 t1, .int .i64 u0, .int .i64 u1, .int .i64 v0, .int .i64 v1, .int .i64 h0, .int .i64 h1]) (fB : Blk w Bf 55 #[.int .i64 fh, .int .i64 st, .int .i64 x0, .int .i64 x1, .int .i64 d0, .int .i64 d1])
  (hC : ∀ W, Below w.heap.size w W → Calls Tryz.prog 151 #[.agg #[.int .i64 id, .int .i64 al, .int .i64 ah, .slice A n c, .slice B mm d, .slice C l ee, .int .i64 t0, .int .i64 t1, .int .i64 u0, .int .i64 u1, .int .i64 v0, .int .i64 v1, .int .i64 h0, .int .i64 h1], .agg #[.int .i64 fh, .int .i64 st, .int .i64 x0, .int .i64 x1, .int .i64 d0, .int .i64 d1]] W fun e w' => e = .returned (rv p q) ∧ Below W.heap.size W w') (hr : (denseS p q d0 d1).1 = r) (ht : (denseS p q d0 d1).2.1 = t) :
  Calls Tryz.prog 86 #[.agg #[fnV a, fnV kv, fnV 151, fnV kh, fnV s, .int .i64 x, .int .i64 y, .int .i64 z], .pointer (some ⟨Bh, 0, none⟩), .pointer (some ⟨Bf, 0, none⟩)] w fun e w' => e = .returned (rv r t) ∧ Below w.heap.size w w' := by
 have HE := Lib.hid (show Below w.heap.size w ((w.alloc (.cells #[fnV a, fnV kv, fnV 151, fnV kh, fnV s, .int .i64 x, .int .i64 y, .int .i64 z] 123)).alloc (.cells #[.int .i64 0, .int .i64 0] 30)) from below_a2 (Below.refl _ _))
 have HK := Lib.hid (boxes2' w 123 30 #[fnV a, fnV kv, fnV 151, fnV kh, fnV s, .int .i64 x, .int .i64 y, .int .i64 z] #[.int .i64 0, .int .i64 0])
 have CC := Lib.hid hC
 have CD : Hid (∀ W, Calls Tryz.prog 87 #[rv p q, rv d0 d1] W fun e w' => e = .returned (rv r t) ∧ Below W.heap.size W w') := Lib.hid fun W => by rw [← hr, ← ht]; exact dense_any p q d0 d1 W
 have HH := Lib.hid (blkOn hB HE.out)
 have HF := Lib.hid (blkOn fB HE.out)
 have lb := hB.lt
 have lf := fB.lt
 clear hB fB hC hr ht
 go_enter Tryz.func86, Tryz.ntmps86
 go_upto_region 1 with fail
 obtain ⟨W0, hW0⟩ : ∃ W0, ((w.alloc (.cells #[fnV a, fnV kv, fnV 151, fnV kh, fnV s, .int .i64 x, .int .i64 y, .int .i64 z] 123)).alloc (.cells #[.int .i64 0, .int .i64 0] 30)) = W0 := ⟨_, rfl⟩
 rw [hW0] at HE HK HH HF ⊢
 clear hW0
 obtain ⟨G, hG⟩ : ∃ G, w.heap.size = G := ⟨_, rfl⟩
 rw [hG] at HK lb lf ⊢
 have HG := Lib.hid hG; clear hG
 have HS : Hid (Boxes W0.drew [(G, 123, #[fnV a, fnV kv, fnV 151, fnV kh, fnV s, .int .i64 x, .int .i64 y, .int .i64 z]), (Bh, 35, #[.int .i64 id, .int .i64 al, .int .i64 ah, .slice A n c, .slice B mm d, .slice C l ee, .int .i64 t0, .int .i64 t1, .int .i64 u0, .int .i64 u1, .int .i64 v0, .int .i64 v1, .int .i64 h0, .int .i64 h1]), (Bf, 55, #[.int .i64 fh, .int .i64 st, .int .i64 x0, .int .i64 x1, .int .i64 d0, .int .i64 d1])]) := Lib.hid (fun p hp => by
  rcases List.mem_cons.1 hp with rfl | hp
  ·exact HK.out _ (.tail _ (.head _))
  rcases List.mem_cons.1 hp with rfl | hp
  ·exact HH.out
  rcases List.mem_singleton.1 hp with rfl
  exact HF.out)
 clear HH HF
 refine wp_region_held_drew (S := fun w' => Boxes w' [(G, 123, #[fnV a, fnV kv, fnV 151, fnV kh, fnV s, .int .i64 x, .int .i64 y, .int .i64 z]), (Bh, 35, #[.int .i64 id, .int .i64 al, .int .i64 ah, .slice A n c, .slice B mm d, .slice C l ee, .int .i64 t0, .int .i64 t1, .int .i64 u0, .int .i64 u1, .int .i64 v0, .int .i64 v1, .int .i64 h0, .int .i64 h1]), (Bf, 55, #[.int .i64 fh, .int .i64 st, .int .i64 x0, .int .i64 x1, .int .i64 d0, .int .i64 d1])]) (by kernel_rfl) HS.out (fun hHeld => ?_)
 refine tK 5 (i := 0) (v := .pointer (some ⟨G, 2, none⟩)) rfl rfl (by kernel_rfl) ?_ hHeld ?_
 ·intro w hSw; clear hSw; go_simp; try with_reducible rfl
 simp only [uZ, uS]
 refine tK 6 (i := 1) (v := fnV 151) rfl rfl (by kernel_rfl) ?_ hHeld ?_
 ·intro w hSw; have c := (hSw _ (.head _)).cell 2; simp at c; clear hSw; go_simp; try with_reducible rfl
 simp only [uZ, uS]
 refine tK 7 (i := 2) (v := .agg #[.int .i64 id, .int .i64 al, .int .i64 ah, .slice A n c, .slice B mm d, .slice C l ee, .int .i64 t0, .int .i64 t1, .int .i64 u0, .int .i64 u1, .int .i64 v0, .int .i64 v1, .int .i64 h0, .int .i64 h1]) rfl rfl (by kernel_rfl) ?_ hHeld ?_
 ·intro w hSw; have hz := (hSw _ (.tail _ (.head _))); have c0 := hz.cell 0; have c1 := hz.cell 1; have c2 := hz.cell 2; have c3 := hz.cell 3; have c4 := hz.cell 4; have c5 := hz.cell 5; have c6 := hz.cell 6; have c7 := hz.cell 7; have c8 := hz.cell 8; have c9 := hz.cell 9; have c10 := hz.cell 10; have c11 := hz.cell 11; have c12 := hz.cell 12; have c13 := hz.cell 13; simp at c0 c1 c2 c3 c4 c5 c6 c7 c8 c9 c10 c11 c12 c13; clear hz hSw; go_simp; try with_reducible rfl
 simp only [uZ, uS]
 refine tK 8 (i := 3) (v := .agg #[.int .i64 fh, .int .i64 st, .int .i64 x0, .int .i64 x1, .int .i64 d0, .int .i64 d1]) rfl rfl (by kernel_rfl) ?_ hHeld ?_
 ·intro w hSw; have hz := (hSw _ (.tail _ (.tail _ (.head _)))); have c0 := hz.cell 0; have c1 := hz.cell 1; have c2 := hz.cell 2; have c3 := hz.cell 3; have c4 := hz.cell 4; have c5 := hz.cell 5; simp at c0 c1 c2 c3 c4 c5; clear hz hSw; go_simp; try with_reducible rfl
 simp only [uZ, uS]
 refine tK 10 (i := 5) (v := .pointer (some ⟨Bf, 4, none⟩)) rfl rfl (by kernel_rfl) ?_ hHeld ?_
 ·intro w hSw; clear hSw; go_simp; try with_reducible rfl
 simp only [uZ, uS]
 refine tK 11 (i := 6) (v := rv d0 d1) rfl rfl (by kernel_rfl) ?_ hHeld ?_
 ·intro w hSw; have hz := (hSw _ (.tail _ (.tail _ (.head _)))); have c4 := hz.cell 4; have c5 := hz.cell 5; simp at c4 c5; clear hz hSw; go_simp; try with_reducible rfl
 simp only [uZ, uS]
 refine wpAnyH_ready (rs := [4]) (by kernel_rfl) (by simp) ?_
 refine AllReadyH.cons rfl (fun K hK => ?_) AllReadyH.nil
 go_simp
 (with_reducible refine (CC.out _ (below_then HE.out (below_drew1 _))).mono ?_)
 rintro e y1 ⟨rfl, hb⟩
 have HE3 := Lib.hid (below_then (below_then HE.out (below_drew1 _)) hb)
 have HK3 := Lib.hid ((HK.out.on (below_drew1 _)).on hb)
 have hS3 := hHeld.on hb
 clear hb
 refine hK.out _ _ (hS3) (fun hHeld2 => ?_)
 try simp only [Act.put, uA, uZ, uS]
 clear hK K hHeld
 have hHeld := hHeld2
 clear hHeld2
 clear hS3 HE HK
 refine wpAnyH_ready (rs := [7]) (by kernel_rfl) (by simp) ?_
 refine AllReadyH.cons rfl (fun K hK => ?_) AllReadyH.nil
 go_simp
 (with_reducible refine (CD.out _).mono ?_)
 rintro e y2 ⟨rfl, hb⟩
 have HE4 := Lib.hid (below_then HE3.out hb)
 have HK4 := Lib.hid (HK3.out.on hb)
 have hS4 := hHeld.on hb
 clear hb
 refine hK.out _ _ (hS4) (fun hHeld2 => ?_)
 try simp only [Act.put, uA, uZ, uS]
 clear hK K hHeld
 have hHeld := hHeld2
 clear hHeld2
 clear hS4 HE3 HK3
 refine wpAnyH_ready (rs := [8]) (by kernel_rfl) (by simp) ?_
 refine AllReadyH.cons rfl (fun K hK => ?_) AllReadyH.nil
 rw [if_pos (by kernel_rfl)]
 have HKR : Hid (Blk (y2.setRow (G + 1) #[.int .i64 r, .int .i64 t]) (G + 1) 30 #[.int .i64 r, .int .i64 t]) := Lib.hid (setRow_heap y2 (G + 1) _ _ 30 _ (HK4.out _ (.head _)))
 have HE6 := Lib.hid (below_setRow HE4.out (show w.heap.size ≤ G + 1 by have := HG.out; omega) #[.int .i64 r, .int .i64 t])
 have hS6 : Boxes (y2.setRow (G + 1) #[.int .i64 r, .int .i64 t]) [(G, 123, #[fnV a, fnV kv, fnV 151, fnV kh, fnV s, .int .i64 x, .int .i64 y, .int .i64 z]), (Bh, 35, #[.int .i64 id, .int .i64 al, .int .i64 ah, .slice A n c, .slice B mm d, .slice C l ee, .int .i64 t0, .int .i64 t1, .int .i64 u0, .int .i64 u1, .int .i64 v0, .int .i64 v1, .int .i64 h0, .int .i64 h1]), (Bf, 55, #[.int .i64 fh, .int .i64 st, .int .i64 x0, .int .i64 x1, .int .i64 d0, .int .i64 d1])] := hHeld.farRow (fun p hp => by
  rcases List.mem_cons.1 hp with rfl | hp
  ·show G ≠ G + 1; omega
  rcases List.mem_cons.1 hp with rfl | hp
  ·show Bh ≠ G + 1; omega
  rcases List.mem_singleton.1 hp with rfl
  show Bf ≠ G + 1; omega) _
 refine wp_store_row 30 (.tmp 4) (.tmp 12) rfl (G + 1) #[.int .i64 r, .int .i64 t] rfl rfl 30 _ (HK4.out _ (.head _)) (by kernel_rfl) rfl (by kernel_rfl) ?_
 obtain ⟨W6, hW6⟩ : ∃ W6, y2.setRow (G + 1) #[.int .i64 r, .int .i64 t] = W6 := ⟨_, rfl⟩
 rw [hW6] at HKR HE6 hS6 ⊢
 refine hK.out _ _ hS6 (fun hHeld2 => ?_)
 clear hW6 hK K hHeld hHeld2 hS6
 refine wpAnyH_done (by kernel_rfl) ?_ _
 go_wp2
 exact bodyPost_ret (v := .agg #[.int .i64 r, .int .i64 t]) (results_cell_row Tryz.results86 _ _ (G + 1) 30 #[.int .i64 r, .int .i64 t] (0, 0) _ rfl HKR.out Tryz.underlying30 rfl (by kernel_rfl)) rfl ⟨rfl, HE6.out⟩

set_option maxRecDepth 100000 in
set_option maxHeartbeats 4000000 in
theorem heel1_3 (a kv km kh s : Nat) (x y z p q r t : Int) (id al ah t0 t1 u0 u1 v0 v1 h0 h1 : Int) (A B C : Option Addr) (n c mm d l ee : Nat) (fh st x0 x1 d0 d1 : Int) (Bh Bf : Nat) (w : World) (hB : Blk w Bh 35 #[.int .i64 id, .int .i64 al, .int .i64 ah, .slice A n c, .slice B mm d, .slice C l ee, .int .i64 t0, .int .i64 t1, .int .i64 u0, .int .i64 u1, .int .i64 v0, .int .i64 v1, .int .i64 h0, .int .i64 h1]) (fB : Blk w Bf 55 #[.int .i64 fh, .int .i64 st, .int .i64 x0, .int .i64 x1, .int .i64 d0, .int .i64 d1])
  (hC : ∀ W, Below w.heap.size w W → Calls Tryz.prog 153 #[.agg #[.int .i64 id, .int .i64 al, .int .i64 ah, .slice A n c, .slice B mm d, .slice C l ee, .int .i64 t0, .int .i64 t1, .int .i64 u0, .int .i64 u1, .int .i64 v0, .int .i64 v1, .int .i64 h0, .int .i64 h1], .agg #[.int .i64 fh, .int .i64 st, .int .i64 x0, .int .i64 x1, .int .i64 d0, .int .i64 d1]] W fun e w' => e = .returned (rv p q) ∧ Below W.heap.size W w') (hr : (denseS p q d0 d1).1 = r) (ht : (denseS p q d0 d1).2.1 = t) :
  Calls Tryz.prog 86 #[.agg #[fnV a, fnV kv, fnV 153, fnV kh, fnV s, .int .i64 x, .int .i64 y, .int .i64 z], .pointer (some ⟨Bh, 0, none⟩), .pointer (some ⟨Bf, 0, none⟩)] w fun e w' => e = .returned (rv r t) ∧ Below w.heap.size w w' := by
 have HE := Lib.hid (show Below w.heap.size w ((w.alloc (.cells #[fnV a, fnV kv, fnV 153, fnV kh, fnV s, .int .i64 x, .int .i64 y, .int .i64 z] 123)).alloc (.cells #[.int .i64 0, .int .i64 0] 30)) from below_a2 (Below.refl _ _))
 have HK := Lib.hid (boxes2' w 123 30 #[fnV a, fnV kv, fnV 153, fnV kh, fnV s, .int .i64 x, .int .i64 y, .int .i64 z] #[.int .i64 0, .int .i64 0])
 have CC := Lib.hid hC
 have CD : Hid (∀ W, Calls Tryz.prog 87 #[rv p q, rv d0 d1] W fun e w' => e = .returned (rv r t) ∧ Below W.heap.size W w') := Lib.hid fun W => by rw [← hr, ← ht]; exact dense_any p q d0 d1 W
 have HH := Lib.hid (blkOn hB HE.out)
 have HF := Lib.hid (blkOn fB HE.out)
 have lb := hB.lt
 have lf := fB.lt
 clear hB fB hC hr ht
 go_enter Tryz.func86, Tryz.ntmps86
 go_upto_region 1 with fail
 obtain ⟨W0, hW0⟩ : ∃ W0, ((w.alloc (.cells #[fnV a, fnV kv, fnV 153, fnV kh, fnV s, .int .i64 x, .int .i64 y, .int .i64 z] 123)).alloc (.cells #[.int .i64 0, .int .i64 0] 30)) = W0 := ⟨_, rfl⟩
 rw [hW0] at HE HK HH HF ⊢
 clear hW0
 obtain ⟨G, hG⟩ : ∃ G, w.heap.size = G := ⟨_, rfl⟩
 rw [hG] at HK lb lf ⊢
 have HG := Lib.hid hG; clear hG
 have HS : Hid (Boxes W0.drew [(G, 123, #[fnV a, fnV kv, fnV 153, fnV kh, fnV s, .int .i64 x, .int .i64 y, .int .i64 z]), (Bh, 35, #[.int .i64 id, .int .i64 al, .int .i64 ah, .slice A n c, .slice B mm d, .slice C l ee, .int .i64 t0, .int .i64 t1, .int .i64 u0, .int .i64 u1, .int .i64 v0, .int .i64 v1, .int .i64 h0, .int .i64 h1]), (Bf, 55, #[.int .i64 fh, .int .i64 st, .int .i64 x0, .int .i64 x1, .int .i64 d0, .int .i64 d1])]) := Lib.hid (fun p hp => by
  rcases List.mem_cons.1 hp with rfl | hp
  ·exact HK.out _ (.tail _ (.head _))
  rcases List.mem_cons.1 hp with rfl | hp
  ·exact HH.out
  rcases List.mem_singleton.1 hp with rfl
  exact HF.out)
 clear HH HF
 refine wp_region_held_drew (S := fun w' => Boxes w' [(G, 123, #[fnV a, fnV kv, fnV 153, fnV kh, fnV s, .int .i64 x, .int .i64 y, .int .i64 z]), (Bh, 35, #[.int .i64 id, .int .i64 al, .int .i64 ah, .slice A n c, .slice B mm d, .slice C l ee, .int .i64 t0, .int .i64 t1, .int .i64 u0, .int .i64 u1, .int .i64 v0, .int .i64 v1, .int .i64 h0, .int .i64 h1]), (Bf, 55, #[.int .i64 fh, .int .i64 st, .int .i64 x0, .int .i64 x1, .int .i64 d0, .int .i64 d1])]) (by kernel_rfl) HS.out (fun hHeld => ?_)
 refine tK 5 (i := 0) (v := .pointer (some ⟨G, 2, none⟩)) rfl rfl (by kernel_rfl) ?_ hHeld ?_
 ·intro w hSw; clear hSw; go_simp; try with_reducible rfl
 simp only [uZ, uS]
 refine tK 6 (i := 1) (v := fnV 153) rfl rfl (by kernel_rfl) ?_ hHeld ?_
 ·intro w hSw; have c := (hSw _ (.head _)).cell 2; simp at c; clear hSw; go_simp; try with_reducible rfl
 simp only [uZ, uS]
 refine tK 7 (i := 2) (v := .agg #[.int .i64 id, .int .i64 al, .int .i64 ah, .slice A n c, .slice B mm d, .slice C l ee, .int .i64 t0, .int .i64 t1, .int .i64 u0, .int .i64 u1, .int .i64 v0, .int .i64 v1, .int .i64 h0, .int .i64 h1]) rfl rfl (by kernel_rfl) ?_ hHeld ?_
 ·intro w hSw; have hz := (hSw _ (.tail _ (.head _))); have c0 := hz.cell 0; have c1 := hz.cell 1; have c2 := hz.cell 2; have c3 := hz.cell 3; have c4 := hz.cell 4; have c5 := hz.cell 5; have c6 := hz.cell 6; have c7 := hz.cell 7; have c8 := hz.cell 8; have c9 := hz.cell 9; have c10 := hz.cell 10; have c11 := hz.cell 11; have c12 := hz.cell 12; have c13 := hz.cell 13; simp at c0 c1 c2 c3 c4 c5 c6 c7 c8 c9 c10 c11 c12 c13; clear hz hSw; go_simp; try with_reducible rfl
 simp only [uZ, uS]
 refine tK 8 (i := 3) (v := .agg #[.int .i64 fh, .int .i64 st, .int .i64 x0, .int .i64 x1, .int .i64 d0, .int .i64 d1]) rfl rfl (by kernel_rfl) ?_ hHeld ?_
 ·intro w hSw; have hz := (hSw _ (.tail _ (.tail _ (.head _)))); have c0 := hz.cell 0; have c1 := hz.cell 1; have c2 := hz.cell 2; have c3 := hz.cell 3; have c4 := hz.cell 4; have c5 := hz.cell 5; simp at c0 c1 c2 c3 c4 c5; clear hz hSw; go_simp; try with_reducible rfl
 simp only [uZ, uS]
 refine tK 10 (i := 5) (v := .pointer (some ⟨Bf, 4, none⟩)) rfl rfl (by kernel_rfl) ?_ hHeld ?_
 ·intro w hSw; clear hSw; go_simp; try with_reducible rfl
 simp only [uZ, uS]
 refine tK 11 (i := 6) (v := rv d0 d1) rfl rfl (by kernel_rfl) ?_ hHeld ?_
 ·intro w hSw; have hz := (hSw _ (.tail _ (.tail _ (.head _)))); have c4 := hz.cell 4; have c5 := hz.cell 5; simp at c4 c5; clear hz hSw; go_simp; try with_reducible rfl
 simp only [uZ, uS]
 refine wpAnyH_ready (rs := [4]) (by kernel_rfl) (by simp) ?_
 refine AllReadyH.cons rfl (fun K hK => ?_) AllReadyH.nil
 go_simp
 (with_reducible refine (CC.out _ (below_then HE.out (below_drew1 _))).mono ?_)
 rintro e y1 ⟨rfl, hb⟩
 have HE3 := Lib.hid (below_then (below_then HE.out (below_drew1 _)) hb)
 have HK3 := Lib.hid ((HK.out.on (below_drew1 _)).on hb)
 have hS3 := hHeld.on hb
 clear hb
 refine hK.out _ _ (hS3) (fun hHeld2 => ?_)
 try simp only [Act.put, uA, uZ, uS]
 clear hK K hHeld
 have hHeld := hHeld2
 clear hHeld2
 clear hS3 HE HK
 refine wpAnyH_ready (rs := [7]) (by kernel_rfl) (by simp) ?_
 refine AllReadyH.cons rfl (fun K hK => ?_) AllReadyH.nil
 go_simp
 (with_reducible refine (CD.out _).mono ?_)
 rintro e y2 ⟨rfl, hb⟩
 have HE4 := Lib.hid (below_then HE3.out hb)
 have HK4 := Lib.hid (HK3.out.on hb)
 have hS4 := hHeld.on hb
 clear hb
 refine hK.out _ _ (hS4) (fun hHeld2 => ?_)
 try simp only [Act.put, uA, uZ, uS]
 clear hK K hHeld
 have hHeld := hHeld2
 clear hHeld2
 clear hS4 HE3 HK3
 refine wpAnyH_ready (rs := [8]) (by kernel_rfl) (by simp) ?_
 refine AllReadyH.cons rfl (fun K hK => ?_) AllReadyH.nil
 rw [if_pos (by kernel_rfl)]
 have HKR : Hid (Blk (y2.setRow (G + 1) #[.int .i64 r, .int .i64 t]) (G + 1) 30 #[.int .i64 r, .int .i64 t]) := Lib.hid (setRow_heap y2 (G + 1) _ _ 30 _ (HK4.out _ (.head _)))
 have HE6 := Lib.hid (below_setRow HE4.out (show w.heap.size ≤ G + 1 by have := HG.out; omega) #[.int .i64 r, .int .i64 t])
 have hS6 : Boxes (y2.setRow (G + 1) #[.int .i64 r, .int .i64 t]) [(G, 123, #[fnV a, fnV kv, fnV 153, fnV kh, fnV s, .int .i64 x, .int .i64 y, .int .i64 z]), (Bh, 35, #[.int .i64 id, .int .i64 al, .int .i64 ah, .slice A n c, .slice B mm d, .slice C l ee, .int .i64 t0, .int .i64 t1, .int .i64 u0, .int .i64 u1, .int .i64 v0, .int .i64 v1, .int .i64 h0, .int .i64 h1]), (Bf, 55, #[.int .i64 fh, .int .i64 st, .int .i64 x0, .int .i64 x1, .int .i64 d0, .int .i64 d1])] := hHeld.farRow (fun p hp => by
  rcases List.mem_cons.1 hp with rfl | hp
  ·show G ≠ G + 1; omega
  rcases List.mem_cons.1 hp with rfl | hp
  ·show Bh ≠ G + 1; omega
  rcases List.mem_singleton.1 hp with rfl
  show Bf ≠ G + 1; omega) _
 refine wp_store_row 30 (.tmp 4) (.tmp 12) rfl (G + 1) #[.int .i64 r, .int .i64 t] rfl rfl 30 _ (HK4.out _ (.head _)) (by kernel_rfl) rfl (by kernel_rfl) ?_
 obtain ⟨W6, hW6⟩ : ∃ W6, y2.setRow (G + 1) #[.int .i64 r, .int .i64 t] = W6 := ⟨_, rfl⟩
 rw [hW6] at HKR HE6 hS6 ⊢
 refine hK.out _ _ hS6 (fun hHeld2 => ?_)
 clear hW6 hK K hHeld hHeld2 hS6
 refine wpAnyH_done (by kernel_rfl) ?_ _
 go_wp2
 exact bodyPost_ret (v := .agg #[.int .i64 r, .int .i64 t]) (results_cell_row Tryz.results86 _ _ (G + 1) 30 #[.int .i64 r, .int .i64 t] (0, 0) _ rfl HKR.out Tryz.underlying30 rfl (by kernel_rfl)) rfl ⟨rfl, HE6.out⟩
theorem heel1_any (h : HoldD) (m : HoldM) (f : FillD) (Bh Bf : Nat) (w : World) (hi : HoldIn w h m) (q0 : 0 ≤ f.st) (q5 : f.st ≤ 5) (hB : Blk w Bh 35 (holdCells h m)) (fB : Blk w Bf 55 (fillCells f)) :
    Calls Tryz.prog 86 #[.agg (mM f.st), .pointer (some ⟨Bh, 0, none⟩), .pointer (some ⟨Bf, 0, none⟩)] w fun e w' => e = .returned (rv (denseS (momS h f).1 (momS h f).2 f.d0 f.d1).1 (denseS (momS h f).1 (momS h f).2 f.d0 f.d1).2.1) ∧ Below w.heap.size w w' := by
  have hC := fun W (hW : Below w.heap.size w W) => momF_to h m f W (hi.below hW) q0 q5
  obtain ⟨id, al, ah, vol, mom, hei, t0, t1, u0, u1, v0, v1, h0, h1⟩ := h
  obtain ⟨A, n, c, B, mm, d, C, l, ee⟩ := m
  obtain ⟨fh, st, x0, x1, d0, d1⟩ := f
  dsimp only at hC q0 q5 hB fB ⊢
  rcases st_cases q0 q5 with rfl | rfl | rfl | rfl | rfl | rfl
  · rw [show mM 0 = emptyM from rfl]
    exact heel1_0 _ _ 0 _ _ _ _ _ _ _ _ _ id al ah t0 t1 u0 u1 v0 v1 h0 h1 A B C n c mm d l ee fh 0 x0 x1 d0 d1 Bh Bf w hB fB hC rfl rfl
  · rw [show mM 1 = filledM 150 from rfl]
    exact heel1_1 _ _ 0 _ _ _ _ _ _ _ _ _ id al ah t0 t1 u0 u1 v0 v1 h0 h1 A B C n c mm d l ee fh 1 x0 x1 d0 d1 Bh Bf w hB fB hC rfl rfl
  · rw [show mM 2 = filledM 151 from rfl]
    exact heel1_2 _ _ 0 _ _ _ _ _ _ _ _ _ id al ah t0 t1 u0 u1 v0 v1 h0 h1 A B C n c mm d l ee fh 2 x0 x1 d0 d1 Bh Bf w hB fB hC rfl rfl
  · rw [show mM 3 = partlyM 153 from rfl]
    exact heel1_3 _ _ 0 _ _ _ _ _ _ _ _ _ id al ah t0 t1 u0 u1 v0 v1 h0 h1 A B C n c mm d l ee fh 3 x0 x1 d0 d1 Bh Bf w hB fB hC rfl rfl
  · rw [show mM 4 = heldM from rfl]
    exact heel1_0 _ _ 0 _ _ _ _ _ _ _ _ _ id al ah t0 t1 u0 u1 v0 v1 h0 h1 A B C n c mm d l ee fh 4 x0 x1 d0 d1 Bh Bf w hB fB hC rfl rfl
  · rw [show mM 5 = heldM from rfl]
    exact heel1_0 _ _ 0 _ _ _ _ _ _ _ _ _ id al ah t0 t1 u0 u1 v0 v1 h0 h1 A B C n c mm d l ee fh 5 x0 x1 d0 d1 Bh Bf w hB fB hC rfl rfl
end

end Go.Proofs.YtemlaaipnhmcoaaGreat
