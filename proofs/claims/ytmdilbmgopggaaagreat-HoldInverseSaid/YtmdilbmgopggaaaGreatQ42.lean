/- The contract of Pour (hold) where the fill is one in part, and all arguments are valid. Its condition: the hold's tables lie in memory. -/
import Derived.Deep.WholeRow
import Derived.Test.YtmdilbmgopggaaaGreatQ41
import Derived.Test.YtmdilbmgopggaaaGreatQ34
set_option linter.unusedVariables false
set_option linter.unusedSimpArgs false
set_option linter.constructorNameAsVariable false
namespace Go.Proofs.YtmdilbmgopggaaaGreat

section
open Go.RowKit

theorem boxes_lt {W : World} {L : List (Nat × TypeId × Array Value)} (h : Boxes W L) : ∀ p ∈ L, p.1 ≠ W.heap.size := fun p hp => Nat.ne_of_lt (h p hp).lt
theorem Boxes.sub {W : World} {L L' : List (Nat × TypeId × Array Value)} (h : Boxes W L) (hs : ∀ x ∈ L', x ∈ L) : Boxes W L' := fun p hp => h p (hs p hp)
theorem Boxes.row {W : World} {L L' : List (Nat × TypeId × Array Value)} (h : Boxes W L) {g : Nat} {t : TypeId} {old : Array Value} (hm : (g, t, old) ∈ L) (hs : ∀ p ∈ L', p ∈ L ∧ p.1 ≠ g) (cs : Array Value) :
    Boxes (W.setRow g cs) ((g, t, cs) :: L') := fun p hp => by
  rcases List.mem_cons.1 hp with rfl | hp
  · exact setRow_heap W g _ _ t _ (h _ hm)
  · exact (h p (hs p hp).1).farRow (hs p hp).2 cs

set_option maxRecDepth 100000 in
set_option maxHeartbeats 4000000 in
theorem pour_three (vol mom hei : List P3) (id al ah t0 t1 u0 u1 v0 v1 h0 h1 : Int) (A B C : Option Addr) (n c mm d l ee : Nat) (fh x0 x1 d0 d1 a b e0 e1 p q r s v0' v1' : Int) (w : World) (hi : HoldIn w ⟨id, al, ah, vol, mom, hei, t0, t1, u0, u1, v0, v1, h0, h1⟩ ⟨A, n, c, B, mm, d, C, l, ee⟩)
    (g1 : fillErr ⟨id, al, ah, vol, mom, hei, t0, t1, u0, u1, v0, v1, h0, h1⟩ ⟨fh, 3, x0, x1, d0, d1⟩ = 0) (g2 : massErr a b e0 e1 = 0) (g3 : ¬ a < 0) (ht : tabOk vol = true) (hle : firstX vol ≤ lastX vol)
    (k1 : overS vol x0 x1 = (p, q, 0)) (k2 : litresS a b e0 e1 = (r, s)) (k3 : IntKind.i64.wrap (p + r) = v0') (k4 : IntKind.i64.wrap (q + s) = v1') :
    Calls Tryz.prog 50 #[.agg #[.int .i64 id, .int .i64 al, .int .i64 ah, .slice A n c, .slice B mm d, .slice C l ee, .int .i64 t0, .int .i64 t1, .int .i64 u0, .int .i64 u1, .int .i64 v0, .int .i64 v1, .int .i64 h0, .int .i64 h1], .agg #[.int .i64 fh, .int .i64 3, .int .i64 x0, .int .i64 x1, .int .i64 d0, .int .i64 d1], rv a b, rv e0 e1] w fun e w' => e = .returned (ft (movedS vol id v0' v1' (firstX vol) x1 (mixS d0 d1 e0 e1).1 (mixS d0 d1 e0 e1).2)) ∧ Below w.heap.size w w' := by
  have HE := Lib.hid (show Below w.heap.size w (((((w.alloc (.cells #[.int .i64 id, .int .i64 al, .int .i64 ah, .slice A n c, .slice B mm d, .slice C l ee, .int .i64 t0, .int .i64 t1, .int .i64 u0, .int .i64 u1, .int .i64 v0, .int .i64 v1, .int .i64 h0, .int .i64 h1] 28)).alloc (.cells #[.int .i64 fh, .int .i64 3, .int .i64 x0, .int .i64 x1, .int .i64 d0, .int .i64 d1] 30)).alloc (.cells #[.int .i64 a, .int .i64 b] 23)).alloc (.cells #[.int .i64 e0, .int .i64 e1] 23)).alloc (.cells #[.int .i64 0, .int .i64 0, .int .i64 0, .int .i64 0, .int .i64 0, .int .i64 0] 30)) from below_a5 (Below.refl _ _))
  have HK := Lib.hid (boxes5' w 28 30 23 23 30 #[.int .i64 id, .int .i64 al, .int .i64 ah, .slice A n c, .slice B mm d, .slice C l ee, .int .i64 t0, .int .i64 t1, .int .i64 u0, .int .i64 u1, .int .i64 v0, .int .i64 v1, .int .i64 h0, .int .i64 h1] #[.int .i64 fh, .int .i64 3, .int .i64 x0, .int .i64 x1, .int .i64 d0, .int .i64 d1] #[.int .i64 a, .int .i64 b] #[.int .i64 e0, .int .i64 e1] #[.int .i64 0, .int .i64 0, .int .i64 0, .int .i64 0, .int .i64 0, .int .i64 0])
  obtain ⟨i1, i2, i3⟩ := hi
  dsimp only at i1 i2 i3
  have C1 : Hid (∀ W, Below w.heap.size w W → Calls Tryz.prog 29 #[.agg #[.int .i64 id, .int .i64 al, .int .i64 ah, .slice A n c, .slice B mm d, .slice C l ee, .int .i64 t0, .int .i64 t1, .int .i64 u0, .int .i64 u1, .int .i64 v0, .int .i64 v1, .int .i64 h0, .int .i64 h1], .agg #[.int .i64 fh, .int .i64 3, .int .i64 x0, .int .i64 x1, .int .i64 d0, .int .i64 d1]] W fun e w' => e = .returned (.int .i64 0) ∧ Below W.heap.size W w') := Lib.hid fun W hW => int_to (checkFill_any ⟨id, al, ah, vol, mom, hei, t0, t1, u0, u1, v0, v1, h0, h1⟩ ⟨A, n, c, B, mm, d, C, l, ee⟩ ⟨fh, 3, x0, x1, d0, d1⟩ W ⟨i1.below hW, i2.below hW, i3.below hW⟩) g1
  have C2 : Hid (∀ W, Calls Tryz.prog 110 #[rv a b, rv e0 e1] W fun e w' => e = .returned (.int .i64 0) ∧ Below W.heap.size W w') := Lib.hid fun W => int_to (checkMass_any a b e0 e1 W) g2
  have C3 : Hid (∀ W, Calls Tryz.prog 93 #[.agg #[.int .i64 fh, .int .i64 3, .int .i64 x0, .int .i64 x1, .int .i64 d0, .int .i64 d1]] W fun e w' => e = .returned (.agg #[fnV 200, fnV 201, fnV 154, fnV 202, fnV 203, .int .i64 0, .int .i64 0, .int .i64 0]) ∧ Below W.heap.size W w') := Lib.hid fun W => meaningOf_any fh 3 x0 x1 d0 d1 W (by omega) (by omega)
  have C4 : Hid (∀ W, Below w.heap.size w W → Calls Tryz.prog 201 #[.agg #[.int .i64 id, .int .i64 al, .int .i64 ah, .slice A n c, .slice B mm d, .slice C l ee, .int .i64 t0, .int .i64 t1, .int .i64 u0, .int .i64 u1, .int .i64 v0, .int .i64 v1, .int .i64 h0, .int .i64 h1], .agg #[.int .i64 fh, .int .i64 3, .int .i64 x0, .int .i64 x1, .int .i64 d0, .int .i64 d1]] W fun e w' => e = .returned (rv p q) ∧ Below W.heap.size W w') := Lib.hid fun W hW => by
    have := partlyVol_to vol id al ah t0 t1 u0 u1 v0 v1 h0 h1 A B C n c mm d l ee fh 3 x0 x1 d0 d1 W (i1.below hW)
    rwa [k1] at this
  have C5 : Hid (∀ W, Calls Tryz.prog 111 #[rv a b, rv e0 e1] W fun e w' => e = .returned (rv r s) ∧ Below W.heap.size W w') := Lib.hid fun W => by
    obtain ⟨m1, m2⟩ := massErr_zero g2
    have := hlitres_any a b e0 e1 W (vR_small m1) (dens_in m2)
    rwa [k2] at this
  have C6 : Hid (∀ W, Below w.heap.size w W → Calls Tryz.prog 120 #[tv A n c] W fun e w' => e = .returned (rv (firstX vol) (lastX vol)) ∧ Below W.heap.size W w') := Lib.hid fun W hW => hplaces_tab A n c vol W (i1.below hW) ht
  have C7 : Hid (∀ W, Calls Tryz.prog 203 #[.agg #[.int .i64 id, .int .i64 al, .int .i64 ah, .slice A n c, .slice B mm d, .slice C l ee, .int .i64 t0, .int .i64 t1, .int .i64 u0, .int .i64 u1, .int .i64 v0, .int .i64 v1, .int .i64 h0, .int .i64 h1], .agg #[.int .i64 fh, .int .i64 3, .int .i64 x0, .int .i64 x1, .int .i64 d0, .int .i64 d1]] W fun e w' => e = .returned (rv x0 x1) ∧ Below W.heap.size W w') := Lib.hid fun W => partlySur_to id al ah t0 t1 u0 u1 v0 v1 h0 h1 A B C n c mm d l ee fh 3 x0 x1 d0 d1 W
  have C8 : Hid (∀ W, Calls Tryz.prog 126 #[rv d0 d1, rv e0 e1] W fun e w' => e = .returned (rv (mixS d0 d1 e0 e1).1 (mixS d0 d1 e0 e1).2) ∧ Below W.heap.size W w') := Lib.hid fun W => mix_any d0 d1 e0 e1 W
  obtain ⟨⟨j0, j1⟩, hj⟩ : ∃ j, mixS d0 d1 e0 e1 = j := ⟨_, rfl⟩
  rw [hj] at C8 ⊢
  obtain ⟨R, hR⟩ : ∃ R, movedS vol id v0' v1' (firstX vol) x1 j0 j1 = R := ⟨_, rfl⟩
  have C9 : Hid (∀ W, Below w.heap.size w W → Calls Tryz.prog 125 #[.agg #[.int .i64 id, .int .i64 al, .int .i64 ah, .slice A n c, .slice B mm d, .slice C l ee, .int .i64 t0, .int .i64 t1, .int .i64 u0, .int .i64 u1, .int .i64 v0, .int .i64 v1, .int .i64 h0, .int .i64 h1], rv v0' v1', rv (firstX vol) x1, rv j0 j1] W fun e w' => e = .returned (ft R) ∧ Below W.heap.size W w') := Lib.hid fun W hW => by
    rw [← hR]; exact moved_any vol id al ah t0 t1 u0 u1 v0 v1 h0 h1 A B C n c mm d l ee v0' v1' (firstX vol) x1 j0 j1 W (i1.below hW) ht hle
  dsimp only
  rw [hR]
  clear hR hj g1 g2 ht hle k1 k2 i1 i2 i3
  generalize firstX vol = f0 at *
  generalize lastX vol = f1 at *
  obtain ⟨⟨ff0, ff1, ff2, ff3, ff4, ff5⟩, re⟩ := R
  go_enter Tryz.func50, Tryz.ntmps50
  go_wp2_with fail
  obtain ⟨W0, hW0⟩ : ∃ W0, (((((w.alloc (.cells #[.int .i64 id, .int .i64 al, .int .i64 ah, .slice A n c, .slice B mm d, .slice C l ee, .int .i64 t0, .int .i64 t1, .int .i64 u0, .int .i64 u1, .int .i64 v0, .int .i64 v1, .int .i64 h0, .int .i64 h1] 28)).alloc (.cells #[.int .i64 fh, .int .i64 3, .int .i64 x0, .int .i64 x1, .int .i64 d0, .int .i64 d1] 30)).alloc (.cells #[.int .i64 a, .int .i64 b] 23)).alloc (.cells #[.int .i64 e0, .int .i64 e1] 23)).alloc (.cells #[.int .i64 0, .int .i64 0, .int .i64 0, .int .i64 0, .int .i64 0, .int .i64 0] 30)) = W0 := ⟨_, rfl⟩
  rw [hW0] at HE HK ⊢
  clear hW0
  obtain ⟨G, hG⟩ : ∃ G, w.heap.size = G := ⟨_, rfl⟩
  rw [hG] at HK ⊢
  have HG := Lib.hid hG; clear hG
  refine (C1.out _ HE.out).mono ?_
  rintro e w1 ⟨rfl, hb⟩
  have HE1 := Lib.hid (below_then HE.out hb); have HK1 := Lib.hid (HK.out.on hb)
  clear hb HE HK C1
  have m := HK1.out _ (.tail _ (.tail _ (.head _)))
  have m0 := m.cell 0
  have m1 := m.cell 1
  simp at m0 m1
  clear m
  have n := HK1.out _ (.tail _ (.head _))
  have n0 := n.cell 0
  have n1 := n.cell 1
  simp at n0 n1
  clear n
  go_wp2_with fail
  refine (C2.out _).mono ?_
  rintro e w2 ⟨rfl, hb⟩
  have HE2 := Lib.hid (below_then HE1.out hb); have HK2 := Lib.hid (HK1.out.on hb)
  clear hb HE1 HK1 C2 m0 m1 n0 n1
  have m := HK2.out _ (.tail _ (.tail _ (.head _)))
  have m0 := m.cell 0
  simp at m0
  clear m
  have f := HK2.out _ (.tail _ (.tail _ (.tail _ (.head _))))
  have f0 := f.cell 0
  have f1 := f.cell 1
  have f2 := f.cell 2
  have f3 := f.cell 3
  have f4 := f.cell 4
  have f5 := f.cell 5
  simp at f0 f1 f2 f3 f4 f5
  clear f
  go_wp2_with fail
  refine (C3.out _).mono ?_
  rintro e w3 ⟨rfl, hb⟩
  have HE3 := Lib.hid (below_then (below_then HE2.out hb) (below_alloc1 w3 (.cells #[fnV 200, fnV 201, fnV 154, fnV 202, fnV 203, .int .i64 0, .int .i64 0, .int .i64 0] 113))); have HK3 := Lib.hid ((HK2.out.on hb).new 113 #[fnV 200, fnV 201, fnV 154, fnV 202, fnV 203, .int .i64 0, .int .i64 0, .int .i64 0])
  have HD3 := Lib.hid (boxes_lt (HK2.out.on hb))
  clear hb HE2 HK2 C3 m0 f0 f1 f2 f3 f4 f5
  go_upto_region 10 with fail
  obtain ⟨W3, hW3⟩ : ∃ W3, w3.alloc (.cells #[fnV 200, fnV 201, fnV 154, fnV 202, fnV 203, .int .i64 0, .int .i64 0, .int .i64 0] 113) = W3 := ⟨_, rfl⟩
  rw [hW3] at HE3 HK3 ⊢
  clear hW3
  obtain ⟨M, hM⟩ : ∃ M, w3.heap.size = M := ⟨_, rfl⟩
  rw [hM] at HK3 HD3 ⊢
  clear hM
  have s := HK3.out _ (.head _)
  have s5 := s.cell 5
  simp at s5
  clear s
  go_upto_region 12 with fail
  clear s5
  go_cut [13, 14] (fun s13 s14 wx => ∃ N1 N2, s13 = .pointer (some ⟨N1, 0, none⟩) ∧ s14 = .pointer (some ⟨N2, 0, none⟩) ∧ Boxes wx ((N2, 23, #[.int .i64 r, .int .i64 s]) :: (N1, 23, #[.int .i64 p, .int .i64 q]) :: ((M, 113, #[fnV 200, fnV 201, fnV 154, fnV 202, fnV 203, .int .i64 0, .int .i64 0, .int .i64 0]) :: [(G + 1 + 1 + 1 + 1, 30, #[.int .i64 0, .int .i64 0, .int .i64 0, .int .i64 0, .int .i64 0, .int .i64 0]), (G + 1 + 1 + 1, 23, #[.int .i64 e0, .int .i64 e1]), (G + 1 + 1, 23, #[.int .i64 a, .int .i64 b]), (G + 1, 30, #[.int .i64 fh, .int .i64 3, .int .i64 x0, .int .i64 x1, .int .i64 d0, .int .i64 d1]), (G, 28, #[.int .i64 id, .int .i64 al, .int .i64 ah, .slice A n c, .slice B mm d, .slice C l ee, .int .i64 t0, .int .i64 t1, .int .i64 u0, .int .i64 u1, .int .i64 v0, .int .i64 v1, .int .i64 h0, .int .i64 h1])] : List (Nat × TypeId × Array Value))) ∧ Below w.heap.size w wx ∧ G + 1 + 1 + 1 + 1 ≠ N1 ∧ G + 1 + 1 + 1 + 1 ≠ N2)
  case first =>
    have hS0 : Boxes W3.drew ((M, 113, #[fnV 200, fnV 201, fnV 154, fnV 202, fnV 203, .int .i64 0, .int .i64 0, .int .i64 0]) :: [(G + 1 + 1 + 1 + 1, 30, #[.int .i64 0, .int .i64 0, .int .i64 0, .int .i64 0, .int .i64 0, .int .i64 0]), (G + 1 + 1 + 1, 23, #[.int .i64 e0, .int .i64 e1]), (G + 1 + 1, 23, #[.int .i64 a, .int .i64 b]), (G + 1, 30, #[.int .i64 fh, .int .i64 3, .int .i64 x0, .int .i64 x1, .int .i64 d0, .int .i64 d1]), (G, 28, #[.int .i64 id, .int .i64 al, .int .i64 ah, .slice A n c, .slice B mm d, .slice C l ee, .int .i64 t0, .int .i64 t1, .int .i64 u0, .int .i64 u1, .int .i64 v0, .int .i64 v1, .int .i64 h0, .int .i64 h1])] : List (Nat × TypeId × Array Value)) := HK3.out
    have HEd := Lib.hid HE3.out.drew
    have HKd := Lib.hid hS0
    refine wp_region_held_drew (S := fun w' => Boxes w' ((M, 113, #[fnV 200, fnV 201, fnV 154, fnV 202, fnV 203, .int .i64 0, .int .i64 0, .int .i64 0]) :: [(G + 1 + 1 + 1 + 1, 30, #[.int .i64 0, .int .i64 0, .int .i64 0, .int .i64 0, .int .i64 0, .int .i64 0]), (G + 1 + 1 + 1, 23, #[.int .i64 e0, .int .i64 e1]), (G + 1 + 1, 23, #[.int .i64 a, .int .i64 b]), (G + 1, 30, #[.int .i64 fh, .int .i64 3, .int .i64 x0, .int .i64 x1, .int .i64 d0, .int .i64 d1]), (G, 28, #[.int .i64 id, .int .i64 al, .int .i64 ah, .slice A n c, .slice B mm d, .slice C l ee, .int .i64 t0, .int .i64 t1, .int .i64 u0, .int .i64 u1, .int .i64 v0, .int .i64 v1, .int .i64 h0, .int .i64 h1])] : List (Nat × TypeId × Array Value))) (by kernel_rfl) hS0 (fun hHeld => ?_)
    obtain ⟨W4, hW⟩ : ∃ W', W3.drew = W' := ⟨_, rfl⟩
    rw [hW] at HEd HKd hHeld ⊢
    clear hW hS0 HE3 HK3
    refine wpAnyH_take (i := 0) (v := .pointer (some ⟨M, 1, none⟩)) rfl (by kernel_rfl) (by kernel_rfl) (by kernel_rfl) (fun _ _ _ h => h) (Or.inl ⟨by kernel_rfl, ?_⟩) hHeld ?_
    · intro w hSw; clear hSw; go_simp; try with_reducible rfl
    change wpAnyH _ _ _ _ _ _ _ (Act.put _ (some 43) _) _
    try simp only [Act.put, List.setIfInBounds_toArray, List.set_cons_zero, List.set_cons_succ]
    refine wpAnyH_take (i := 1) (v := fnV 201) rfl (by kernel_rfl) (by kernel_rfl) (by kernel_rfl) (fun _ _ _ h => h) (Or.inl ⟨by kernel_rfl, ?_⟩) hHeld ?_
    · intro w hSw; have hz := (hSw _ (.head _)); have c1 := hz.cell 1; simp at c1; clear hz hSw; go_simp; try with_reducible rfl
    change wpAnyH _ _ _ _ _ _ _ (Act.put _ (some 44) _) _
    try simp only [Act.put, List.setIfInBounds_toArray, List.set_cons_zero, List.set_cons_succ]
    refine wpAnyH_take (i := 2) (v := .agg #[.int .i64 id, .int .i64 al, .int .i64 ah, .slice A n c, .slice B mm d, .slice C l ee, .int .i64 t0, .int .i64 t1, .int .i64 u0, .int .i64 u1, .int .i64 v0, .int .i64 v1, .int .i64 h0, .int .i64 h1]) rfl (by kernel_rfl) (by kernel_rfl) (by kernel_rfl) (fun _ _ _ h => h) (Or.inl ⟨by kernel_rfl, ?_⟩) hHeld ?_
    · intro w hSw; have hz := (hSw _ (.tail _ (.tail _ (.tail _ (.tail _ (.tail _ (.head _))))))); have c0 := hz.cell 0; have c1 := hz.cell 1; have c2 := hz.cell 2; have c3 := hz.cell 3; have c4 := hz.cell 4; have c5 := hz.cell 5; have c6 := hz.cell 6; have c7 := hz.cell 7; have c8 := hz.cell 8; have c9 := hz.cell 9; have c10 := hz.cell 10; have c11 := hz.cell 11; have c12 := hz.cell 12; have c13 := hz.cell 13; simp at c0 c1 c2 c3 c4 c5 c6 c7 c8 c9 c10 c11 c12 c13; clear hz hSw; go_simp; try with_reducible rfl
    change wpAnyH _ _ _ _ _ _ _ (Act.put _ (some 45) _) _
    try simp only [Act.put, List.setIfInBounds_toArray, List.set_cons_zero, List.set_cons_succ]
    refine wpAnyH_take (i := 3) (v := .agg #[.int .i64 fh, .int .i64 3, .int .i64 x0, .int .i64 x1, .int .i64 d0, .int .i64 d1]) rfl (by kernel_rfl) (by kernel_rfl) (by kernel_rfl) (fun _ _ _ h => h) (Or.inl ⟨by kernel_rfl, ?_⟩) hHeld ?_
    · intro w hSw; have hz := (hSw _ (.tail _ (.tail _ (.tail _ (.tail _ (.head _)))))); have c0 := hz.cell 0; have c1 := hz.cell 1; have c2 := hz.cell 2; have c3 := hz.cell 3; have c4 := hz.cell 4; have c5 := hz.cell 5; simp at c0 c1 c2 c3 c4 c5; clear hz hSw; go_simp; try with_reducible rfl
    change wpAnyH _ _ _ _ _ _ _ (Act.put _ (some 46) _) _
    try simp only [Act.put, List.setIfInBounds_toArray, List.set_cons_zero, List.set_cons_succ]
    refine wpAnyH_take (i := 5) (v := rv a b) rfl (by kernel_rfl) (by kernel_rfl) (by kernel_rfl) (fun _ _ _ h => h) (Or.inl ⟨by kernel_rfl, ?_⟩) hHeld ?_
    · intro w hSw; have hz := (hSw _ (.tail _ (.tail _ (.tail _ (.head _))))); have c0 := hz.cell 0; have c1 := hz.cell 1; simp at c0 c1; clear hz hSw; go_simp; try with_reducible rfl
    change wpAnyH _ _ _ _ _ _ _ (Act.put _ (some 48) _) _
    try simp only [Act.put, List.setIfInBounds_toArray, List.set_cons_zero, List.set_cons_succ]
    refine wpAnyH_take (i := 6) (v := rv e0 e1) rfl (by kernel_rfl) (by kernel_rfl) (by kernel_rfl) (fun _ _ _ h => h) (Or.inl ⟨by kernel_rfl, ?_⟩) hHeld ?_
    · intro w hSw; have hz := (hSw _ (.tail _ (.tail _ (.head _)))); have c0 := hz.cell 0; have c1 := hz.cell 1; simp at c0 c1; clear hz hSw; go_simp; try with_reducible rfl
    change wpAnyH _ _ _ _ _ _ _ (Act.put _ (some 49) _) _
    try simp only [Act.put, List.setIfInBounds_toArray, List.set_cons_zero, List.set_cons_succ]
    refine wpAnyH_ready (rs := [4, 8, 9]) (by kernel_rfl) (by simp) ?_
    refine AllReadyH.cons rfl (fun K hK => ?_) (AllReadyH.cons rfl (fun K hK => ?_) (AllReadyH.cons rfl (fun K hK => ?_) AllReadyH.nil))
    · skip
      go_simp
      (with_reducible refine (C4.out _ HEd.out).mono ?_)
      rintro e y1 ⟨rfl, hb⟩
      have HE1 := Lib.hid (below_then HEd.out hb); have HK1 := Lib.hid (HKd.out.on hb)
      have hS := hHeld.on hb
      clear hb
      refine hK.out _ _ hS (fun hHeld2 => ?_)
      try simp only [Act.put, List.setIfInBounds_toArray, List.set_cons_zero, List.set_cons_succ]
      clear hS hK K hHeld HEd HKd
      have hHeld := hHeld2
      clear hHeld2
      refine wpAnyH_ready (rs := [7, 8, 9]) (by kernel_rfl) (by simp) ?_
      refine AllReadyH.cons rfl (fun K hK => ?_) (AllReadyH.cons rfl (fun K hK => ?_) (AllReadyH.cons rfl (fun K hK => ?_) AllReadyH.nil))
      · skip
        go_simp
        (with_reducible refine (C5.out _).mono ?_)
        rintro e y2 ⟨rfl, hb⟩
        have HE2 := Lib.hid (below_then HE1.out hb); have HK2 := Lib.hid (HK1.out.on hb)
        have hS := hHeld.on hb
        clear hb
        refine hK.out _ _ hS (fun hHeld2 => ?_)
        try simp only [Act.put, List.setIfInBounds_toArray, List.set_cons_zero, List.set_cons_succ]
        clear hS hK K hHeld HE1 HK1
        have hHeld := hHeld2
        clear hHeld2
        refine wpAnyH_ready (rs := [8, 9]) (by kernel_rfl) (by simp) ?_
        refine AllReadyH.cons rfl (fun K hK => ?_) (AllReadyH.cons rfl (fun K hK => ?_) AllReadyH.nil)
        · skip
          go_simp
          have HE3 := Lib.hid (below_then HE2.out (below_alloc1 y2 (.cells #[.int .i64 0, .int .i64 0] 23))); have HK3 := Lib.hid (HK2.out.new 23 #[.int .i64 0, .int .i64 0])
          have hS := hHeld.on (below_alloc1 y2 (.cells #[.int .i64 0, .int .i64 0] 23))
          have HD3 := Lib.hid (boxes_lt HK2.out)
          have HZ3 := Lib.hid HE2.out.size
          refine hK.out _ _ hS (fun hHeld2 => ?_)
          try simp only [Act.put, List.setIfInBounds_toArray, List.set_cons_zero, List.set_cons_succ]
          clear hS hK K hHeld HE2 HK2
          have hHeld := hHeld2
          clear hHeld2
          obtain ⟨y3, hW⟩ : ∃ W', y2.alloc (.cells #[.int .i64 0, .int .i64 0] 23) = W' := ⟨_, rfl⟩
          rw [hW] at HE3 HK3 hHeld ⊢
          clear hW
          obtain ⟨N3, hN⟩ : ∃ N, y2.heap.size = N := ⟨_, rfl⟩
          rw [hN] at HK3 HD3 HZ3 ⊢
          clear hN
          refine wpAnyH_ready (rs := [9]) (by kernel_rfl) (by simp) ?_
          refine AllReadyH.cons rfl (fun K hK => ?_) AllReadyH.nil
          go_simp
          have HE4 := Lib.hid (below_then HE3.out (below_alloc1 y3 (.cells #[.int .i64 0, .int .i64 0] 23))); have HK4 := Lib.hid (HK3.out.new 23 #[.int .i64 0, .int .i64 0])
          have hS := hHeld.on (below_alloc1 y3 (.cells #[.int .i64 0, .int .i64 0] 23))
          have HD4 := Lib.hid (boxes_lt HK3.out)
          have HZ4 := Lib.hid HE3.out.size
          refine hK.out _ _ hS (fun hHeld2 => ?_)
          try simp only [Act.put, List.setIfInBounds_toArray, List.set_cons_zero, List.set_cons_succ]
          clear hS hK K hHeld HE3 HK3
          have hHeld := hHeld2
          clear hHeld2
          obtain ⟨y4, hW⟩ : ∃ W', y3.alloc (.cells #[.int .i64 0, .int .i64 0] 23) = W' := ⟨_, rfl⟩
          rw [hW] at HE4 HK4 hHeld ⊢
          clear hW
          obtain ⟨N4, hN⟩ : ∃ N, y3.heap.size = N := ⟨_, rfl⟩
          rw [hN] at HK4 HD4 HZ4 ⊢
          clear hN
          refine wpAnyH_ready (rs := [10]) (by kernel_rfl) (by simp) ?_
          refine AllReadyH.cons rfl (fun K hK => ?_) AllReadyH.nil
          rw [if_pos (by kernel_rfl)]
          have ne5 : ∀ zz ∈ ((N4, 23, #[.int .i64 0, .int .i64 0]) :: ((M, 113, #[fnV 200, fnV 201, fnV 154, fnV 202, fnV 203, .int .i64 0, .int .i64 0, .int .i64 0]) :: [(G + 1 + 1 + 1 + 1, 30, #[.int .i64 0, .int .i64 0, .int .i64 0, .int .i64 0, .int .i64 0, .int .i64 0]), (G + 1 + 1 + 1, 23, #[.int .i64 e0, .int .i64 e1]), (G + 1 + 1, 23, #[.int .i64 a, .int .i64 b]), (G + 1, 30, #[.int .i64 fh, .int .i64 3, .int .i64 x0, .int .i64 x1, .int .i64 d0, .int .i64 d1]), (G, 28, #[.int .i64 id, .int .i64 al, .int .i64 ah, .slice A n c, .slice B mm d, .slice C l ee, .int .i64 t0, .int .i64 t1, .int .i64 u0, .int .i64 u1, .int .i64 v0, .int .i64 v1, .int .i64 h0, .int .i64 h1])] : List (Nat × TypeId × Array Value)) : List (Nat × TypeId × Array Value)), zz.1 ≠ N3 := fun x hx => (List.mem_cons.1 hx).elim (fun e => by rw [e]; have q := HD4.out _ (.head _); exact fun z => q z.symm) (fun h => HD3.out x h)
          have HK5 : Hid (Boxes (y4.setRow N3 #[.int .i64 p, .int .i64 q]) ((N3, 23, #[.int .i64 p, .int .i64 q]) :: (N4, 23, #[.int .i64 0, .int .i64 0]) :: ((M, 113, #[fnV 200, fnV 201, fnV 154, fnV 202, fnV 203, .int .i64 0, .int .i64 0, .int .i64 0]) :: [(G + 1 + 1 + 1 + 1, 30, #[.int .i64 0, .int .i64 0, .int .i64 0, .int .i64 0, .int .i64 0, .int .i64 0]), (G + 1 + 1 + 1, 23, #[.int .i64 e0, .int .i64 e1]), (G + 1 + 1, 23, #[.int .i64 a, .int .i64 b]), (G + 1, 30, #[.int .i64 fh, .int .i64 3, .int .i64 x0, .int .i64 x1, .int .i64 d0, .int .i64 d1]), (G, 28, #[.int .i64 id, .int .i64 al, .int .i64 ah, .slice A n c, .slice B mm d, .slice C l ee, .int .i64 t0, .int .i64 t1, .int .i64 u0, .int .i64 u1, .int .i64 v0, .int .i64 v1, .int .i64 h0, .int .i64 h1])] : List (Nat × TypeId × Array Value)))) := Lib.hid (Boxes.row HK4.out (.tail _ (.head _)) (fun p hp => ⟨(by rcases List.mem_cons.1 hp with rfl | hp; exact .head _; exact .tail _ (.tail _ hp)), ne5 p hp⟩) #[.int .i64 p, .int .i64 q])
          have HE5 := Lib.hid (below_setRow HE4.out (show w.heap.size ≤ N3 from HZ3.out) #[.int .i64 p, .int .i64 q])
          have hS := hHeld.farRow (g := N3) (fun p hp => ne5 p (.tail _ hp)) #[.int .i64 p, .int .i64 q]
          refine wp_store_row 23 (.tmp 13) (.tmp 47) rfl N3 #[.int .i64 p, .int .i64 q] rfl rfl 23 _ (HK4.out _ (.tail _ (.head _))) (by kernel_rfl) rfl (by kernel_rfl) ?_
          obtain ⟨y5, hW⟩ : ∃ W', y4.setRow N3 #[.int .i64 p, .int .i64 q] = W' := ⟨_, rfl⟩
          rw [hW] at HE5 HK5 hS ⊢
          refine hK.out _ _ hS (fun hHeld2 => ?_)
          try simp only [Act.put, List.setIfInBounds_toArray, List.set_cons_zero, List.set_cons_succ]
          clear hW hS hK K hHeld ne5 HE4 HK4
          have hHeld := hHeld2
          clear hHeld2
          refine wpAnyH_ready (rs := [11]) (by kernel_rfl) (by simp) ?_
          refine AllReadyH.cons rfl (fun K hK => ?_) AllReadyH.nil
          rw [if_pos (by kernel_rfl)]
          have ne6 : ∀ zz ∈ ((N3, 23, #[.int .i64 p, .int .i64 q]) :: ((M, 113, #[fnV 200, fnV 201, fnV 154, fnV 202, fnV 203, .int .i64 0, .int .i64 0, .int .i64 0]) :: [(G + 1 + 1 + 1 + 1, 30, #[.int .i64 0, .int .i64 0, .int .i64 0, .int .i64 0, .int .i64 0, .int .i64 0]), (G + 1 + 1 + 1, 23, #[.int .i64 e0, .int .i64 e1]), (G + 1 + 1, 23, #[.int .i64 a, .int .i64 b]), (G + 1, 30, #[.int .i64 fh, .int .i64 3, .int .i64 x0, .int .i64 x1, .int .i64 d0, .int .i64 d1]), (G, 28, #[.int .i64 id, .int .i64 al, .int .i64 ah, .slice A n c, .slice B mm d, .slice C l ee, .int .i64 t0, .int .i64 t1, .int .i64 u0, .int .i64 u1, .int .i64 v0, .int .i64 v1, .int .i64 h0, .int .i64 h1])] : List (Nat × TypeId × Array Value)) : List (Nat × TypeId × Array Value)), zz.1 ≠ N4 := fun x hx => (List.mem_cons.1 hx).elim (fun e => by rw [e]; have q := HD4.out _ (.head _); exact q) (fun h => HD4.out x (.tail _ h))
          have HK6 : Hid (Boxes (y5.setRow N4 #[.int .i64 r, .int .i64 s]) ((N4, 23, #[.int .i64 r, .int .i64 s]) :: (N3, 23, #[.int .i64 p, .int .i64 q]) :: ((M, 113, #[fnV 200, fnV 201, fnV 154, fnV 202, fnV 203, .int .i64 0, .int .i64 0, .int .i64 0]) :: [(G + 1 + 1 + 1 + 1, 30, #[.int .i64 0, .int .i64 0, .int .i64 0, .int .i64 0, .int .i64 0, .int .i64 0]), (G + 1 + 1 + 1, 23, #[.int .i64 e0, .int .i64 e1]), (G + 1 + 1, 23, #[.int .i64 a, .int .i64 b]), (G + 1, 30, #[.int .i64 fh, .int .i64 3, .int .i64 x0, .int .i64 x1, .int .i64 d0, .int .i64 d1]), (G, 28, #[.int .i64 id, .int .i64 al, .int .i64 ah, .slice A n c, .slice B mm d, .slice C l ee, .int .i64 t0, .int .i64 t1, .int .i64 u0, .int .i64 u1, .int .i64 v0, .int .i64 v1, .int .i64 h0, .int .i64 h1])] : List (Nat × TypeId × Array Value)))) := Lib.hid (Boxes.row HK5.out (.tail _ (.head _)) (fun p hp => ⟨(by rcases List.mem_cons.1 hp with rfl | hp; exact .head _; exact .tail _ (.tail _ hp)), ne6 p hp⟩) #[.int .i64 r, .int .i64 s])
          have HE6 := Lib.hid (below_setRow HE5.out (show w.heap.size ≤ N4 from HZ4.out) #[.int .i64 r, .int .i64 s])
          have hS := hHeld.farRow (g := N4) (fun p hp => ne6 p (.tail _ hp)) #[.int .i64 r, .int .i64 s]
          refine wp_store_row 23 (.tmp 14) (.tmp 50) rfl N4 #[.int .i64 r, .int .i64 s] rfl rfl 23 _ (HK5.out _ (.tail _ (.head _))) (by kernel_rfl) rfl (by kernel_rfl) ?_
          obtain ⟨y6, hW⟩ : ∃ W', y5.setRow N4 #[.int .i64 r, .int .i64 s] = W' := ⟨_, rfl⟩
          rw [hW] at HE6 HK6 hS ⊢
          refine hK.out _ _ hS (fun hHeld2 => ?_)
          try simp only [Act.put, List.setIfInBounds_toArray, List.set_cons_zero, List.set_cons_succ]
          clear hW hS hK K hHeld ne6 HE5 HK5
          have hHeld := hHeld2
          clear hHeld2
          refine wpAnyH_done (by kernel_rfl) ?_ _
          go_wp2_with fail
          go_meet
          exact ⟨N3, N4, rfl, rfl, HK6.out, HE6.out, HD3.out (_, _, _) (.tail _ (.head _)), HD4.out (_, _, _) (.tail _ (.tail _ (.head _)))⟩
        · skip
          go_simp
          have HE7 := Lib.hid (below_then HE2.out (below_alloc1 y2 (.cells #[.int .i64 0, .int .i64 0] 23))); have HK7 := Lib.hid (HK2.out.new 23 #[.int .i64 0, .int .i64 0])
          have hS := hHeld.on (below_alloc1 y2 (.cells #[.int .i64 0, .int .i64 0] 23))
          have HD7 := Lib.hid (boxes_lt HK2.out)
          have HZ7 := Lib.hid HE2.out.size
          refine hK.out _ _ hS (fun hHeld2 => ?_)
          try simp only [Act.put, List.setIfInBounds_toArray, List.set_cons_zero, List.set_cons_succ]
          clear hS hK K hHeld HE2 HK2
          have hHeld := hHeld2
          clear hHeld2
          obtain ⟨y7, hW⟩ : ∃ W', y2.alloc (.cells #[.int .i64 0, .int .i64 0] 23) = W' := ⟨_, rfl⟩
          rw [hW] at HE7 HK7 hHeld ⊢
          clear hW
          obtain ⟨N7, hN⟩ : ∃ N, y2.heap.size = N := ⟨_, rfl⟩
          rw [hN] at HK7 HD7 HZ7 ⊢
          clear hN
          refine wpAnyH_ready (rs := [8]) (by kernel_rfl) (by simp) ?_
          refine AllReadyH.cons rfl (fun K hK => ?_) AllReadyH.nil
          go_simp
          have HE8 := Lib.hid (below_then HE7.out (below_alloc1 y7 (.cells #[.int .i64 0, .int .i64 0] 23))); have HK8 := Lib.hid (HK7.out.new 23 #[.int .i64 0, .int .i64 0])
          have hS := hHeld.on (below_alloc1 y7 (.cells #[.int .i64 0, .int .i64 0] 23))
          have HD8 := Lib.hid (boxes_lt HK7.out)
          have HZ8 := Lib.hid HE7.out.size
          refine hK.out _ _ hS (fun hHeld2 => ?_)
          try simp only [Act.put, List.setIfInBounds_toArray, List.set_cons_zero, List.set_cons_succ]
          clear hS hK K hHeld HE7 HK7
          have hHeld := hHeld2
          clear hHeld2
          obtain ⟨y8, hW⟩ : ∃ W', y7.alloc (.cells #[.int .i64 0, .int .i64 0] 23) = W' := ⟨_, rfl⟩
          rw [hW] at HE8 HK8 hHeld ⊢
          clear hW
          obtain ⟨N8, hN⟩ : ∃ N, y7.heap.size = N := ⟨_, rfl⟩
          rw [hN] at HK8 HD8 HZ8 ⊢
          clear hN
          refine wpAnyH_ready (rs := [10]) (by kernel_rfl) (by simp) ?_
          refine AllReadyH.cons rfl (fun K hK => ?_) AllReadyH.nil
          rw [if_pos (by kernel_rfl)]
          have ne9 : ∀ zz ∈ ((N7, 23, #[.int .i64 0, .int .i64 0]) :: ((M, 113, #[fnV 200, fnV 201, fnV 154, fnV 202, fnV 203, .int .i64 0, .int .i64 0, .int .i64 0]) :: [(G + 1 + 1 + 1 + 1, 30, #[.int .i64 0, .int .i64 0, .int .i64 0, .int .i64 0, .int .i64 0, .int .i64 0]), (G + 1 + 1 + 1, 23, #[.int .i64 e0, .int .i64 e1]), (G + 1 + 1, 23, #[.int .i64 a, .int .i64 b]), (G + 1, 30, #[.int .i64 fh, .int .i64 3, .int .i64 x0, .int .i64 x1, .int .i64 d0, .int .i64 d1]), (G, 28, #[.int .i64 id, .int .i64 al, .int .i64 ah, .slice A n c, .slice B mm d, .slice C l ee, .int .i64 t0, .int .i64 t1, .int .i64 u0, .int .i64 u1, .int .i64 v0, .int .i64 v1, .int .i64 h0, .int .i64 h1])] : List (Nat × TypeId × Array Value)) : List (Nat × TypeId × Array Value)), zz.1 ≠ N8 := fun x hx => (List.mem_cons.1 hx).elim (fun e => by rw [e]; have q := HD8.out _ (.head _); exact q) (fun h => HD8.out x (.tail _ h))
          have HK9 : Hid (Boxes (y8.setRow N8 #[.int .i64 p, .int .i64 q]) ((N8, 23, #[.int .i64 p, .int .i64 q]) :: (N7, 23, #[.int .i64 0, .int .i64 0]) :: ((M, 113, #[fnV 200, fnV 201, fnV 154, fnV 202, fnV 203, .int .i64 0, .int .i64 0, .int .i64 0]) :: [(G + 1 + 1 + 1 + 1, 30, #[.int .i64 0, .int .i64 0, .int .i64 0, .int .i64 0, .int .i64 0, .int .i64 0]), (G + 1 + 1 + 1, 23, #[.int .i64 e0, .int .i64 e1]), (G + 1 + 1, 23, #[.int .i64 a, .int .i64 b]), (G + 1, 30, #[.int .i64 fh, .int .i64 3, .int .i64 x0, .int .i64 x1, .int .i64 d0, .int .i64 d1]), (G, 28, #[.int .i64 id, .int .i64 al, .int .i64 ah, .slice A n c, .slice B mm d, .slice C l ee, .int .i64 t0, .int .i64 t1, .int .i64 u0, .int .i64 u1, .int .i64 v0, .int .i64 v1, .int .i64 h0, .int .i64 h1])] : List (Nat × TypeId × Array Value)))) := Lib.hid (Boxes.row HK8.out (.head _) (fun p hp => ⟨.tail _ hp, ne9 p hp⟩) #[.int .i64 p, .int .i64 q])
          have HE9 := Lib.hid (below_setRow HE8.out (show w.heap.size ≤ N8 from HZ8.out) #[.int .i64 p, .int .i64 q])
          have hS := hHeld.farRow (g := N8) (fun p hp => ne9 p (.tail _ hp)) #[.int .i64 p, .int .i64 q]
          refine wp_store_row 23 (.tmp 13) (.tmp 47) rfl N8 #[.int .i64 p, .int .i64 q] rfl rfl 23 _ (HK8.out _ (.head _)) (by kernel_rfl) rfl (by kernel_rfl) ?_
          obtain ⟨y9, hW⟩ : ∃ W', y8.setRow N8 #[.int .i64 p, .int .i64 q] = W' := ⟨_, rfl⟩
          rw [hW] at HE9 HK9 hS ⊢
          refine hK.out _ _ hS (fun hHeld2 => ?_)
          try simp only [Act.put, List.setIfInBounds_toArray, List.set_cons_zero, List.set_cons_succ]
          clear hW hS hK K hHeld ne9 HE8 HK8
          have hHeld := hHeld2
          clear hHeld2
          refine wpAnyH_ready (rs := [11]) (by kernel_rfl) (by simp) ?_
          refine AllReadyH.cons rfl (fun K hK => ?_) AllReadyH.nil
          rw [if_pos (by kernel_rfl)]
          have ne10 : ∀ zz ∈ ((N8, 23, #[.int .i64 p, .int .i64 q]) :: ((M, 113, #[fnV 200, fnV 201, fnV 154, fnV 202, fnV 203, .int .i64 0, .int .i64 0, .int .i64 0]) :: [(G + 1 + 1 + 1 + 1, 30, #[.int .i64 0, .int .i64 0, .int .i64 0, .int .i64 0, .int .i64 0, .int .i64 0]), (G + 1 + 1 + 1, 23, #[.int .i64 e0, .int .i64 e1]), (G + 1 + 1, 23, #[.int .i64 a, .int .i64 b]), (G + 1, 30, #[.int .i64 fh, .int .i64 3, .int .i64 x0, .int .i64 x1, .int .i64 d0, .int .i64 d1]), (G, 28, #[.int .i64 id, .int .i64 al, .int .i64 ah, .slice A n c, .slice B mm d, .slice C l ee, .int .i64 t0, .int .i64 t1, .int .i64 u0, .int .i64 u1, .int .i64 v0, .int .i64 v1, .int .i64 h0, .int .i64 h1])] : List (Nat × TypeId × Array Value)) : List (Nat × TypeId × Array Value)), zz.1 ≠ N7 := fun x hx => (List.mem_cons.1 hx).elim (fun e => by rw [e]; have q := HD8.out _ (.head _); exact fun z => q z.symm) (fun h => HD7.out x h)
          have HK10 : Hid (Boxes (y9.setRow N7 #[.int .i64 r, .int .i64 s]) ((N7, 23, #[.int .i64 r, .int .i64 s]) :: (N8, 23, #[.int .i64 p, .int .i64 q]) :: ((M, 113, #[fnV 200, fnV 201, fnV 154, fnV 202, fnV 203, .int .i64 0, .int .i64 0, .int .i64 0]) :: [(G + 1 + 1 + 1 + 1, 30, #[.int .i64 0, .int .i64 0, .int .i64 0, .int .i64 0, .int .i64 0, .int .i64 0]), (G + 1 + 1 + 1, 23, #[.int .i64 e0, .int .i64 e1]), (G + 1 + 1, 23, #[.int .i64 a, .int .i64 b]), (G + 1, 30, #[.int .i64 fh, .int .i64 3, .int .i64 x0, .int .i64 x1, .int .i64 d0, .int .i64 d1]), (G, 28, #[.int .i64 id, .int .i64 al, .int .i64 ah, .slice A n c, .slice B mm d, .slice C l ee, .int .i64 t0, .int .i64 t1, .int .i64 u0, .int .i64 u1, .int .i64 v0, .int .i64 v1, .int .i64 h0, .int .i64 h1])] : List (Nat × TypeId × Array Value)))) := Lib.hid (Boxes.row HK9.out (.tail _ (.head _)) (fun p hp => ⟨(by rcases List.mem_cons.1 hp with rfl | hp; exact .head _; exact .tail _ (.tail _ hp)), ne10 p hp⟩) #[.int .i64 r, .int .i64 s])
          have HE10 := Lib.hid (below_setRow HE9.out (show w.heap.size ≤ N7 from HZ7.out) #[.int .i64 r, .int .i64 s])
          have hS := hHeld.farRow (g := N7) (fun p hp => ne10 p (.tail _ hp)) #[.int .i64 r, .int .i64 s]
          refine wp_store_row 23 (.tmp 14) (.tmp 50) rfl N7 #[.int .i64 r, .int .i64 s] rfl rfl 23 _ (HK9.out _ (.tail _ (.head _))) (by kernel_rfl) rfl (by kernel_rfl) ?_
          obtain ⟨y10, hW⟩ : ∃ W', y9.setRow N7 #[.int .i64 r, .int .i64 s] = W' := ⟨_, rfl⟩
          rw [hW] at HE10 HK10 hS ⊢
          refine hK.out _ _ hS (fun hHeld2 => ?_)
          try simp only [Act.put, List.setIfInBounds_toArray, List.set_cons_zero, List.set_cons_succ]
          clear hW hS hK K hHeld ne10 HE9 HK9
          have hHeld := hHeld2
          clear hHeld2
          refine wpAnyH_done (by kernel_rfl) ?_ _
          go_wp2_with fail
          go_meet
          exact ⟨N8, N7, rfl, rfl, HK10.out, HE10.out, HD8.out (_, _, _) (.tail _ (.tail _ (.head _))), HD7.out (_, _, _) (.tail _ (.head _))⟩
      · skip
        go_simp
        have HE11 := Lib.hid (below_then HE1.out (below_alloc1 y1 (.cells #[.int .i64 0, .int .i64 0] 23))); have HK11 := Lib.hid (HK1.out.new 23 #[.int .i64 0, .int .i64 0])
        have hS := hHeld.on (below_alloc1 y1 (.cells #[.int .i64 0, .int .i64 0] 23))
        have HD11 := Lib.hid (boxes_lt HK1.out)
        have HZ11 := Lib.hid HE1.out.size
        refine hK.out _ _ hS (fun hHeld2 => ?_)
        try simp only [Act.put, List.setIfInBounds_toArray, List.set_cons_zero, List.set_cons_succ]
        clear hS hK K hHeld HE1 HK1
        have hHeld := hHeld2
        clear hHeld2
        obtain ⟨y11, hW⟩ : ∃ W', y1.alloc (.cells #[.int .i64 0, .int .i64 0] 23) = W' := ⟨_, rfl⟩
        rw [hW] at HE11 HK11 hHeld ⊢
        clear hW
        obtain ⟨N11, hN⟩ : ∃ N, y1.heap.size = N := ⟨_, rfl⟩
        rw [hN] at HK11 HD11 HZ11 ⊢
        clear hN
        refine wpAnyH_ready (rs := [7, 9]) (by kernel_rfl) (by simp) ?_
        refine AllReadyH.cons rfl (fun K hK => ?_) (AllReadyH.cons rfl (fun K hK => ?_) AllReadyH.nil)
        · skip
          go_simp
          (with_reducible refine (C5.out _).mono ?_)
          rintro e y12 ⟨rfl, hb⟩
          have HE12 := Lib.hid (below_then HE11.out hb); have HK12 := Lib.hid (HK11.out.on hb)
          have hS := hHeld.on hb
          clear hb
          refine hK.out _ _ hS (fun hHeld2 => ?_)
          try simp only [Act.put, List.setIfInBounds_toArray, List.set_cons_zero, List.set_cons_succ]
          clear hS hK K hHeld HE11 HK11
          have hHeld := hHeld2
          clear hHeld2
          refine wpAnyH_ready (rs := [9]) (by kernel_rfl) (by simp) ?_
          refine AllReadyH.cons rfl (fun K hK => ?_) AllReadyH.nil
          go_simp
          have HE13 := Lib.hid (below_then HE12.out (below_alloc1 y12 (.cells #[.int .i64 0, .int .i64 0] 23))); have HK13 := Lib.hid (HK12.out.new 23 #[.int .i64 0, .int .i64 0])
          have hS := hHeld.on (below_alloc1 y12 (.cells #[.int .i64 0, .int .i64 0] 23))
          have HD13 := Lib.hid (boxes_lt HK12.out)
          have HZ13 := Lib.hid HE12.out.size
          refine hK.out _ _ hS (fun hHeld2 => ?_)
          try simp only [Act.put, List.setIfInBounds_toArray, List.set_cons_zero, List.set_cons_succ]
          clear hS hK K hHeld HE12 HK12
          have hHeld := hHeld2
          clear hHeld2
          obtain ⟨y13, hW⟩ : ∃ W', y12.alloc (.cells #[.int .i64 0, .int .i64 0] 23) = W' := ⟨_, rfl⟩
          rw [hW] at HE13 HK13 hHeld ⊢
          clear hW
          obtain ⟨N13, hN⟩ : ∃ N, y12.heap.size = N := ⟨_, rfl⟩
          rw [hN] at HK13 HD13 HZ13 ⊢
          clear hN
          refine wpAnyH_ready (rs := [10]) (by kernel_rfl) (by simp) ?_
          refine AllReadyH.cons rfl (fun K hK => ?_) AllReadyH.nil
          rw [if_pos (by kernel_rfl)]
          have ne14 : ∀ zz ∈ ((N13, 23, #[.int .i64 0, .int .i64 0]) :: ((M, 113, #[fnV 200, fnV 201, fnV 154, fnV 202, fnV 203, .int .i64 0, .int .i64 0, .int .i64 0]) :: [(G + 1 + 1 + 1 + 1, 30, #[.int .i64 0, .int .i64 0, .int .i64 0, .int .i64 0, .int .i64 0, .int .i64 0]), (G + 1 + 1 + 1, 23, #[.int .i64 e0, .int .i64 e1]), (G + 1 + 1, 23, #[.int .i64 a, .int .i64 b]), (G + 1, 30, #[.int .i64 fh, .int .i64 3, .int .i64 x0, .int .i64 x1, .int .i64 d0, .int .i64 d1]), (G, 28, #[.int .i64 id, .int .i64 al, .int .i64 ah, .slice A n c, .slice B mm d, .slice C l ee, .int .i64 t0, .int .i64 t1, .int .i64 u0, .int .i64 u1, .int .i64 v0, .int .i64 v1, .int .i64 h0, .int .i64 h1])] : List (Nat × TypeId × Array Value)) : List (Nat × TypeId × Array Value)), zz.1 ≠ N11 := fun x hx => (List.mem_cons.1 hx).elim (fun e => by rw [e]; have q := HD13.out _ (.head _); exact fun z => q z.symm) (fun h => HD11.out x h)
          have HK14 : Hid (Boxes (y13.setRow N11 #[.int .i64 p, .int .i64 q]) ((N11, 23, #[.int .i64 p, .int .i64 q]) :: (N13, 23, #[.int .i64 0, .int .i64 0]) :: ((M, 113, #[fnV 200, fnV 201, fnV 154, fnV 202, fnV 203, .int .i64 0, .int .i64 0, .int .i64 0]) :: [(G + 1 + 1 + 1 + 1, 30, #[.int .i64 0, .int .i64 0, .int .i64 0, .int .i64 0, .int .i64 0, .int .i64 0]), (G + 1 + 1 + 1, 23, #[.int .i64 e0, .int .i64 e1]), (G + 1 + 1, 23, #[.int .i64 a, .int .i64 b]), (G + 1, 30, #[.int .i64 fh, .int .i64 3, .int .i64 x0, .int .i64 x1, .int .i64 d0, .int .i64 d1]), (G, 28, #[.int .i64 id, .int .i64 al, .int .i64 ah, .slice A n c, .slice B mm d, .slice C l ee, .int .i64 t0, .int .i64 t1, .int .i64 u0, .int .i64 u1, .int .i64 v0, .int .i64 v1, .int .i64 h0, .int .i64 h1])] : List (Nat × TypeId × Array Value)))) := Lib.hid (Boxes.row HK13.out (.tail _ (.head _)) (fun p hp => ⟨(by rcases List.mem_cons.1 hp with rfl | hp; exact .head _; exact .tail _ (.tail _ hp)), ne14 p hp⟩) #[.int .i64 p, .int .i64 q])
          have HE14 := Lib.hid (below_setRow HE13.out (show w.heap.size ≤ N11 from HZ11.out) #[.int .i64 p, .int .i64 q])
          have hS := hHeld.farRow (g := N11) (fun p hp => ne14 p (.tail _ hp)) #[.int .i64 p, .int .i64 q]
          refine wp_store_row 23 (.tmp 13) (.tmp 47) rfl N11 #[.int .i64 p, .int .i64 q] rfl rfl 23 _ (HK13.out _ (.tail _ (.head _))) (by kernel_rfl) rfl (by kernel_rfl) ?_
          obtain ⟨y14, hW⟩ : ∃ W', y13.setRow N11 #[.int .i64 p, .int .i64 q] = W' := ⟨_, rfl⟩
          rw [hW] at HE14 HK14 hS ⊢
          refine hK.out _ _ hS (fun hHeld2 => ?_)
          try simp only [Act.put, List.setIfInBounds_toArray, List.set_cons_zero, List.set_cons_succ]
          clear hW hS hK K hHeld ne14 HE13 HK13
          have hHeld := hHeld2
          clear hHeld2
          refine wpAnyH_ready (rs := [11]) (by kernel_rfl) (by simp) ?_
          refine AllReadyH.cons rfl (fun K hK => ?_) AllReadyH.nil
          rw [if_pos (by kernel_rfl)]
          have ne15 : ∀ zz ∈ ((N11, 23, #[.int .i64 p, .int .i64 q]) :: ((M, 113, #[fnV 200, fnV 201, fnV 154, fnV 202, fnV 203, .int .i64 0, .int .i64 0, .int .i64 0]) :: [(G + 1 + 1 + 1 + 1, 30, #[.int .i64 0, .int .i64 0, .int .i64 0, .int .i64 0, .int .i64 0, .int .i64 0]), (G + 1 + 1 + 1, 23, #[.int .i64 e0, .int .i64 e1]), (G + 1 + 1, 23, #[.int .i64 a, .int .i64 b]), (G + 1, 30, #[.int .i64 fh, .int .i64 3, .int .i64 x0, .int .i64 x1, .int .i64 d0, .int .i64 d1]), (G, 28, #[.int .i64 id, .int .i64 al, .int .i64 ah, .slice A n c, .slice B mm d, .slice C l ee, .int .i64 t0, .int .i64 t1, .int .i64 u0, .int .i64 u1, .int .i64 v0, .int .i64 v1, .int .i64 h0, .int .i64 h1])] : List (Nat × TypeId × Array Value)) : List (Nat × TypeId × Array Value)), zz.1 ≠ N13 := fun x hx => (List.mem_cons.1 hx).elim (fun e => by rw [e]; have q := HD13.out _ (.head _); exact q) (fun h => HD13.out x (.tail _ h))
          have HK15 : Hid (Boxes (y14.setRow N13 #[.int .i64 r, .int .i64 s]) ((N13, 23, #[.int .i64 r, .int .i64 s]) :: (N11, 23, #[.int .i64 p, .int .i64 q]) :: ((M, 113, #[fnV 200, fnV 201, fnV 154, fnV 202, fnV 203, .int .i64 0, .int .i64 0, .int .i64 0]) :: [(G + 1 + 1 + 1 + 1, 30, #[.int .i64 0, .int .i64 0, .int .i64 0, .int .i64 0, .int .i64 0, .int .i64 0]), (G + 1 + 1 + 1, 23, #[.int .i64 e0, .int .i64 e1]), (G + 1 + 1, 23, #[.int .i64 a, .int .i64 b]), (G + 1, 30, #[.int .i64 fh, .int .i64 3, .int .i64 x0, .int .i64 x1, .int .i64 d0, .int .i64 d1]), (G, 28, #[.int .i64 id, .int .i64 al, .int .i64 ah, .slice A n c, .slice B mm d, .slice C l ee, .int .i64 t0, .int .i64 t1, .int .i64 u0, .int .i64 u1, .int .i64 v0, .int .i64 v1, .int .i64 h0, .int .i64 h1])] : List (Nat × TypeId × Array Value)))) := Lib.hid (Boxes.row HK14.out (.tail _ (.head _)) (fun p hp => ⟨(by rcases List.mem_cons.1 hp with rfl | hp; exact .head _; exact .tail _ (.tail _ hp)), ne15 p hp⟩) #[.int .i64 r, .int .i64 s])
          have HE15 := Lib.hid (below_setRow HE14.out (show w.heap.size ≤ N13 from HZ13.out) #[.int .i64 r, .int .i64 s])
          have hS := hHeld.farRow (g := N13) (fun p hp => ne15 p (.tail _ hp)) #[.int .i64 r, .int .i64 s]
          refine wp_store_row 23 (.tmp 14) (.tmp 50) rfl N13 #[.int .i64 r, .int .i64 s] rfl rfl 23 _ (HK14.out _ (.tail _ (.head _))) (by kernel_rfl) rfl (by kernel_rfl) ?_
          obtain ⟨y15, hW⟩ : ∃ W', y14.setRow N13 #[.int .i64 r, .int .i64 s] = W' := ⟨_, rfl⟩
          rw [hW] at HE15 HK15 hS ⊢
          refine hK.out _ _ hS (fun hHeld2 => ?_)
          try simp only [Act.put, List.setIfInBounds_toArray, List.set_cons_zero, List.set_cons_succ]
          clear hW hS hK K hHeld ne15 HE14 HK14
          have hHeld := hHeld2
          clear hHeld2
          refine wpAnyH_done (by kernel_rfl) ?_ _
          go_wp2_with fail
          go_meet
          exact ⟨N11, N13, rfl, rfl, HK15.out, HE15.out, HD11.out (_, _, _) (.tail _ (.head _)), HD13.out (_, _, _) (.tail _ (.tail _ (.head _)))⟩
        · skip
          go_simp
          have HE16 := Lib.hid (below_then HE11.out (below_alloc1 y11 (.cells #[.int .i64 0, .int .i64 0] 23))); have HK16 := Lib.hid (HK11.out.new 23 #[.int .i64 0, .int .i64 0])
          have hS := hHeld.on (below_alloc1 y11 (.cells #[.int .i64 0, .int .i64 0] 23))
          have HD16 := Lib.hid (boxes_lt HK11.out)
          have HZ16 := Lib.hid HE11.out.size
          refine hK.out _ _ hS (fun hHeld2 => ?_)
          try simp only [Act.put, List.setIfInBounds_toArray, List.set_cons_zero, List.set_cons_succ]
          clear hS hK K hHeld HE11 HK11
          have hHeld := hHeld2
          clear hHeld2
          obtain ⟨y16, hW⟩ : ∃ W', y11.alloc (.cells #[.int .i64 0, .int .i64 0] 23) = W' := ⟨_, rfl⟩
          rw [hW] at HE16 HK16 hHeld ⊢
          clear hW
          obtain ⟨N16, hN⟩ : ∃ N, y11.heap.size = N := ⟨_, rfl⟩
          rw [hN] at HK16 HD16 HZ16 ⊢
          clear hN
          refine wpAnyH_ready (rs := [7]) (by kernel_rfl) (by simp) ?_
          refine AllReadyH.cons rfl (fun K hK => ?_) AllReadyH.nil
          go_simp
          (with_reducible refine (C5.out _).mono ?_)
          rintro e y17 ⟨rfl, hb⟩
          have HE17 := Lib.hid (below_then HE16.out hb); have HK17 := Lib.hid (HK16.out.on hb)
          have hS := hHeld.on hb
          clear hb
          refine hK.out _ _ hS (fun hHeld2 => ?_)
          try simp only [Act.put, List.setIfInBounds_toArray, List.set_cons_zero, List.set_cons_succ]
          clear hS hK K hHeld HE16 HK16
          have hHeld := hHeld2
          clear hHeld2
          refine wpAnyH_ready (rs := [10]) (by kernel_rfl) (by simp) ?_
          refine AllReadyH.cons rfl (fun K hK => ?_) AllReadyH.nil
          rw [if_pos (by kernel_rfl)]
          have ne18 : ∀ zz ∈ ((N16, 23, #[.int .i64 0, .int .i64 0]) :: ((M, 113, #[fnV 200, fnV 201, fnV 154, fnV 202, fnV 203, .int .i64 0, .int .i64 0, .int .i64 0]) :: [(G + 1 + 1 + 1 + 1, 30, #[.int .i64 0, .int .i64 0, .int .i64 0, .int .i64 0, .int .i64 0, .int .i64 0]), (G + 1 + 1 + 1, 23, #[.int .i64 e0, .int .i64 e1]), (G + 1 + 1, 23, #[.int .i64 a, .int .i64 b]), (G + 1, 30, #[.int .i64 fh, .int .i64 3, .int .i64 x0, .int .i64 x1, .int .i64 d0, .int .i64 d1]), (G, 28, #[.int .i64 id, .int .i64 al, .int .i64 ah, .slice A n c, .slice B mm d, .slice C l ee, .int .i64 t0, .int .i64 t1, .int .i64 u0, .int .i64 u1, .int .i64 v0, .int .i64 v1, .int .i64 h0, .int .i64 h1])] : List (Nat × TypeId × Array Value)) : List (Nat × TypeId × Array Value)), zz.1 ≠ N11 := fun x hx => (List.mem_cons.1 hx).elim (fun e => by rw [e]; have q := HD16.out _ (.head _); exact fun z => q z.symm) (fun h => HD11.out x h)
          have HK18 : Hid (Boxes (y17.setRow N11 #[.int .i64 p, .int .i64 q]) ((N11, 23, #[.int .i64 p, .int .i64 q]) :: (N16, 23, #[.int .i64 0, .int .i64 0]) :: ((M, 113, #[fnV 200, fnV 201, fnV 154, fnV 202, fnV 203, .int .i64 0, .int .i64 0, .int .i64 0]) :: [(G + 1 + 1 + 1 + 1, 30, #[.int .i64 0, .int .i64 0, .int .i64 0, .int .i64 0, .int .i64 0, .int .i64 0]), (G + 1 + 1 + 1, 23, #[.int .i64 e0, .int .i64 e1]), (G + 1 + 1, 23, #[.int .i64 a, .int .i64 b]), (G + 1, 30, #[.int .i64 fh, .int .i64 3, .int .i64 x0, .int .i64 x1, .int .i64 d0, .int .i64 d1]), (G, 28, #[.int .i64 id, .int .i64 al, .int .i64 ah, .slice A n c, .slice B mm d, .slice C l ee, .int .i64 t0, .int .i64 t1, .int .i64 u0, .int .i64 u1, .int .i64 v0, .int .i64 v1, .int .i64 h0, .int .i64 h1])] : List (Nat × TypeId × Array Value)))) := Lib.hid (Boxes.row HK17.out (.tail _ (.head _)) (fun p hp => ⟨(by rcases List.mem_cons.1 hp with rfl | hp; exact .head _; exact .tail _ (.tail _ hp)), ne18 p hp⟩) #[.int .i64 p, .int .i64 q])
          have HE18 := Lib.hid (below_setRow HE17.out (show w.heap.size ≤ N11 from HZ11.out) #[.int .i64 p, .int .i64 q])
          have hS := hHeld.farRow (g := N11) (fun p hp => ne18 p (.tail _ hp)) #[.int .i64 p, .int .i64 q]
          refine wp_store_row 23 (.tmp 13) (.tmp 47) rfl N11 #[.int .i64 p, .int .i64 q] rfl rfl 23 _ (HK17.out _ (.tail _ (.head _))) (by kernel_rfl) rfl (by kernel_rfl) ?_
          obtain ⟨y18, hW⟩ : ∃ W', y17.setRow N11 #[.int .i64 p, .int .i64 q] = W' := ⟨_, rfl⟩
          rw [hW] at HE18 HK18 hS ⊢
          refine hK.out _ _ hS (fun hHeld2 => ?_)
          try simp only [Act.put, List.setIfInBounds_toArray, List.set_cons_zero, List.set_cons_succ]
          clear hW hS hK K hHeld ne18 HE17 HK17
          have hHeld := hHeld2
          clear hHeld2
          refine wpAnyH_ready (rs := [11]) (by kernel_rfl) (by simp) ?_
          refine AllReadyH.cons rfl (fun K hK => ?_) AllReadyH.nil
          rw [if_pos (by kernel_rfl)]
          have ne19 : ∀ zz ∈ ((N11, 23, #[.int .i64 p, .int .i64 q]) :: ((M, 113, #[fnV 200, fnV 201, fnV 154, fnV 202, fnV 203, .int .i64 0, .int .i64 0, .int .i64 0]) :: [(G + 1 + 1 + 1 + 1, 30, #[.int .i64 0, .int .i64 0, .int .i64 0, .int .i64 0, .int .i64 0, .int .i64 0]), (G + 1 + 1 + 1, 23, #[.int .i64 e0, .int .i64 e1]), (G + 1 + 1, 23, #[.int .i64 a, .int .i64 b]), (G + 1, 30, #[.int .i64 fh, .int .i64 3, .int .i64 x0, .int .i64 x1, .int .i64 d0, .int .i64 d1]), (G, 28, #[.int .i64 id, .int .i64 al, .int .i64 ah, .slice A n c, .slice B mm d, .slice C l ee, .int .i64 t0, .int .i64 t1, .int .i64 u0, .int .i64 u1, .int .i64 v0, .int .i64 v1, .int .i64 h0, .int .i64 h1])] : List (Nat × TypeId × Array Value)) : List (Nat × TypeId × Array Value)), zz.1 ≠ N16 := fun x hx => (List.mem_cons.1 hx).elim (fun e => by rw [e]; have q := HD16.out _ (.head _); exact q) (fun h => HD16.out x (.tail _ h))
          have HK19 : Hid (Boxes (y18.setRow N16 #[.int .i64 r, .int .i64 s]) ((N16, 23, #[.int .i64 r, .int .i64 s]) :: (N11, 23, #[.int .i64 p, .int .i64 q]) :: ((M, 113, #[fnV 200, fnV 201, fnV 154, fnV 202, fnV 203, .int .i64 0, .int .i64 0, .int .i64 0]) :: [(G + 1 + 1 + 1 + 1, 30, #[.int .i64 0, .int .i64 0, .int .i64 0, .int .i64 0, .int .i64 0, .int .i64 0]), (G + 1 + 1 + 1, 23, #[.int .i64 e0, .int .i64 e1]), (G + 1 + 1, 23, #[.int .i64 a, .int .i64 b]), (G + 1, 30, #[.int .i64 fh, .int .i64 3, .int .i64 x0, .int .i64 x1, .int .i64 d0, .int .i64 d1]), (G, 28, #[.int .i64 id, .int .i64 al, .int .i64 ah, .slice A n c, .slice B mm d, .slice C l ee, .int .i64 t0, .int .i64 t1, .int .i64 u0, .int .i64 u1, .int .i64 v0, .int .i64 v1, .int .i64 h0, .int .i64 h1])] : List (Nat × TypeId × Array Value)))) := Lib.hid (Boxes.row HK18.out (.tail _ (.head _)) (fun p hp => ⟨(by rcases List.mem_cons.1 hp with rfl | hp; exact .head _; exact .tail _ (.tail _ hp)), ne19 p hp⟩) #[.int .i64 r, .int .i64 s])
          have HE19 := Lib.hid (below_setRow HE18.out (show w.heap.size ≤ N16 from HZ16.out) #[.int .i64 r, .int .i64 s])
          have hS := hHeld.farRow (g := N16) (fun p hp => ne19 p (.tail _ hp)) #[.int .i64 r, .int .i64 s]
          refine wp_store_row 23 (.tmp 14) (.tmp 50) rfl N16 #[.int .i64 r, .int .i64 s] rfl rfl 23 _ (HK18.out _ (.tail _ (.head _))) (by kernel_rfl) rfl (by kernel_rfl) ?_
          obtain ⟨y19, hW⟩ : ∃ W', y18.setRow N16 #[.int .i64 r, .int .i64 s] = W' := ⟨_, rfl⟩
          rw [hW] at HE19 HK19 hS ⊢
          refine hK.out _ _ hS (fun hHeld2 => ?_)
          try simp only [Act.put, List.setIfInBounds_toArray, List.set_cons_zero, List.set_cons_succ]
          clear hW hS hK K hHeld ne19 HE18 HK18
          have hHeld := hHeld2
          clear hHeld2
          refine wpAnyH_done (by kernel_rfl) ?_ _
          go_wp2_with fail
          go_meet
          exact ⟨N11, N16, rfl, rfl, HK19.out, HE19.out, HD11.out (_, _, _) (.tail _ (.head _)), HD16.out (_, _, _) (.tail _ (.tail _ (.head _)))⟩
      · skip
        go_simp
        have HE20 := Lib.hid (below_then HE1.out (below_alloc1 y1 (.cells #[.int .i64 0, .int .i64 0] 23))); have HK20 := Lib.hid (HK1.out.new 23 #[.int .i64 0, .int .i64 0])
        have hS := hHeld.on (below_alloc1 y1 (.cells #[.int .i64 0, .int .i64 0] 23))
        have HD20 := Lib.hid (boxes_lt HK1.out)
        have HZ20 := Lib.hid HE1.out.size
        refine hK.out _ _ hS (fun hHeld2 => ?_)
        try simp only [Act.put, List.setIfInBounds_toArray, List.set_cons_zero, List.set_cons_succ]
        clear hS hK K hHeld HE1 HK1
        have hHeld := hHeld2
        clear hHeld2
        obtain ⟨y20, hW⟩ : ∃ W', y1.alloc (.cells #[.int .i64 0, .int .i64 0] 23) = W' := ⟨_, rfl⟩
        rw [hW] at HE20 HK20 hHeld ⊢
        clear hW
        obtain ⟨N20, hN⟩ : ∃ N, y1.heap.size = N := ⟨_, rfl⟩
        rw [hN] at HK20 HD20 HZ20 ⊢
        clear hN
        refine wpAnyH_ready (rs := [7, 8]) (by kernel_rfl) (by simp) ?_
        refine AllReadyH.cons rfl (fun K hK => ?_) (AllReadyH.cons rfl (fun K hK => ?_) AllReadyH.nil)
        · skip
          go_simp
          (with_reducible refine (C5.out _).mono ?_)
          rintro e y21 ⟨rfl, hb⟩
          have HE21 := Lib.hid (below_then HE20.out hb); have HK21 := Lib.hid (HK20.out.on hb)
          have hS := hHeld.on hb
          clear hb
          refine hK.out _ _ hS (fun hHeld2 => ?_)
          try simp only [Act.put, List.setIfInBounds_toArray, List.set_cons_zero, List.set_cons_succ]
          clear hS hK K hHeld HE20 HK20
          have hHeld := hHeld2
          clear hHeld2
          refine wpAnyH_ready (rs := [8]) (by kernel_rfl) (by simp) ?_
          refine AllReadyH.cons rfl (fun K hK => ?_) AllReadyH.nil
          go_simp
          have HE22 := Lib.hid (below_then HE21.out (below_alloc1 y21 (.cells #[.int .i64 0, .int .i64 0] 23))); have HK22 := Lib.hid (HK21.out.new 23 #[.int .i64 0, .int .i64 0])
          have hS := hHeld.on (below_alloc1 y21 (.cells #[.int .i64 0, .int .i64 0] 23))
          have HD22 := Lib.hid (boxes_lt HK21.out)
          have HZ22 := Lib.hid HE21.out.size
          refine hK.out _ _ hS (fun hHeld2 => ?_)
          try simp only [Act.put, List.setIfInBounds_toArray, List.set_cons_zero, List.set_cons_succ]
          clear hS hK K hHeld HE21 HK21
          have hHeld := hHeld2
          clear hHeld2
          obtain ⟨y22, hW⟩ : ∃ W', y21.alloc (.cells #[.int .i64 0, .int .i64 0] 23) = W' := ⟨_, rfl⟩
          rw [hW] at HE22 HK22 hHeld ⊢
          clear hW
          obtain ⟨N22, hN⟩ : ∃ N, y21.heap.size = N := ⟨_, rfl⟩
          rw [hN] at HK22 HD22 HZ22 ⊢
          clear hN
          refine wpAnyH_ready (rs := [10]) (by kernel_rfl) (by simp) ?_
          refine AllReadyH.cons rfl (fun K hK => ?_) AllReadyH.nil
          rw [if_pos (by kernel_rfl)]
          have ne23 : ∀ zz ∈ ((N20, 23, #[.int .i64 0, .int .i64 0]) :: ((M, 113, #[fnV 200, fnV 201, fnV 154, fnV 202, fnV 203, .int .i64 0, .int .i64 0, .int .i64 0]) :: [(G + 1 + 1 + 1 + 1, 30, #[.int .i64 0, .int .i64 0, .int .i64 0, .int .i64 0, .int .i64 0, .int .i64 0]), (G + 1 + 1 + 1, 23, #[.int .i64 e0, .int .i64 e1]), (G + 1 + 1, 23, #[.int .i64 a, .int .i64 b]), (G + 1, 30, #[.int .i64 fh, .int .i64 3, .int .i64 x0, .int .i64 x1, .int .i64 d0, .int .i64 d1]), (G, 28, #[.int .i64 id, .int .i64 al, .int .i64 ah, .slice A n c, .slice B mm d, .slice C l ee, .int .i64 t0, .int .i64 t1, .int .i64 u0, .int .i64 u1, .int .i64 v0, .int .i64 v1, .int .i64 h0, .int .i64 h1])] : List (Nat × TypeId × Array Value)) : List (Nat × TypeId × Array Value)), zz.1 ≠ N22 := fun x hx => (List.mem_cons.1 hx).elim (fun e => by rw [e]; have q := HD22.out _ (.head _); exact q) (fun h => HD22.out x (.tail _ h))
          have HK23 : Hid (Boxes (y22.setRow N22 #[.int .i64 p, .int .i64 q]) ((N22, 23, #[.int .i64 p, .int .i64 q]) :: (N20, 23, #[.int .i64 0, .int .i64 0]) :: ((M, 113, #[fnV 200, fnV 201, fnV 154, fnV 202, fnV 203, .int .i64 0, .int .i64 0, .int .i64 0]) :: [(G + 1 + 1 + 1 + 1, 30, #[.int .i64 0, .int .i64 0, .int .i64 0, .int .i64 0, .int .i64 0, .int .i64 0]), (G + 1 + 1 + 1, 23, #[.int .i64 e0, .int .i64 e1]), (G + 1 + 1, 23, #[.int .i64 a, .int .i64 b]), (G + 1, 30, #[.int .i64 fh, .int .i64 3, .int .i64 x0, .int .i64 x1, .int .i64 d0, .int .i64 d1]), (G, 28, #[.int .i64 id, .int .i64 al, .int .i64 ah, .slice A n c, .slice B mm d, .slice C l ee, .int .i64 t0, .int .i64 t1, .int .i64 u0, .int .i64 u1, .int .i64 v0, .int .i64 v1, .int .i64 h0, .int .i64 h1])] : List (Nat × TypeId × Array Value)))) := Lib.hid (Boxes.row HK22.out (.head _) (fun p hp => ⟨.tail _ hp, ne23 p hp⟩) #[.int .i64 p, .int .i64 q])
          have HE23 := Lib.hid (below_setRow HE22.out (show w.heap.size ≤ N22 from HZ22.out) #[.int .i64 p, .int .i64 q])
          have hS := hHeld.farRow (g := N22) (fun p hp => ne23 p (.tail _ hp)) #[.int .i64 p, .int .i64 q]
          refine wp_store_row 23 (.tmp 13) (.tmp 47) rfl N22 #[.int .i64 p, .int .i64 q] rfl rfl 23 _ (HK22.out _ (.head _)) (by kernel_rfl) rfl (by kernel_rfl) ?_
          obtain ⟨y23, hW⟩ : ∃ W', y22.setRow N22 #[.int .i64 p, .int .i64 q] = W' := ⟨_, rfl⟩
          rw [hW] at HE23 HK23 hS ⊢
          refine hK.out _ _ hS (fun hHeld2 => ?_)
          try simp only [Act.put, List.setIfInBounds_toArray, List.set_cons_zero, List.set_cons_succ]
          clear hW hS hK K hHeld ne23 HE22 HK22
          have hHeld := hHeld2
          clear hHeld2
          refine wpAnyH_ready (rs := [11]) (by kernel_rfl) (by simp) ?_
          refine AllReadyH.cons rfl (fun K hK => ?_) AllReadyH.nil
          rw [if_pos (by kernel_rfl)]
          have ne24 : ∀ zz ∈ ((N22, 23, #[.int .i64 p, .int .i64 q]) :: ((M, 113, #[fnV 200, fnV 201, fnV 154, fnV 202, fnV 203, .int .i64 0, .int .i64 0, .int .i64 0]) :: [(G + 1 + 1 + 1 + 1, 30, #[.int .i64 0, .int .i64 0, .int .i64 0, .int .i64 0, .int .i64 0, .int .i64 0]), (G + 1 + 1 + 1, 23, #[.int .i64 e0, .int .i64 e1]), (G + 1 + 1, 23, #[.int .i64 a, .int .i64 b]), (G + 1, 30, #[.int .i64 fh, .int .i64 3, .int .i64 x0, .int .i64 x1, .int .i64 d0, .int .i64 d1]), (G, 28, #[.int .i64 id, .int .i64 al, .int .i64 ah, .slice A n c, .slice B mm d, .slice C l ee, .int .i64 t0, .int .i64 t1, .int .i64 u0, .int .i64 u1, .int .i64 v0, .int .i64 v1, .int .i64 h0, .int .i64 h1])] : List (Nat × TypeId × Array Value)) : List (Nat × TypeId × Array Value)), zz.1 ≠ N20 := fun x hx => (List.mem_cons.1 hx).elim (fun e => by rw [e]; have q := HD22.out _ (.head _); exact fun z => q z.symm) (fun h => HD20.out x h)
          have HK24 : Hid (Boxes (y23.setRow N20 #[.int .i64 r, .int .i64 s]) ((N20, 23, #[.int .i64 r, .int .i64 s]) :: (N22, 23, #[.int .i64 p, .int .i64 q]) :: ((M, 113, #[fnV 200, fnV 201, fnV 154, fnV 202, fnV 203, .int .i64 0, .int .i64 0, .int .i64 0]) :: [(G + 1 + 1 + 1 + 1, 30, #[.int .i64 0, .int .i64 0, .int .i64 0, .int .i64 0, .int .i64 0, .int .i64 0]), (G + 1 + 1 + 1, 23, #[.int .i64 e0, .int .i64 e1]), (G + 1 + 1, 23, #[.int .i64 a, .int .i64 b]), (G + 1, 30, #[.int .i64 fh, .int .i64 3, .int .i64 x0, .int .i64 x1, .int .i64 d0, .int .i64 d1]), (G, 28, #[.int .i64 id, .int .i64 al, .int .i64 ah, .slice A n c, .slice B mm d, .slice C l ee, .int .i64 t0, .int .i64 t1, .int .i64 u0, .int .i64 u1, .int .i64 v0, .int .i64 v1, .int .i64 h0, .int .i64 h1])] : List (Nat × TypeId × Array Value)))) := Lib.hid (Boxes.row HK23.out (.tail _ (.head _)) (fun p hp => ⟨(by rcases List.mem_cons.1 hp with rfl | hp; exact .head _; exact .tail _ (.tail _ hp)), ne24 p hp⟩) #[.int .i64 r, .int .i64 s])
          have HE24 := Lib.hid (below_setRow HE23.out (show w.heap.size ≤ N20 from HZ20.out) #[.int .i64 r, .int .i64 s])
          have hS := hHeld.farRow (g := N20) (fun p hp => ne24 p (.tail _ hp)) #[.int .i64 r, .int .i64 s]
          refine wp_store_row 23 (.tmp 14) (.tmp 50) rfl N20 #[.int .i64 r, .int .i64 s] rfl rfl 23 _ (HK23.out _ (.tail _ (.head _))) (by kernel_rfl) rfl (by kernel_rfl) ?_
          obtain ⟨y24, hW⟩ : ∃ W', y23.setRow N20 #[.int .i64 r, .int .i64 s] = W' := ⟨_, rfl⟩
          rw [hW] at HE24 HK24 hS ⊢
          refine hK.out _ _ hS (fun hHeld2 => ?_)
          try simp only [Act.put, List.setIfInBounds_toArray, List.set_cons_zero, List.set_cons_succ]
          clear hW hS hK K hHeld ne24 HE23 HK23
          have hHeld := hHeld2
          clear hHeld2
          refine wpAnyH_done (by kernel_rfl) ?_ _
          go_wp2_with fail
          go_meet
          exact ⟨N22, N20, rfl, rfl, HK24.out, HE24.out, HD22.out (_, _, _) (.tail _ (.tail _ (.head _))), HD20.out (_, _, _) (.tail _ (.head _))⟩
        · skip
          go_simp
          have HE25 := Lib.hid (below_then HE20.out (below_alloc1 y20 (.cells #[.int .i64 0, .int .i64 0] 23))); have HK25 := Lib.hid (HK20.out.new 23 #[.int .i64 0, .int .i64 0])
          have hS := hHeld.on (below_alloc1 y20 (.cells #[.int .i64 0, .int .i64 0] 23))
          have HD25 := Lib.hid (boxes_lt HK20.out)
          have HZ25 := Lib.hid HE20.out.size
          refine hK.out _ _ hS (fun hHeld2 => ?_)
          try simp only [Act.put, List.setIfInBounds_toArray, List.set_cons_zero, List.set_cons_succ]
          clear hS hK K hHeld HE20 HK20
          have hHeld := hHeld2
          clear hHeld2
          obtain ⟨y25, hW⟩ : ∃ W', y20.alloc (.cells #[.int .i64 0, .int .i64 0] 23) = W' := ⟨_, rfl⟩
          rw [hW] at HE25 HK25 hHeld ⊢
          clear hW
          obtain ⟨N25, hN⟩ : ∃ N, y20.heap.size = N := ⟨_, rfl⟩
          rw [hN] at HK25 HD25 HZ25 ⊢
          clear hN
          refine wpAnyH_ready (rs := [7]) (by kernel_rfl) (by simp) ?_
          refine AllReadyH.cons rfl (fun K hK => ?_) AllReadyH.nil
          go_simp
          (with_reducible refine (C5.out _).mono ?_)
          rintro e y26 ⟨rfl, hb⟩
          have HE26 := Lib.hid (below_then HE25.out hb); have HK26 := Lib.hid (HK25.out.on hb)
          have hS := hHeld.on hb
          clear hb
          refine hK.out _ _ hS (fun hHeld2 => ?_)
          try simp only [Act.put, List.setIfInBounds_toArray, List.set_cons_zero, List.set_cons_succ]
          clear hS hK K hHeld HE25 HK25
          have hHeld := hHeld2
          clear hHeld2
          refine wpAnyH_ready (rs := [10]) (by kernel_rfl) (by simp) ?_
          refine AllReadyH.cons rfl (fun K hK => ?_) AllReadyH.nil
          rw [if_pos (by kernel_rfl)]
          have ne27 : ∀ zz ∈ ((N20, 23, #[.int .i64 0, .int .i64 0]) :: ((M, 113, #[fnV 200, fnV 201, fnV 154, fnV 202, fnV 203, .int .i64 0, .int .i64 0, .int .i64 0]) :: [(G + 1 + 1 + 1 + 1, 30, #[.int .i64 0, .int .i64 0, .int .i64 0, .int .i64 0, .int .i64 0, .int .i64 0]), (G + 1 + 1 + 1, 23, #[.int .i64 e0, .int .i64 e1]), (G + 1 + 1, 23, #[.int .i64 a, .int .i64 b]), (G + 1, 30, #[.int .i64 fh, .int .i64 3, .int .i64 x0, .int .i64 x1, .int .i64 d0, .int .i64 d1]), (G, 28, #[.int .i64 id, .int .i64 al, .int .i64 ah, .slice A n c, .slice B mm d, .slice C l ee, .int .i64 t0, .int .i64 t1, .int .i64 u0, .int .i64 u1, .int .i64 v0, .int .i64 v1, .int .i64 h0, .int .i64 h1])] : List (Nat × TypeId × Array Value)) : List (Nat × TypeId × Array Value)), zz.1 ≠ N25 := fun x hx => (List.mem_cons.1 hx).elim (fun e => by rw [e]; have q := HD25.out _ (.head _); exact q) (fun h => HD25.out x (.tail _ h))
          have HK27 : Hid (Boxes (y26.setRow N25 #[.int .i64 p, .int .i64 q]) ((N25, 23, #[.int .i64 p, .int .i64 q]) :: (N20, 23, #[.int .i64 0, .int .i64 0]) :: ((M, 113, #[fnV 200, fnV 201, fnV 154, fnV 202, fnV 203, .int .i64 0, .int .i64 0, .int .i64 0]) :: [(G + 1 + 1 + 1 + 1, 30, #[.int .i64 0, .int .i64 0, .int .i64 0, .int .i64 0, .int .i64 0, .int .i64 0]), (G + 1 + 1 + 1, 23, #[.int .i64 e0, .int .i64 e1]), (G + 1 + 1, 23, #[.int .i64 a, .int .i64 b]), (G + 1, 30, #[.int .i64 fh, .int .i64 3, .int .i64 x0, .int .i64 x1, .int .i64 d0, .int .i64 d1]), (G, 28, #[.int .i64 id, .int .i64 al, .int .i64 ah, .slice A n c, .slice B mm d, .slice C l ee, .int .i64 t0, .int .i64 t1, .int .i64 u0, .int .i64 u1, .int .i64 v0, .int .i64 v1, .int .i64 h0, .int .i64 h1])] : List (Nat × TypeId × Array Value)))) := Lib.hid (Boxes.row HK26.out (.head _) (fun p hp => ⟨.tail _ hp, ne27 p hp⟩) #[.int .i64 p, .int .i64 q])
          have HE27 := Lib.hid (below_setRow HE26.out (show w.heap.size ≤ N25 from HZ25.out) #[.int .i64 p, .int .i64 q])
          have hS := hHeld.farRow (g := N25) (fun p hp => ne27 p (.tail _ hp)) #[.int .i64 p, .int .i64 q]
          refine wp_store_row 23 (.tmp 13) (.tmp 47) rfl N25 #[.int .i64 p, .int .i64 q] rfl rfl 23 _ (HK26.out _ (.head _)) (by kernel_rfl) rfl (by kernel_rfl) ?_
          obtain ⟨y27, hW⟩ : ∃ W', y26.setRow N25 #[.int .i64 p, .int .i64 q] = W' := ⟨_, rfl⟩
          rw [hW] at HE27 HK27 hS ⊢
          refine hK.out _ _ hS (fun hHeld2 => ?_)
          try simp only [Act.put, List.setIfInBounds_toArray, List.set_cons_zero, List.set_cons_succ]
          clear hW hS hK K hHeld ne27 HE26 HK26
          have hHeld := hHeld2
          clear hHeld2
          refine wpAnyH_ready (rs := [11]) (by kernel_rfl) (by simp) ?_
          refine AllReadyH.cons rfl (fun K hK => ?_) AllReadyH.nil
          rw [if_pos (by kernel_rfl)]
          have ne28 : ∀ zz ∈ ((N25, 23, #[.int .i64 p, .int .i64 q]) :: ((M, 113, #[fnV 200, fnV 201, fnV 154, fnV 202, fnV 203, .int .i64 0, .int .i64 0, .int .i64 0]) :: [(G + 1 + 1 + 1 + 1, 30, #[.int .i64 0, .int .i64 0, .int .i64 0, .int .i64 0, .int .i64 0, .int .i64 0]), (G + 1 + 1 + 1, 23, #[.int .i64 e0, .int .i64 e1]), (G + 1 + 1, 23, #[.int .i64 a, .int .i64 b]), (G + 1, 30, #[.int .i64 fh, .int .i64 3, .int .i64 x0, .int .i64 x1, .int .i64 d0, .int .i64 d1]), (G, 28, #[.int .i64 id, .int .i64 al, .int .i64 ah, .slice A n c, .slice B mm d, .slice C l ee, .int .i64 t0, .int .i64 t1, .int .i64 u0, .int .i64 u1, .int .i64 v0, .int .i64 v1, .int .i64 h0, .int .i64 h1])] : List (Nat × TypeId × Array Value)) : List (Nat × TypeId × Array Value)), zz.1 ≠ N20 := fun x hx => (List.mem_cons.1 hx).elim (fun e => by rw [e]; have q := HD25.out _ (.head _); exact fun z => q z.symm) (fun h => HD20.out x h)
          have HK28 : Hid (Boxes (y27.setRow N20 #[.int .i64 r, .int .i64 s]) ((N20, 23, #[.int .i64 r, .int .i64 s]) :: (N25, 23, #[.int .i64 p, .int .i64 q]) :: ((M, 113, #[fnV 200, fnV 201, fnV 154, fnV 202, fnV 203, .int .i64 0, .int .i64 0, .int .i64 0]) :: [(G + 1 + 1 + 1 + 1, 30, #[.int .i64 0, .int .i64 0, .int .i64 0, .int .i64 0, .int .i64 0, .int .i64 0]), (G + 1 + 1 + 1, 23, #[.int .i64 e0, .int .i64 e1]), (G + 1 + 1, 23, #[.int .i64 a, .int .i64 b]), (G + 1, 30, #[.int .i64 fh, .int .i64 3, .int .i64 x0, .int .i64 x1, .int .i64 d0, .int .i64 d1]), (G, 28, #[.int .i64 id, .int .i64 al, .int .i64 ah, .slice A n c, .slice B mm d, .slice C l ee, .int .i64 t0, .int .i64 t1, .int .i64 u0, .int .i64 u1, .int .i64 v0, .int .i64 v1, .int .i64 h0, .int .i64 h1])] : List (Nat × TypeId × Array Value)))) := Lib.hid (Boxes.row HK27.out (.tail _ (.head _)) (fun p hp => ⟨(by rcases List.mem_cons.1 hp with rfl | hp; exact .head _; exact .tail _ (.tail _ hp)), ne28 p hp⟩) #[.int .i64 r, .int .i64 s])
          have HE28 := Lib.hid (below_setRow HE27.out (show w.heap.size ≤ N20 from HZ20.out) #[.int .i64 r, .int .i64 s])
          have hS := hHeld.farRow (g := N20) (fun p hp => ne28 p (.tail _ hp)) #[.int .i64 r, .int .i64 s]
          refine wp_store_row 23 (.tmp 14) (.tmp 50) rfl N20 #[.int .i64 r, .int .i64 s] rfl rfl 23 _ (HK27.out _ (.tail _ (.head _))) (by kernel_rfl) rfl (by kernel_rfl) ?_
          obtain ⟨y28, hW⟩ : ∃ W', y27.setRow N20 #[.int .i64 r, .int .i64 s] = W' := ⟨_, rfl⟩
          rw [hW] at HE28 HK28 hS ⊢
          refine hK.out _ _ hS (fun hHeld2 => ?_)
          try simp only [Act.put, List.setIfInBounds_toArray, List.set_cons_zero, List.set_cons_succ]
          clear hW hS hK K hHeld ne28 HE27 HK27
          have hHeld := hHeld2
          clear hHeld2
          refine wpAnyH_done (by kernel_rfl) ?_ _
          go_wp2_with fail
          go_meet
          exact ⟨N25, N20, rfl, rfl, HK28.out, HE28.out, HD25.out (_, _, _) (.tail _ (.tail _ (.head _))), HD20.out (_, _, _) (.tail _ (.head _))⟩
    · skip
      go_simp
      have HE29 := Lib.hid (below_then HEd.out (below_alloc1 W4 (.cells #[.int .i64 0, .int .i64 0] 23))); have HK29 := Lib.hid (HKd.out.new 23 #[.int .i64 0, .int .i64 0])
      have hS := hHeld.on (below_alloc1 W4 (.cells #[.int .i64 0, .int .i64 0] 23))
      have HD29 := Lib.hid (boxes_lt HKd.out)
      have HZ29 := Lib.hid HEd.out.size
      refine hK.out _ _ hS (fun hHeld2 => ?_)
      try simp only [Act.put, List.setIfInBounds_toArray, List.set_cons_zero, List.set_cons_succ]
      clear hS hK K hHeld HEd HKd
      have hHeld := hHeld2
      clear hHeld2
      obtain ⟨y29, hW⟩ : ∃ W', W4.alloc (.cells #[.int .i64 0, .int .i64 0] 23) = W' := ⟨_, rfl⟩
      rw [hW] at HE29 HK29 hHeld ⊢
      clear hW
      obtain ⟨N29, hN⟩ : ∃ N, W4.heap.size = N := ⟨_, rfl⟩
      rw [hN] at HK29 HD29 HZ29 ⊢
      clear hN
      refine wpAnyH_ready (rs := [4, 9]) (by kernel_rfl) (by simp) ?_
      refine AllReadyH.cons rfl (fun K hK => ?_) (AllReadyH.cons rfl (fun K hK => ?_) AllReadyH.nil)
      · skip
        go_simp
        (with_reducible refine (C4.out _ HE29.out).mono ?_)
        rintro e y30 ⟨rfl, hb⟩
        have HE30 := Lib.hid (below_then HE29.out hb); have HK30 := Lib.hid (HK29.out.on hb)
        have hS := hHeld.on hb
        clear hb
        refine hK.out _ _ hS (fun hHeld2 => ?_)
        try simp only [Act.put, List.setIfInBounds_toArray, List.set_cons_zero, List.set_cons_succ]
        clear hS hK K hHeld HE29 HK29
        have hHeld := hHeld2
        clear hHeld2
        refine wpAnyH_ready (rs := [7, 9]) (by kernel_rfl) (by simp) ?_
        refine AllReadyH.cons rfl (fun K hK => ?_) (AllReadyH.cons rfl (fun K hK => ?_) AllReadyH.nil)
        · skip
          go_simp
          (with_reducible refine (C5.out _).mono ?_)
          rintro e y31 ⟨rfl, hb⟩
          have HE31 := Lib.hid (below_then HE30.out hb); have HK31 := Lib.hid (HK30.out.on hb)
          have hS := hHeld.on hb
          clear hb
          refine hK.out _ _ hS (fun hHeld2 => ?_)
          try simp only [Act.put, List.setIfInBounds_toArray, List.set_cons_zero, List.set_cons_succ]
          clear hS hK K hHeld HE30 HK30
          have hHeld := hHeld2
          clear hHeld2
          refine wpAnyH_ready (rs := [9]) (by kernel_rfl) (by simp) ?_
          refine AllReadyH.cons rfl (fun K hK => ?_) AllReadyH.nil
          go_simp
          have HE32 := Lib.hid (below_then HE31.out (below_alloc1 y31 (.cells #[.int .i64 0, .int .i64 0] 23))); have HK32 := Lib.hid (HK31.out.new 23 #[.int .i64 0, .int .i64 0])
          have hS := hHeld.on (below_alloc1 y31 (.cells #[.int .i64 0, .int .i64 0] 23))
          have HD32 := Lib.hid (boxes_lt HK31.out)
          have HZ32 := Lib.hid HE31.out.size
          refine hK.out _ _ hS (fun hHeld2 => ?_)
          try simp only [Act.put, List.setIfInBounds_toArray, List.set_cons_zero, List.set_cons_succ]
          clear hS hK K hHeld HE31 HK31
          have hHeld := hHeld2
          clear hHeld2
          obtain ⟨y32, hW⟩ : ∃ W', y31.alloc (.cells #[.int .i64 0, .int .i64 0] 23) = W' := ⟨_, rfl⟩
          rw [hW] at HE32 HK32 hHeld ⊢
          clear hW
          obtain ⟨N32, hN⟩ : ∃ N, y31.heap.size = N := ⟨_, rfl⟩
          rw [hN] at HK32 HD32 HZ32 ⊢
          clear hN
          refine wpAnyH_ready (rs := [10]) (by kernel_rfl) (by simp) ?_
          refine AllReadyH.cons rfl (fun K hK => ?_) AllReadyH.nil
          rw [if_pos (by kernel_rfl)]
          have ne33 : ∀ zz ∈ ((N32, 23, #[.int .i64 0, .int .i64 0]) :: ((M, 113, #[fnV 200, fnV 201, fnV 154, fnV 202, fnV 203, .int .i64 0, .int .i64 0, .int .i64 0]) :: [(G + 1 + 1 + 1 + 1, 30, #[.int .i64 0, .int .i64 0, .int .i64 0, .int .i64 0, .int .i64 0, .int .i64 0]), (G + 1 + 1 + 1, 23, #[.int .i64 e0, .int .i64 e1]), (G + 1 + 1, 23, #[.int .i64 a, .int .i64 b]), (G + 1, 30, #[.int .i64 fh, .int .i64 3, .int .i64 x0, .int .i64 x1, .int .i64 d0, .int .i64 d1]), (G, 28, #[.int .i64 id, .int .i64 al, .int .i64 ah, .slice A n c, .slice B mm d, .slice C l ee, .int .i64 t0, .int .i64 t1, .int .i64 u0, .int .i64 u1, .int .i64 v0, .int .i64 v1, .int .i64 h0, .int .i64 h1])] : List (Nat × TypeId × Array Value)) : List (Nat × TypeId × Array Value)), zz.1 ≠ N29 := fun x hx => (List.mem_cons.1 hx).elim (fun e => by rw [e]; have q := HD32.out _ (.head _); exact fun z => q z.symm) (fun h => HD29.out x h)
          have HK33 : Hid (Boxes (y32.setRow N29 #[.int .i64 p, .int .i64 q]) ((N29, 23, #[.int .i64 p, .int .i64 q]) :: (N32, 23, #[.int .i64 0, .int .i64 0]) :: ((M, 113, #[fnV 200, fnV 201, fnV 154, fnV 202, fnV 203, .int .i64 0, .int .i64 0, .int .i64 0]) :: [(G + 1 + 1 + 1 + 1, 30, #[.int .i64 0, .int .i64 0, .int .i64 0, .int .i64 0, .int .i64 0, .int .i64 0]), (G + 1 + 1 + 1, 23, #[.int .i64 e0, .int .i64 e1]), (G + 1 + 1, 23, #[.int .i64 a, .int .i64 b]), (G + 1, 30, #[.int .i64 fh, .int .i64 3, .int .i64 x0, .int .i64 x1, .int .i64 d0, .int .i64 d1]), (G, 28, #[.int .i64 id, .int .i64 al, .int .i64 ah, .slice A n c, .slice B mm d, .slice C l ee, .int .i64 t0, .int .i64 t1, .int .i64 u0, .int .i64 u1, .int .i64 v0, .int .i64 v1, .int .i64 h0, .int .i64 h1])] : List (Nat × TypeId × Array Value)))) := Lib.hid (Boxes.row HK32.out (.tail _ (.head _)) (fun p hp => ⟨(by rcases List.mem_cons.1 hp with rfl | hp; exact .head _; exact .tail _ (.tail _ hp)), ne33 p hp⟩) #[.int .i64 p, .int .i64 q])
          have HE33 := Lib.hid (below_setRow HE32.out (show w.heap.size ≤ N29 from HZ29.out) #[.int .i64 p, .int .i64 q])
          have hS := hHeld.farRow (g := N29) (fun p hp => ne33 p (.tail _ hp)) #[.int .i64 p, .int .i64 q]
          refine wp_store_row 23 (.tmp 13) (.tmp 47) rfl N29 #[.int .i64 p, .int .i64 q] rfl rfl 23 _ (HK32.out _ (.tail _ (.head _))) (by kernel_rfl) rfl (by kernel_rfl) ?_
          obtain ⟨y33, hW⟩ : ∃ W', y32.setRow N29 #[.int .i64 p, .int .i64 q] = W' := ⟨_, rfl⟩
          rw [hW] at HE33 HK33 hS ⊢
          refine hK.out _ _ hS (fun hHeld2 => ?_)
          try simp only [Act.put, List.setIfInBounds_toArray, List.set_cons_zero, List.set_cons_succ]
          clear hW hS hK K hHeld ne33 HE32 HK32
          have hHeld := hHeld2
          clear hHeld2
          refine wpAnyH_ready (rs := [11]) (by kernel_rfl) (by simp) ?_
          refine AllReadyH.cons rfl (fun K hK => ?_) AllReadyH.nil
          rw [if_pos (by kernel_rfl)]
          have ne34 : ∀ zz ∈ ((N29, 23, #[.int .i64 p, .int .i64 q]) :: ((M, 113, #[fnV 200, fnV 201, fnV 154, fnV 202, fnV 203, .int .i64 0, .int .i64 0, .int .i64 0]) :: [(G + 1 + 1 + 1 + 1, 30, #[.int .i64 0, .int .i64 0, .int .i64 0, .int .i64 0, .int .i64 0, .int .i64 0]), (G + 1 + 1 + 1, 23, #[.int .i64 e0, .int .i64 e1]), (G + 1 + 1, 23, #[.int .i64 a, .int .i64 b]), (G + 1, 30, #[.int .i64 fh, .int .i64 3, .int .i64 x0, .int .i64 x1, .int .i64 d0, .int .i64 d1]), (G, 28, #[.int .i64 id, .int .i64 al, .int .i64 ah, .slice A n c, .slice B mm d, .slice C l ee, .int .i64 t0, .int .i64 t1, .int .i64 u0, .int .i64 u1, .int .i64 v0, .int .i64 v1, .int .i64 h0, .int .i64 h1])] : List (Nat × TypeId × Array Value)) : List (Nat × TypeId × Array Value)), zz.1 ≠ N32 := fun x hx => (List.mem_cons.1 hx).elim (fun e => by rw [e]; have q := HD32.out _ (.head _); exact q) (fun h => HD32.out x (.tail _ h))
          have HK34 : Hid (Boxes (y33.setRow N32 #[.int .i64 r, .int .i64 s]) ((N32, 23, #[.int .i64 r, .int .i64 s]) :: (N29, 23, #[.int .i64 p, .int .i64 q]) :: ((M, 113, #[fnV 200, fnV 201, fnV 154, fnV 202, fnV 203, .int .i64 0, .int .i64 0, .int .i64 0]) :: [(G + 1 + 1 + 1 + 1, 30, #[.int .i64 0, .int .i64 0, .int .i64 0, .int .i64 0, .int .i64 0, .int .i64 0]), (G + 1 + 1 + 1, 23, #[.int .i64 e0, .int .i64 e1]), (G + 1 + 1, 23, #[.int .i64 a, .int .i64 b]), (G + 1, 30, #[.int .i64 fh, .int .i64 3, .int .i64 x0, .int .i64 x1, .int .i64 d0, .int .i64 d1]), (G, 28, #[.int .i64 id, .int .i64 al, .int .i64 ah, .slice A n c, .slice B mm d, .slice C l ee, .int .i64 t0, .int .i64 t1, .int .i64 u0, .int .i64 u1, .int .i64 v0, .int .i64 v1, .int .i64 h0, .int .i64 h1])] : List (Nat × TypeId × Array Value)))) := Lib.hid (Boxes.row HK33.out (.tail _ (.head _)) (fun p hp => ⟨(by rcases List.mem_cons.1 hp with rfl | hp; exact .head _; exact .tail _ (.tail _ hp)), ne34 p hp⟩) #[.int .i64 r, .int .i64 s])
          have HE34 := Lib.hid (below_setRow HE33.out (show w.heap.size ≤ N32 from HZ32.out) #[.int .i64 r, .int .i64 s])
          have hS := hHeld.farRow (g := N32) (fun p hp => ne34 p (.tail _ hp)) #[.int .i64 r, .int .i64 s]
          refine wp_store_row 23 (.tmp 14) (.tmp 50) rfl N32 #[.int .i64 r, .int .i64 s] rfl rfl 23 _ (HK33.out _ (.tail _ (.head _))) (by kernel_rfl) rfl (by kernel_rfl) ?_
          obtain ⟨y34, hW⟩ : ∃ W', y33.setRow N32 #[.int .i64 r, .int .i64 s] = W' := ⟨_, rfl⟩
          rw [hW] at HE34 HK34 hS ⊢
          refine hK.out _ _ hS (fun hHeld2 => ?_)
          try simp only [Act.put, List.setIfInBounds_toArray, List.set_cons_zero, List.set_cons_succ]
          clear hW hS hK K hHeld ne34 HE33 HK33
          have hHeld := hHeld2
          clear hHeld2
          refine wpAnyH_done (by kernel_rfl) ?_ _
          go_wp2_with fail
          go_meet
          exact ⟨N29, N32, rfl, rfl, HK34.out, HE34.out, HD29.out (_, _, _) (.tail _ (.head _)), HD32.out (_, _, _) (.tail _ (.tail _ (.head _)))⟩
        · skip
          go_simp
          have HE35 := Lib.hid (below_then HE30.out (below_alloc1 y30 (.cells #[.int .i64 0, .int .i64 0] 23))); have HK35 := Lib.hid (HK30.out.new 23 #[.int .i64 0, .int .i64 0])
          have hS := hHeld.on (below_alloc1 y30 (.cells #[.int .i64 0, .int .i64 0] 23))
          have HD35 := Lib.hid (boxes_lt HK30.out)
          have HZ35 := Lib.hid HE30.out.size
          refine hK.out _ _ hS (fun hHeld2 => ?_)
          try simp only [Act.put, List.setIfInBounds_toArray, List.set_cons_zero, List.set_cons_succ]
          clear hS hK K hHeld HE30 HK30
          have hHeld := hHeld2
          clear hHeld2
          obtain ⟨y35, hW⟩ : ∃ W', y30.alloc (.cells #[.int .i64 0, .int .i64 0] 23) = W' := ⟨_, rfl⟩
          rw [hW] at HE35 HK35 hHeld ⊢
          clear hW
          obtain ⟨N35, hN⟩ : ∃ N, y30.heap.size = N := ⟨_, rfl⟩
          rw [hN] at HK35 HD35 HZ35 ⊢
          clear hN
          refine wpAnyH_ready (rs := [7]) (by kernel_rfl) (by simp) ?_
          refine AllReadyH.cons rfl (fun K hK => ?_) AllReadyH.nil
          go_simp
          (with_reducible refine (C5.out _).mono ?_)
          rintro e y36 ⟨rfl, hb⟩
          have HE36 := Lib.hid (below_then HE35.out hb); have HK36 := Lib.hid (HK35.out.on hb)
          have hS := hHeld.on hb
          clear hb
          refine hK.out _ _ hS (fun hHeld2 => ?_)
          try simp only [Act.put, List.setIfInBounds_toArray, List.set_cons_zero, List.set_cons_succ]
          clear hS hK K hHeld HE35 HK35
          have hHeld := hHeld2
          clear hHeld2
          refine wpAnyH_ready (rs := [10]) (by kernel_rfl) (by simp) ?_
          refine AllReadyH.cons rfl (fun K hK => ?_) AllReadyH.nil
          rw [if_pos (by kernel_rfl)]
          have ne37 : ∀ zz ∈ ((N35, 23, #[.int .i64 0, .int .i64 0]) :: ((M, 113, #[fnV 200, fnV 201, fnV 154, fnV 202, fnV 203, .int .i64 0, .int .i64 0, .int .i64 0]) :: [(G + 1 + 1 + 1 + 1, 30, #[.int .i64 0, .int .i64 0, .int .i64 0, .int .i64 0, .int .i64 0, .int .i64 0]), (G + 1 + 1 + 1, 23, #[.int .i64 e0, .int .i64 e1]), (G + 1 + 1, 23, #[.int .i64 a, .int .i64 b]), (G + 1, 30, #[.int .i64 fh, .int .i64 3, .int .i64 x0, .int .i64 x1, .int .i64 d0, .int .i64 d1]), (G, 28, #[.int .i64 id, .int .i64 al, .int .i64 ah, .slice A n c, .slice B mm d, .slice C l ee, .int .i64 t0, .int .i64 t1, .int .i64 u0, .int .i64 u1, .int .i64 v0, .int .i64 v1, .int .i64 h0, .int .i64 h1])] : List (Nat × TypeId × Array Value)) : List (Nat × TypeId × Array Value)), zz.1 ≠ N29 := fun x hx => (List.mem_cons.1 hx).elim (fun e => by rw [e]; have q := HD35.out _ (.head _); exact fun z => q z.symm) (fun h => HD29.out x h)
          have HK37 : Hid (Boxes (y36.setRow N29 #[.int .i64 p, .int .i64 q]) ((N29, 23, #[.int .i64 p, .int .i64 q]) :: (N35, 23, #[.int .i64 0, .int .i64 0]) :: ((M, 113, #[fnV 200, fnV 201, fnV 154, fnV 202, fnV 203, .int .i64 0, .int .i64 0, .int .i64 0]) :: [(G + 1 + 1 + 1 + 1, 30, #[.int .i64 0, .int .i64 0, .int .i64 0, .int .i64 0, .int .i64 0, .int .i64 0]), (G + 1 + 1 + 1, 23, #[.int .i64 e0, .int .i64 e1]), (G + 1 + 1, 23, #[.int .i64 a, .int .i64 b]), (G + 1, 30, #[.int .i64 fh, .int .i64 3, .int .i64 x0, .int .i64 x1, .int .i64 d0, .int .i64 d1]), (G, 28, #[.int .i64 id, .int .i64 al, .int .i64 ah, .slice A n c, .slice B mm d, .slice C l ee, .int .i64 t0, .int .i64 t1, .int .i64 u0, .int .i64 u1, .int .i64 v0, .int .i64 v1, .int .i64 h0, .int .i64 h1])] : List (Nat × TypeId × Array Value)))) := Lib.hid (Boxes.row HK36.out (.tail _ (.head _)) (fun p hp => ⟨(by rcases List.mem_cons.1 hp with rfl | hp; exact .head _; exact .tail _ (.tail _ hp)), ne37 p hp⟩) #[.int .i64 p, .int .i64 q])
          have HE37 := Lib.hid (below_setRow HE36.out (show w.heap.size ≤ N29 from HZ29.out) #[.int .i64 p, .int .i64 q])
          have hS := hHeld.farRow (g := N29) (fun p hp => ne37 p (.tail _ hp)) #[.int .i64 p, .int .i64 q]
          refine wp_store_row 23 (.tmp 13) (.tmp 47) rfl N29 #[.int .i64 p, .int .i64 q] rfl rfl 23 _ (HK36.out _ (.tail _ (.head _))) (by kernel_rfl) rfl (by kernel_rfl) ?_
          obtain ⟨y37, hW⟩ : ∃ W', y36.setRow N29 #[.int .i64 p, .int .i64 q] = W' := ⟨_, rfl⟩
          rw [hW] at HE37 HK37 hS ⊢
          refine hK.out _ _ hS (fun hHeld2 => ?_)
          try simp only [Act.put, List.setIfInBounds_toArray, List.set_cons_zero, List.set_cons_succ]
          clear hW hS hK K hHeld ne37 HE36 HK36
          have hHeld := hHeld2
          clear hHeld2
          refine wpAnyH_ready (rs := [11]) (by kernel_rfl) (by simp) ?_
          refine AllReadyH.cons rfl (fun K hK => ?_) AllReadyH.nil
          rw [if_pos (by kernel_rfl)]
          have ne38 : ∀ zz ∈ ((N29, 23, #[.int .i64 p, .int .i64 q]) :: ((M, 113, #[fnV 200, fnV 201, fnV 154, fnV 202, fnV 203, .int .i64 0, .int .i64 0, .int .i64 0]) :: [(G + 1 + 1 + 1 + 1, 30, #[.int .i64 0, .int .i64 0, .int .i64 0, .int .i64 0, .int .i64 0, .int .i64 0]), (G + 1 + 1 + 1, 23, #[.int .i64 e0, .int .i64 e1]), (G + 1 + 1, 23, #[.int .i64 a, .int .i64 b]), (G + 1, 30, #[.int .i64 fh, .int .i64 3, .int .i64 x0, .int .i64 x1, .int .i64 d0, .int .i64 d1]), (G, 28, #[.int .i64 id, .int .i64 al, .int .i64 ah, .slice A n c, .slice B mm d, .slice C l ee, .int .i64 t0, .int .i64 t1, .int .i64 u0, .int .i64 u1, .int .i64 v0, .int .i64 v1, .int .i64 h0, .int .i64 h1])] : List (Nat × TypeId × Array Value)) : List (Nat × TypeId × Array Value)), zz.1 ≠ N35 := fun x hx => (List.mem_cons.1 hx).elim (fun e => by rw [e]; have q := HD35.out _ (.head _); exact q) (fun h => HD35.out x (.tail _ h))
          have HK38 : Hid (Boxes (y37.setRow N35 #[.int .i64 r, .int .i64 s]) ((N35, 23, #[.int .i64 r, .int .i64 s]) :: (N29, 23, #[.int .i64 p, .int .i64 q]) :: ((M, 113, #[fnV 200, fnV 201, fnV 154, fnV 202, fnV 203, .int .i64 0, .int .i64 0, .int .i64 0]) :: [(G + 1 + 1 + 1 + 1, 30, #[.int .i64 0, .int .i64 0, .int .i64 0, .int .i64 0, .int .i64 0, .int .i64 0]), (G + 1 + 1 + 1, 23, #[.int .i64 e0, .int .i64 e1]), (G + 1 + 1, 23, #[.int .i64 a, .int .i64 b]), (G + 1, 30, #[.int .i64 fh, .int .i64 3, .int .i64 x0, .int .i64 x1, .int .i64 d0, .int .i64 d1]), (G, 28, #[.int .i64 id, .int .i64 al, .int .i64 ah, .slice A n c, .slice B mm d, .slice C l ee, .int .i64 t0, .int .i64 t1, .int .i64 u0, .int .i64 u1, .int .i64 v0, .int .i64 v1, .int .i64 h0, .int .i64 h1])] : List (Nat × TypeId × Array Value)))) := Lib.hid (Boxes.row HK37.out (.tail _ (.head _)) (fun p hp => ⟨(by rcases List.mem_cons.1 hp with rfl | hp; exact .head _; exact .tail _ (.tail _ hp)), ne38 p hp⟩) #[.int .i64 r, .int .i64 s])
          have HE38 := Lib.hid (below_setRow HE37.out (show w.heap.size ≤ N35 from HZ35.out) #[.int .i64 r, .int .i64 s])
          have hS := hHeld.farRow (g := N35) (fun p hp => ne38 p (.tail _ hp)) #[.int .i64 r, .int .i64 s]
          refine wp_store_row 23 (.tmp 14) (.tmp 50) rfl N35 #[.int .i64 r, .int .i64 s] rfl rfl 23 _ (HK37.out _ (.tail _ (.head _))) (by kernel_rfl) rfl (by kernel_rfl) ?_
          obtain ⟨y38, hW⟩ : ∃ W', y37.setRow N35 #[.int .i64 r, .int .i64 s] = W' := ⟨_, rfl⟩
          rw [hW] at HE38 HK38 hS ⊢
          refine hK.out _ _ hS (fun hHeld2 => ?_)
          try simp only [Act.put, List.setIfInBounds_toArray, List.set_cons_zero, List.set_cons_succ]
          clear hW hS hK K hHeld ne38 HE37 HK37
          have hHeld := hHeld2
          clear hHeld2
          refine wpAnyH_done (by kernel_rfl) ?_ _
          go_wp2_with fail
          go_meet
          exact ⟨N29, N35, rfl, rfl, HK38.out, HE38.out, HD29.out (_, _, _) (.tail _ (.head _)), HD35.out (_, _, _) (.tail _ (.tail _ (.head _)))⟩
      · skip
        go_simp
        have HE39 := Lib.hid (below_then HE29.out (below_alloc1 y29 (.cells #[.int .i64 0, .int .i64 0] 23))); have HK39 := Lib.hid (HK29.out.new 23 #[.int .i64 0, .int .i64 0])
        have hS := hHeld.on (below_alloc1 y29 (.cells #[.int .i64 0, .int .i64 0] 23))
        have HD39 := Lib.hid (boxes_lt HK29.out)
        have HZ39 := Lib.hid HE29.out.size
        refine hK.out _ _ hS (fun hHeld2 => ?_)
        try simp only [Act.put, List.setIfInBounds_toArray, List.set_cons_zero, List.set_cons_succ]
        clear hS hK K hHeld HE29 HK29
        have hHeld := hHeld2
        clear hHeld2
        obtain ⟨y39, hW⟩ : ∃ W', y29.alloc (.cells #[.int .i64 0, .int .i64 0] 23) = W' := ⟨_, rfl⟩
        rw [hW] at HE39 HK39 hHeld ⊢
        clear hW
        obtain ⟨N39, hN⟩ : ∃ N, y29.heap.size = N := ⟨_, rfl⟩
        rw [hN] at HK39 HD39 HZ39 ⊢
        clear hN
        refine wpAnyH_ready (rs := [4]) (by kernel_rfl) (by simp) ?_
        refine AllReadyH.cons rfl (fun K hK => ?_) AllReadyH.nil
        go_simp
        (with_reducible refine (C4.out _ HE39.out).mono ?_)
        rintro e y40 ⟨rfl, hb⟩
        have HE40 := Lib.hid (below_then HE39.out hb); have HK40 := Lib.hid (HK39.out.on hb)
        have hS := hHeld.on hb
        clear hb
        refine hK.out _ _ hS (fun hHeld2 => ?_)
        try simp only [Act.put, List.setIfInBounds_toArray, List.set_cons_zero, List.set_cons_succ]
        clear hS hK K hHeld HE39 HK39
        have hHeld := hHeld2
        clear hHeld2
        refine wpAnyH_ready (rs := [7]) (by kernel_rfl) (by simp) ?_
        refine AllReadyH.cons rfl (fun K hK => ?_) AllReadyH.nil
        go_simp
        (with_reducible refine (C5.out _).mono ?_)
        rintro e y41 ⟨rfl, hb⟩
        have HE41 := Lib.hid (below_then HE40.out hb); have HK41 := Lib.hid (HK40.out.on hb)
        have hS := hHeld.on hb
        clear hb
        refine hK.out _ _ hS (fun hHeld2 => ?_)
        try simp only [Act.put, List.setIfInBounds_toArray, List.set_cons_zero, List.set_cons_succ]
        clear hS hK K hHeld HE40 HK40
        have hHeld := hHeld2
        clear hHeld2
        refine wpAnyH_ready (rs := [10]) (by kernel_rfl) (by simp) ?_
        refine AllReadyH.cons rfl (fun K hK => ?_) AllReadyH.nil
        rw [if_pos (by kernel_rfl)]
        have ne42 : ∀ zz ∈ ((N39, 23, #[.int .i64 0, .int .i64 0]) :: ((M, 113, #[fnV 200, fnV 201, fnV 154, fnV 202, fnV 203, .int .i64 0, .int .i64 0, .int .i64 0]) :: [(G + 1 + 1 + 1 + 1, 30, #[.int .i64 0, .int .i64 0, .int .i64 0, .int .i64 0, .int .i64 0, .int .i64 0]), (G + 1 + 1 + 1, 23, #[.int .i64 e0, .int .i64 e1]), (G + 1 + 1, 23, #[.int .i64 a, .int .i64 b]), (G + 1, 30, #[.int .i64 fh, .int .i64 3, .int .i64 x0, .int .i64 x1, .int .i64 d0, .int .i64 d1]), (G, 28, #[.int .i64 id, .int .i64 al, .int .i64 ah, .slice A n c, .slice B mm d, .slice C l ee, .int .i64 t0, .int .i64 t1, .int .i64 u0, .int .i64 u1, .int .i64 v0, .int .i64 v1, .int .i64 h0, .int .i64 h1])] : List (Nat × TypeId × Array Value)) : List (Nat × TypeId × Array Value)), zz.1 ≠ N29 := fun x hx => (List.mem_cons.1 hx).elim (fun e => by rw [e]; have q := HD39.out _ (.head _); exact fun z => q z.symm) (fun h => HD29.out x h)
        have HK42 : Hid (Boxes (y41.setRow N29 #[.int .i64 p, .int .i64 q]) ((N29, 23, #[.int .i64 p, .int .i64 q]) :: (N39, 23, #[.int .i64 0, .int .i64 0]) :: ((M, 113, #[fnV 200, fnV 201, fnV 154, fnV 202, fnV 203, .int .i64 0, .int .i64 0, .int .i64 0]) :: [(G + 1 + 1 + 1 + 1, 30, #[.int .i64 0, .int .i64 0, .int .i64 0, .int .i64 0, .int .i64 0, .int .i64 0]), (G + 1 + 1 + 1, 23, #[.int .i64 e0, .int .i64 e1]), (G + 1 + 1, 23, #[.int .i64 a, .int .i64 b]), (G + 1, 30, #[.int .i64 fh, .int .i64 3, .int .i64 x0, .int .i64 x1, .int .i64 d0, .int .i64 d1]), (G, 28, #[.int .i64 id, .int .i64 al, .int .i64 ah, .slice A n c, .slice B mm d, .slice C l ee, .int .i64 t0, .int .i64 t1, .int .i64 u0, .int .i64 u1, .int .i64 v0, .int .i64 v1, .int .i64 h0, .int .i64 h1])] : List (Nat × TypeId × Array Value)))) := Lib.hid (Boxes.row HK41.out (.tail _ (.head _)) (fun p hp => ⟨(by rcases List.mem_cons.1 hp with rfl | hp; exact .head _; exact .tail _ (.tail _ hp)), ne42 p hp⟩) #[.int .i64 p, .int .i64 q])
        have HE42 := Lib.hid (below_setRow HE41.out (show w.heap.size ≤ N29 from HZ29.out) #[.int .i64 p, .int .i64 q])
        have hS := hHeld.farRow (g := N29) (fun p hp => ne42 p (.tail _ hp)) #[.int .i64 p, .int .i64 q]
        refine wp_store_row 23 (.tmp 13) (.tmp 47) rfl N29 #[.int .i64 p, .int .i64 q] rfl rfl 23 _ (HK41.out _ (.tail _ (.head _))) (by kernel_rfl) rfl (by kernel_rfl) ?_
        obtain ⟨y42, hW⟩ : ∃ W', y41.setRow N29 #[.int .i64 p, .int .i64 q] = W' := ⟨_, rfl⟩
        rw [hW] at HE42 HK42 hS ⊢
        refine hK.out _ _ hS (fun hHeld2 => ?_)
        try simp only [Act.put, List.setIfInBounds_toArray, List.set_cons_zero, List.set_cons_succ]
        clear hW hS hK K hHeld ne42 HE41 HK41
        have hHeld := hHeld2
        clear hHeld2
        refine wpAnyH_ready (rs := [11]) (by kernel_rfl) (by simp) ?_
        refine AllReadyH.cons rfl (fun K hK => ?_) AllReadyH.nil
        rw [if_pos (by kernel_rfl)]
        have ne43 : ∀ zz ∈ ((N29, 23, #[.int .i64 p, .int .i64 q]) :: ((M, 113, #[fnV 200, fnV 201, fnV 154, fnV 202, fnV 203, .int .i64 0, .int .i64 0, .int .i64 0]) :: [(G + 1 + 1 + 1 + 1, 30, #[.int .i64 0, .int .i64 0, .int .i64 0, .int .i64 0, .int .i64 0, .int .i64 0]), (G + 1 + 1 + 1, 23, #[.int .i64 e0, .int .i64 e1]), (G + 1 + 1, 23, #[.int .i64 a, .int .i64 b]), (G + 1, 30, #[.int .i64 fh, .int .i64 3, .int .i64 x0, .int .i64 x1, .int .i64 d0, .int .i64 d1]), (G, 28, #[.int .i64 id, .int .i64 al, .int .i64 ah, .slice A n c, .slice B mm d, .slice C l ee, .int .i64 t0, .int .i64 t1, .int .i64 u0, .int .i64 u1, .int .i64 v0, .int .i64 v1, .int .i64 h0, .int .i64 h1])] : List (Nat × TypeId × Array Value)) : List (Nat × TypeId × Array Value)), zz.1 ≠ N39 := fun x hx => (List.mem_cons.1 hx).elim (fun e => by rw [e]; have q := HD39.out _ (.head _); exact q) (fun h => HD39.out x (.tail _ h))
        have HK43 : Hid (Boxes (y42.setRow N39 #[.int .i64 r, .int .i64 s]) ((N39, 23, #[.int .i64 r, .int .i64 s]) :: (N29, 23, #[.int .i64 p, .int .i64 q]) :: ((M, 113, #[fnV 200, fnV 201, fnV 154, fnV 202, fnV 203, .int .i64 0, .int .i64 0, .int .i64 0]) :: [(G + 1 + 1 + 1 + 1, 30, #[.int .i64 0, .int .i64 0, .int .i64 0, .int .i64 0, .int .i64 0, .int .i64 0]), (G + 1 + 1 + 1, 23, #[.int .i64 e0, .int .i64 e1]), (G + 1 + 1, 23, #[.int .i64 a, .int .i64 b]), (G + 1, 30, #[.int .i64 fh, .int .i64 3, .int .i64 x0, .int .i64 x1, .int .i64 d0, .int .i64 d1]), (G, 28, #[.int .i64 id, .int .i64 al, .int .i64 ah, .slice A n c, .slice B mm d, .slice C l ee, .int .i64 t0, .int .i64 t1, .int .i64 u0, .int .i64 u1, .int .i64 v0, .int .i64 v1, .int .i64 h0, .int .i64 h1])] : List (Nat × TypeId × Array Value)))) := Lib.hid (Boxes.row HK42.out (.tail _ (.head _)) (fun p hp => ⟨(by rcases List.mem_cons.1 hp with rfl | hp; exact .head _; exact .tail _ (.tail _ hp)), ne43 p hp⟩) #[.int .i64 r, .int .i64 s])
        have HE43 := Lib.hid (below_setRow HE42.out (show w.heap.size ≤ N39 from HZ39.out) #[.int .i64 r, .int .i64 s])
        have hS := hHeld.farRow (g := N39) (fun p hp => ne43 p (.tail _ hp)) #[.int .i64 r, .int .i64 s]
        refine wp_store_row 23 (.tmp 14) (.tmp 50) rfl N39 #[.int .i64 r, .int .i64 s] rfl rfl 23 _ (HK42.out _ (.tail _ (.head _))) (by kernel_rfl) rfl (by kernel_rfl) ?_
        obtain ⟨y43, hW⟩ : ∃ W', y42.setRow N39 #[.int .i64 r, .int .i64 s] = W' := ⟨_, rfl⟩
        rw [hW] at HE43 HK43 hS ⊢
        refine hK.out _ _ hS (fun hHeld2 => ?_)
        try simp only [Act.put, List.setIfInBounds_toArray, List.set_cons_zero, List.set_cons_succ]
        clear hW hS hK K hHeld ne43 HE42 HK42
        have hHeld := hHeld2
        clear hHeld2
        refine wpAnyH_done (by kernel_rfl) ?_ _
        go_wp2_with fail
        go_meet
        exact ⟨N29, N39, rfl, rfl, HK43.out, HE43.out, HD29.out (_, _, _) (.tail _ (.head _)), HD39.out (_, _, _) (.tail _ (.tail _ (.head _)))⟩
    · skip
      go_simp
      have HE44 := Lib.hid (below_then HEd.out (below_alloc1 W4 (.cells #[.int .i64 0, .int .i64 0] 23))); have HK44 := Lib.hid (HKd.out.new 23 #[.int .i64 0, .int .i64 0])
      have hS := hHeld.on (below_alloc1 W4 (.cells #[.int .i64 0, .int .i64 0] 23))
      have HD44 := Lib.hid (boxes_lt HKd.out)
      have HZ44 := Lib.hid HEd.out.size
      refine hK.out _ _ hS (fun hHeld2 => ?_)
      try simp only [Act.put, List.setIfInBounds_toArray, List.set_cons_zero, List.set_cons_succ]
      clear hS hK K hHeld HEd HKd
      have hHeld := hHeld2
      clear hHeld2
      obtain ⟨y44, hW⟩ : ∃ W', W4.alloc (.cells #[.int .i64 0, .int .i64 0] 23) = W' := ⟨_, rfl⟩
      rw [hW] at HE44 HK44 hHeld ⊢
      clear hW
      obtain ⟨N44, hN⟩ : ∃ N, W4.heap.size = N := ⟨_, rfl⟩
      rw [hN] at HK44 HD44 HZ44 ⊢
      clear hN
      refine wpAnyH_ready (rs := [4, 8]) (by kernel_rfl) (by simp) ?_
      refine AllReadyH.cons rfl (fun K hK => ?_) (AllReadyH.cons rfl (fun K hK => ?_) AllReadyH.nil)
      · skip
        go_simp
        (with_reducible refine (C4.out _ HE44.out).mono ?_)
        rintro e y45 ⟨rfl, hb⟩
        have HE45 := Lib.hid (below_then HE44.out hb); have HK45 := Lib.hid (HK44.out.on hb)
        have hS := hHeld.on hb
        clear hb
        refine hK.out _ _ hS (fun hHeld2 => ?_)
        try simp only [Act.put, List.setIfInBounds_toArray, List.set_cons_zero, List.set_cons_succ]
        clear hS hK K hHeld HE44 HK44
        have hHeld := hHeld2
        clear hHeld2
        refine wpAnyH_ready (rs := [7, 8]) (by kernel_rfl) (by simp) ?_
        refine AllReadyH.cons rfl (fun K hK => ?_) (AllReadyH.cons rfl (fun K hK => ?_) AllReadyH.nil)
        · skip
          go_simp
          (with_reducible refine (C5.out _).mono ?_)
          rintro e y46 ⟨rfl, hb⟩
          have HE46 := Lib.hid (below_then HE45.out hb); have HK46 := Lib.hid (HK45.out.on hb)
          have hS := hHeld.on hb
          clear hb
          refine hK.out _ _ hS (fun hHeld2 => ?_)
          try simp only [Act.put, List.setIfInBounds_toArray, List.set_cons_zero, List.set_cons_succ]
          clear hS hK K hHeld HE45 HK45
          have hHeld := hHeld2
          clear hHeld2
          refine wpAnyH_ready (rs := [8]) (by kernel_rfl) (by simp) ?_
          refine AllReadyH.cons rfl (fun K hK => ?_) AllReadyH.nil
          go_simp
          have HE47 := Lib.hid (below_then HE46.out (below_alloc1 y46 (.cells #[.int .i64 0, .int .i64 0] 23))); have HK47 := Lib.hid (HK46.out.new 23 #[.int .i64 0, .int .i64 0])
          have hS := hHeld.on (below_alloc1 y46 (.cells #[.int .i64 0, .int .i64 0] 23))
          have HD47 := Lib.hid (boxes_lt HK46.out)
          have HZ47 := Lib.hid HE46.out.size
          refine hK.out _ _ hS (fun hHeld2 => ?_)
          try simp only [Act.put, List.setIfInBounds_toArray, List.set_cons_zero, List.set_cons_succ]
          clear hS hK K hHeld HE46 HK46
          have hHeld := hHeld2
          clear hHeld2
          obtain ⟨y47, hW⟩ : ∃ W', y46.alloc (.cells #[.int .i64 0, .int .i64 0] 23) = W' := ⟨_, rfl⟩
          rw [hW] at HE47 HK47 hHeld ⊢
          clear hW
          obtain ⟨N47, hN⟩ : ∃ N, y46.heap.size = N := ⟨_, rfl⟩
          rw [hN] at HK47 HD47 HZ47 ⊢
          clear hN
          refine wpAnyH_ready (rs := [10]) (by kernel_rfl) (by simp) ?_
          refine AllReadyH.cons rfl (fun K hK => ?_) AllReadyH.nil
          rw [if_pos (by kernel_rfl)]
          have ne48 : ∀ zz ∈ ((N44, 23, #[.int .i64 0, .int .i64 0]) :: ((M, 113, #[fnV 200, fnV 201, fnV 154, fnV 202, fnV 203, .int .i64 0, .int .i64 0, .int .i64 0]) :: [(G + 1 + 1 + 1 + 1, 30, #[.int .i64 0, .int .i64 0, .int .i64 0, .int .i64 0, .int .i64 0, .int .i64 0]), (G + 1 + 1 + 1, 23, #[.int .i64 e0, .int .i64 e1]), (G + 1 + 1, 23, #[.int .i64 a, .int .i64 b]), (G + 1, 30, #[.int .i64 fh, .int .i64 3, .int .i64 x0, .int .i64 x1, .int .i64 d0, .int .i64 d1]), (G, 28, #[.int .i64 id, .int .i64 al, .int .i64 ah, .slice A n c, .slice B mm d, .slice C l ee, .int .i64 t0, .int .i64 t1, .int .i64 u0, .int .i64 u1, .int .i64 v0, .int .i64 v1, .int .i64 h0, .int .i64 h1])] : List (Nat × TypeId × Array Value)) : List (Nat × TypeId × Array Value)), zz.1 ≠ N47 := fun x hx => (List.mem_cons.1 hx).elim (fun e => by rw [e]; have q := HD47.out _ (.head _); exact q) (fun h => HD47.out x (.tail _ h))
          have HK48 : Hid (Boxes (y47.setRow N47 #[.int .i64 p, .int .i64 q]) ((N47, 23, #[.int .i64 p, .int .i64 q]) :: (N44, 23, #[.int .i64 0, .int .i64 0]) :: ((M, 113, #[fnV 200, fnV 201, fnV 154, fnV 202, fnV 203, .int .i64 0, .int .i64 0, .int .i64 0]) :: [(G + 1 + 1 + 1 + 1, 30, #[.int .i64 0, .int .i64 0, .int .i64 0, .int .i64 0, .int .i64 0, .int .i64 0]), (G + 1 + 1 + 1, 23, #[.int .i64 e0, .int .i64 e1]), (G + 1 + 1, 23, #[.int .i64 a, .int .i64 b]), (G + 1, 30, #[.int .i64 fh, .int .i64 3, .int .i64 x0, .int .i64 x1, .int .i64 d0, .int .i64 d1]), (G, 28, #[.int .i64 id, .int .i64 al, .int .i64 ah, .slice A n c, .slice B mm d, .slice C l ee, .int .i64 t0, .int .i64 t1, .int .i64 u0, .int .i64 u1, .int .i64 v0, .int .i64 v1, .int .i64 h0, .int .i64 h1])] : List (Nat × TypeId × Array Value)))) := Lib.hid (Boxes.row HK47.out (.head _) (fun p hp => ⟨.tail _ hp, ne48 p hp⟩) #[.int .i64 p, .int .i64 q])
          have HE48 := Lib.hid (below_setRow HE47.out (show w.heap.size ≤ N47 from HZ47.out) #[.int .i64 p, .int .i64 q])
          have hS := hHeld.farRow (g := N47) (fun p hp => ne48 p (.tail _ hp)) #[.int .i64 p, .int .i64 q]
          refine wp_store_row 23 (.tmp 13) (.tmp 47) rfl N47 #[.int .i64 p, .int .i64 q] rfl rfl 23 _ (HK47.out _ (.head _)) (by kernel_rfl) rfl (by kernel_rfl) ?_
          obtain ⟨y48, hW⟩ : ∃ W', y47.setRow N47 #[.int .i64 p, .int .i64 q] = W' := ⟨_, rfl⟩
          rw [hW] at HE48 HK48 hS ⊢
          refine hK.out _ _ hS (fun hHeld2 => ?_)
          try simp only [Act.put, List.setIfInBounds_toArray, List.set_cons_zero, List.set_cons_succ]
          clear hW hS hK K hHeld ne48 HE47 HK47
          have hHeld := hHeld2
          clear hHeld2
          refine wpAnyH_ready (rs := [11]) (by kernel_rfl) (by simp) ?_
          refine AllReadyH.cons rfl (fun K hK => ?_) AllReadyH.nil
          rw [if_pos (by kernel_rfl)]
          have ne49 : ∀ zz ∈ ((N47, 23, #[.int .i64 p, .int .i64 q]) :: ((M, 113, #[fnV 200, fnV 201, fnV 154, fnV 202, fnV 203, .int .i64 0, .int .i64 0, .int .i64 0]) :: [(G + 1 + 1 + 1 + 1, 30, #[.int .i64 0, .int .i64 0, .int .i64 0, .int .i64 0, .int .i64 0, .int .i64 0]), (G + 1 + 1 + 1, 23, #[.int .i64 e0, .int .i64 e1]), (G + 1 + 1, 23, #[.int .i64 a, .int .i64 b]), (G + 1, 30, #[.int .i64 fh, .int .i64 3, .int .i64 x0, .int .i64 x1, .int .i64 d0, .int .i64 d1]), (G, 28, #[.int .i64 id, .int .i64 al, .int .i64 ah, .slice A n c, .slice B mm d, .slice C l ee, .int .i64 t0, .int .i64 t1, .int .i64 u0, .int .i64 u1, .int .i64 v0, .int .i64 v1, .int .i64 h0, .int .i64 h1])] : List (Nat × TypeId × Array Value)) : List (Nat × TypeId × Array Value)), zz.1 ≠ N44 := fun x hx => (List.mem_cons.1 hx).elim (fun e => by rw [e]; have q := HD47.out _ (.head _); exact fun z => q z.symm) (fun h => HD44.out x h)
          have HK49 : Hid (Boxes (y48.setRow N44 #[.int .i64 r, .int .i64 s]) ((N44, 23, #[.int .i64 r, .int .i64 s]) :: (N47, 23, #[.int .i64 p, .int .i64 q]) :: ((M, 113, #[fnV 200, fnV 201, fnV 154, fnV 202, fnV 203, .int .i64 0, .int .i64 0, .int .i64 0]) :: [(G + 1 + 1 + 1 + 1, 30, #[.int .i64 0, .int .i64 0, .int .i64 0, .int .i64 0, .int .i64 0, .int .i64 0]), (G + 1 + 1 + 1, 23, #[.int .i64 e0, .int .i64 e1]), (G + 1 + 1, 23, #[.int .i64 a, .int .i64 b]), (G + 1, 30, #[.int .i64 fh, .int .i64 3, .int .i64 x0, .int .i64 x1, .int .i64 d0, .int .i64 d1]), (G, 28, #[.int .i64 id, .int .i64 al, .int .i64 ah, .slice A n c, .slice B mm d, .slice C l ee, .int .i64 t0, .int .i64 t1, .int .i64 u0, .int .i64 u1, .int .i64 v0, .int .i64 v1, .int .i64 h0, .int .i64 h1])] : List (Nat × TypeId × Array Value)))) := Lib.hid (Boxes.row HK48.out (.tail _ (.head _)) (fun p hp => ⟨(by rcases List.mem_cons.1 hp with rfl | hp; exact .head _; exact .tail _ (.tail _ hp)), ne49 p hp⟩) #[.int .i64 r, .int .i64 s])
          have HE49 := Lib.hid (below_setRow HE48.out (show w.heap.size ≤ N44 from HZ44.out) #[.int .i64 r, .int .i64 s])
          have hS := hHeld.farRow (g := N44) (fun p hp => ne49 p (.tail _ hp)) #[.int .i64 r, .int .i64 s]
          refine wp_store_row 23 (.tmp 14) (.tmp 50) rfl N44 #[.int .i64 r, .int .i64 s] rfl rfl 23 _ (HK48.out _ (.tail _ (.head _))) (by kernel_rfl) rfl (by kernel_rfl) ?_
          obtain ⟨y49, hW⟩ : ∃ W', y48.setRow N44 #[.int .i64 r, .int .i64 s] = W' := ⟨_, rfl⟩
          rw [hW] at HE49 HK49 hS ⊢
          refine hK.out _ _ hS (fun hHeld2 => ?_)
          try simp only [Act.put, List.setIfInBounds_toArray, List.set_cons_zero, List.set_cons_succ]
          clear hW hS hK K hHeld ne49 HE48 HK48
          have hHeld := hHeld2
          clear hHeld2
          refine wpAnyH_done (by kernel_rfl) ?_ _
          go_wp2_with fail
          go_meet
          exact ⟨N47, N44, rfl, rfl, HK49.out, HE49.out, HD47.out (_, _, _) (.tail _ (.tail _ (.head _))), HD44.out (_, _, _) (.tail _ (.head _))⟩
        · skip
          go_simp
          have HE50 := Lib.hid (below_then HE45.out (below_alloc1 y45 (.cells #[.int .i64 0, .int .i64 0] 23))); have HK50 := Lib.hid (HK45.out.new 23 #[.int .i64 0, .int .i64 0])
          have hS := hHeld.on (below_alloc1 y45 (.cells #[.int .i64 0, .int .i64 0] 23))
          have HD50 := Lib.hid (boxes_lt HK45.out)
          have HZ50 := Lib.hid HE45.out.size
          refine hK.out _ _ hS (fun hHeld2 => ?_)
          try simp only [Act.put, List.setIfInBounds_toArray, List.set_cons_zero, List.set_cons_succ]
          clear hS hK K hHeld HE45 HK45
          have hHeld := hHeld2
          clear hHeld2
          obtain ⟨y50, hW⟩ : ∃ W', y45.alloc (.cells #[.int .i64 0, .int .i64 0] 23) = W' := ⟨_, rfl⟩
          rw [hW] at HE50 HK50 hHeld ⊢
          clear hW
          obtain ⟨N50, hN⟩ : ∃ N, y45.heap.size = N := ⟨_, rfl⟩
          rw [hN] at HK50 HD50 HZ50 ⊢
          clear hN
          refine wpAnyH_ready (rs := [7]) (by kernel_rfl) (by simp) ?_
          refine AllReadyH.cons rfl (fun K hK => ?_) AllReadyH.nil
          go_simp
          (with_reducible refine (C5.out _).mono ?_)
          rintro e y51 ⟨rfl, hb⟩
          have HE51 := Lib.hid (below_then HE50.out hb); have HK51 := Lib.hid (HK50.out.on hb)
          have hS := hHeld.on hb
          clear hb
          refine hK.out _ _ hS (fun hHeld2 => ?_)
          try simp only [Act.put, List.setIfInBounds_toArray, List.set_cons_zero, List.set_cons_succ]
          clear hS hK K hHeld HE50 HK50
          have hHeld := hHeld2
          clear hHeld2
          refine wpAnyH_ready (rs := [10]) (by kernel_rfl) (by simp) ?_
          refine AllReadyH.cons rfl (fun K hK => ?_) AllReadyH.nil
          rw [if_pos (by kernel_rfl)]
          have ne52 : ∀ zz ∈ ((N44, 23, #[.int .i64 0, .int .i64 0]) :: ((M, 113, #[fnV 200, fnV 201, fnV 154, fnV 202, fnV 203, .int .i64 0, .int .i64 0, .int .i64 0]) :: [(G + 1 + 1 + 1 + 1, 30, #[.int .i64 0, .int .i64 0, .int .i64 0, .int .i64 0, .int .i64 0, .int .i64 0]), (G + 1 + 1 + 1, 23, #[.int .i64 e0, .int .i64 e1]), (G + 1 + 1, 23, #[.int .i64 a, .int .i64 b]), (G + 1, 30, #[.int .i64 fh, .int .i64 3, .int .i64 x0, .int .i64 x1, .int .i64 d0, .int .i64 d1]), (G, 28, #[.int .i64 id, .int .i64 al, .int .i64 ah, .slice A n c, .slice B mm d, .slice C l ee, .int .i64 t0, .int .i64 t1, .int .i64 u0, .int .i64 u1, .int .i64 v0, .int .i64 v1, .int .i64 h0, .int .i64 h1])] : List (Nat × TypeId × Array Value)) : List (Nat × TypeId × Array Value)), zz.1 ≠ N50 := fun x hx => (List.mem_cons.1 hx).elim (fun e => by rw [e]; have q := HD50.out _ (.head _); exact q) (fun h => HD50.out x (.tail _ h))
          have HK52 : Hid (Boxes (y51.setRow N50 #[.int .i64 p, .int .i64 q]) ((N50, 23, #[.int .i64 p, .int .i64 q]) :: (N44, 23, #[.int .i64 0, .int .i64 0]) :: ((M, 113, #[fnV 200, fnV 201, fnV 154, fnV 202, fnV 203, .int .i64 0, .int .i64 0, .int .i64 0]) :: [(G + 1 + 1 + 1 + 1, 30, #[.int .i64 0, .int .i64 0, .int .i64 0, .int .i64 0, .int .i64 0, .int .i64 0]), (G + 1 + 1 + 1, 23, #[.int .i64 e0, .int .i64 e1]), (G + 1 + 1, 23, #[.int .i64 a, .int .i64 b]), (G + 1, 30, #[.int .i64 fh, .int .i64 3, .int .i64 x0, .int .i64 x1, .int .i64 d0, .int .i64 d1]), (G, 28, #[.int .i64 id, .int .i64 al, .int .i64 ah, .slice A n c, .slice B mm d, .slice C l ee, .int .i64 t0, .int .i64 t1, .int .i64 u0, .int .i64 u1, .int .i64 v0, .int .i64 v1, .int .i64 h0, .int .i64 h1])] : List (Nat × TypeId × Array Value)))) := Lib.hid (Boxes.row HK51.out (.head _) (fun p hp => ⟨.tail _ hp, ne52 p hp⟩) #[.int .i64 p, .int .i64 q])
          have HE52 := Lib.hid (below_setRow HE51.out (show w.heap.size ≤ N50 from HZ50.out) #[.int .i64 p, .int .i64 q])
          have hS := hHeld.farRow (g := N50) (fun p hp => ne52 p (.tail _ hp)) #[.int .i64 p, .int .i64 q]
          refine wp_store_row 23 (.tmp 13) (.tmp 47) rfl N50 #[.int .i64 p, .int .i64 q] rfl rfl 23 _ (HK51.out _ (.head _)) (by kernel_rfl) rfl (by kernel_rfl) ?_
          obtain ⟨y52, hW⟩ : ∃ W', y51.setRow N50 #[.int .i64 p, .int .i64 q] = W' := ⟨_, rfl⟩
          rw [hW] at HE52 HK52 hS ⊢
          refine hK.out _ _ hS (fun hHeld2 => ?_)
          try simp only [Act.put, List.setIfInBounds_toArray, List.set_cons_zero, List.set_cons_succ]
          clear hW hS hK K hHeld ne52 HE51 HK51
          have hHeld := hHeld2
          clear hHeld2
          refine wpAnyH_ready (rs := [11]) (by kernel_rfl) (by simp) ?_
          refine AllReadyH.cons rfl (fun K hK => ?_) AllReadyH.nil
          rw [if_pos (by kernel_rfl)]
          have ne53 : ∀ zz ∈ ((N50, 23, #[.int .i64 p, .int .i64 q]) :: ((M, 113, #[fnV 200, fnV 201, fnV 154, fnV 202, fnV 203, .int .i64 0, .int .i64 0, .int .i64 0]) :: [(G + 1 + 1 + 1 + 1, 30, #[.int .i64 0, .int .i64 0, .int .i64 0, .int .i64 0, .int .i64 0, .int .i64 0]), (G + 1 + 1 + 1, 23, #[.int .i64 e0, .int .i64 e1]), (G + 1 + 1, 23, #[.int .i64 a, .int .i64 b]), (G + 1, 30, #[.int .i64 fh, .int .i64 3, .int .i64 x0, .int .i64 x1, .int .i64 d0, .int .i64 d1]), (G, 28, #[.int .i64 id, .int .i64 al, .int .i64 ah, .slice A n c, .slice B mm d, .slice C l ee, .int .i64 t0, .int .i64 t1, .int .i64 u0, .int .i64 u1, .int .i64 v0, .int .i64 v1, .int .i64 h0, .int .i64 h1])] : List (Nat × TypeId × Array Value)) : List (Nat × TypeId × Array Value)), zz.1 ≠ N44 := fun x hx => (List.mem_cons.1 hx).elim (fun e => by rw [e]; have q := HD50.out _ (.head _); exact fun z => q z.symm) (fun h => HD44.out x h)
          have HK53 : Hid (Boxes (y52.setRow N44 #[.int .i64 r, .int .i64 s]) ((N44, 23, #[.int .i64 r, .int .i64 s]) :: (N50, 23, #[.int .i64 p, .int .i64 q]) :: ((M, 113, #[fnV 200, fnV 201, fnV 154, fnV 202, fnV 203, .int .i64 0, .int .i64 0, .int .i64 0]) :: [(G + 1 + 1 + 1 + 1, 30, #[.int .i64 0, .int .i64 0, .int .i64 0, .int .i64 0, .int .i64 0, .int .i64 0]), (G + 1 + 1 + 1, 23, #[.int .i64 e0, .int .i64 e1]), (G + 1 + 1, 23, #[.int .i64 a, .int .i64 b]), (G + 1, 30, #[.int .i64 fh, .int .i64 3, .int .i64 x0, .int .i64 x1, .int .i64 d0, .int .i64 d1]), (G, 28, #[.int .i64 id, .int .i64 al, .int .i64 ah, .slice A n c, .slice B mm d, .slice C l ee, .int .i64 t0, .int .i64 t1, .int .i64 u0, .int .i64 u1, .int .i64 v0, .int .i64 v1, .int .i64 h0, .int .i64 h1])] : List (Nat × TypeId × Array Value)))) := Lib.hid (Boxes.row HK52.out (.tail _ (.head _)) (fun p hp => ⟨(by rcases List.mem_cons.1 hp with rfl | hp; exact .head _; exact .tail _ (.tail _ hp)), ne53 p hp⟩) #[.int .i64 r, .int .i64 s])
          have HE53 := Lib.hid (below_setRow HE52.out (show w.heap.size ≤ N44 from HZ44.out) #[.int .i64 r, .int .i64 s])
          have hS := hHeld.farRow (g := N44) (fun p hp => ne53 p (.tail _ hp)) #[.int .i64 r, .int .i64 s]
          refine wp_store_row 23 (.tmp 14) (.tmp 50) rfl N44 #[.int .i64 r, .int .i64 s] rfl rfl 23 _ (HK52.out _ (.tail _ (.head _))) (by kernel_rfl) rfl (by kernel_rfl) ?_
          obtain ⟨y53, hW⟩ : ∃ W', y52.setRow N44 #[.int .i64 r, .int .i64 s] = W' := ⟨_, rfl⟩
          rw [hW] at HE53 HK53 hS ⊢
          refine hK.out _ _ hS (fun hHeld2 => ?_)
          try simp only [Act.put, List.setIfInBounds_toArray, List.set_cons_zero, List.set_cons_succ]
          clear hW hS hK K hHeld ne53 HE52 HK52
          have hHeld := hHeld2
          clear hHeld2
          refine wpAnyH_done (by kernel_rfl) ?_ _
          go_wp2_with fail
          go_meet
          exact ⟨N50, N44, rfl, rfl, HK53.out, HE53.out, HD50.out (_, _, _) (.tail _ (.tail _ (.head _))), HD44.out (_, _, _) (.tail _ (.head _))⟩
      · skip
        go_simp
        have HE54 := Lib.hid (below_then HE44.out (below_alloc1 y44 (.cells #[.int .i64 0, .int .i64 0] 23))); have HK54 := Lib.hid (HK44.out.new 23 #[.int .i64 0, .int .i64 0])
        have hS := hHeld.on (below_alloc1 y44 (.cells #[.int .i64 0, .int .i64 0] 23))
        have HD54 := Lib.hid (boxes_lt HK44.out)
        have HZ54 := Lib.hid HE44.out.size
        refine hK.out _ _ hS (fun hHeld2 => ?_)
        try simp only [Act.put, List.setIfInBounds_toArray, List.set_cons_zero, List.set_cons_succ]
        clear hS hK K hHeld HE44 HK44
        have hHeld := hHeld2
        clear hHeld2
        obtain ⟨y54, hW⟩ : ∃ W', y44.alloc (.cells #[.int .i64 0, .int .i64 0] 23) = W' := ⟨_, rfl⟩
        rw [hW] at HE54 HK54 hHeld ⊢
        clear hW
        obtain ⟨N54, hN⟩ : ∃ N, y44.heap.size = N := ⟨_, rfl⟩
        rw [hN] at HK54 HD54 HZ54 ⊢
        clear hN
        refine wpAnyH_ready (rs := [4]) (by kernel_rfl) (by simp) ?_
        refine AllReadyH.cons rfl (fun K hK => ?_) AllReadyH.nil
        go_simp
        (with_reducible refine (C4.out _ HE54.out).mono ?_)
        rintro e y55 ⟨rfl, hb⟩
        have HE55 := Lib.hid (below_then HE54.out hb); have HK55 := Lib.hid (HK54.out.on hb)
        have hS := hHeld.on hb
        clear hb
        refine hK.out _ _ hS (fun hHeld2 => ?_)
        try simp only [Act.put, List.setIfInBounds_toArray, List.set_cons_zero, List.set_cons_succ]
        clear hS hK K hHeld HE54 HK54
        have hHeld := hHeld2
        clear hHeld2
        refine wpAnyH_ready (rs := [7]) (by kernel_rfl) (by simp) ?_
        refine AllReadyH.cons rfl (fun K hK => ?_) AllReadyH.nil
        go_simp
        (with_reducible refine (C5.out _).mono ?_)
        rintro e y56 ⟨rfl, hb⟩
        have HE56 := Lib.hid (below_then HE55.out hb); have HK56 := Lib.hid (HK55.out.on hb)
        have hS := hHeld.on hb
        clear hb
        refine hK.out _ _ hS (fun hHeld2 => ?_)
        try simp only [Act.put, List.setIfInBounds_toArray, List.set_cons_zero, List.set_cons_succ]
        clear hS hK K hHeld HE55 HK55
        have hHeld := hHeld2
        clear hHeld2
        refine wpAnyH_ready (rs := [10]) (by kernel_rfl) (by simp) ?_
        refine AllReadyH.cons rfl (fun K hK => ?_) AllReadyH.nil
        rw [if_pos (by kernel_rfl)]
        have ne57 : ∀ zz ∈ ((N44, 23, #[.int .i64 0, .int .i64 0]) :: ((M, 113, #[fnV 200, fnV 201, fnV 154, fnV 202, fnV 203, .int .i64 0, .int .i64 0, .int .i64 0]) :: [(G + 1 + 1 + 1 + 1, 30, #[.int .i64 0, .int .i64 0, .int .i64 0, .int .i64 0, .int .i64 0, .int .i64 0]), (G + 1 + 1 + 1, 23, #[.int .i64 e0, .int .i64 e1]), (G + 1 + 1, 23, #[.int .i64 a, .int .i64 b]), (G + 1, 30, #[.int .i64 fh, .int .i64 3, .int .i64 x0, .int .i64 x1, .int .i64 d0, .int .i64 d1]), (G, 28, #[.int .i64 id, .int .i64 al, .int .i64 ah, .slice A n c, .slice B mm d, .slice C l ee, .int .i64 t0, .int .i64 t1, .int .i64 u0, .int .i64 u1, .int .i64 v0, .int .i64 v1, .int .i64 h0, .int .i64 h1])] : List (Nat × TypeId × Array Value)) : List (Nat × TypeId × Array Value)), zz.1 ≠ N54 := fun x hx => (List.mem_cons.1 hx).elim (fun e => by rw [e]; have q := HD54.out _ (.head _); exact q) (fun h => HD54.out x (.tail _ h))
        have HK57 : Hid (Boxes (y56.setRow N54 #[.int .i64 p, .int .i64 q]) ((N54, 23, #[.int .i64 p, .int .i64 q]) :: (N44, 23, #[.int .i64 0, .int .i64 0]) :: ((M, 113, #[fnV 200, fnV 201, fnV 154, fnV 202, fnV 203, .int .i64 0, .int .i64 0, .int .i64 0]) :: [(G + 1 + 1 + 1 + 1, 30, #[.int .i64 0, .int .i64 0, .int .i64 0, .int .i64 0, .int .i64 0, .int .i64 0]), (G + 1 + 1 + 1, 23, #[.int .i64 e0, .int .i64 e1]), (G + 1 + 1, 23, #[.int .i64 a, .int .i64 b]), (G + 1, 30, #[.int .i64 fh, .int .i64 3, .int .i64 x0, .int .i64 x1, .int .i64 d0, .int .i64 d1]), (G, 28, #[.int .i64 id, .int .i64 al, .int .i64 ah, .slice A n c, .slice B mm d, .slice C l ee, .int .i64 t0, .int .i64 t1, .int .i64 u0, .int .i64 u1, .int .i64 v0, .int .i64 v1, .int .i64 h0, .int .i64 h1])] : List (Nat × TypeId × Array Value)))) := Lib.hid (Boxes.row HK56.out (.head _) (fun p hp => ⟨.tail _ hp, ne57 p hp⟩) #[.int .i64 p, .int .i64 q])
        have HE57 := Lib.hid (below_setRow HE56.out (show w.heap.size ≤ N54 from HZ54.out) #[.int .i64 p, .int .i64 q])
        have hS := hHeld.farRow (g := N54) (fun p hp => ne57 p (.tail _ hp)) #[.int .i64 p, .int .i64 q]
        refine wp_store_row 23 (.tmp 13) (.tmp 47) rfl N54 #[.int .i64 p, .int .i64 q] rfl rfl 23 _ (HK56.out _ (.head _)) (by kernel_rfl) rfl (by kernel_rfl) ?_
        obtain ⟨y57, hW⟩ : ∃ W', y56.setRow N54 #[.int .i64 p, .int .i64 q] = W' := ⟨_, rfl⟩
        rw [hW] at HE57 HK57 hS ⊢
        refine hK.out _ _ hS (fun hHeld2 => ?_)
        try simp only [Act.put, List.setIfInBounds_toArray, List.set_cons_zero, List.set_cons_succ]
        clear hW hS hK K hHeld ne57 HE56 HK56
        have hHeld := hHeld2
        clear hHeld2
        refine wpAnyH_ready (rs := [11]) (by kernel_rfl) (by simp) ?_
        refine AllReadyH.cons rfl (fun K hK => ?_) AllReadyH.nil
        rw [if_pos (by kernel_rfl)]
        have ne58 : ∀ zz ∈ ((N54, 23, #[.int .i64 p, .int .i64 q]) :: ((M, 113, #[fnV 200, fnV 201, fnV 154, fnV 202, fnV 203, .int .i64 0, .int .i64 0, .int .i64 0]) :: [(G + 1 + 1 + 1 + 1, 30, #[.int .i64 0, .int .i64 0, .int .i64 0, .int .i64 0, .int .i64 0, .int .i64 0]), (G + 1 + 1 + 1, 23, #[.int .i64 e0, .int .i64 e1]), (G + 1 + 1, 23, #[.int .i64 a, .int .i64 b]), (G + 1, 30, #[.int .i64 fh, .int .i64 3, .int .i64 x0, .int .i64 x1, .int .i64 d0, .int .i64 d1]), (G, 28, #[.int .i64 id, .int .i64 al, .int .i64 ah, .slice A n c, .slice B mm d, .slice C l ee, .int .i64 t0, .int .i64 t1, .int .i64 u0, .int .i64 u1, .int .i64 v0, .int .i64 v1, .int .i64 h0, .int .i64 h1])] : List (Nat × TypeId × Array Value)) : List (Nat × TypeId × Array Value)), zz.1 ≠ N44 := fun x hx => (List.mem_cons.1 hx).elim (fun e => by rw [e]; have q := HD54.out _ (.head _); exact fun z => q z.symm) (fun h => HD44.out x h)
        have HK58 : Hid (Boxes (y57.setRow N44 #[.int .i64 r, .int .i64 s]) ((N44, 23, #[.int .i64 r, .int .i64 s]) :: (N54, 23, #[.int .i64 p, .int .i64 q]) :: ((M, 113, #[fnV 200, fnV 201, fnV 154, fnV 202, fnV 203, .int .i64 0, .int .i64 0, .int .i64 0]) :: [(G + 1 + 1 + 1 + 1, 30, #[.int .i64 0, .int .i64 0, .int .i64 0, .int .i64 0, .int .i64 0, .int .i64 0]), (G + 1 + 1 + 1, 23, #[.int .i64 e0, .int .i64 e1]), (G + 1 + 1, 23, #[.int .i64 a, .int .i64 b]), (G + 1, 30, #[.int .i64 fh, .int .i64 3, .int .i64 x0, .int .i64 x1, .int .i64 d0, .int .i64 d1]), (G, 28, #[.int .i64 id, .int .i64 al, .int .i64 ah, .slice A n c, .slice B mm d, .slice C l ee, .int .i64 t0, .int .i64 t1, .int .i64 u0, .int .i64 u1, .int .i64 v0, .int .i64 v1, .int .i64 h0, .int .i64 h1])] : List (Nat × TypeId × Array Value)))) := Lib.hid (Boxes.row HK57.out (.tail _ (.head _)) (fun p hp => ⟨(by rcases List.mem_cons.1 hp with rfl | hp; exact .head _; exact .tail _ (.tail _ hp)), ne58 p hp⟩) #[.int .i64 r, .int .i64 s])
        have HE58 := Lib.hid (below_setRow HE57.out (show w.heap.size ≤ N44 from HZ44.out) #[.int .i64 r, .int .i64 s])
        have hS := hHeld.farRow (g := N44) (fun p hp => ne58 p (.tail _ hp)) #[.int .i64 r, .int .i64 s]
        refine wp_store_row 23 (.tmp 14) (.tmp 50) rfl N44 #[.int .i64 r, .int .i64 s] rfl rfl 23 _ (HK57.out _ (.tail _ (.head _))) (by kernel_rfl) rfl (by kernel_rfl) ?_
        obtain ⟨y58, hW⟩ : ∃ W', y57.setRow N44 #[.int .i64 r, .int .i64 s] = W' := ⟨_, rfl⟩
        rw [hW] at HE58 HK58 hS ⊢
        refine hK.out _ _ hS (fun hHeld2 => ?_)
        try simp only [Act.put, List.setIfInBounds_toArray, List.set_cons_zero, List.set_cons_succ]
        clear hW hS hK K hHeld ne58 HE57 HK57
        have hHeld := hHeld2
        clear hHeld2
        refine wpAnyH_done (by kernel_rfl) ?_ _
        go_wp2_with fail
        go_meet
        exact ⟨N54, N44, rfl, rfl, HK58.out, HE58.out, HD54.out (_, _, _) (.tail _ (.tail _ (.head _))), HD44.out (_, _, _) (.tail _ (.head _))⟩
  case rest =>
    obtain ⟨N1, N2, rfl, rfl, hB, hE, n1, n2⟩ := hcut
    have HE5 := Lib.hid hE
    have HK5 := Lib.hid hB
    have Hn1 := Lib.hid n1
    have Hn2 := Lib.hid n2
    clear hB hE n1 n2 HE3 HK3 C4 C5
    have ua := HK5.out _ (.tail _ (.head _))
    have ua0 := ua.cell 0
    have ua1 := ua.cell 1
    simp at ua0 ua1
    clear ua
    have za := HK5.out _ (.head _)
    have za0 := za.cell 0
    have za1 := za.cell 1
    simp at za0 za1
    clear za
    have HE6 := Lib.hid (below_then HE5.out (below_alloc1 wc (.cells #[.int .i64 v0', .int .i64 v1'] 23)))
    have HK6 := Lib.hid (HK5.out.new 23 #[.int .i64 v0', .int .i64 v1'])
    have HDV := Lib.hid (boxes_lt HK5.out)
    clear HE5 HK5
    go_upto_region 14 with fail
    obtain ⟨W6, hW6⟩ : ∃ W6, wc.alloc (.cells #[.int .i64 v0', .int .i64 v1'] 23) = W6 := ⟨_, rfl⟩
    rw [hW6] at HE6 HK6 ⊢
    clear hW6
    obtain ⟨V, hV⟩ : ∃ V, wc.heap.size = V := ⟨_, rfl⟩
    rw [hV] at HK6 HDV ⊢
    clear hV
    have HK6' : Hid (Boxes W6 ((V, 23, #[.int .i64 v0', .int .i64 v1']) :: ((M, 113, #[fnV 200, fnV 201, fnV 154, fnV 202, fnV 203, .int .i64 0, .int .i64 0, .int .i64 0]) :: [(G + 1 + 1 + 1 + 1, 30, #[.int .i64 0, .int .i64 0, .int .i64 0, .int .i64 0, .int .i64 0, .int .i64 0]), (G + 1 + 1 + 1, 23, #[.int .i64 e0, .int .i64 e1]), (G + 1 + 1, 23, #[.int .i64 a, .int .i64 b]), (G + 1, 30, #[.int .i64 fh, .int .i64 3, .int .i64 x0, .int .i64 x1, .int .i64 d0, .int .i64 d1]), (G, 28, #[.int .i64 id, .int .i64 al, .int .i64 ah, .slice A n c, .slice B mm d, .slice C l ee, .int .i64 t0, .int .i64 t1, .int .i64 u0, .int .i64 u1, .int .i64 v0, .int .i64 v1, .int .i64 h0, .int .i64 h1])] : List (Nat × TypeId × Array Value)) : List (Nat × TypeId × Array Value))) := Lib.hid (HK6.out.sub (fun x hx => (List.mem_cons.1 hx).elim (fun e => by rw [e]; exact .head _) (fun h => .tail _ (.tail _ (.tail _ h)))))
    have HV4 := Lib.hid (HDV.out (_, _, _) (.tail _ (.tail _ (.tail _ (.head _)))))
    clear HK6 HDV
    go_cut [16] (fun s16 wx => ∃ N3, s16 = .pointer (some ⟨N3, 0, none⟩) ∧ Boxes wx ((N3, 23, #[.int .i64 f0, .int .i64 x1]) :: ((V, 23, #[.int .i64 v0', .int .i64 v1']) :: ((M, 113, #[fnV 200, fnV 201, fnV 154, fnV 202, fnV 203, .int .i64 0, .int .i64 0, .int .i64 0]) :: [(G + 1 + 1 + 1 + 1, 30, #[.int .i64 0, .int .i64 0, .int .i64 0, .int .i64 0, .int .i64 0, .int .i64 0]), (G + 1 + 1 + 1, 23, #[.int .i64 e0, .int .i64 e1]), (G + 1 + 1, 23, #[.int .i64 a, .int .i64 b]), (G + 1, 30, #[.int .i64 fh, .int .i64 3, .int .i64 x0, .int .i64 x1, .int .i64 d0, .int .i64 d1]), (G, 28, #[.int .i64 id, .int .i64 al, .int .i64 ah, .slice A n c, .slice B mm d, .slice C l ee, .int .i64 t0, .int .i64 t1, .int .i64 u0, .int .i64 u1, .int .i64 v0, .int .i64 v1, .int .i64 h0, .int .i64 h1])] : List (Nat × TypeId × Array Value)) : List (Nat × TypeId × Array Value))) ∧ Below w.heap.size w wx ∧ G + 1 + 1 + 1 + 1 ≠ N3)
    case first =>
      have hS0 : Boxes W6.drew ((V, 23, #[.int .i64 v0', .int .i64 v1']) :: ((M, 113, #[fnV 200, fnV 201, fnV 154, fnV 202, fnV 203, .int .i64 0, .int .i64 0, .int .i64 0]) :: [(G + 1 + 1 + 1 + 1, 30, #[.int .i64 0, .int .i64 0, .int .i64 0, .int .i64 0, .int .i64 0, .int .i64 0]), (G + 1 + 1 + 1, 23, #[.int .i64 e0, .int .i64 e1]), (G + 1 + 1, 23, #[.int .i64 a, .int .i64 b]), (G + 1, 30, #[.int .i64 fh, .int .i64 3, .int .i64 x0, .int .i64 x1, .int .i64 d0, .int .i64 d1]), (G, 28, #[.int .i64 id, .int .i64 al, .int .i64 ah, .slice A n c, .slice B mm d, .slice C l ee, .int .i64 t0, .int .i64 t1, .int .i64 u0, .int .i64 u1, .int .i64 v0, .int .i64 v1, .int .i64 h0, .int .i64 h1])] : List (Nat × TypeId × Array Value)) : List (Nat × TypeId × Array Value)) := HK6'.out
      have HEd := Lib.hid HE6.out.drew
      have HKd := Lib.hid hS0
      refine wp_region_held_drew (S := fun w' => Boxes w' ((V, 23, #[.int .i64 v0', .int .i64 v1']) :: ((M, 113, #[fnV 200, fnV 201, fnV 154, fnV 202, fnV 203, .int .i64 0, .int .i64 0, .int .i64 0]) :: [(G + 1 + 1 + 1 + 1, 30, #[.int .i64 0, .int .i64 0, .int .i64 0, .int .i64 0, .int .i64 0, .int .i64 0]), (G + 1 + 1 + 1, 23, #[.int .i64 e0, .int .i64 e1]), (G + 1 + 1, 23, #[.int .i64 a, .int .i64 b]), (G + 1, 30, #[.int .i64 fh, .int .i64 3, .int .i64 x0, .int .i64 x1, .int .i64 d0, .int .i64 d1]), (G, 28, #[.int .i64 id, .int .i64 al, .int .i64 ah, .slice A n c, .slice B mm d, .slice C l ee, .int .i64 t0, .int .i64 t1, .int .i64 u0, .int .i64 u1, .int .i64 v0, .int .i64 v1, .int .i64 h0, .int .i64 h1])] : List (Nat × TypeId × Array Value)) : List (Nat × TypeId × Array Value))) (by kernel_rfl) hS0 (fun hHeld => ?_)
      obtain ⟨W7, hW⟩ : ∃ W', W6.drew = W' := ⟨_, rfl⟩
      rw [hW] at HEd HKd hHeld ⊢
      clear hW hS0 HE6 HK6'
      refine wpAnyH_take (i := 0) (v := .pointer (some ⟨G, 3, none⟩)) rfl (by kernel_rfl) (by kernel_rfl) (by kernel_rfl) (fun _ _ _ h => h) (Or.inl ⟨by kernel_rfl, ?_⟩) hHeld ?_
      · intro w hSw; clear hSw; go_simp; try with_reducible rfl
      change wpAnyH _ _ _ _ _ _ _ (Act.put _ (some 62) _) _
      try simp only [Act.put, List.setIfInBounds_toArray, List.set_cons_zero, List.set_cons_succ]
      refine wpAnyH_take (i := 1) (v := tv A n c) rfl (by kernel_rfl) (by kernel_rfl) (by kernel_rfl) (fun _ _ _ h => h) (Or.inl ⟨by kernel_rfl, ?_⟩) hHeld ?_
      · intro w hSw; have hz := (hSw _ (.tail _ (.tail _ (.tail _ (.tail _ (.tail _ (.tail _ (.head _)))))))); have c3 := hz.cell 3; simp at c3; clear hz hSw; go_simp; try with_reducible rfl
      change wpAnyH _ _ _ _ _ _ _ (Act.put _ (some 63) _) _
      try simp only [Act.put, List.setIfInBounds_toArray, List.set_cons_zero, List.set_cons_succ]
      refine wpAnyH_take (i := 4) (v := .pointer (some ⟨M, 4, none⟩)) rfl (by kernel_rfl) (by kernel_rfl) (by kernel_rfl) (fun _ _ _ h => h) (Or.inl ⟨by kernel_rfl, ?_⟩) hHeld ?_
      · intro w hSw; clear hSw; go_simp; try with_reducible rfl
      change wpAnyH _ _ _ _ _ _ _ (Act.put _ (some 66) _) _
      try simp only [Act.put, List.setIfInBounds_toArray, List.set_cons_zero, List.set_cons_succ]
      refine wpAnyH_take (i := 5) (v := fnV 203) rfl (by kernel_rfl) (by kernel_rfl) (by kernel_rfl) (fun _ _ _ h => h) (Or.inl ⟨by kernel_rfl, ?_⟩) hHeld ?_
      · intro w hSw; have hz := (hSw _ (.tail _ (.head _))); have c4 := hz.cell 4; simp at c4; clear hz hSw; go_simp; try with_reducible rfl
      change wpAnyH _ _ _ _ _ _ _ (Act.put _ (some 67) _) _
      try simp only [Act.put, List.setIfInBounds_toArray, List.set_cons_zero, List.set_cons_succ]
      refine wpAnyH_take (i := 6) (v := .agg #[.int .i64 id, .int .i64 al, .int .i64 ah, .slice A n c, .slice B mm d, .slice C l ee, .int .i64 t0, .int .i64 t1, .int .i64 u0, .int .i64 u1, .int .i64 v0, .int .i64 v1, .int .i64 h0, .int .i64 h1]) rfl (by kernel_rfl) (by kernel_rfl) (by kernel_rfl) (fun _ _ _ h => h) (Or.inl ⟨by kernel_rfl, ?_⟩) hHeld ?_
      · intro w hSw; have hz := (hSw _ (.tail _ (.tail _ (.tail _ (.tail _ (.tail _ (.tail _ (.head _)))))))); have c0 := hz.cell 0; have c1 := hz.cell 1; have c2 := hz.cell 2; have c3 := hz.cell 3; have c4 := hz.cell 4; have c5 := hz.cell 5; have c6 := hz.cell 6; have c7 := hz.cell 7; have c8 := hz.cell 8; have c9 := hz.cell 9; have c10 := hz.cell 10; have c11 := hz.cell 11; have c12 := hz.cell 12; have c13 := hz.cell 13; simp at c0 c1 c2 c3 c4 c5 c6 c7 c8 c9 c10 c11 c12 c13; clear hz hSw; go_simp; try with_reducible rfl
      change wpAnyH _ _ _ _ _ _ _ (Act.put _ (some 68) _) _
      try simp only [Act.put, List.setIfInBounds_toArray, List.set_cons_zero, List.set_cons_succ]
      refine wpAnyH_take (i := 7) (v := .agg #[.int .i64 fh, .int .i64 3, .int .i64 x0, .int .i64 x1, .int .i64 d0, .int .i64 d1]) rfl (by kernel_rfl) (by kernel_rfl) (by kernel_rfl) (fun _ _ _ h => h) (Or.inl ⟨by kernel_rfl, ?_⟩) hHeld ?_
      · intro w hSw; have hz := (hSw _ (.tail _ (.tail _ (.tail _ (.tail _ (.tail _ (.head _))))))); have c0 := hz.cell 0; have c1 := hz.cell 1; have c2 := hz.cell 2; have c3 := hz.cell 3; have c4 := hz.cell 4; have c5 := hz.cell 5; simp at c0 c1 c2 c3 c4 c5; clear hz hSw; go_simp; try with_reducible rfl
      change wpAnyH _ _ _ _ _ _ _ (Act.put _ (some 69) _) _
      try simp only [Act.put, List.setIfInBounds_toArray, List.set_cons_zero, List.set_cons_succ]
      refine wpAnyH_ready (rs := [2, 11]) (by kernel_rfl) (by simp) ?_
      refine AllReadyH.cons rfl (fun K hK => ?_) (AllReadyH.cons rfl (fun K hK => ?_) AllReadyH.nil)
      · skip
        go_simp
        (with_reducible refine (C6.out _ HEd.out).mono ?_)
        rintro e y1 ⟨rfl, hb⟩
        have HE1 := Lib.hid (below_then HEd.out hb); have HK1 := Lib.hid (HKd.out.on hb)
        have hS := hHeld.on hb
        clear hb
        refine hK.out _ _ hS (fun hHeld2 => ?_)
        try simp only [Act.put, List.setIfInBounds_toArray, List.set_cons_zero, List.set_cons_succ]
        clear hS hK K hHeld HEd HKd
        have hHeld := hHeld2
        clear hHeld2
        refine wpAnyH_take (i := 3) (v := .int .i64 f0) rfl (by kernel_rfl) (by kernel_rfl) (by kernel_rfl) (fun _ _ _ h => h) (Or.inl ⟨by kernel_rfl, ?_⟩) hHeld ?_
        · intro w hSw; clear hSw; go_simp; try with_reducible rfl
        change wpAnyH _ _ _ _ _ _ _ (Act.put _ (some 65) _) _
        try simp only [Act.put, List.setIfInBounds_toArray, List.set_cons_zero, List.set_cons_succ]
        refine wpAnyH_ready (rs := [8, 11]) (by kernel_rfl) (by simp) ?_
        refine AllReadyH.cons rfl (fun K hK => ?_) (AllReadyH.cons rfl (fun K hK => ?_) AllReadyH.nil)
        · skip
          go_simp
          (with_reducible refine (C7.out _).mono ?_)
          rintro e y2 ⟨rfl, hb⟩
          have HE2 := Lib.hid (below_then HE1.out hb); have HK2 := Lib.hid (HK1.out.on hb)
          have hS := hHeld.on hb
          clear hb
          refine hK.out _ _ hS (fun hHeld2 => ?_)
          try simp only [Act.put, List.setIfInBounds_toArray, List.set_cons_zero, List.set_cons_succ]
          clear hS hK K hHeld HE1 HK1
          have hHeld := hHeld2
          clear hHeld2
          refine wpAnyH_take (i := 9) (v := .int .i64 x1) rfl (by kernel_rfl) (by kernel_rfl) (by kernel_rfl) (fun _ _ _ h => h) (Or.inl ⟨by kernel_rfl, ?_⟩) hHeld ?_
          · intro w hSw; clear hSw; go_simp; try with_reducible rfl
          change wpAnyH _ _ _ _ _ _ _ (Act.put _ (some 71) _) _
          try simp only [Act.put, List.setIfInBounds_toArray, List.set_cons_zero, List.set_cons_succ]
          refine wpAnyH_take (i := 10) (v := rv f0 x1) rfl (by kernel_rfl) (by kernel_rfl) (by kernel_rfl) (fun _ _ _ h => h) (Or.inl ⟨by kernel_rfl, ?_⟩) hHeld ?_
          · intro w hSw; clear hSw; go_simp; try with_reducible rfl
          change wpAnyH _ _ _ _ _ _ _ (Act.put _ (some 72) _) _
          try simp only [Act.put, List.setIfInBounds_toArray, List.set_cons_zero, List.set_cons_succ]
          refine wpAnyH_ready (rs := [11]) (by kernel_rfl) (by simp) ?_
          refine AllReadyH.cons rfl (fun K hK => ?_) AllReadyH.nil
          go_simp
          have HE3 := Lib.hid (below_then HE2.out (below_alloc1 y2 (.cells #[.int .i64 0, .int .i64 0] 23))); have HK3 := Lib.hid (HK2.out.new 23 #[.int .i64 0, .int .i64 0])
          have hS := hHeld.on (below_alloc1 y2 (.cells #[.int .i64 0, .int .i64 0] 23))
          have HD3 := Lib.hid (boxes_lt HK2.out)
          have HZ3 := Lib.hid HE2.out.size
          refine hK.out _ _ hS (fun hHeld2 => ?_)
          try simp only [Act.put, List.setIfInBounds_toArray, List.set_cons_zero, List.set_cons_succ]
          clear hS hK K hHeld HE2 HK2
          have hHeld := hHeld2
          clear hHeld2
          obtain ⟨y3, hW⟩ : ∃ W', y2.alloc (.cells #[.int .i64 0, .int .i64 0] 23) = W' := ⟨_, rfl⟩
          rw [hW] at HE3 HK3 hHeld ⊢
          clear hW
          obtain ⟨N3, hN⟩ : ∃ N, y2.heap.size = N := ⟨_, rfl⟩
          rw [hN] at HK3 HD3 HZ3 ⊢
          clear hN
          refine wpAnyH_ready (rs := [12]) (by kernel_rfl) (by simp) ?_
          refine AllReadyH.cons rfl (fun K hK => ?_) AllReadyH.nil
          rw [if_pos (by kernel_rfl)]
          have ne4 : ∀ zz ∈ (((V, 23, #[.int .i64 v0', .int .i64 v1']) :: ((M, 113, #[fnV 200, fnV 201, fnV 154, fnV 202, fnV 203, .int .i64 0, .int .i64 0, .int .i64 0]) :: [(G + 1 + 1 + 1 + 1, 30, #[.int .i64 0, .int .i64 0, .int .i64 0, .int .i64 0, .int .i64 0, .int .i64 0]), (G + 1 + 1 + 1, 23, #[.int .i64 e0, .int .i64 e1]), (G + 1 + 1, 23, #[.int .i64 a, .int .i64 b]), (G + 1, 30, #[.int .i64 fh, .int .i64 3, .int .i64 x0, .int .i64 x1, .int .i64 d0, .int .i64 d1]), (G, 28, #[.int .i64 id, .int .i64 al, .int .i64 ah, .slice A n c, .slice B mm d, .slice C l ee, .int .i64 t0, .int .i64 t1, .int .i64 u0, .int .i64 u1, .int .i64 v0, .int .i64 v1, .int .i64 h0, .int .i64 h1])] : List (Nat × TypeId × Array Value)) : List (Nat × TypeId × Array Value)) : List (Nat × TypeId × Array Value)), zz.1 ≠ N3 := HD3.out
          have HK4 : Hid (Boxes (y3.setRow N3 #[.int .i64 f0, .int .i64 x1]) ((N3, 23, #[.int .i64 f0, .int .i64 x1]) :: ((V, 23, #[.int .i64 v0', .int .i64 v1']) :: ((M, 113, #[fnV 200, fnV 201, fnV 154, fnV 202, fnV 203, .int .i64 0, .int .i64 0, .int .i64 0]) :: [(G + 1 + 1 + 1 + 1, 30, #[.int .i64 0, .int .i64 0, .int .i64 0, .int .i64 0, .int .i64 0, .int .i64 0]), (G + 1 + 1 + 1, 23, #[.int .i64 e0, .int .i64 e1]), (G + 1 + 1, 23, #[.int .i64 a, .int .i64 b]), (G + 1, 30, #[.int .i64 fh, .int .i64 3, .int .i64 x0, .int .i64 x1, .int .i64 d0, .int .i64 d1]), (G, 28, #[.int .i64 id, .int .i64 al, .int .i64 ah, .slice A n c, .slice B mm d, .slice C l ee, .int .i64 t0, .int .i64 t1, .int .i64 u0, .int .i64 u1, .int .i64 v0, .int .i64 v1, .int .i64 h0, .int .i64 h1])] : List (Nat × TypeId × Array Value)) : List (Nat × TypeId × Array Value)))) := Lib.hid (Boxes.row HK3.out (.head _) (fun p hp => ⟨.tail _ hp, ne4 p hp⟩) #[.int .i64 f0, .int .i64 x1])
          have HE4 := Lib.hid (below_setRow HE3.out (show w.heap.size ≤ N3 from HZ3.out) #[.int .i64 f0, .int .i64 x1])
          have hS := hHeld.farRow (g := N3) (fun p hp => ne4 p (hp)) #[.int .i64 f0, .int .i64 x1]
          refine wp_store_row 23 (.tmp 16) (.tmp 72) rfl N3 #[.int .i64 f0, .int .i64 x1] rfl rfl 23 _ (HK3.out _ (.head _)) (by kernel_rfl) rfl (by kernel_rfl) ?_
          obtain ⟨y4, hW⟩ : ∃ W', y3.setRow N3 #[.int .i64 f0, .int .i64 x1] = W' := ⟨_, rfl⟩
          rw [hW] at HE4 HK4 hS ⊢
          refine hK.out _ _ hS (fun hHeld2 => ?_)
          try simp only [Act.put, List.setIfInBounds_toArray, List.set_cons_zero, List.set_cons_succ]
          clear hW hS hK K hHeld ne4 HE3 HK3
          have hHeld := hHeld2
          clear hHeld2
          refine wpAnyH_done (by kernel_rfl) ?_ _
          go_wp2_with fail
          go_meet
          exact ⟨N3, rfl, HK4.out, HE4.out, HD3.out (_, _, _) (.tail _ (.tail _ (.head _)))⟩
        · skip
          go_simp
          have HE5 := Lib.hid (below_then HE1.out (below_alloc1 y1 (.cells #[.int .i64 0, .int .i64 0] 23))); have HK5 := Lib.hid (HK1.out.new 23 #[.int .i64 0, .int .i64 0])
          have hS := hHeld.on (below_alloc1 y1 (.cells #[.int .i64 0, .int .i64 0] 23))
          have HD5 := Lib.hid (boxes_lt HK1.out)
          have HZ5 := Lib.hid HE1.out.size
          refine hK.out _ _ hS (fun hHeld2 => ?_)
          try simp only [Act.put, List.setIfInBounds_toArray, List.set_cons_zero, List.set_cons_succ]
          clear hS hK K hHeld HE1 HK1
          have hHeld := hHeld2
          clear hHeld2
          obtain ⟨y5, hW⟩ : ∃ W', y1.alloc (.cells #[.int .i64 0, .int .i64 0] 23) = W' := ⟨_, rfl⟩
          rw [hW] at HE5 HK5 hHeld ⊢
          clear hW
          obtain ⟨N5, hN⟩ : ∃ N, y1.heap.size = N := ⟨_, rfl⟩
          rw [hN] at HK5 HD5 HZ5 ⊢
          clear hN
          refine wpAnyH_ready (rs := [8]) (by kernel_rfl) (by simp) ?_
          refine AllReadyH.cons rfl (fun K hK => ?_) AllReadyH.nil
          go_simp
          (with_reducible refine (C7.out _).mono ?_)
          rintro e y6 ⟨rfl, hb⟩
          have HE6 := Lib.hid (below_then HE5.out hb); have HK6 := Lib.hid (HK5.out.on hb)
          have hS := hHeld.on hb
          clear hb
          refine hK.out _ _ hS (fun hHeld2 => ?_)
          try simp only [Act.put, List.setIfInBounds_toArray, List.set_cons_zero, List.set_cons_succ]
          clear hS hK K hHeld HE5 HK5
          have hHeld := hHeld2
          clear hHeld2
          refine wpAnyH_take (i := 9) (v := .int .i64 x1) rfl (by kernel_rfl) (by kernel_rfl) (by kernel_rfl) (fun _ _ _ h => h) (Or.inl ⟨by kernel_rfl, ?_⟩) hHeld ?_
          · intro w hSw; clear hSw; go_simp; try with_reducible rfl
          change wpAnyH _ _ _ _ _ _ _ (Act.put _ (some 71) _) _
          try simp only [Act.put, List.setIfInBounds_toArray, List.set_cons_zero, List.set_cons_succ]
          refine wpAnyH_take (i := 10) (v := rv f0 x1) rfl (by kernel_rfl) (by kernel_rfl) (by kernel_rfl) (fun _ _ _ h => h) (Or.inl ⟨by kernel_rfl, ?_⟩) hHeld ?_
          · intro w hSw; clear hSw; go_simp; try with_reducible rfl
          change wpAnyH _ _ _ _ _ _ _ (Act.put _ (some 72) _) _
          try simp only [Act.put, List.setIfInBounds_toArray, List.set_cons_zero, List.set_cons_succ]
          refine wpAnyH_ready (rs := [12]) (by kernel_rfl) (by simp) ?_
          refine AllReadyH.cons rfl (fun K hK => ?_) AllReadyH.nil
          rw [if_pos (by kernel_rfl)]
          have ne7 : ∀ zz ∈ (((V, 23, #[.int .i64 v0', .int .i64 v1']) :: ((M, 113, #[fnV 200, fnV 201, fnV 154, fnV 202, fnV 203, .int .i64 0, .int .i64 0, .int .i64 0]) :: [(G + 1 + 1 + 1 + 1, 30, #[.int .i64 0, .int .i64 0, .int .i64 0, .int .i64 0, .int .i64 0, .int .i64 0]), (G + 1 + 1 + 1, 23, #[.int .i64 e0, .int .i64 e1]), (G + 1 + 1, 23, #[.int .i64 a, .int .i64 b]), (G + 1, 30, #[.int .i64 fh, .int .i64 3, .int .i64 x0, .int .i64 x1, .int .i64 d0, .int .i64 d1]), (G, 28, #[.int .i64 id, .int .i64 al, .int .i64 ah, .slice A n c, .slice B mm d, .slice C l ee, .int .i64 t0, .int .i64 t1, .int .i64 u0, .int .i64 u1, .int .i64 v0, .int .i64 v1, .int .i64 h0, .int .i64 h1])] : List (Nat × TypeId × Array Value)) : List (Nat × TypeId × Array Value)) : List (Nat × TypeId × Array Value)), zz.1 ≠ N5 := HD5.out
          have HK7 : Hid (Boxes (y6.setRow N5 #[.int .i64 f0, .int .i64 x1]) ((N5, 23, #[.int .i64 f0, .int .i64 x1]) :: ((V, 23, #[.int .i64 v0', .int .i64 v1']) :: ((M, 113, #[fnV 200, fnV 201, fnV 154, fnV 202, fnV 203, .int .i64 0, .int .i64 0, .int .i64 0]) :: [(G + 1 + 1 + 1 + 1, 30, #[.int .i64 0, .int .i64 0, .int .i64 0, .int .i64 0, .int .i64 0, .int .i64 0]), (G + 1 + 1 + 1, 23, #[.int .i64 e0, .int .i64 e1]), (G + 1 + 1, 23, #[.int .i64 a, .int .i64 b]), (G + 1, 30, #[.int .i64 fh, .int .i64 3, .int .i64 x0, .int .i64 x1, .int .i64 d0, .int .i64 d1]), (G, 28, #[.int .i64 id, .int .i64 al, .int .i64 ah, .slice A n c, .slice B mm d, .slice C l ee, .int .i64 t0, .int .i64 t1, .int .i64 u0, .int .i64 u1, .int .i64 v0, .int .i64 v1, .int .i64 h0, .int .i64 h1])] : List (Nat × TypeId × Array Value)) : List (Nat × TypeId × Array Value)))) := Lib.hid (Boxes.row HK6.out (.head _) (fun p hp => ⟨.tail _ hp, ne7 p hp⟩) #[.int .i64 f0, .int .i64 x1])
          have HE7 := Lib.hid (below_setRow HE6.out (show w.heap.size ≤ N5 from HZ5.out) #[.int .i64 f0, .int .i64 x1])
          have hS := hHeld.farRow (g := N5) (fun p hp => ne7 p (hp)) #[.int .i64 f0, .int .i64 x1]
          refine wp_store_row 23 (.tmp 16) (.tmp 72) rfl N5 #[.int .i64 f0, .int .i64 x1] rfl rfl 23 _ (HK6.out _ (.head _)) (by kernel_rfl) rfl (by kernel_rfl) ?_
          obtain ⟨y7, hW⟩ : ∃ W', y6.setRow N5 #[.int .i64 f0, .int .i64 x1] = W' := ⟨_, rfl⟩
          rw [hW] at HE7 HK7 hS ⊢
          refine hK.out _ _ hS (fun hHeld2 => ?_)
          try simp only [Act.put, List.setIfInBounds_toArray, List.set_cons_zero, List.set_cons_succ]
          clear hW hS hK K hHeld ne7 HE6 HK6
          have hHeld := hHeld2
          clear hHeld2
          refine wpAnyH_done (by kernel_rfl) ?_ _
          go_wp2_with fail
          go_meet
          exact ⟨N5, rfl, HK7.out, HE7.out, HD5.out (_, _, _) (.tail _ (.tail _ (.head _)))⟩
      · skip
        go_simp
        have HE8 := Lib.hid (below_then HEd.out (below_alloc1 W7 (.cells #[.int .i64 0, .int .i64 0] 23))); have HK8 := Lib.hid (HKd.out.new 23 #[.int .i64 0, .int .i64 0])
        have hS := hHeld.on (below_alloc1 W7 (.cells #[.int .i64 0, .int .i64 0] 23))
        have HD8 := Lib.hid (boxes_lt HKd.out)
        have HZ8 := Lib.hid HEd.out.size
        refine hK.out _ _ hS (fun hHeld2 => ?_)
        try simp only [Act.put, List.setIfInBounds_toArray, List.set_cons_zero, List.set_cons_succ]
        clear hS hK K hHeld HEd HKd
        have hHeld := hHeld2
        clear hHeld2
        obtain ⟨y8, hW⟩ : ∃ W', W7.alloc (.cells #[.int .i64 0, .int .i64 0] 23) = W' := ⟨_, rfl⟩
        rw [hW] at HE8 HK8 hHeld ⊢
        clear hW
        obtain ⟨N8, hN⟩ : ∃ N, W7.heap.size = N := ⟨_, rfl⟩
        rw [hN] at HK8 HD8 HZ8 ⊢
        clear hN
        refine wpAnyH_ready (rs := [2]) (by kernel_rfl) (by simp) ?_
        refine AllReadyH.cons rfl (fun K hK => ?_) AllReadyH.nil
        go_simp
        (with_reducible refine (C6.out _ HE8.out).mono ?_)
        rintro e y9 ⟨rfl, hb⟩
        have HE9 := Lib.hid (below_then HE8.out hb); have HK9 := Lib.hid (HK8.out.on hb)
        have hS := hHeld.on hb
        clear hb
        refine hK.out _ _ hS (fun hHeld2 => ?_)
        try simp only [Act.put, List.setIfInBounds_toArray, List.set_cons_zero, List.set_cons_succ]
        clear hS hK K hHeld HE8 HK8
        have hHeld := hHeld2
        clear hHeld2
        refine wpAnyH_take (i := 3) (v := .int .i64 f0) rfl (by kernel_rfl) (by kernel_rfl) (by kernel_rfl) (fun _ _ _ h => h) (Or.inl ⟨by kernel_rfl, ?_⟩) hHeld ?_
        · intro w hSw; clear hSw; go_simp; try with_reducible rfl
        change wpAnyH _ _ _ _ _ _ _ (Act.put _ (some 65) _) _
        try simp only [Act.put, List.setIfInBounds_toArray, List.set_cons_zero, List.set_cons_succ]
        refine wpAnyH_ready (rs := [8]) (by kernel_rfl) (by simp) ?_
        refine AllReadyH.cons rfl (fun K hK => ?_) AllReadyH.nil
        go_simp
        (with_reducible refine (C7.out _).mono ?_)
        rintro e y10 ⟨rfl, hb⟩
        have HE10 := Lib.hid (below_then HE9.out hb); have HK10 := Lib.hid (HK9.out.on hb)
        have hS := hHeld.on hb
        clear hb
        refine hK.out _ _ hS (fun hHeld2 => ?_)
        try simp only [Act.put, List.setIfInBounds_toArray, List.set_cons_zero, List.set_cons_succ]
        clear hS hK K hHeld HE9 HK9
        have hHeld := hHeld2
        clear hHeld2
        refine wpAnyH_take (i := 9) (v := .int .i64 x1) rfl (by kernel_rfl) (by kernel_rfl) (by kernel_rfl) (fun _ _ _ h => h) (Or.inl ⟨by kernel_rfl, ?_⟩) hHeld ?_
        · intro w hSw; clear hSw; go_simp; try with_reducible rfl
        change wpAnyH _ _ _ _ _ _ _ (Act.put _ (some 71) _) _
        try simp only [Act.put, List.setIfInBounds_toArray, List.set_cons_zero, List.set_cons_succ]
        refine wpAnyH_take (i := 10) (v := rv f0 x1) rfl (by kernel_rfl) (by kernel_rfl) (by kernel_rfl) (fun _ _ _ h => h) (Or.inl ⟨by kernel_rfl, ?_⟩) hHeld ?_
        · intro w hSw; clear hSw; go_simp; try with_reducible rfl
        change wpAnyH _ _ _ _ _ _ _ (Act.put _ (some 72) _) _
        try simp only [Act.put, List.setIfInBounds_toArray, List.set_cons_zero, List.set_cons_succ]
        refine wpAnyH_ready (rs := [12]) (by kernel_rfl) (by simp) ?_
        refine AllReadyH.cons rfl (fun K hK => ?_) AllReadyH.nil
        rw [if_pos (by kernel_rfl)]
        have ne11 : ∀ zz ∈ (((V, 23, #[.int .i64 v0', .int .i64 v1']) :: ((M, 113, #[fnV 200, fnV 201, fnV 154, fnV 202, fnV 203, .int .i64 0, .int .i64 0, .int .i64 0]) :: [(G + 1 + 1 + 1 + 1, 30, #[.int .i64 0, .int .i64 0, .int .i64 0, .int .i64 0, .int .i64 0, .int .i64 0]), (G + 1 + 1 + 1, 23, #[.int .i64 e0, .int .i64 e1]), (G + 1 + 1, 23, #[.int .i64 a, .int .i64 b]), (G + 1, 30, #[.int .i64 fh, .int .i64 3, .int .i64 x0, .int .i64 x1, .int .i64 d0, .int .i64 d1]), (G, 28, #[.int .i64 id, .int .i64 al, .int .i64 ah, .slice A n c, .slice B mm d, .slice C l ee, .int .i64 t0, .int .i64 t1, .int .i64 u0, .int .i64 u1, .int .i64 v0, .int .i64 v1, .int .i64 h0, .int .i64 h1])] : List (Nat × TypeId × Array Value)) : List (Nat × TypeId × Array Value)) : List (Nat × TypeId × Array Value)), zz.1 ≠ N8 := HD8.out
        have HK11 : Hid (Boxes (y10.setRow N8 #[.int .i64 f0, .int .i64 x1]) ((N8, 23, #[.int .i64 f0, .int .i64 x1]) :: ((V, 23, #[.int .i64 v0', .int .i64 v1']) :: ((M, 113, #[fnV 200, fnV 201, fnV 154, fnV 202, fnV 203, .int .i64 0, .int .i64 0, .int .i64 0]) :: [(G + 1 + 1 + 1 + 1, 30, #[.int .i64 0, .int .i64 0, .int .i64 0, .int .i64 0, .int .i64 0, .int .i64 0]), (G + 1 + 1 + 1, 23, #[.int .i64 e0, .int .i64 e1]), (G + 1 + 1, 23, #[.int .i64 a, .int .i64 b]), (G + 1, 30, #[.int .i64 fh, .int .i64 3, .int .i64 x0, .int .i64 x1, .int .i64 d0, .int .i64 d1]), (G, 28, #[.int .i64 id, .int .i64 al, .int .i64 ah, .slice A n c, .slice B mm d, .slice C l ee, .int .i64 t0, .int .i64 t1, .int .i64 u0, .int .i64 u1, .int .i64 v0, .int .i64 v1, .int .i64 h0, .int .i64 h1])] : List (Nat × TypeId × Array Value)) : List (Nat × TypeId × Array Value)))) := Lib.hid (Boxes.row HK10.out (.head _) (fun p hp => ⟨.tail _ hp, ne11 p hp⟩) #[.int .i64 f0, .int .i64 x1])
        have HE11 := Lib.hid (below_setRow HE10.out (show w.heap.size ≤ N8 from HZ8.out) #[.int .i64 f0, .int .i64 x1])
        have hS := hHeld.farRow (g := N8) (fun p hp => ne11 p (hp)) #[.int .i64 f0, .int .i64 x1]
        refine wp_store_row 23 (.tmp 16) (.tmp 72) rfl N8 #[.int .i64 f0, .int .i64 x1] rfl rfl 23 _ (HK10.out _ (.head _)) (by kernel_rfl) rfl (by kernel_rfl) ?_
        obtain ⟨y11, hW⟩ : ∃ W', y10.setRow N8 #[.int .i64 f0, .int .i64 x1] = W' := ⟨_, rfl⟩
        rw [hW] at HE11 HK11 hS ⊢
        refine hK.out _ _ hS (fun hHeld2 => ?_)
        try simp only [Act.put, List.setIfInBounds_toArray, List.set_cons_zero, List.set_cons_succ]
        clear hW hS hK K hHeld ne11 HE10 HK10
        have hHeld := hHeld2
        clear hHeld2
        refine wpAnyH_done (by kernel_rfl) ?_ _
        go_wp2_with fail
        go_meet
        exact ⟨N8, rfl, HK11.out, HE11.out, HD8.out (_, _, _) (.tail _ (.tail _ (.head _)))⟩
    case rest =>
      obtain ⟨N3, rfl, hB, hE, n3⟩ := hcut
      rename World => W8
      have HE8 := Lib.hid hE
      have HK8 := Lib.hid hB
      have HN3 := Lib.hid n3
      clear hB hE n3 HE6 HK6' C6 C7
      go_upto_region 15 with fail
      have HK8' : Hid (Boxes W8 [(N3, 23, #[.int .i64 f0, .int .i64 x1]), (V, 23, #[.int .i64 v0', .int .i64 v1']), (M, 113, #[fnV 200, fnV 201, fnV 154, fnV 202, fnV 203, .int .i64 0, .int .i64 0, .int .i64 0]), (G + 1 + 1 + 1, 23, #[.int .i64 e0, .int .i64 e1]), (G + 1 + 1, 23, #[.int .i64 a, .int .i64 b]), (G + 1, 30, #[.int .i64 fh, .int .i64 3, .int .i64 x0, .int .i64 x1, .int .i64 d0, .int .i64 d1]), (G, 28, #[.int .i64 id, .int .i64 al, .int .i64 ah, .slice A n c, .slice B mm d, .slice C l ee, .int .i64 t0, .int .i64 t1, .int .i64 u0, .int .i64 u1, .int .i64 v0, .int .i64 v1, .int .i64 h0, .int .i64 h1])]) := Lib.hid (HK8.out.sub (fun x hx => by
        simp only [List.mem_cons, List.not_mem_nil, or_false] at hx ⊢
        rcases hx with h | h | h | h | h | h | h <;> simp [h]))
      have HK9 : Hid (Blk W8 (G + 1 + 1 + 1 + 1) 30 #[.int .i64 0, .int .i64 0, .int .i64 0, .int .i64 0, .int .i64 0, .int .i64 0]) := Lib.hid (HK8.out _ (.tail _ (.tail _ (.tail _ (.head _)))))
      have hne : ∀ zz ∈ ([(N3, 23, #[.int .i64 f0, .int .i64 x1]), (V, 23, #[.int .i64 v0', .int .i64 v1']), (M, 113, #[fnV 200, fnV 201, fnV 154, fnV 202, fnV 203, .int .i64 0, .int .i64 0, .int .i64 0]), (G + 1 + 1 + 1, 23, #[.int .i64 e0, .int .i64 e1]), (G + 1 + 1, 23, #[.int .i64 a, .int .i64 b]), (G + 1, 30, #[.int .i64 fh, .int .i64 3, .int .i64 x0, .int .i64 x1, .int .i64 d0, .int .i64 d1]), (G, 28, #[.int .i64 id, .int .i64 al, .int .i64 ah, .slice A n c, .slice B mm d, .slice C l ee, .int .i64 t0, .int .i64 t1, .int .i64 u0, .int .i64 u1, .int .i64 v0, .int .i64 v1, .int .i64 h0, .int .i64 h1])] : List (Nat × TypeId × Array Value)), zz.1 ≠ (G + 1 + 1 + 1 + 1) := by
        have a1 := HN3.out; have a2 := HV4.out; have a3 := HD3.out (_, _, _) (.head _)
        intro zz hz
        simp only [List.mem_cons, List.not_mem_nil, or_false] at hz
        rcases hz with h | h | h | h | h | h | h <;> (rw [h]; dsimp only at a1 a2 a3 ⊢; omega)
      have HNE := Lib.hid hne
      clear hne HK8
      have hS0 : Boxes W8.drew [(N3, 23, #[.int .i64 f0, .int .i64 x1]), (V, 23, #[.int .i64 v0', .int .i64 v1']), (M, 113, #[fnV 200, fnV 201, fnV 154, fnV 202, fnV 203, .int .i64 0, .int .i64 0, .int .i64 0]), (G + 1 + 1 + 1, 23, #[.int .i64 e0, .int .i64 e1]), (G + 1 + 1, 23, #[.int .i64 a, .int .i64 b]), (G + 1, 30, #[.int .i64 fh, .int .i64 3, .int .i64 x0, .int .i64 x1, .int .i64 d0, .int .i64 d1]), (G, 28, #[.int .i64 id, .int .i64 al, .int .i64 ah, .slice A n c, .slice B mm d, .slice C l ee, .int .i64 t0, .int .i64 t1, .int .i64 u0, .int .i64 u1, .int .i64 v0, .int .i64 v1, .int .i64 h0, .int .i64 h1])] := HK8'.out
      have HEd := Lib.hid HE8.out.drew
      have HKd : Hid (Blk W8.drew (G + 1 + 1 + 1 + 1) 30 #[.int .i64 0, .int .i64 0, .int .i64 0, .int .i64 0, .int .i64 0, .int .i64 0]) := Lib.hid HK9.out.drew
      refine wp_region_held_drew (S := fun w' => Boxes w' [(N3, 23, #[.int .i64 f0, .int .i64 x1]), (V, 23, #[.int .i64 v0', .int .i64 v1']), (M, 113, #[fnV 200, fnV 201, fnV 154, fnV 202, fnV 203, .int .i64 0, .int .i64 0, .int .i64 0]), (G + 1 + 1 + 1, 23, #[.int .i64 e0, .int .i64 e1]), (G + 1 + 1, 23, #[.int .i64 a, .int .i64 b]), (G + 1, 30, #[.int .i64 fh, .int .i64 3, .int .i64 x0, .int .i64 x1, .int .i64 d0, .int .i64 d1]), (G, 28, #[.int .i64 id, .int .i64 al, .int .i64 ah, .slice A n c, .slice B mm d, .slice C l ee, .int .i64 t0, .int .i64 t1, .int .i64 u0, .int .i64 u1, .int .i64 v0, .int .i64 v1, .int .i64 h0, .int .i64 h1])]) (by kernel_rfl) hS0 (fun hHeld => ?_)
      obtain ⟨W9, hW⟩ : ∃ W', W8.drew = W' := ⟨_, rfl⟩
      rw [hW] at HEd HKd hHeld ⊢
      clear hW hS0 HE8 HK8'
      clear HK9
      refine wpAnyH_take (i := 0) (v := .agg #[.int .i64 id, .int .i64 al, .int .i64 ah, .slice A n c, .slice B mm d, .slice C l ee, .int .i64 t0, .int .i64 t1, .int .i64 u0, .int .i64 u1, .int .i64 v0, .int .i64 v1, .int .i64 h0, .int .i64 h1]) rfl (by kernel_rfl) (by kernel_rfl) (by kernel_rfl) (fun _ _ _ h => h) (Or.inl ⟨by kernel_rfl, ?_⟩) hHeld ?_
      · intro w hSw; have hz := (hSw _ (.tail _ (.tail _ (.tail _ (.tail _ (.tail _ (.tail _ (.head _)))))))); have c0 := hz.cell 0; have c1 := hz.cell 1; have c2 := hz.cell 2; have c3 := hz.cell 3; have c4 := hz.cell 4; have c5 := hz.cell 5; have c6 := hz.cell 6; have c7 := hz.cell 7; have c8 := hz.cell 8; have c9 := hz.cell 9; have c10 := hz.cell 10; have c11 := hz.cell 11; have c12 := hz.cell 12; have c13 := hz.cell 13; simp at c0 c1 c2 c3 c4 c5 c6 c7 c8 c9 c10 c11 c12 c13; clear hz hSw; go_simp; try with_reducible rfl
      change wpAnyH _ _ _ _ _ _ _ (Act.put _ (some 73) _) _
      try simp only [Act.put, List.setIfInBounds_toArray, List.set_cons_zero, List.set_cons_succ]
      refine wpAnyH_take (i := 1) (v := rv v0' v1') rfl (by kernel_rfl) (by kernel_rfl) (by kernel_rfl) (fun _ _ _ h => h) (Or.inl ⟨by kernel_rfl, ?_⟩) hHeld ?_
      · intro w hSw; have hz := (hSw _ (.tail _ (.head _))); have c0 := hz.cell 0; have c1 := hz.cell 1; simp at c0 c1; clear hz hSw; go_simp; try with_reducible rfl
      change wpAnyH _ _ _ _ _ _ _ (Act.put _ (some 74) _) _
      try simp only [Act.put, List.setIfInBounds_toArray, List.set_cons_zero, List.set_cons_succ]
      refine wpAnyH_take (i := 2) (v := rv f0 x1) rfl (by kernel_rfl) (by kernel_rfl) (by kernel_rfl) (fun _ _ _ h => h) (Or.inl ⟨by kernel_rfl, ?_⟩) hHeld ?_
      · intro w hSw; have hz := (hSw _ (.head _)); have c0 := hz.cell 0; have c1 := hz.cell 1; simp at c0 c1; clear hz hSw; go_simp; try with_reducible rfl
      change wpAnyH _ _ _ _ _ _ _ (Act.put _ (some 75) _) _
      try simp only [Act.put, List.setIfInBounds_toArray, List.set_cons_zero, List.set_cons_succ]
      refine wpAnyH_take (i := 3) (v := .pointer (some ⟨G + 1, 4, none⟩)) rfl (by kernel_rfl) (by kernel_rfl) (by kernel_rfl) (fun _ _ _ h => h) (Or.inl ⟨by kernel_rfl, ?_⟩) hHeld ?_
      · intro w hSw; clear hSw; go_simp; try with_reducible rfl
      change wpAnyH _ _ _ _ _ _ _ (Act.put _ (some 76) _) _
      try simp only [Act.put, List.setIfInBounds_toArray, List.set_cons_zero, List.set_cons_succ]
      refine wpAnyH_take (i := 4) (v := rv d0 d1) rfl (by kernel_rfl) (by kernel_rfl) (by kernel_rfl) (fun _ _ _ h => h) (Or.inl ⟨by kernel_rfl, ?_⟩) hHeld ?_
      · intro w hSw; have hz := (hSw _ (.tail _ (.tail _ (.tail _ (.tail _ (.tail _ (.head _))))))); have c4 := hz.cell 4; have c5 := hz.cell 5; simp at c4 c5; clear hz hSw; go_simp; try with_reducible rfl
      change wpAnyH _ _ _ _ _ _ _ (Act.put _ (some 77) _) _
      try simp only [Act.put, List.setIfInBounds_toArray, List.set_cons_zero, List.set_cons_succ]
      refine wpAnyH_take (i := 5) (v := rv e0 e1) rfl (by kernel_rfl) (by kernel_rfl) (by kernel_rfl) (fun _ _ _ h => h) (Or.inl ⟨by kernel_rfl, ?_⟩) hHeld ?_
      · intro w hSw; have hz := (hSw _ (.tail _ (.tail _ (.tail _ (.head _))))); have c0 := hz.cell 0; have c1 := hz.cell 1; simp at c0 c1; clear hz hSw; go_simp; try with_reducible rfl
      change wpAnyH _ _ _ _ _ _ _ (Act.put _ (some 78) _) _
      try simp only [Act.put, List.setIfInBounds_toArray, List.set_cons_zero, List.set_cons_succ]
      refine wpAnyH_ready (rs := [6]) (by kernel_rfl) (by simp) ?_
      refine AllReadyH.cons rfl (fun K hK => ?_) AllReadyH.nil
      go_simp
      (with_reducible refine (C8.out _).mono ?_)
      rintro e ya ⟨rfl, hb⟩
      have HEa := Lib.hid (below_then HEd.out hb); have HKa := Lib.hid (blkOn HKd.out hb)
      have hS := hHeld.on hb
      clear hb
      refine hK.out _ _ (hS) (fun hHeld2 => ?_)
      try simp only [Act.put, List.setIfInBounds_toArray, List.set_cons_zero, List.set_cons_succ]
      clear hK K hHeld
      have hHeld := hHeld2
      clear hHeld2
      clear hS HEd HKd
      refine wpAnyH_ready (rs := [7]) (by kernel_rfl) (by simp) ?_
      refine AllReadyH.cons rfl (fun K hK => ?_) AllReadyH.nil
      go_simp
      (with_reducible refine (C9.out _ HEa.out).mono ?_)
      rintro e yb ⟨rfl, hb⟩
      have HEb := Lib.hid (below_then HEa.out hb); have HKb := Lib.hid (blkOn HKa.out hb)
      have hS := hHeld.on hb
      clear hb
      refine hK.out _ _ (hS) (fun hHeld2 => ?_)
      try simp only [Act.put, List.setIfInBounds_toArray, List.set_cons_zero, List.set_cons_succ]
      clear hK K hHeld
      have hHeld := hHeld2
      clear hHeld2
      clear hS HEa HKa
      refine wpAnyH_take (i := 8) (v := .agg #[.int .i64 ff0, .int .i64 ff1, .int .i64 ff2, .int .i64 ff3, .int .i64 ff4, .int .i64 ff5]) rfl (by kernel_rfl) (by kernel_rfl) (by kernel_rfl) (fun _ _ _ h => h) (Or.inl ⟨by kernel_rfl, ?_⟩) hHeld ?_
      · intro w hSw; clear hSw; go_simp; try with_reducible rfl
      change wpAnyH _ _ _ _ _ _ _ (Act.put _ (some 81) _) _
      try simp only [Act.put, List.setIfInBounds_toArray, List.set_cons_zero, List.set_cons_succ]
      refine wpAnyH_take (i := 9) (v := .int .i64 re) rfl (by kernel_rfl) (by kernel_rfl) (by kernel_rfl) (fun _ _ _ h => h) (Or.inl ⟨by kernel_rfl, ?_⟩) hHeld ?_
      · intro w hSw; clear hSw; go_simp; try with_reducible rfl
      change wpAnyH _ _ _ _ _ _ _ (Act.put _ (some 82) _) _
      try simp only [Act.put, List.setIfInBounds_toArray, List.set_cons_zero, List.set_cons_succ]
      refine wpAnyH_ready (rs := [10]) (by kernel_rfl) (by simp) ?_
      refine AllReadyH.cons rfl (fun K hK => ?_) AllReadyH.nil
      rw [if_pos (by kernel_rfl)]
      have HKR : Hid (Blk (yb.setRow (G + 1 + 1 + 1 + 1) #[.int .i64 ff0, .int .i64 ff1, .int .i64 ff2, .int .i64 ff3, .int .i64 ff4, .int .i64 ff5]) (G + 1 + 1 + 1 + 1) 30 #[.int .i64 ff0, .int .i64 ff1, .int .i64 ff2, .int .i64 ff3, .int .i64 ff4, .int .i64 ff5]) := Lib.hid (setRow_heap yb (G + 1 + 1 + 1 + 1) _ _ 30 _ HKb.out)
      have HE9 := Lib.hid (below_setRow HEb.out (show w.heap.size ≤ G + 1 + 1 + 1 + 1 by have := HG.out; omega) #[.int .i64 ff0, .int .i64 ff1, .int .i64 ff2, .int .i64 ff3, .int .i64 ff4, .int .i64 ff5])
      have hS := hHeld.farRow (g := (G + 1 + 1 + 1 + 1)) HNE.out #[.int .i64 ff0, .int .i64 ff1, .int .i64 ff2, .int .i64 ff3, .int .i64 ff4, .int .i64 ff5]
      refine wp_store_row 30 (.tmp 8) (.tmp 81) rfl (G + 1 + 1 + 1 + 1) #[.int .i64 ff0, .int .i64 ff1, .int .i64 ff2, .int .i64 ff3, .int .i64 ff4, .int .i64 ff5] rfl rfl 30 _ HKb.out (by kernel_rfl) rfl (by kernel_rfl) ?_
      obtain ⟨Wz, hW⟩ : ∃ W', yb.setRow (G + 1 + 1 + 1 + 1) #[.int .i64 ff0, .int .i64 ff1, .int .i64 ff2, .int .i64 ff3, .int .i64 ff4, .int .i64 ff5] = W' := ⟨_, rfl⟩
      rw [hW] at HKR HE9 hS ⊢
      refine hK.out _ _ hS (fun hHeld2 => ?_)
      try simp only [Act.put, List.setIfInBounds_toArray, List.set_cons_zero, List.set_cons_succ]
      clear hW hS hK K hHeld HKb HEb
      have hHeld := hHeld2
      clear hHeld2
      refine wpAnyH_take (i := 11) (v := .int .i64 re) rfl (by kernel_rfl) (by kernel_rfl) (by kernel_rfl) (fun _ _ _ h => h) (Or.inl ⟨by kernel_rfl, ?_⟩) hHeld ?_
      · intro w hSw; clear hSw; go_simp; try with_reducible rfl
      change wpAnyH _ _ _ _ _ _ _ (Act.put _ (some 9) _) _
      try simp only [Act.put, List.setIfInBounds_toArray, List.set_cons_zero, List.set_cons_succ]
      refine wpAnyH_done (by kernel_rfl) ?_ _
      clear hHeld
      go_wp2
      exact bodyPost_ret (v := .tuple #[.agg #[.int .i64 ff0, .int .i64 ff1, .int .i64 ff2, .int .i64 ff3, .int .i64 ff4, .int .i64 ff5], .int .i64 re]) (results_cell_tmp_row Tryz.results50 _ _ (G + 1 + 1 + 1 + 1) 30 #[.int .i64 ff0, .int .i64 ff1, .int .i64 ff2, .int .i64 ff3, .int .i64 ff4, .int .i64 ff5] (0, 0) _ _ rfl rfl HKR.out Tryz.underlying30 rfl (by kernel_rfl)) rfl ⟨rfl, HE9.out⟩
end

end Go.Proofs.YtmdilbmgopggaaaGreat
