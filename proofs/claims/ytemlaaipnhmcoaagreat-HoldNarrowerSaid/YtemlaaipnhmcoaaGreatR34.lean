/- The contract of Pour (hold) where the fill is one in part, and all arguments are valid. Its condition: the hold's tables lie in memory. -/
import Derived.Deep.WholeRow
import Derived.Test.YtemlaaipnhmcoaaGreatR25
import Derived.Test.YtemlaaipnhmcoaaGreatR33
import Derived.Test.YtemlaaipnhmcoaaGreatQ98
set_option linter.unusedVariables false
set_option linter.unusedSimpArgs false
set_option linter.constructorNameAsVariable false
namespace Go.Proofs.YtemlaaipnhmcoaaGreat

section
open Go.RowKit

theorem boxes_lt {W : World} {L : List (Nat × TypeId × Array Value)} (h : Boxes W L) : ∀ p ∈ L, p.1 ≠ W.heap.size := fun p hp => Nat.ne_of_lt (h p hp).lt
theorem Boxes.sub {W : World} {L L' : List (Nat × TypeId × Array Value)} (h : Boxes W L) (hs : ∀ x ∈ L', x ∈ L) : Boxes W L' := fun p hp => h p (hs p hp)
theorem Boxes.row {W : World} {L L' : List (Nat × TypeId × Array Value)} (h : Boxes W L) {g : Nat} {t : TypeId} {old : Array Value} (hm : (g, t, old) ∈ L) (hs : ∀ p ∈ L', p ∈ L ∧ p.1 ≠ g) (cs : Array Value) :
    Boxes (W.setRow g cs) ((g, t, cs) :: L') := fun p hp => by
  rcases List.mem_cons.1 hp with rfl | hp
  · exact setRow_heap W g _ _ t _ (h _ hm)
  · exact (h p (hs p hp).1).farRow (hs p hp).2 cs

set_option maxRecDepth 100000 in
set_option maxHeartbeats 4000000 in
theorem pour_walk (vol mom hei : List P3) (id al ah t0 t1 u0 u1 v0 v1 h0 h1 : Int) (A B C : Option Addr) (n c mm d l ee : Nat) (fh st x0 x1 d0 d1 a b e0 e1 p q r s v0' v1' up uq de se : Int) (ja kv jc jd ks : Nat) (w : World) (hi : HoldIn w ⟨id, al, ah, vol, mom, hei, t0, t1, u0, u1, v0, v1, h0, h1⟩ ⟨A, n, c, B, mm, d, C, l, ee⟩)
  (g1 : fillErr ⟨id, al, ah, vol, mom, hei, t0, t1, u0, u1, v0, v1, h0, h1⟩ ⟨fh, st, x0, x1, d0, d1⟩ = 0) (g2 : massErr a b e0 e1 = 0) (g3 : ¬ a < 0) (ht : tabOk vol = true) (hle : firstX vol ≤ lastX vol)
  (q0 : 0 ≤ st) (q5 : st ≤ 5) (hM : mM st = #[fnV ja, fnV kv, fnV jc, fnV jd, fnV ks, .int .i64 0, .int .i64 de, .int .i64 se]) (hk : (kv = 195 ∧ ks = 197) ∨ (kv = 188 ∧ ks = 189))
  (hC4 : ∀ W, Below w.heap.size w W → Calls Tryz.prog kv #[.agg #[.int .i64 id, .int .i64 al, .int .i64 ah, .slice A n c, .slice B mm d, .slice C l ee, .int .i64 t0, .int .i64 t1, .int .i64 u0, .int .i64 u1, .int .i64 v0, .int .i64 v1, .int .i64 h0, .int .i64 h1], .agg #[.int .i64 fh, .int .i64 st, .int .i64 x0, .int .i64 x1, .int .i64 d0, .int .i64 d1]] W fun e w' => e = .returned (rv p q) ∧ Below W.heap.size W w')
  (hC7 : ∀ W, Below w.heap.size w W → Calls Tryz.prog ks #[.agg #[.int .i64 id, .int .i64 al, .int .i64 ah, .slice A n c, .slice B mm d, .slice C l ee, .int .i64 t0, .int .i64 t1, .int .i64 u0, .int .i64 u1, .int .i64 v0, .int .i64 v1, .int .i64 h0, .int .i64 h1], .agg #[.int .i64 fh, .int .i64 st, .int .i64 x0, .int .i64 x1, .int .i64 d0, .int .i64 d1]] W fun e w' => e = .returned (rv up uq) ∧ Below W.heap.size W w')
  (k2 : litresS a b e0 e1 = (r, s)) (k3 : IntKind.i64.wrap (p + r) = v0') (k4 : IntKind.i64.wrap (q + s) = v1') :
  Calls Tryz.prog 28 #[.agg #[.int .i64 id, .int .i64 al, .int .i64 ah, .slice A n c, .slice B mm d, .slice C l ee, .int .i64 t0, .int .i64 t1, .int .i64 u0, .int .i64 u1, .int .i64 v0, .int .i64 v1, .int .i64 h0, .int .i64 h1], .agg #[.int .i64 fh, .int .i64 st, .int .i64 x0, .int .i64 x1, .int .i64 d0, .int .i64 d1], rv a b, rv e0 e1] w fun e w' => e = .returned (ft (movedS vol id v0' v1' (firstX vol) uq (mixS d0 d1 e0 e1).1 (mixS d0 d1 e0 e1).2)) ∧ Below w.heap.size w w' := by
 have HE := Lib.hid (show Below w.heap.size w (((((w.alloc (.cells #[.int .i64 id, .int .i64 al, .int .i64 ah, .slice A n c, .slice B mm d, .slice C l ee, .int .i64 t0, .int .i64 t1, .int .i64 u0, .int .i64 u1, .int .i64 v0, .int .i64 v1, .int .i64 h0, .int .i64 h1] 35)).alloc (.cells #[.int .i64 fh, .int .i64 st, .int .i64 x0, .int .i64 x1, .int .i64 d0, .int .i64 d1] 55)).alloc (.cells #[.int .i64 a, .int .i64 b] 30)).alloc (.cells #[.int .i64 e0, .int .i64 e1] 30)).alloc (.cells #[.int .i64 0, .int .i64 0, .int .i64 0, .int .i64 0, .int .i64 0, .int .i64 0] 55)) from below_a5 (Below.refl _ _))
 have HK := Lib.hid (boxes5' w 35 55 30 30 55 #[.int .i64 id, .int .i64 al, .int .i64 ah, .slice A n c, .slice B mm d, .slice C l ee, .int .i64 t0, .int .i64 t1, .int .i64 u0, .int .i64 u1, .int .i64 v0, .int .i64 v1, .int .i64 h0, .int .i64 h1] #[.int .i64 fh, .int .i64 st, .int .i64 x0, .int .i64 x1, .int .i64 d0, .int .i64 d1] #[.int .i64 a, .int .i64 b] #[.int .i64 e0, .int .i64 e1] #[.int .i64 0, .int .i64 0, .int .i64 0, .int .i64 0, .int .i64 0, .int .i64 0])
 obtain ⟨i1, i2, i3⟩ := hi
 dsimp only at i1 i2 i3
 have C1 : Hid (∀ W, Below w.heap.size w W → Calls Tryz.prog 53 #[.agg #[.int .i64 id, .int .i64 al, .int .i64 ah, .slice A n c, .slice B mm d, .slice C l ee, .int .i64 t0, .int .i64 t1, .int .i64 u0, .int .i64 u1, .int .i64 v0, .int .i64 v1, .int .i64 h0, .int .i64 h1], .agg #[.int .i64 fh, .int .i64 st, .int .i64 x0, .int .i64 x1, .int .i64 d0, .int .i64 d1]] W fun e w' => e = .returned (.int .i64 0) ∧ Below W.heap.size W w') := Lib.hid fun W hW => int_to (checkFill_any ⟨id, al, ah, vol, mom, hei, t0, t1, u0, u1, v0, v1, h0, h1⟩ ⟨A, n, c, B, mm, d, C, l, ee⟩ ⟨fh, st, x0, x1, d0, d1⟩ W ⟨i1.below hW, i2.below hW, i3.below hW⟩) g1
 have C2 : Hid (∀ W, Calls Tryz.prog 74 #[rv a b, rv e0 e1] W fun e w' => e = .returned (.int .i64 0) ∧ Below W.heap.size W w') := Lib.hid fun W => int_to (checkMass_any a b e0 e1 W) g2
 have C3 : Hid (∀ W, Calls Tryz.prog 75 #[.agg #[.int .i64 fh, .int .i64 st, .int .i64 x0, .int .i64 x1, .int .i64 d0, .int .i64 d1]] W fun e w' => e = .returned (.agg #[fnV ja, fnV kv, fnV jc, fnV jd, fnV ks, .int .i64 0, .int .i64 de, .int .i64 se]) ∧ Below W.heap.size W w') := Lib.hid fun W => by
  have := meaningOf_any fh st x0 x1 d0 d1 W q0 q5
  rwa [hM] at this
 have C4 := Lib.hid hC4
 have C7 := Lib.hid hC7
 have HKV := Lib.hid hk
 have C5 : Hid (∀ W, Calls Tryz.prog 76 #[rv a b, rv e0 e1] W fun e w' => e = .returned (rv r s) ∧ Below W.heap.size W w') := Lib.hid fun W => by
  obtain ⟨m1, m2⟩ := massErr_zero g2
  have := hlitres_any a b e0 e1 W (vR_small m1) (dens_in m2)
  rwa [k2] at this
 have C6 : Hid (∀ W, Below w.heap.size w W → Calls Tryz.prog 77 #[tv A n c] W fun e w' => e = .returned (rv (firstX vol) (lastX vol)) ∧ Below W.heap.size W w') := Lib.hid fun W hW => hplaces_tab A n c vol W (i1.below hW) ht
 have C8 : Hid (∀ W, Calls Tryz.prog 79 #[rv d0 d1, rv e0 e1] W fun e w' => e = .returned (rv (mixS d0 d1 e0 e1).1 (mixS d0 d1 e0 e1).2) ∧ Below W.heap.size W w') := Lib.hid fun W => mix_any d0 d1 e0 e1 W
 obtain ⟨⟨j0, j1⟩, hj⟩ : ∃ j, mixS d0 d1 e0 e1 = j := ⟨_, rfl⟩
 rw [hj] at C8 ⊢
 obtain ⟨R, hR⟩ : ∃ R, movedS vol id v0' v1' (firstX vol) uq j0 j1 = R := ⟨_, rfl⟩
 have C9 : Hid (∀ W, Below w.heap.size w W → Calls Tryz.prog 78 #[.agg #[.int .i64 id, .int .i64 al, .int .i64 ah, .slice A n c, .slice B mm d, .slice C l ee, .int .i64 t0, .int .i64 t1, .int .i64 u0, .int .i64 u1, .int .i64 v0, .int .i64 v1, .int .i64 h0, .int .i64 h1], rv v0' v1', rv (firstX vol) uq, rv j0 j1] W fun e w' => e = .returned (ft R) ∧ Below W.heap.size W w') := Lib.hid fun W hW => by
  rw [← hR]; exact moved_any vol id al ah t0 t1 u0 u1 v0 v1 h0 h1 A B C n c mm d l ee v0' v1' (firstX vol) uq j0 j1 W (i1.below hW) ht hle
 dsimp only
 rw [hR]
 clear hR hj g1 g2 ht hle k2 i1 i2 i3 hC4 hC7 hk hM q0 q5
 generalize firstX vol = f0 at *
 generalize lastX vol = f1 at *
 obtain ⟨⟨ff0, ff1, ff2, ff3, ff4, ff5⟩, re⟩ := R
 go_enter Tryz.func28, Tryz.ntmps28
 go_wp2_with fail
 obtain ⟨W0, hW0⟩ : ∃ W0, (((((w.alloc (.cells #[.int .i64 id, .int .i64 al, .int .i64 ah, .slice A n c, .slice B mm d, .slice C l ee, .int .i64 t0, .int .i64 t1, .int .i64 u0, .int .i64 u1, .int .i64 v0, .int .i64 v1, .int .i64 h0, .int .i64 h1] 35)).alloc (.cells #[.int .i64 fh, .int .i64 st, .int .i64 x0, .int .i64 x1, .int .i64 d0, .int .i64 d1] 55)).alloc (.cells #[.int .i64 a, .int .i64 b] 30)).alloc (.cells #[.int .i64 e0, .int .i64 e1] 30)).alloc (.cells #[.int .i64 0, .int .i64 0, .int .i64 0, .int .i64 0, .int .i64 0, .int .i64 0] 55)) = W0 := ⟨_, rfl⟩
 rw [hW0] at HE HK ⊢
 clear hW0
 obtain ⟨G, hG⟩ : ∃ G, w.heap.size = G := ⟨_, rfl⟩
 rw [hG] at HK ⊢
 have HG := Lib.hid hG; clear hG
 refine (C1.out _ HE.out).mono ?_
 rintro e w1 ⟨rfl, hb⟩
 have HE1 := Lib.hid (below_then HE.out hb); have HK1 := Lib.hid (HK.out.on hb)
 clear hb HE HK C1
 have m := HK1.out _ (.tail _ (.tail _ (.head _)))
 have m0 := m.cell 0
 have m1 := m.cell 1
 simp at m0 m1
 clear m
 have n := HK1.out _ (.tail _ (.head _))
 have n0 := n.cell 0
 have n1 := n.cell 1
 simp at n0 n1
 clear n
 go_wp2_with fail
 refine (C2.out _).mono ?_
 rintro e w2 ⟨rfl, hb⟩
 have HE2 := Lib.hid (below_then HE1.out hb); have HK2 := Lib.hid (HK1.out.on hb)
 clear hb HE1 HK1 C2 m0 m1 n0 n1
 have m := HK2.out _ (.tail _ (.tail _ (.head _)))
 have m0 := m.cell 0
 simp at m0
 clear m
 have f := HK2.out _ (.tail _ (.tail _ (.tail _ (.head _))))
 have f0 := f.cell 0
 have f1 := f.cell 1
 have f2 := f.cell 2
 have f3 := f.cell 3
 have f4 := f.cell 4
 have f5 := f.cell 5
 simp at f0 f1 f2 f3 f4 f5
 clear f
 go_wp2_with fail
 refine (C3.out _).mono ?_
 rintro e w3 ⟨rfl, hb⟩
 have HE3 := Lib.hid (below_then (below_then HE2.out hb) (below_alloc1 w3 (.cells #[fnV ja, fnV kv, fnV jc, fnV jd, fnV ks, .int .i64 0, .int .i64 de, .int .i64 se] 123))); have HK3 := Lib.hid ((HK2.out.on hb).new 123 #[fnV ja, fnV kv, fnV jc, fnV jd, fnV ks, .int .i64 0, .int .i64 de, .int .i64 se])
 have HD3 := Lib.hid (boxes_lt (HK2.out.on hb))
 clear hb HE2 HK2 C3 m0 f0 f1 f2 f3 f4 f5
 go_upto_region 10 with fail
 obtain ⟨W3, hW3⟩ : ∃ W3, w3.alloc (.cells #[fnV ja, fnV kv, fnV jc, fnV jd, fnV ks, .int .i64 0, .int .i64 de, .int .i64 se] 123) = W3 := ⟨_, rfl⟩
 rw [hW3] at HE3 HK3 ⊢
 clear hW3
 obtain ⟨M, hM⟩ : ∃ M, w3.heap.size = M := ⟨_, rfl⟩
 rw [hM] at HK3 HD3 ⊢
 clear hM
 have s := HK3.out _ (.head _)
 have s5 := s.cell 5
 simp at s5
 clear s
 go_upto_region 12 with fail
 clear s5
 obtain ⟨ML, hML⟩ : ∃ ML : Array Value, #[fnV ja, fnV kv, fnV jc, fnV jd, fnV ks, .int .i64 0, .int .i64 de, .int .i64 se] = ML := ⟨_, rfl⟩
 rw [hML] at HK3
 have HM1 : Hid (ML[1]? = some (fnV kv)) := Lib.hid (by rw [← hML]; rfl)
 have HM4 : Hid (ML[4]? = some (fnV ks)) := Lib.hid (by rw [← hML]; rfl)
 clear hML
 go_cut [13, 14] (fun s13 s14 wx => ∃ N1 N2, s13 = .pointer (some ⟨N1, 0, none⟩) ∧ s14 = .pointer (some ⟨N2, 0, none⟩) ∧ Boxes wx ((N2, 30, #[.int .i64 r, .int .i64 s]) :: (N1, 30, #[.int .i64 p, .int .i64 q]) :: ((M, 123, ML) :: [(G + 1 + 1 + 1 + 1, 55, #[.int .i64 0, .int .i64 0, .int .i64 0, .int .i64 0, .int .i64 0, .int .i64 0]), (G + 1 + 1 + 1, 30, #[.int .i64 e0, .int .i64 e1]), (G + 1 + 1, 30, #[.int .i64 a, .int .i64 b]), (G + 1, 55, #[.int .i64 fh, .int .i64 st, .int .i64 x0, .int .i64 x1, .int .i64 d0, .int .i64 d1]), (G, 35, #[.int .i64 id, .int .i64 al, .int .i64 ah, .slice A n c, .slice B mm d, .slice C l ee, .int .i64 t0, .int .i64 t1, .int .i64 u0, .int .i64 u1, .int .i64 v0, .int .i64 v1, .int .i64 h0, .int .i64 h1])] : List (Nat × TypeId × Array Value))) ∧ Below w.heap.size w wx ∧ G + 1 + 1 + 1 + 1 ≠ N1 ∧ G + 1 + 1 + 1 + 1 ≠ N2)
 case first =>
  rcases HKV.out with ⟨rfl, rfl⟩ | ⟨rfl, rfl⟩
  all_goals
   have hS0 : Boxes W3.drew ((M, 123, ML) :: [(G + 1 + 1 + 1 + 1, 55, #[.int .i64 0, .int .i64 0, .int .i64 0, .int .i64 0, .int .i64 0, .int .i64 0]), (G + 1 + 1 + 1, 30, #[.int .i64 e0, .int .i64 e1]), (G + 1 + 1, 30, #[.int .i64 a, .int .i64 b]), (G + 1, 55, #[.int .i64 fh, .int .i64 st, .int .i64 x0, .int .i64 x1, .int .i64 d0, .int .i64 d1]), (G, 35, #[.int .i64 id, .int .i64 al, .int .i64 ah, .slice A n c, .slice B mm d, .slice C l ee, .int .i64 t0, .int .i64 t1, .int .i64 u0, .int .i64 u1, .int .i64 v0, .int .i64 v1, .int .i64 h0, .int .i64 h1])] : List (Nat × TypeId × Array Value)) := HK3.out
   have HEd := Lib.hid HE3.out.drew
   have HKd := Lib.hid hS0
   refine wp_region_held_drew (S := fun w' => Boxes w' ((M, 123, ML) :: [(G + 1 + 1 + 1 + 1, 55, #[.int .i64 0, .int .i64 0, .int .i64 0, .int .i64 0, .int .i64 0, .int .i64 0]), (G + 1 + 1 + 1, 30, #[.int .i64 e0, .int .i64 e1]), (G + 1 + 1, 30, #[.int .i64 a, .int .i64 b]), (G + 1, 55, #[.int .i64 fh, .int .i64 st, .int .i64 x0, .int .i64 x1, .int .i64 d0, .int .i64 d1]), (G, 35, #[.int .i64 id, .int .i64 al, .int .i64 ah, .slice A n c, .slice B mm d, .slice C l ee, .int .i64 t0, .int .i64 t1, .int .i64 u0, .int .i64 u1, .int .i64 v0, .int .i64 v1, .int .i64 h0, .int .i64 h1])] : List (Nat × TypeId × Array Value))) (by kernel_rfl) hS0 (fun hHeld => ?_)
   obtain ⟨W4, hW⟩ : ∃ W', W3.drew = W' := ⟨_, rfl⟩
   rw [hW] at HEd HKd hHeld ⊢
   clear hW hS0 HE3 HK3
   refine tK 43 (i := 0) (v := .pointer (some ⟨M, 1, none⟩)) rfl rfl (by kernel_rfl) ?_ hHeld ?_
   ·intro w hSw; clear hSw; go_simp; try with_reducible rfl
   simp only [uZ, uS]
   refine wpAnyH_take (i := 1) (v := ?_) rfl (by kernel_rfl) (by kernel_rfl) (by kernel_rfl) (fun _ _ _ h => h) (Or.inl ⟨by kernel_rfl, ?_⟩) hHeld ?_
   rotate_left
   ·intro w hSw; have c1 := (hSw _ (.head _)).cell 1; rw [HM1.out] at c1; clear hSw; go_simp; try with_reducible rfl
   change wpAnyH _ _ _ _ _ _ _ (Act.put _ (some 44) _) _
   try simp only [Act.put, uA, uZ, uS]
   refine tK 45 (i := 2) (v := .agg #[.int .i64 id, .int .i64 al, .int .i64 ah, .slice A n c, .slice B mm d, .slice C l ee, .int .i64 t0, .int .i64 t1, .int .i64 u0, .int .i64 u1, .int .i64 v0, .int .i64 v1, .int .i64 h0, .int .i64 h1]) rfl rfl (by kernel_rfl) ?_ hHeld ?_
   ·intro w hSw; have hz := (hSw _ (.tail _ (.tail _ (.tail _ (.tail _ (.tail _ (.head _))))))); have c0 := hz.cell 0; have c1 := hz.cell 1; have c2 := hz.cell 2; have c3 := hz.cell 3; have c4 := hz.cell 4; have c5 := hz.cell 5; have c6 := hz.cell 6; have c7 := hz.cell 7; have c8 := hz.cell 8; have c9 := hz.cell 9; have c10 := hz.cell 10; have c11 := hz.cell 11; have c12 := hz.cell 12; have c13 := hz.cell 13; simp at c0 c1 c2 c3 c4 c5 c6 c7 c8 c9 c10 c11 c12 c13; clear hz hSw; go_simp; try with_reducible rfl
   simp only [uZ, uS]
   refine tK 46 (i := 3) (v := .agg #[.int .i64 fh, .int .i64 st, .int .i64 x0, .int .i64 x1, .int .i64 d0, .int .i64 d1]) rfl rfl (by kernel_rfl) ?_ hHeld ?_
   ·intro w hSw; have hz := (hSw _ (.tail _ (.tail _ (.tail _ (.tail _ (.head _)))))); have c0 := hz.cell 0; have c1 := hz.cell 1; have c2 := hz.cell 2; have c3 := hz.cell 3; have c4 := hz.cell 4; have c5 := hz.cell 5; simp at c0 c1 c2 c3 c4 c5; clear hz hSw; go_simp; try with_reducible rfl
   simp only [uZ, uS]
   refine tK 48 (i := 5) (v := rv a b) rfl rfl (by kernel_rfl) ?_ hHeld ?_
   ·intro w hSw; have hz := (hSw _ (.tail _ (.tail _ (.tail _ (.head _))))); have c0 := hz.cell 0; have c1 := hz.cell 1; simp at c0 c1; clear hz hSw; go_simp; try with_reducible rfl
   simp only [uZ, uS]
   refine tK 49 (i := 6) (v := rv e0 e1) rfl rfl (by kernel_rfl) ?_ hHeld ?_
   ·intro w hSw; have hz := (hSw _ (.tail _ (.tail _ (.head _)))); have c0 := hz.cell 0; have c1 := hz.cell 1; simp at c0 c1; clear hz hSw; go_simp; try with_reducible rfl
   simp only [uZ, uS]
   have HEq := HEd
   have HKq := HKd
   clear HEd HKd
   rename World => yq
   refine wpAnyH_ready (rs := [4, 8, 9]) (by kernel_rfl) (by simp) ?_
   refine AllReadyH.cons rfl (fun K hK => ?_) (AllReadyH.cons rfl (fun K hK => ?_) (AllReadyH.cons rfl (fun K hK => ?_) AllReadyH.nil))
   all_goals
    go_simp
    first
    | (
     (with_reducible refine (C4.out _ HEq.out).mono ?_)
     rintro e yn ⟨rfl, hb⟩
     have HEr := Lib.hid (below_then HEq.out hb)
     have HKr := Lib.hid (HKq.out.on hb)
     have hS := hHeld.on hb
     clear hb
     refine hK.out _ _ hS (fun hHeld2 => ?_)
     try simp only [Act.put, uA, uZ, uS]
     clear hS hK K hHeld HEq HKq
     have hHeld := hHeld2
     clear hHeld2
     have HEq := HEr
     clear HEr
     have HKq := HKr
     clear HKr
     rename World => yq)
    | (
     (with_reducible refine (C5.out _).mono ?_)
     rintro e yn ⟨rfl, hb⟩
     have HEr := Lib.hid (below_then HEq.out hb)
     have HKr := Lib.hid (HKq.out.on hb)
     have hS := hHeld.on hb
     clear hb
     refine hK.out _ _ hS (fun hHeld2 => ?_)
     try simp only [Act.put, uA, uZ, uS]
     clear hS hK K hHeld HEq HKq
     have hHeld := hHeld2
     clear hHeld2
     have HEq := HEr
     clear HEr
     have HKq := HKr
     clear HKr
     rename World => yq)
    | (
     have hNA := NA
     have HEr := Lib.hid (below_then HEq.out (below_alloc1 yq (.cells #[.int .i64 0, .int .i64 0] 30)))
     have HKr := Lib.hid (HKq.out.new 30 #[.int .i64 0, .int .i64 0])
     have hS := hHeld.on (below_alloc1 yq (.cells #[.int .i64 0, .int .i64 0] 30))
     have HDB := Lib.hid (boxes_lt HKq.out)
     have HZB := Lib.hid HEq.out.size
     refine hK.out _ _ hS (fun hHeld2 => ?_)
     try simp only [Act.put, uA, uZ, uS]
     clear hS hK K hHeld HEq HKq
     have hHeld := hHeld2
     clear hHeld2
     have HEq := HEr
     clear HEr
     have HKq := HKr
     clear HKr
     clear hNA
     obtain ⟨y2, hW⟩ : ∃ W', yq.alloc (.cells #[.int .i64 0, .int .i64 0] 30) = W' := ⟨_, rfl⟩
     rw [hW] at HEq HKq hHeld ⊢
     clear hW
     obtain ⟨NB, hN⟩ : ∃ N, yq.heap.size = N := ⟨_, rfl⟩
     rw [hN] at HKq HDB HZB ⊢
     clear hN
     rename World => yq)
    | (
     have HEr := Lib.hid (below_then HEq.out (below_alloc1 yq (.cells #[.int .i64 0, .int .i64 0] 30)))
     have HKr := Lib.hid (HKq.out.new 30 #[.int .i64 0, .int .i64 0])
     have hS := hHeld.on (below_alloc1 yq (.cells #[.int .i64 0, .int .i64 0] 30))
     have HDA := Lib.hid (boxes_lt HKq.out)
     have HZA := Lib.hid HEq.out.size
     refine hK.out _ _ hS (fun hHeld2 => ?_)
     try simp only [Act.put, uA, uZ, uS]
     clear hS hK K hHeld HEq HKq
     have hHeld := hHeld2
     clear hHeld2
     have HEq := HEr
     clear HEr
     have HKq := HKr
     clear HKr
     obtain ⟨y2, hW⟩ : ∃ W', yq.alloc (.cells #[.int .i64 0, .int .i64 0] 30) = W' := ⟨_, rfl⟩
     rw [hW] at HEq HKq hHeld ⊢
     clear hW
     obtain ⟨NA, hN⟩ : ∃ N, yq.heap.size = N := ⟨_, rfl⟩
     rw [hN] at HKq HDA HZA ⊢
     clear hN
     rename World => yq)
   refine wpAnyH_ready (rs := [7, 8, 9]) (by kernel_rfl) (by simp) ?_
   refine AllReadyH.cons rfl (fun K hK => ?_) (AllReadyH.cons rfl (fun K hK => ?_) (AllReadyH.cons rfl (fun K hK => ?_) AllReadyH.nil))
   rotate_left 3
   refine wpAnyH_ready (rs := [4, 9]) (by kernel_rfl) (by simp) ?_
   refine AllReadyH.cons rfl (fun K hK => ?_) (AllReadyH.cons rfl (fun K hK => ?_) AllReadyH.nil)
   rotate_left 2
   refine wpAnyH_ready (rs := [4, 8]) (by kernel_rfl) (by simp) ?_
   refine AllReadyH.cons rfl (fun K hK => ?_) (AllReadyH.cons rfl (fun K hK => ?_) AllReadyH.nil)
   rotate_left 2
   all_goals
    go_simp
    first
    | (
     (with_reducible refine (C4.out _ HEq.out).mono ?_)
     rintro e yn ⟨rfl, hb⟩
     have HEr := Lib.hid (below_then HEq.out hb)
     have HKr := Lib.hid (HKq.out.on hb)
     have hS := hHeld.on hb
     clear hb
     refine hK.out _ _ hS (fun hHeld2 => ?_)
     try simp only [Act.put, uA, uZ, uS]
     clear hS hK K hHeld HEq HKq
     have hHeld := hHeld2
     clear hHeld2
     have HEq := HEr
     clear HEr
     have HKq := HKr
     clear HKr
     rename World => yq)
    | (
     (with_reducible refine (C5.out _).mono ?_)
     rintro e yn ⟨rfl, hb⟩
     have HEr := Lib.hid (below_then HEq.out hb)
     have HKr := Lib.hid (HKq.out.on hb)
     have hS := hHeld.on hb
     clear hb
     refine hK.out _ _ hS (fun hHeld2 => ?_)
     try simp only [Act.put, uA, uZ, uS]
     clear hS hK K hHeld HEq HKq
     have hHeld := hHeld2
     clear hHeld2
     have HEq := HEr
     clear HEr
     have HKq := HKr
     clear HKr
     rename World => yq)
    | (
     have hNA := NA
     have HEr := Lib.hid (below_then HEq.out (below_alloc1 yq (.cells #[.int .i64 0, .int .i64 0] 30)))
     have HKr := Lib.hid (HKq.out.new 30 #[.int .i64 0, .int .i64 0])
     have hS := hHeld.on (below_alloc1 yq (.cells #[.int .i64 0, .int .i64 0] 30))
     have HDB := Lib.hid (boxes_lt HKq.out)
     have HZB := Lib.hid HEq.out.size
     refine hK.out _ _ hS (fun hHeld2 => ?_)
     try simp only [Act.put, uA, uZ, uS]
     clear hS hK K hHeld HEq HKq
     have hHeld := hHeld2
     clear hHeld2
     have HEq := HEr
     clear HEr
     have HKq := HKr
     clear HKr
     clear hNA
     obtain ⟨y2, hW⟩ : ∃ W', yq.alloc (.cells #[.int .i64 0, .int .i64 0] 30) = W' := ⟨_, rfl⟩
     rw [hW] at HEq HKq hHeld ⊢
     clear hW
     obtain ⟨NB, hN⟩ : ∃ N, yq.heap.size = N := ⟨_, rfl⟩
     rw [hN] at HKq HDB HZB ⊢
     clear hN
     rename World => yq)
    | (
     have HEr := Lib.hid (below_then HEq.out (below_alloc1 yq (.cells #[.int .i64 0, .int .i64 0] 30)))
     have HKr := Lib.hid (HKq.out.new 30 #[.int .i64 0, .int .i64 0])
     have hS := hHeld.on (below_alloc1 yq (.cells #[.int .i64 0, .int .i64 0] 30))
     have HDA := Lib.hid (boxes_lt HKq.out)
     have HZA := Lib.hid HEq.out.size
     refine hK.out _ _ hS (fun hHeld2 => ?_)
     try simp only [Act.put, uA, uZ, uS]
     clear hS hK K hHeld HEq HKq
     have hHeld := hHeld2
     clear hHeld2
     have HEq := HEr
     clear HEr
     have HKq := HKr
     clear HKr
     obtain ⟨y2, hW⟩ : ∃ W', yq.alloc (.cells #[.int .i64 0, .int .i64 0] 30) = W' := ⟨_, rfl⟩
     rw [hW] at HEq HKq hHeld ⊢
     clear hW
     obtain ⟨NA, hN⟩ : ∃ N, yq.heap.size = N := ⟨_, rfl⟩
     rw [hN] at HKq HDA HZA ⊢
     clear hN
     rename World => yq)
   refine wpAnyH_ready (rs := [8, 9]) (by kernel_rfl) (by simp) ?_
   refine AllReadyH.cons rfl (fun K hK => ?_) (AllReadyH.cons rfl (fun K hK => ?_) AllReadyH.nil)
   rotate_left 2
   refine wpAnyH_ready (rs := [7, 9]) (by kernel_rfl) (by simp) ?_
   refine AllReadyH.cons rfl (fun K hK => ?_) (AllReadyH.cons rfl (fun K hK => ?_) AllReadyH.nil)
   rotate_left 2
   refine wpAnyH_ready (rs := [7, 8]) (by kernel_rfl) (by simp) ?_
   refine AllReadyH.cons rfl (fun K hK => ?_) (AllReadyH.cons rfl (fun K hK => ?_) AllReadyH.nil)
   rotate_left 2
   refine wpAnyH_ready (rs := [7, 9]) (by kernel_rfl) (by simp) ?_
   refine AllReadyH.cons rfl (fun K hK => ?_) (AllReadyH.cons rfl (fun K hK => ?_) AllReadyH.nil)
   rotate_left 2
   refine wpAnyH_ready (rs := [4]) (by kernel_rfl) (by simp) ?_
   refine AllReadyH.cons rfl (fun K hK => ?_) AllReadyH.nil
   rotate_left 1
   refine wpAnyH_ready (rs := [7, 8]) (by kernel_rfl) (by simp) ?_
   refine AllReadyH.cons rfl (fun K hK => ?_) (AllReadyH.cons rfl (fun K hK => ?_) AllReadyH.nil)
   rotate_left 2
   refine wpAnyH_ready (rs := [4]) (by kernel_rfl) (by simp) ?_
   refine AllReadyH.cons rfl (fun K hK => ?_) AllReadyH.nil
   rotate_left 1
   all_goals
    go_simp
    first
    | (
     (with_reducible refine (C4.out _ HEq.out).mono ?_)
     rintro e yn ⟨rfl, hb⟩
     have HEr := Lib.hid (below_then HEq.out hb)
     have HKr := Lib.hid (HKq.out.on hb)
     have hS := hHeld.on hb
     clear hb
     refine hK.out _ _ hS (fun hHeld2 => ?_)
     try simp only [Act.put, uA, uZ, uS]
     clear hS hK K hHeld HEq HKq
     have hHeld := hHeld2
     clear hHeld2
     have HEq := HEr
     clear HEr
     have HKq := HKr
     clear HKr
     rename World => yq)
    | (
     (with_reducible refine (C5.out _).mono ?_)
     rintro e yn ⟨rfl, hb⟩
     have HEr := Lib.hid (below_then HEq.out hb)
     have HKr := Lib.hid (HKq.out.on hb)
     have hS := hHeld.on hb
     clear hb
     refine hK.out _ _ hS (fun hHeld2 => ?_)
     try simp only [Act.put, uA, uZ, uS]
     clear hS hK K hHeld HEq HKq
     have hHeld := hHeld2
     clear hHeld2
     have HEq := HEr
     clear HEr
     have HKq := HKr
     clear HKr
     rename World => yq)
    | (
     have hNA := NA
     have HEr := Lib.hid (below_then HEq.out (below_alloc1 yq (.cells #[.int .i64 0, .int .i64 0] 30)))
     have HKr := Lib.hid (HKq.out.new 30 #[.int .i64 0, .int .i64 0])
     have hS := hHeld.on (below_alloc1 yq (.cells #[.int .i64 0, .int .i64 0] 30))
     have HDB := Lib.hid (boxes_lt HKq.out)
     have HZB := Lib.hid HEq.out.size
     refine hK.out _ _ hS (fun hHeld2 => ?_)
     try simp only [Act.put, uA, uZ, uS]
     clear hS hK K hHeld HEq HKq
     have hHeld := hHeld2
     clear hHeld2
     have HEq := HEr
     clear HEr
     have HKq := HKr
     clear HKr
     clear hNA
     obtain ⟨y2, hW⟩ : ∃ W', yq.alloc (.cells #[.int .i64 0, .int .i64 0] 30) = W' := ⟨_, rfl⟩
     rw [hW] at HEq HKq hHeld ⊢
     clear hW
     obtain ⟨NB, hN⟩ : ∃ N, yq.heap.size = N := ⟨_, rfl⟩
     rw [hN] at HKq HDB HZB ⊢
     clear hN
     rename World => yq)
    | (
     have HEr := Lib.hid (below_then HEq.out (below_alloc1 yq (.cells #[.int .i64 0, .int .i64 0] 30)))
     have HKr := Lib.hid (HKq.out.new 30 #[.int .i64 0, .int .i64 0])
     have hS := hHeld.on (below_alloc1 yq (.cells #[.int .i64 0, .int .i64 0] 30))
     have HDA := Lib.hid (boxes_lt HKq.out)
     have HZA := Lib.hid HEq.out.size
     refine hK.out _ _ hS (fun hHeld2 => ?_)
     try simp only [Act.put, uA, uZ, uS]
     clear hS hK K hHeld HEq HKq
     have hHeld := hHeld2
     clear hHeld2
     have HEq := HEr
     clear HEr
     have HKq := HKr
     clear HKr
     obtain ⟨y2, hW⟩ : ∃ W', yq.alloc (.cells #[.int .i64 0, .int .i64 0] 30) = W' := ⟨_, rfl⟩
     rw [hW] at HEq HKq hHeld ⊢
     clear hW
     obtain ⟨NA, hN⟩ : ∃ N, yq.heap.size = N := ⟨_, rfl⟩
     rw [hN] at HKq HDA HZA ⊢
     clear hN
     rename World => yq)
   refine wpAnyH_ready (rs := [9]) (by kernel_rfl) (by simp) ?_
   refine AllReadyH.cons rfl (fun K hK => ?_) AllReadyH.nil
   rotate_left 1
   refine wpAnyH_ready (rs := [8]) (by kernel_rfl) (by simp) ?_
   refine AllReadyH.cons rfl (fun K hK => ?_) AllReadyH.nil
   rotate_left 1
   refine wpAnyH_ready (rs := [9]) (by kernel_rfl) (by simp) ?_
   refine AllReadyH.cons rfl (fun K hK => ?_) AllReadyH.nil
   rotate_left 1
   refine wpAnyH_ready (rs := [7]) (by kernel_rfl) (by simp) ?_
   refine AllReadyH.cons rfl (fun K hK => ?_) AllReadyH.nil
   rotate_left 1
   refine wpAnyH_ready (rs := [8]) (by kernel_rfl) (by simp) ?_
   refine AllReadyH.cons rfl (fun K hK => ?_) AllReadyH.nil
   rotate_left 1
   refine wpAnyH_ready (rs := [7]) (by kernel_rfl) (by simp) ?_
   refine AllReadyH.cons rfl (fun K hK => ?_) AllReadyH.nil
   rotate_left 1
   refine wpAnyH_ready (rs := [9]) (by kernel_rfl) (by simp) ?_
   refine AllReadyH.cons rfl (fun K hK => ?_) AllReadyH.nil
   rotate_left 1
   refine wpAnyH_ready (rs := [7]) (by kernel_rfl) (by simp) ?_
   refine AllReadyH.cons rfl (fun K hK => ?_) AllReadyH.nil
   rotate_left 1
   refine wpAnyH_ready (rs := [7]) (by kernel_rfl) (by simp) ?_
   refine AllReadyH.cons rfl (fun K hK => ?_) AllReadyH.nil
   rotate_left 1
   refine wpAnyH_ready (rs := [8]) (by kernel_rfl) (by simp) ?_
   refine AllReadyH.cons rfl (fun K hK => ?_) AllReadyH.nil
   rotate_left 1
   refine wpAnyH_ready (rs := [7]) (by kernel_rfl) (by simp) ?_
   refine AllReadyH.cons rfl (fun K hK => ?_) AllReadyH.nil
   rotate_left 1
   refine wpAnyH_ready (rs := [7]) (by kernel_rfl) (by simp) ?_
   refine AllReadyH.cons rfl (fun K hK => ?_) AllReadyH.nil
   rotate_left 1
   all_goals
    go_simp
    first
    | (
     (with_reducible refine (C4.out _ HEq.out).mono ?_)
     rintro e yn ⟨rfl, hb⟩
     have HEr := Lib.hid (below_then HEq.out hb)
     have HKr := Lib.hid (HKq.out.on hb)
     have hS := hHeld.on hb
     clear hb
     refine hK.out _ _ hS (fun hHeld2 => ?_)
     try simp only [Act.put, uA, uZ, uS]
     clear hS hK K hHeld HEq HKq
     have hHeld := hHeld2
     clear hHeld2
     have HEq := HEr
     clear HEr
     have HKq := HKr
     clear HKr
     rename World => yq)
    | (
     (with_reducible refine (C5.out _).mono ?_)
     rintro e yn ⟨rfl, hb⟩
     have HEr := Lib.hid (below_then HEq.out hb)
     have HKr := Lib.hid (HKq.out.on hb)
     have hS := hHeld.on hb
     clear hb
     refine hK.out _ _ hS (fun hHeld2 => ?_)
     try simp only [Act.put, uA, uZ, uS]
     clear hS hK K hHeld HEq HKq
     have hHeld := hHeld2
     clear hHeld2
     have HEq := HEr
     clear HEr
     have HKq := HKr
     clear HKr
     rename World => yq)
    | (
     have hNA := NA
     have HEr := Lib.hid (below_then HEq.out (below_alloc1 yq (.cells #[.int .i64 0, .int .i64 0] 30)))
     have HKr := Lib.hid (HKq.out.new 30 #[.int .i64 0, .int .i64 0])
     have hS := hHeld.on (below_alloc1 yq (.cells #[.int .i64 0, .int .i64 0] 30))
     have HDB := Lib.hid (boxes_lt HKq.out)
     have HZB := Lib.hid HEq.out.size
     refine hK.out _ _ hS (fun hHeld2 => ?_)
     try simp only [Act.put, uA, uZ, uS]
     clear hS hK K hHeld HEq HKq
     have hHeld := hHeld2
     clear hHeld2
     have HEq := HEr
     clear HEr
     have HKq := HKr
     clear HKr
     clear hNA
     obtain ⟨y2, hW⟩ : ∃ W', yq.alloc (.cells #[.int .i64 0, .int .i64 0] 30) = W' := ⟨_, rfl⟩
     rw [hW] at HEq HKq hHeld ⊢
     clear hW
     obtain ⟨NB, hN⟩ : ∃ N, yq.heap.size = N := ⟨_, rfl⟩
     rw [hN] at HKq HDB HZB ⊢
     clear hN
     rename World => yq)
    | (
     have HEr := Lib.hid (below_then HEq.out (below_alloc1 yq (.cells #[.int .i64 0, .int .i64 0] 30)))
     have HKr := Lib.hid (HKq.out.new 30 #[.int .i64 0, .int .i64 0])
     have hS := hHeld.on (below_alloc1 yq (.cells #[.int .i64 0, .int .i64 0] 30))
     have HDA := Lib.hid (boxes_lt HKq.out)
     have HZA := Lib.hid HEq.out.size
     refine hK.out _ _ hS (fun hHeld2 => ?_)
     try simp only [Act.put, uA, uZ, uS]
     clear hS hK K hHeld HEq HKq
     have hHeld := hHeld2
     clear hHeld2
     have HEq := HEr
     clear HEr
     have HKq := HKr
     clear HKr
     obtain ⟨y2, hW⟩ : ∃ W', yq.alloc (.cells #[.int .i64 0, .int .i64 0] 30) = W' := ⟨_, rfl⟩
     rw [hW] at HEq HKq hHeld ⊢
     clear hW
     obtain ⟨NA, hN⟩ : ∃ N, yq.heap.size = N := ⟨_, rfl⟩
     rw [hN] at HKq HDA HZA ⊢
     clear hN
     rename World => yq)
   all_goals
    first
    | (
     refine wpAnyH_ready (rs := [10]) (by kernel_rfl) (by simp) ?_
     refine AllReadyH.cons rfl (fun K hK => ?_) AllReadyH.nil
     rw [if_pos (by kernel_rfl)]
     have ne1 : ∀ zz ∈ ((NB, 30, #[.int .i64 0, .int .i64 0]) :: ((M, 123, ML) :: [(G + 1 + 1 + 1 + 1, 55, #[.int .i64 0, .int .i64 0, .int .i64 0, .int .i64 0, .int .i64 0, .int .i64 0]), (G + 1 + 1 + 1, 30, #[.int .i64 e0, .int .i64 e1]), (G + 1 + 1, 30, #[.int .i64 a, .int .i64 b]), (G + 1, 55, #[.int .i64 fh, .int .i64 st, .int .i64 x0, .int .i64 x1, .int .i64 d0, .int .i64 d1]), (G, 35, #[.int .i64 id, .int .i64 al, .int .i64 ah, .slice A n c, .slice B mm d, .slice C l ee, .int .i64 t0, .int .i64 t1, .int .i64 u0, .int .i64 u1, .int .i64 v0, .int .i64 v1, .int .i64 h0, .int .i64 h1])] : List (Nat × TypeId × Array Value)) : List (Nat × TypeId × Array Value)), zz.1 ≠ NA := fun x hx => (List.mem_cons.1 hx).elim (fun e => by rw [e]; have q := HDB.out _ (.head _); exact fun z => q z.symm) (fun h => HDA.out x h)
     have HK1 : Hid (Boxes (yq.setRow NA #[.int .i64 p, .int .i64 q]) ((NA, 30, #[.int .i64 p, .int .i64 q]) :: (NB, 30, #[.int .i64 0, .int .i64 0]) :: ((M, 123, ML) :: [(G + 1 + 1 + 1 + 1, 55, #[.int .i64 0, .int .i64 0, .int .i64 0, .int .i64 0, .int .i64 0, .int .i64 0]), (G + 1 + 1 + 1, 30, #[.int .i64 e0, .int .i64 e1]), (G + 1 + 1, 30, #[.int .i64 a, .int .i64 b]), (G + 1, 55, #[.int .i64 fh, .int .i64 st, .int .i64 x0, .int .i64 x1, .int .i64 d0, .int .i64 d1]), (G, 35, #[.int .i64 id, .int .i64 al, .int .i64 ah, .slice A n c, .slice B mm d, .slice C l ee, .int .i64 t0, .int .i64 t1, .int .i64 u0, .int .i64 u1, .int .i64 v0, .int .i64 v1, .int .i64 h0, .int .i64 h1])] : List (Nat × TypeId × Array Value)))) := Lib.hid (Boxes.row HKq.out (.tail _ (.head _)) (fun p hp => ⟨(by rcases List.mem_cons.1 hp with rfl | hp; exact .head _; exact .tail _ (.tail _ hp)), ne1 p hp⟩) #[.int .i64 p, .int .i64 q])
     have HE1 := Lib.hid (below_setRow HEq.out (show w.heap.size ≤ NA from HZA.out) #[.int .i64 p, .int .i64 q])
     have hS := hHeld.farRow (g := NA) (fun p hp => ne1 p (.tail _ hp)) #[.int .i64 p, .int .i64 q]
     refine wp_store_row 30 (.tmp 13) (.tmp 47) rfl NA #[.int .i64 p, .int .i64 q] rfl rfl 30 _ (HKq.out _ (.tail _ (.head _))) (by kernel_rfl) rfl (by kernel_rfl) ?_
     obtain ⟨y1, hW⟩ : ∃ W', yq.setRow NA #[.int .i64 p, .int .i64 q] = W' := ⟨_, rfl⟩
     rw [hW] at HE1 HK1 hS ⊢
     refine hK.out _ _ hS (fun hHeld2 => ?_)
     try simp only [Act.put, uA, uZ, uS]
     clear hW hS hK K hHeld ne1 HEq HKq
     have hHeld := hHeld2
     clear hHeld2
     refine wpAnyH_ready (rs := [11]) (by kernel_rfl) (by simp) ?_
     refine AllReadyH.cons rfl (fun K hK => ?_) AllReadyH.nil
     rw [if_pos (by kernel_rfl)]
     have ne2 : ∀ zz ∈ ((NA, 30, #[.int .i64 p, .int .i64 q]) :: ((M, 123, ML) :: [(G + 1 + 1 + 1 + 1, 55, #[.int .i64 0, .int .i64 0, .int .i64 0, .int .i64 0, .int .i64 0, .int .i64 0]), (G + 1 + 1 + 1, 30, #[.int .i64 e0, .int .i64 e1]), (G + 1 + 1, 30, #[.int .i64 a, .int .i64 b]), (G + 1, 55, #[.int .i64 fh, .int .i64 st, .int .i64 x0, .int .i64 x1, .int .i64 d0, .int .i64 d1]), (G, 35, #[.int .i64 id, .int .i64 al, .int .i64 ah, .slice A n c, .slice B mm d, .slice C l ee, .int .i64 t0, .int .i64 t1, .int .i64 u0, .int .i64 u1, .int .i64 v0, .int .i64 v1, .int .i64 h0, .int .i64 h1])] : List (Nat × TypeId × Array Value)) : List (Nat × TypeId × Array Value)), zz.1 ≠ NB := fun x hx => (List.mem_cons.1 hx).elim (fun e => by rw [e]; have q := HDB.out _ (.head _); exact q) (fun h => HDB.out x (.tail _ h))
     have HK2 : Hid (Boxes (y1.setRow NB #[.int .i64 r, .int .i64 s]) ((NB, 30, #[.int .i64 r, .int .i64 s]) :: (NA, 30, #[.int .i64 p, .int .i64 q]) :: ((M, 123, ML) :: [(G + 1 + 1 + 1 + 1, 55, #[.int .i64 0, .int .i64 0, .int .i64 0, .int .i64 0, .int .i64 0, .int .i64 0]), (G + 1 + 1 + 1, 30, #[.int .i64 e0, .int .i64 e1]), (G + 1 + 1, 30, #[.int .i64 a, .int .i64 b]), (G + 1, 55, #[.int .i64 fh, .int .i64 st, .int .i64 x0, .int .i64 x1, .int .i64 d0, .int .i64 d1]), (G, 35, #[.int .i64 id, .int .i64 al, .int .i64 ah, .slice A n c, .slice B mm d, .slice C l ee, .int .i64 t0, .int .i64 t1, .int .i64 u0, .int .i64 u1, .int .i64 v0, .int .i64 v1, .int .i64 h0, .int .i64 h1])] : List (Nat × TypeId × Array Value)))) := Lib.hid (Boxes.row HK1.out (.tail _ (.head _)) (fun p hp => ⟨(by rcases List.mem_cons.1 hp with rfl | hp; exact .head _; exact .tail _ (.tail _ hp)), ne2 p hp⟩) #[.int .i64 r, .int .i64 s])
     have HE2 := Lib.hid (below_setRow HE1.out (show w.heap.size ≤ NB from HZB.out) #[.int .i64 r, .int .i64 s])
     have hS := hHeld.farRow (g := NB) (fun p hp => ne2 p (.tail _ hp)) #[.int .i64 r, .int .i64 s]
     refine wp_store_row 30 (.tmp 14) (.tmp 50) rfl NB #[.int .i64 r, .int .i64 s] rfl rfl 30 _ (HK1.out _ (.tail _ (.head _))) (by kernel_rfl) rfl (by kernel_rfl) ?_
     obtain ⟨y2, hW⟩ : ∃ W', y1.setRow NB #[.int .i64 r, .int .i64 s] = W' := ⟨_, rfl⟩
     rw [hW] at HE2 HK2 hS ⊢
     refine hK.out _ _ hS (fun hHeld2 => ?_)
     try simp only [Act.put, uA, uZ, uS]
     clear hW hS hK K hHeld ne2 HE1 HK1
     have hHeld := hHeld2
     clear hHeld2
     refine wpAnyH_done (by kernel_rfl) ?_ _
     go_wp2_with fail
     go_meet
     exact ⟨NA, NB, rfl, rfl, HK2.out, HE2.out, HDA.out (_, _, _) (.tail _ (.head _)), HDB.out (_, _, _) (.tail _ (.tail _ (.head _)))⟩)
    | (
     refine wpAnyH_ready (rs := [10]) (by kernel_rfl) (by simp) ?_
     refine AllReadyH.cons rfl (fun K hK => ?_) AllReadyH.nil
     rw [if_pos (by kernel_rfl)]
     have ne3 : ∀ zz ∈ ((NA, 30, #[.int .i64 0, .int .i64 0]) :: ((M, 123, ML) :: [(G + 1 + 1 + 1 + 1, 55, #[.int .i64 0, .int .i64 0, .int .i64 0, .int .i64 0, .int .i64 0, .int .i64 0]), (G + 1 + 1 + 1, 30, #[.int .i64 e0, .int .i64 e1]), (G + 1 + 1, 30, #[.int .i64 a, .int .i64 b]), (G + 1, 55, #[.int .i64 fh, .int .i64 st, .int .i64 x0, .int .i64 x1, .int .i64 d0, .int .i64 d1]), (G, 35, #[.int .i64 id, .int .i64 al, .int .i64 ah, .slice A n c, .slice B mm d, .slice C l ee, .int .i64 t0, .int .i64 t1, .int .i64 u0, .int .i64 u1, .int .i64 v0, .int .i64 v1, .int .i64 h0, .int .i64 h1])] : List (Nat × TypeId × Array Value)) : List (Nat × TypeId × Array Value)), zz.1 ≠ NB := fun x hx => (List.mem_cons.1 hx).elim (fun e => by rw [e]; have q := HDB.out _ (.head _); exact q) (fun h => HDB.out x (.tail _ h))
     have HK3 : Hid (Boxes (yq.setRow NB #[.int .i64 p, .int .i64 q]) ((NB, 30, #[.int .i64 p, .int .i64 q]) :: (NA, 30, #[.int .i64 0, .int .i64 0]) :: ((M, 123, ML) :: [(G + 1 + 1 + 1 + 1, 55, #[.int .i64 0, .int .i64 0, .int .i64 0, .int .i64 0, .int .i64 0, .int .i64 0]), (G + 1 + 1 + 1, 30, #[.int .i64 e0, .int .i64 e1]), (G + 1 + 1, 30, #[.int .i64 a, .int .i64 b]), (G + 1, 55, #[.int .i64 fh, .int .i64 st, .int .i64 x0, .int .i64 x1, .int .i64 d0, .int .i64 d1]), (G, 35, #[.int .i64 id, .int .i64 al, .int .i64 ah, .slice A n c, .slice B mm d, .slice C l ee, .int .i64 t0, .int .i64 t1, .int .i64 u0, .int .i64 u1, .int .i64 v0, .int .i64 v1, .int .i64 h0, .int .i64 h1])] : List (Nat × TypeId × Array Value)))) := Lib.hid (Boxes.row HKq.out (.head _) (fun p hp => ⟨.tail _ hp, ne3 p hp⟩) #[.int .i64 p, .int .i64 q])
     have HE3 := Lib.hid (below_setRow HEq.out (show w.heap.size ≤ NB from HZB.out) #[.int .i64 p, .int .i64 q])
     have hS := hHeld.farRow (g := NB) (fun p hp => ne3 p (.tail _ hp)) #[.int .i64 p, .int .i64 q]
     refine wp_store_row 30 (.tmp 13) (.tmp 47) rfl NB #[.int .i64 p, .int .i64 q] rfl rfl 30 _ (HKq.out _ (.head _)) (by kernel_rfl) rfl (by kernel_rfl) ?_
     obtain ⟨y3, hW⟩ : ∃ W', yq.setRow NB #[.int .i64 p, .int .i64 q] = W' := ⟨_, rfl⟩
     rw [hW] at HE3 HK3 hS ⊢
     refine hK.out _ _ hS (fun hHeld2 => ?_)
     try simp only [Act.put, uA, uZ, uS]
     clear hW hS hK K hHeld ne3 HEq HKq
     have hHeld := hHeld2
     clear hHeld2
     refine wpAnyH_ready (rs := [11]) (by kernel_rfl) (by simp) ?_
     refine AllReadyH.cons rfl (fun K hK => ?_) AllReadyH.nil
     rw [if_pos (by kernel_rfl)]
     have ne4 : ∀ zz ∈ ((NB, 30, #[.int .i64 p, .int .i64 q]) :: ((M, 123, ML) :: [(G + 1 + 1 + 1 + 1, 55, #[.int .i64 0, .int .i64 0, .int .i64 0, .int .i64 0, .int .i64 0, .int .i64 0]), (G + 1 + 1 + 1, 30, #[.int .i64 e0, .int .i64 e1]), (G + 1 + 1, 30, #[.int .i64 a, .int .i64 b]), (G + 1, 55, #[.int .i64 fh, .int .i64 st, .int .i64 x0, .int .i64 x1, .int .i64 d0, .int .i64 d1]), (G, 35, #[.int .i64 id, .int .i64 al, .int .i64 ah, .slice A n c, .slice B mm d, .slice C l ee, .int .i64 t0, .int .i64 t1, .int .i64 u0, .int .i64 u1, .int .i64 v0, .int .i64 v1, .int .i64 h0, .int .i64 h1])] : List (Nat × TypeId × Array Value)) : List (Nat × TypeId × Array Value)), zz.1 ≠ NA := fun x hx => (List.mem_cons.1 hx).elim (fun e => by rw [e]; have q := HDB.out _ (.head _); exact fun z => q z.symm) (fun h => HDA.out x h)
     have HK4 : Hid (Boxes (y3.setRow NA #[.int .i64 r, .int .i64 s]) ((NA, 30, #[.int .i64 r, .int .i64 s]) :: (NB, 30, #[.int .i64 p, .int .i64 q]) :: ((M, 123, ML) :: [(G + 1 + 1 + 1 + 1, 55, #[.int .i64 0, .int .i64 0, .int .i64 0, .int .i64 0, .int .i64 0, .int .i64 0]), (G + 1 + 1 + 1, 30, #[.int .i64 e0, .int .i64 e1]), (G + 1 + 1, 30, #[.int .i64 a, .int .i64 b]), (G + 1, 55, #[.int .i64 fh, .int .i64 st, .int .i64 x0, .int .i64 x1, .int .i64 d0, .int .i64 d1]), (G, 35, #[.int .i64 id, .int .i64 al, .int .i64 ah, .slice A n c, .slice B mm d, .slice C l ee, .int .i64 t0, .int .i64 t1, .int .i64 u0, .int .i64 u1, .int .i64 v0, .int .i64 v1, .int .i64 h0, .int .i64 h1])] : List (Nat × TypeId × Array Value)))) := Lib.hid (Boxes.row HK3.out (.tail _ (.head _)) (fun p hp => ⟨(by rcases List.mem_cons.1 hp with rfl | hp; exact .head _; exact .tail _ (.tail _ hp)), ne4 p hp⟩) #[.int .i64 r, .int .i64 s])
     have HE4 := Lib.hid (below_setRow HE3.out (show w.heap.size ≤ NA from HZA.out) #[.int .i64 r, .int .i64 s])
     have hS := hHeld.farRow (g := NA) (fun p hp => ne4 p (.tail _ hp)) #[.int .i64 r, .int .i64 s]
     refine wp_store_row 30 (.tmp 14) (.tmp 50) rfl NA #[.int .i64 r, .int .i64 s] rfl rfl 30 _ (HK3.out _ (.tail _ (.head _))) (by kernel_rfl) rfl (by kernel_rfl) ?_
     obtain ⟨y4, hW⟩ : ∃ W', y3.setRow NA #[.int .i64 r, .int .i64 s] = W' := ⟨_, rfl⟩
     rw [hW] at HE4 HK4 hS ⊢
     refine hK.out _ _ hS (fun hHeld2 => ?_)
     try simp only [Act.put, uA, uZ, uS]
     clear hW hS hK K hHeld ne4 HE3 HK3
     have hHeld := hHeld2
     clear hHeld2
     refine wpAnyH_done (by kernel_rfl) ?_ _
     go_wp2_with fail
     go_meet
     exact ⟨NB, NA, rfl, rfl, HK4.out, HE4.out, HDB.out (_, _, _) (.tail _ (.tail _ (.head _))), HDA.out (_, _, _) (.tail _ (.head _))⟩)
 case rest =>
  obtain ⟨N1, N2, rfl, rfl, hB, hE, n1, n2⟩ := hcut
  have HE5 := Lib.hid hE
  have HK5 := Lib.hid hB
  have Hn1 := Lib.hid n1
  have Hn2 := Lib.hid n2
  clear hB hE n1 n2 HE3 HK3 C4 C5
  have ua := HK5.out _ (.tail _ (.head _))
  have ua0 := ua.cell 0
  have ua1 := ua.cell 1
  simp at ua0 ua1
  clear ua
  have za := HK5.out _ (.head _)
  have za0 := za.cell 0
  have za1 := za.cell 1
  simp at za0 za1
  clear za
  have HE6 := Lib.hid (below_then HE5.out (below_alloc1 wc (.cells #[.int .i64 v0', .int .i64 v1'] 30)))
  have HK6 := Lib.hid (HK5.out.new 30 #[.int .i64 v0', .int .i64 v1'])
  have HDV := Lib.hid (boxes_lt HK5.out)
  clear HE5 HK5
  go_upto_region 14 with fail
  obtain ⟨W6, hW6⟩ : ∃ W6, wc.alloc (.cells #[.int .i64 v0', .int .i64 v1'] 30) = W6 := ⟨_, rfl⟩
  rw [hW6] at HE6 HK6 ⊢
  clear hW6
  obtain ⟨V, hV⟩ : ∃ V, wc.heap.size = V := ⟨_, rfl⟩
  rw [hV] at HK6 HDV ⊢
  clear hV
  have HK6' : Hid (Boxes W6 ((V, 30, #[.int .i64 v0', .int .i64 v1']) :: ((M, 123, ML) :: [(G + 1 + 1 + 1 + 1, 55, #[.int .i64 0, .int .i64 0, .int .i64 0, .int .i64 0, .int .i64 0, .int .i64 0]), (G + 1 + 1 + 1, 30, #[.int .i64 e0, .int .i64 e1]), (G + 1 + 1, 30, #[.int .i64 a, .int .i64 b]), (G + 1, 55, #[.int .i64 fh, .int .i64 st, .int .i64 x0, .int .i64 x1, .int .i64 d0, .int .i64 d1]), (G, 35, #[.int .i64 id, .int .i64 al, .int .i64 ah, .slice A n c, .slice B mm d, .slice C l ee, .int .i64 t0, .int .i64 t1, .int .i64 u0, .int .i64 u1, .int .i64 v0, .int .i64 v1, .int .i64 h0, .int .i64 h1])] : List (Nat × TypeId × Array Value)) : List (Nat × TypeId × Array Value))) := Lib.hid (HK6.out.sub (fun x hx => (List.mem_cons.1 hx).elim (fun e => by rw [e]; exact .head _) (fun h => .tail _ (.tail _ (.tail _ h)))))
  have HV4 := Lib.hid (HDV.out (_, _, _) (.tail _ (.tail _ (.tail _ (.head _)))))
  clear HK6 HDV
  go_cut [16] (fun s16 wx => ∃ N3, s16 = .pointer (some ⟨N3, 0, none⟩) ∧ Boxes wx ((N3, 30, #[.int .i64 f0, .int .i64 uq]) :: ((V, 30, #[.int .i64 v0', .int .i64 v1']) :: ((M, 123, ML) :: [(G + 1 + 1 + 1 + 1, 55, #[.int .i64 0, .int .i64 0, .int .i64 0, .int .i64 0, .int .i64 0, .int .i64 0]), (G + 1 + 1 + 1, 30, #[.int .i64 e0, .int .i64 e1]), (G + 1 + 1, 30, #[.int .i64 a, .int .i64 b]), (G + 1, 55, #[.int .i64 fh, .int .i64 st, .int .i64 x0, .int .i64 x1, .int .i64 d0, .int .i64 d1]), (G, 35, #[.int .i64 id, .int .i64 al, .int .i64 ah, .slice A n c, .slice B mm d, .slice C l ee, .int .i64 t0, .int .i64 t1, .int .i64 u0, .int .i64 u1, .int .i64 v0, .int .i64 v1, .int .i64 h0, .int .i64 h1])] : List (Nat × TypeId × Array Value)) : List (Nat × TypeId × Array Value))) ∧ Below w.heap.size w wx ∧ G + 1 + 1 + 1 + 1 ≠ N3)
  case first =>
   rcases HKV.out with ⟨rfl, rfl⟩ | ⟨rfl, rfl⟩
   all_goals
    have hS0 : Boxes W6.drew ((V, 30, #[.int .i64 v0', .int .i64 v1']) :: ((M, 123, ML) :: [(G + 1 + 1 + 1 + 1, 55, #[.int .i64 0, .int .i64 0, .int .i64 0, .int .i64 0, .int .i64 0, .int .i64 0]), (G + 1 + 1 + 1, 30, #[.int .i64 e0, .int .i64 e1]), (G + 1 + 1, 30, #[.int .i64 a, .int .i64 b]), (G + 1, 55, #[.int .i64 fh, .int .i64 st, .int .i64 x0, .int .i64 x1, .int .i64 d0, .int .i64 d1]), (G, 35, #[.int .i64 id, .int .i64 al, .int .i64 ah, .slice A n c, .slice B mm d, .slice C l ee, .int .i64 t0, .int .i64 t1, .int .i64 u0, .int .i64 u1, .int .i64 v0, .int .i64 v1, .int .i64 h0, .int .i64 h1])] : List (Nat × TypeId × Array Value)) : List (Nat × TypeId × Array Value)) := HK6'.out
    have HEd := Lib.hid HE6.out.drew
    have HKd := Lib.hid hS0
    refine wp_region_held_drew (S := fun w' => Boxes w' ((V, 30, #[.int .i64 v0', .int .i64 v1']) :: ((M, 123, ML) :: [(G + 1 + 1 + 1 + 1, 55, #[.int .i64 0, .int .i64 0, .int .i64 0, .int .i64 0, .int .i64 0, .int .i64 0]), (G + 1 + 1 + 1, 30, #[.int .i64 e0, .int .i64 e1]), (G + 1 + 1, 30, #[.int .i64 a, .int .i64 b]), (G + 1, 55, #[.int .i64 fh, .int .i64 st, .int .i64 x0, .int .i64 x1, .int .i64 d0, .int .i64 d1]), (G, 35, #[.int .i64 id, .int .i64 al, .int .i64 ah, .slice A n c, .slice B mm d, .slice C l ee, .int .i64 t0, .int .i64 t1, .int .i64 u0, .int .i64 u1, .int .i64 v0, .int .i64 v1, .int .i64 h0, .int .i64 h1])] : List (Nat × TypeId × Array Value)) : List (Nat × TypeId × Array Value))) (by kernel_rfl) hS0 (fun hHeld => ?_)
    obtain ⟨W7, hW⟩ : ∃ W', W6.drew = W' := ⟨_, rfl⟩
    rw [hW] at HEd HKd hHeld ⊢
    clear hW hS0 HE6 HK6'
    refine tK 62 (i := 0) (v := .pointer (some ⟨G, 3, none⟩)) rfl rfl (by kernel_rfl) ?_ hHeld ?_
    ·intro w hSw; clear hSw; go_simp; try with_reducible rfl
    simp only [uZ, uS]
    refine tK 63 (i := 1) (v := tv A n c) rfl rfl (by kernel_rfl) ?_ hHeld ?_
    ·intro w hSw; have hz := (hSw _ (.tail _ (.tail _ (.tail _ (.tail _ (.tail _ (.tail _ (.head _)))))))); have c3 := hz.cell 3; simp at c3; clear hz hSw; go_simp; try with_reducible rfl
    simp only [uZ, uS]
    refine tK 66 (i := 4) (v := .pointer (some ⟨M, 4, none⟩)) rfl rfl (by kernel_rfl) ?_ hHeld ?_
    ·intro w hSw; clear hSw; go_simp; try with_reducible rfl
    simp only [uZ, uS]
    refine wpAnyH_take (i := 5) (v := ?_) rfl (by kernel_rfl) (by kernel_rfl) (by kernel_rfl) (fun _ _ _ h => h) (Or.inl ⟨by kernel_rfl, ?_⟩) hHeld ?_
    rotate_left
    ·intro w hSw; have c1 := (hSw _ (.tail _ (.head _))).cell 4; rw [HM4.out] at c1; clear hSw; go_simp; try with_reducible rfl
    change wpAnyH _ _ _ _ _ _ _ (Act.put _ (some 67) _) _
    try simp only [Act.put, uA, uZ, uS]
    refine tK 68 (i := 6) (v := .agg #[.int .i64 id, .int .i64 al, .int .i64 ah, .slice A n c, .slice B mm d, .slice C l ee, .int .i64 t0, .int .i64 t1, .int .i64 u0, .int .i64 u1, .int .i64 v0, .int .i64 v1, .int .i64 h0, .int .i64 h1]) rfl rfl (by kernel_rfl) ?_ hHeld ?_
    ·intro w hSw; have hz := (hSw _ (.tail _ (.tail _ (.tail _ (.tail _ (.tail _ (.tail _ (.head _)))))))); have c0 := hz.cell 0; have c1 := hz.cell 1; have c2 := hz.cell 2; have c3 := hz.cell 3; have c4 := hz.cell 4; have c5 := hz.cell 5; have c6 := hz.cell 6; have c7 := hz.cell 7; have c8 := hz.cell 8; have c9 := hz.cell 9; have c10 := hz.cell 10; have c11 := hz.cell 11; have c12 := hz.cell 12; have c13 := hz.cell 13; simp at c0 c1 c2 c3 c4 c5 c6 c7 c8 c9 c10 c11 c12 c13; clear hz hSw; go_simp; try with_reducible rfl
    simp only [uZ, uS]
    refine tK 69 (i := 7) (v := .agg #[.int .i64 fh, .int .i64 st, .int .i64 x0, .int .i64 x1, .int .i64 d0, .int .i64 d1]) rfl rfl (by kernel_rfl) ?_ hHeld ?_
    ·intro w hSw; have hz := (hSw _ (.tail _ (.tail _ (.tail _ (.tail _ (.tail _ (.head _))))))); have c0 := hz.cell 0; have c1 := hz.cell 1; have c2 := hz.cell 2; have c3 := hz.cell 3; have c4 := hz.cell 4; have c5 := hz.cell 5; simp at c0 c1 c2 c3 c4 c5; clear hz hSw; go_simp; try with_reducible rfl
    simp only [uZ, uS]
    have HEq := HEd
    have HKq := HKd
    clear HEd HKd
    rename World => yq
    refine wpAnyH_ready (rs := [2, 11]) (by kernel_rfl) (by simp) ?_
    refine AllReadyH.cons rfl (fun K hK => ?_) (AllReadyH.cons rfl (fun K hK => ?_) AllReadyH.nil)
    all_goals
     go_simp
     first
     | (
      (with_reducible refine (C6.out _ HEq.out).mono ?_)
      rintro e yn ⟨rfl, hb⟩
      have HEr := Lib.hid (below_then HEq.out hb)
      have HKr := Lib.hid (HKq.out.on hb)
      have hS := hHeld.on hb
      clear hb
      refine hK.out _ _ hS (fun hHeld2 => ?_)
      try simp only [Act.put, uA, uZ, uS]
      clear hS hK K hHeld HEq HKq
      have hHeld := hHeld2
      clear hHeld2
      have HEq := HEr
      clear HEr
      have HKq := HKr
      clear HKr
      refine tK 65 (i := 3) (v := .int .i64 f0) rfl rfl (by kernel_rfl) ?_ hHeld ?_
      ·intro w hSw; clear hSw; go_simp; try with_reducible rfl
      simp only [uZ, uS]
      rename World => yq)
     | (
      (with_reducible refine (C7.out _ HEq.out).mono ?_)
      rintro e yn ⟨rfl, hb⟩
      have HEr := Lib.hid (below_then HEq.out hb)
      have HKr := Lib.hid (HKq.out.on hb)
      have hS := hHeld.on hb
      clear hb
      refine hK.out _ _ hS (fun hHeld2 => ?_)
      try simp only [Act.put, uA, uZ, uS]
      clear hS hK K hHeld HEq HKq
      have hHeld := hHeld2
      clear hHeld2
      have HEq := HEr
      clear HEr
      have HKq := HKr
      clear HKr
      refine tK 71 (i := 9) (v := .int .i64 uq) rfl rfl (by kernel_rfl) ?_ hHeld ?_
      ·intro w hSw; clear hSw; go_simp; try with_reducible rfl
      simp only [uZ, uS]
      refine tK 72 (i := 10) (v := rv f0 uq) rfl rfl (by kernel_rfl) ?_ hHeld ?_
      ·intro w hSw; clear hSw; go_simp; try with_reducible rfl
      simp only [uZ, uS]
      rename World => yq)
     | (
      have HEr := Lib.hid (below_then HEq.out (below_alloc1 yq (.cells #[.int .i64 0, .int .i64 0] 30)))
      have HKr := Lib.hid (HKq.out.new 30 #[.int .i64 0, .int .i64 0])
      have hS := hHeld.on (below_alloc1 yq (.cells #[.int .i64 0, .int .i64 0] 30))
      have HDA := Lib.hid (boxes_lt HKq.out)
      have HZA := Lib.hid HEq.out.size
      refine hK.out _ _ hS (fun hHeld2 => ?_)
      try simp only [Act.put, uA, uZ, uS]
      clear hS hK K hHeld HEq HKq
      have hHeld := hHeld2
      clear hHeld2
      have HEq := HEr
      clear HEr
      have HKq := HKr
      clear HKr
      obtain ⟨y2, hW⟩ : ∃ W', yq.alloc (.cells #[.int .i64 0, .int .i64 0] 30) = W' := ⟨_, rfl⟩
      rw [hW] at HEq HKq hHeld ⊢
      clear hW
      obtain ⟨NA, hN⟩ : ∃ N, yq.heap.size = N := ⟨_, rfl⟩
      rw [hN] at HKq HDA HZA ⊢
      clear hN
      rename World => yq)
    refine wpAnyH_ready (rs := [8, 11]) (by kernel_rfl) (by simp) ?_
    refine AllReadyH.cons rfl (fun K hK => ?_) (AllReadyH.cons rfl (fun K hK => ?_) AllReadyH.nil)
    rotate_left 2
    refine wpAnyH_ready (rs := [2]) (by kernel_rfl) (by simp) ?_
    refine AllReadyH.cons rfl (fun K hK => ?_) AllReadyH.nil
    rotate_left 1
    all_goals
     go_simp
     first
     | (
      (with_reducible refine (C6.out _ HEq.out).mono ?_)
      rintro e yn ⟨rfl, hb⟩
      have HEr := Lib.hid (below_then HEq.out hb)
      have HKr := Lib.hid (HKq.out.on hb)
      have hS := hHeld.on hb
      clear hb
      refine hK.out _ _ hS (fun hHeld2 => ?_)
      try simp only [Act.put, uA, uZ, uS]
      clear hS hK K hHeld HEq HKq
      have hHeld := hHeld2
      clear hHeld2
      have HEq := HEr
      clear HEr
      have HKq := HKr
      clear HKr
      refine tK 65 (i := 3) (v := .int .i64 f0) rfl rfl (by kernel_rfl) ?_ hHeld ?_
      ·intro w hSw; clear hSw; go_simp; try with_reducible rfl
      simp only [uZ, uS]
      rename World => yq)
     | (
      (with_reducible refine (C7.out _ HEq.out).mono ?_)
      rintro e yn ⟨rfl, hb⟩
      have HEr := Lib.hid (below_then HEq.out hb)
      have HKr := Lib.hid (HKq.out.on hb)
      have hS := hHeld.on hb
      clear hb
      refine hK.out _ _ hS (fun hHeld2 => ?_)
      try simp only [Act.put, uA, uZ, uS]
      clear hS hK K hHeld HEq HKq
      have hHeld := hHeld2
      clear hHeld2
      have HEq := HEr
      clear HEr
      have HKq := HKr
      clear HKr
      refine tK 71 (i := 9) (v := .int .i64 uq) rfl rfl (by kernel_rfl) ?_ hHeld ?_
      ·intro w hSw; clear hSw; go_simp; try with_reducible rfl
      simp only [uZ, uS]
      refine tK 72 (i := 10) (v := rv f0 uq) rfl rfl (by kernel_rfl) ?_ hHeld ?_
      ·intro w hSw; clear hSw; go_simp; try with_reducible rfl
      simp only [uZ, uS]
      rename World => yq)
     | (
      have HEr := Lib.hid (below_then HEq.out (below_alloc1 yq (.cells #[.int .i64 0, .int .i64 0] 30)))
      have HKr := Lib.hid (HKq.out.new 30 #[.int .i64 0, .int .i64 0])
      have hS := hHeld.on (below_alloc1 yq (.cells #[.int .i64 0, .int .i64 0] 30))
      have HDA := Lib.hid (boxes_lt HKq.out)
      have HZA := Lib.hid HEq.out.size
      refine hK.out _ _ hS (fun hHeld2 => ?_)
      try simp only [Act.put, uA, uZ, uS]
      clear hS hK K hHeld HEq HKq
      have hHeld := hHeld2
      clear hHeld2
      have HEq := HEr
      clear HEr
      have HKq := HKr
      clear HKr
      obtain ⟨y2, hW⟩ : ∃ W', yq.alloc (.cells #[.int .i64 0, .int .i64 0] 30) = W' := ⟨_, rfl⟩
      rw [hW] at HEq HKq hHeld ⊢
      clear hW
      obtain ⟨NA, hN⟩ : ∃ N, yq.heap.size = N := ⟨_, rfl⟩
      rw [hN] at HKq HDA HZA ⊢
      clear hN
      rename World => yq)
    refine wpAnyH_ready (rs := [11]) (by kernel_rfl) (by simp) ?_
    refine AllReadyH.cons rfl (fun K hK => ?_) AllReadyH.nil
    rotate_left 1
    refine wpAnyH_ready (rs := [8]) (by kernel_rfl) (by simp) ?_
    refine AllReadyH.cons rfl (fun K hK => ?_) AllReadyH.nil
    rotate_left 1
    refine wpAnyH_ready (rs := [8]) (by kernel_rfl) (by simp) ?_
    refine AllReadyH.cons rfl (fun K hK => ?_) AllReadyH.nil
    rotate_left 1
    all_goals
     go_simp
     first
     | (
      (with_reducible refine (C6.out _ HEq.out).mono ?_)
      rintro e yn ⟨rfl, hb⟩
      have HEr := Lib.hid (below_then HEq.out hb)
      have HKr := Lib.hid (HKq.out.on hb)
      have hS := hHeld.on hb
      clear hb
      refine hK.out _ _ hS (fun hHeld2 => ?_)
      try simp only [Act.put, uA, uZ, uS]
      clear hS hK K hHeld HEq HKq
      have hHeld := hHeld2
      clear hHeld2
      have HEq := HEr
      clear HEr
      have HKq := HKr
      clear HKr
      refine tK 65 (i := 3) (v := .int .i64 f0) rfl rfl (by kernel_rfl) ?_ hHeld ?_
      ·intro w hSw; clear hSw; go_simp; try with_reducible rfl
      simp only [uZ, uS]
      rename World => yq)
     | (
      (with_reducible refine (C7.out _ HEq.out).mono ?_)
      rintro e yn ⟨rfl, hb⟩
      have HEr := Lib.hid (below_then HEq.out hb)
      have HKr := Lib.hid (HKq.out.on hb)
      have hS := hHeld.on hb
      clear hb
      refine hK.out _ _ hS (fun hHeld2 => ?_)
      try simp only [Act.put, uA, uZ, uS]
      clear hS hK K hHeld HEq HKq
      have hHeld := hHeld2
      clear hHeld2
      have HEq := HEr
      clear HEr
      have HKq := HKr
      clear HKr
      refine tK 71 (i := 9) (v := .int .i64 uq) rfl rfl (by kernel_rfl) ?_ hHeld ?_
      ·intro w hSw; clear hSw; go_simp; try with_reducible rfl
      simp only [uZ, uS]
      refine tK 72 (i := 10) (v := rv f0 uq) rfl rfl (by kernel_rfl) ?_ hHeld ?_
      ·intro w hSw; clear hSw; go_simp; try with_reducible rfl
      simp only [uZ, uS]
      rename World => yq)
     | (
      have HEr := Lib.hid (below_then HEq.out (below_alloc1 yq (.cells #[.int .i64 0, .int .i64 0] 30)))
      have HKr := Lib.hid (HKq.out.new 30 #[.int .i64 0, .int .i64 0])
      have hS := hHeld.on (below_alloc1 yq (.cells #[.int .i64 0, .int .i64 0] 30))
      have HDA := Lib.hid (boxes_lt HKq.out)
      have HZA := Lib.hid HEq.out.size
      refine hK.out _ _ hS (fun hHeld2 => ?_)
      try simp only [Act.put, uA, uZ, uS]
      clear hS hK K hHeld HEq HKq
      have hHeld := hHeld2
      clear hHeld2
      have HEq := HEr
      clear HEr
      have HKq := HKr
      clear HKr
      obtain ⟨y2, hW⟩ : ∃ W', yq.alloc (.cells #[.int .i64 0, .int .i64 0] 30) = W' := ⟨_, rfl⟩
      rw [hW] at HEq HKq hHeld ⊢
      clear hW
      obtain ⟨NA, hN⟩ : ∃ N, yq.heap.size = N := ⟨_, rfl⟩
      rw [hN] at HKq HDA HZA ⊢
      clear hN
      rename World => yq)
    all_goals
     first
     | (
      refine wpAnyH_ready (rs := [12]) (by kernel_rfl) (by simp) ?_
      refine AllReadyH.cons rfl (fun K hK => ?_) AllReadyH.nil
      rw [if_pos (by kernel_rfl)]
      have ne1 : ∀ zz ∈ (((V, 30, #[.int .i64 v0', .int .i64 v1']) :: ((M, 123, ML) :: [(G + 1 + 1 + 1 + 1, 55, #[.int .i64 0, .int .i64 0, .int .i64 0, .int .i64 0, .int .i64 0, .int .i64 0]), (G + 1 + 1 + 1, 30, #[.int .i64 e0, .int .i64 e1]), (G + 1 + 1, 30, #[.int .i64 a, .int .i64 b]), (G + 1, 55, #[.int .i64 fh, .int .i64 st, .int .i64 x0, .int .i64 x1, .int .i64 d0, .int .i64 d1]), (G, 35, #[.int .i64 id, .int .i64 al, .int .i64 ah, .slice A n c, .slice B mm d, .slice C l ee, .int .i64 t0, .int .i64 t1, .int .i64 u0, .int .i64 u1, .int .i64 v0, .int .i64 v1, .int .i64 h0, .int .i64 h1])] : List (Nat × TypeId × Array Value)) : List (Nat × TypeId × Array Value)) : List (Nat × TypeId × Array Value)), zz.1 ≠ NA := HDA.out
      have HK1 : Hid (Boxes (yq.setRow NA #[.int .i64 f0, .int .i64 uq]) ((NA, 30, #[.int .i64 f0, .int .i64 uq]) :: ((V, 30, #[.int .i64 v0', .int .i64 v1']) :: ((M, 123, ML) :: [(G + 1 + 1 + 1 + 1, 55, #[.int .i64 0, .int .i64 0, .int .i64 0, .int .i64 0, .int .i64 0, .int .i64 0]), (G + 1 + 1 + 1, 30, #[.int .i64 e0, .int .i64 e1]), (G + 1 + 1, 30, #[.int .i64 a, .int .i64 b]), (G + 1, 55, #[.int .i64 fh, .int .i64 st, .int .i64 x0, .int .i64 x1, .int .i64 d0, .int .i64 d1]), (G, 35, #[.int .i64 id, .int .i64 al, .int .i64 ah, .slice A n c, .slice B mm d, .slice C l ee, .int .i64 t0, .int .i64 t1, .int .i64 u0, .int .i64 u1, .int .i64 v0, .int .i64 v1, .int .i64 h0, .int .i64 h1])] : List (Nat × TypeId × Array Value)) : List (Nat × TypeId × Array Value)))) := Lib.hid (Boxes.row HKq.out (.head _) (fun p hp => ⟨.tail _ hp, ne1 p hp⟩) #[.int .i64 f0, .int .i64 uq])
      have HE1 := Lib.hid (below_setRow HEq.out (show w.heap.size ≤ NA from HZA.out) #[.int .i64 f0, .int .i64 uq])
      have hS := hHeld.farRow (g := NA) (fun p hp => ne1 p (hp)) #[.int .i64 f0, .int .i64 uq]
      refine wp_store_row 30 (.tmp 16) (.tmp 72) rfl NA #[.int .i64 f0, .int .i64 uq] rfl rfl 30 _ (HKq.out _ (.head _)) (by kernel_rfl) rfl (by kernel_rfl) ?_
      obtain ⟨y1, hW⟩ : ∃ W', yq.setRow NA #[.int .i64 f0, .int .i64 uq] = W' := ⟨_, rfl⟩
      rw [hW] at HE1 HK1 hS ⊢
      refine hK.out _ _ hS (fun hHeld2 => ?_)
      try simp only [Act.put, uA, uZ, uS]
      clear hW hS hK K hHeld ne1 HEq HKq
      have hHeld := hHeld2
      clear hHeld2
      refine wpAnyH_done (by kernel_rfl) ?_ _
      go_wp2_with fail
      go_meet
      exact ⟨NA, rfl, HK1.out, HE1.out, HDA.out (_, _, _) (.tail _ (.tail _ (.head _)))⟩)
  case rest =>
   obtain ⟨N3, rfl, hB, hE, n3⟩ := hcut
   rename World => W8
   have HE8 := Lib.hid hE
   have HK8 := Lib.hid hB
   have HN3 := Lib.hid n3
   clear hB hE n3 HE6 HK6' C6 C7
   go_upto_region 15 with fail
   have HK8' : Hid (Boxes W8 [(N3, 30, #[.int .i64 f0, .int .i64 uq]), (V, 30, #[.int .i64 v0', .int .i64 v1']), (M, 123, ML), (G + 1 + 1 + 1, 30, #[.int .i64 e0, .int .i64 e1]), (G + 1 + 1, 30, #[.int .i64 a, .int .i64 b]), (G + 1, 55, #[.int .i64 fh, .int .i64 st, .int .i64 x0, .int .i64 x1, .int .i64 d0, .int .i64 d1]), (G, 35, #[.int .i64 id, .int .i64 al, .int .i64 ah, .slice A n c, .slice B mm d, .slice C l ee, .int .i64 t0, .int .i64 t1, .int .i64 u0, .int .i64 u1, .int .i64 v0, .int .i64 v1, .int .i64 h0, .int .i64 h1])]) := Lib.hid (HK8.out.sub (fun x hx => by
    simp only [List.mem_cons, List.not_mem_nil, or_false] at hx ⊢
    rcases hx with h | h | h | h | h | h | h <;> simp [h]))
   have HK9 : Hid (Blk W8 (G + 1 + 1 + 1 + 1) 55 #[.int .i64 0, .int .i64 0, .int .i64 0, .int .i64 0, .int .i64 0, .int .i64 0]) := Lib.hid (HK8.out _ (.tail _ (.tail _ (.tail _ (.head _)))))
   have hne : ∀ zz ∈ ([(N3, 30, #[.int .i64 f0, .int .i64 uq]), (V, 30, #[.int .i64 v0', .int .i64 v1']), (M, 123, ML), (G + 1 + 1 + 1, 30, #[.int .i64 e0, .int .i64 e1]), (G + 1 + 1, 30, #[.int .i64 a, .int .i64 b]), (G + 1, 55, #[.int .i64 fh, .int .i64 st, .int .i64 x0, .int .i64 x1, .int .i64 d0, .int .i64 d1]), (G, 35, #[.int .i64 id, .int .i64 al, .int .i64 ah, .slice A n c, .slice B mm d, .slice C l ee, .int .i64 t0, .int .i64 t1, .int .i64 u0, .int .i64 u1, .int .i64 v0, .int .i64 v1, .int .i64 h0, .int .i64 h1])] : List (Nat × TypeId × Array Value)), zz.1 ≠ (G + 1 + 1 + 1 + 1) := by
    have a1 := HN3.out; have a2 := HV4.out; have a3 := HD3.out (_, _, _) (.head _)
    intro zz hz
    simp only [List.mem_cons, List.not_mem_nil, or_false] at hz
    rcases hz with h | h | h | h | h | h | h <;> (rw [h]; dsimp only at a1 a2 a3 ⊢; omega)
   have HNE := Lib.hid hne
   clear hne HK8
   have hS0 : Boxes W8.drew [(N3, 30, #[.int .i64 f0, .int .i64 uq]), (V, 30, #[.int .i64 v0', .int .i64 v1']), (M, 123, ML), (G + 1 + 1 + 1, 30, #[.int .i64 e0, .int .i64 e1]), (G + 1 + 1, 30, #[.int .i64 a, .int .i64 b]), (G + 1, 55, #[.int .i64 fh, .int .i64 st, .int .i64 x0, .int .i64 x1, .int .i64 d0, .int .i64 d1]), (G, 35, #[.int .i64 id, .int .i64 al, .int .i64 ah, .slice A n c, .slice B mm d, .slice C l ee, .int .i64 t0, .int .i64 t1, .int .i64 u0, .int .i64 u1, .int .i64 v0, .int .i64 v1, .int .i64 h0, .int .i64 h1])] := HK8'.out
   have HEd := Lib.hid HE8.out.drew
   have HKd : Hid (Blk W8.drew (G + 1 + 1 + 1 + 1) 55 #[.int .i64 0, .int .i64 0, .int .i64 0, .int .i64 0, .int .i64 0, .int .i64 0]) := Lib.hid HK9.out.drew
   refine wp_region_held_drew (S := fun w' => Boxes w' [(N3, 30, #[.int .i64 f0, .int .i64 uq]), (V, 30, #[.int .i64 v0', .int .i64 v1']), (M, 123, ML), (G + 1 + 1 + 1, 30, #[.int .i64 e0, .int .i64 e1]), (G + 1 + 1, 30, #[.int .i64 a, .int .i64 b]), (G + 1, 55, #[.int .i64 fh, .int .i64 st, .int .i64 x0, .int .i64 x1, .int .i64 d0, .int .i64 d1]), (G, 35, #[.int .i64 id, .int .i64 al, .int .i64 ah, .slice A n c, .slice B mm d, .slice C l ee, .int .i64 t0, .int .i64 t1, .int .i64 u0, .int .i64 u1, .int .i64 v0, .int .i64 v1, .int .i64 h0, .int .i64 h1])]) (by kernel_rfl) hS0 (fun hHeld => ?_)
   obtain ⟨W9, hW⟩ : ∃ W', W8.drew = W' := ⟨_, rfl⟩
   rw [hW] at HEd HKd hHeld ⊢
   clear hW hS0 HE8 HK8'
   clear HK9
   refine tK 73 (i := 0) (v := .agg #[.int .i64 id, .int .i64 al, .int .i64 ah, .slice A n c, .slice B mm d, .slice C l ee, .int .i64 t0, .int .i64 t1, .int .i64 u0, .int .i64 u1, .int .i64 v0, .int .i64 v1, .int .i64 h0, .int .i64 h1]) rfl rfl (by kernel_rfl) ?_ hHeld ?_
   ·intro w hSw; have hz := (hSw _ (.tail _ (.tail _ (.tail _ (.tail _ (.tail _ (.tail _ (.head _)))))))); have c0 := hz.cell 0; have c1 := hz.cell 1; have c2 := hz.cell 2; have c3 := hz.cell 3; have c4 := hz.cell 4; have c5 := hz.cell 5; have c6 := hz.cell 6; have c7 := hz.cell 7; have c8 := hz.cell 8; have c9 := hz.cell 9; have c10 := hz.cell 10; have c11 := hz.cell 11; have c12 := hz.cell 12; have c13 := hz.cell 13; simp at c0 c1 c2 c3 c4 c5 c6 c7 c8 c9 c10 c11 c12 c13; clear hz hSw; go_simp; try with_reducible rfl
   simp only [uZ, uS]
   refine tK 74 (i := 1) (v := rv v0' v1') rfl rfl (by kernel_rfl) ?_ hHeld ?_
   ·intro w hSw; have hz := (hSw _ (.tail _ (.head _))); have c0 := hz.cell 0; have c1 := hz.cell 1; simp at c0 c1; clear hz hSw; go_simp; try with_reducible rfl
   simp only [uZ, uS]
   refine tK 75 (i := 2) (v := rv f0 uq) rfl rfl (by kernel_rfl) ?_ hHeld ?_
   ·intro w hSw; have hz := (hSw _ (.head _)); have c0 := hz.cell 0; have c1 := hz.cell 1; simp at c0 c1; clear hz hSw; go_simp; try with_reducible rfl
   simp only [uZ, uS]
   refine tK 76 (i := 3) (v := .pointer (some ⟨G + 1, 4, none⟩)) rfl rfl (by kernel_rfl) ?_ hHeld ?_
   ·intro w hSw; clear hSw; go_simp; try with_reducible rfl
   simp only [uZ, uS]
   refine tK 77 (i := 4) (v := rv d0 d1) rfl rfl (by kernel_rfl) ?_ hHeld ?_
   ·intro w hSw; have hz := (hSw _ (.tail _ (.tail _ (.tail _ (.tail _ (.tail _ (.head _))))))); have c4 := hz.cell 4; have c5 := hz.cell 5; simp at c4 c5; clear hz hSw; go_simp; try with_reducible rfl
   simp only [uZ, uS]
   refine tK 78 (i := 5) (v := rv e0 e1) rfl rfl (by kernel_rfl) ?_ hHeld ?_
   ·intro w hSw; have hz := (hSw _ (.tail _ (.tail _ (.tail _ (.head _))))); have c0 := hz.cell 0; have c1 := hz.cell 1; simp at c0 c1; clear hz hSw; go_simp; try with_reducible rfl
   simp only [uZ, uS]
   refine wpAnyH_ready (rs := [6]) (by kernel_rfl) (by simp) ?_
   refine AllReadyH.cons rfl (fun K hK => ?_) AllReadyH.nil
   go_simp
   (with_reducible refine (C8.out _).mono ?_)
   rintro e ya ⟨rfl, hb⟩
   have HEa := Lib.hid (below_then HEd.out hb); have HKa := Lib.hid (blkOn HKd.out hb)
   have hS := hHeld.on hb
   clear hb
   refine hK.out _ _ (hS) (fun hHeld2 => ?_)
   try simp only [Act.put, uA, uZ, uS]
   clear hK K hHeld
   have hHeld := hHeld2
   clear hHeld2
   clear hS HEd HKd
   refine wpAnyH_ready (rs := [7]) (by kernel_rfl) (by simp) ?_
   refine AllReadyH.cons rfl (fun K hK => ?_) AllReadyH.nil
   go_simp
   (with_reducible refine (C9.out _ HEa.out).mono ?_)
   rintro e yb ⟨rfl, hb⟩
   have HEb := Lib.hid (below_then HEa.out hb); have HKb := Lib.hid (blkOn HKa.out hb)
   have hS := hHeld.on hb
   clear hb
   refine hK.out _ _ (hS) (fun hHeld2 => ?_)
   try simp only [Act.put, uA, uZ, uS]
   clear hK K hHeld
   have hHeld := hHeld2
   clear hHeld2
   clear hS HEa HKa
   refine tK 81 (i := 8) (v := .agg #[.int .i64 ff0, .int .i64 ff1, .int .i64 ff2, .int .i64 ff3, .int .i64 ff4, .int .i64 ff5]) rfl rfl (by kernel_rfl) ?_ hHeld ?_
   ·intro w hSw; clear hSw; go_simp; try with_reducible rfl
   simp only [uZ, uS]
   refine tK 82 (i := 9) (v := .int .i64 re) rfl rfl (by kernel_rfl) ?_ hHeld ?_
   ·intro w hSw; clear hSw; go_simp; try with_reducible rfl
   simp only [uZ, uS]
   refine wpAnyH_ready (rs := [10]) (by kernel_rfl) (by simp) ?_
   refine AllReadyH.cons rfl (fun K hK => ?_) AllReadyH.nil
   rw [if_pos (by kernel_rfl)]
   have HKR : Hid (Blk (yb.setRow (G + 1 + 1 + 1 + 1) #[.int .i64 ff0, .int .i64 ff1, .int .i64 ff2, .int .i64 ff3, .int .i64 ff4, .int .i64 ff5]) (G + 1 + 1 + 1 + 1) 55 #[.int .i64 ff0, .int .i64 ff1, .int .i64 ff2, .int .i64 ff3, .int .i64 ff4, .int .i64 ff5]) := Lib.hid (setRow_heap yb (G + 1 + 1 + 1 + 1) _ _ 55 _ HKb.out)
   have HE9 := Lib.hid (below_setRow HEb.out (show w.heap.size ≤ G + 1 + 1 + 1 + 1 by have := HG.out; omega) #[.int .i64 ff0, .int .i64 ff1, .int .i64 ff2, .int .i64 ff3, .int .i64 ff4, .int .i64 ff5])
   have hS := hHeld.farRow (g := (G + 1 + 1 + 1 + 1)) HNE.out #[.int .i64 ff0, .int .i64 ff1, .int .i64 ff2, .int .i64 ff3, .int .i64 ff4, .int .i64 ff5]
   refine wp_store_row 55 (.tmp 8) (.tmp 81) rfl (G + 1 + 1 + 1 + 1) #[.int .i64 ff0, .int .i64 ff1, .int .i64 ff2, .int .i64 ff3, .int .i64 ff4, .int .i64 ff5] rfl rfl 55 _ HKb.out (by kernel_rfl) rfl (by kernel_rfl) ?_
   obtain ⟨Wz, hW⟩ : ∃ W', yb.setRow (G + 1 + 1 + 1 + 1) #[.int .i64 ff0, .int .i64 ff1, .int .i64 ff2, .int .i64 ff3, .int .i64 ff4, .int .i64 ff5] = W' := ⟨_, rfl⟩
   rw [hW] at HKR HE9 hS ⊢
   refine hK.out _ _ hS (fun hHeld2 => ?_)
   try simp only [Act.put, uA, uZ, uS]
   clear hW hS hK K hHeld HKb HEb
   have hHeld := hHeld2
   clear hHeld2
   refine tK 9 (i := 11) (v := .int .i64 re) rfl rfl (by kernel_rfl) ?_ hHeld ?_
   ·intro w hSw; clear hSw; go_simp; try with_reducible rfl
   simp only [uZ, uS]
   refine wpAnyH_done (by kernel_rfl) ?_ _
   clear hHeld
   go_wp2
   exact bodyPost_ret (v := .tuple #[.agg #[.int .i64 ff0, .int .i64 ff1, .int .i64 ff2, .int .i64 ff3, .int .i64 ff4, .int .i64 ff5], .int .i64 re]) (results_cell_tmp_row Tryz.results28 _ _ (G + 1 + 1 + 1 + 1) 55 #[.int .i64 ff0, .int .i64 ff1, .int .i64 ff2, .int .i64 ff3, .int .i64 ff4, .int .i64 ff5] (0, 0) _ _ rfl rfl HKR.out Tryz.underlying55 rfl (by kernel_rfl)) rfl ⟨rfl, HE9.out⟩
theorem pour_three (vol mom hei : List P3) (id al ah t0 t1 u0 u1 v0 v1 h0 h1 : Int) (A B C : Option Addr) (n c mm d l ee : Nat) (fh x0 x1 d0 d1 a b e0 e1 p q r s v0' v1' : Int) (w : World) (hi : HoldIn w ⟨id, al, ah, vol, mom, hei, t0, t1, u0, u1, v0, v1, h0, h1⟩ ⟨A, n, c, B, mm, d, C, l, ee⟩)
    (g1 : fillErr ⟨id, al, ah, vol, mom, hei, t0, t1, u0, u1, v0, v1, h0, h1⟩ ⟨fh, 3, x0, x1, d0, d1⟩ = 0) (g2 : massErr a b e0 e1 = 0) (g3 : ¬ a < 0) (ht : tabOk vol = true) (hle : firstX vol ≤ lastX vol)
    (k1 : overS vol x0 x1 = (p, q, 0)) (k2 : litresS a b e0 e1 = (r, s)) (k3 : IntKind.i64.wrap (p + r) = v0') (k4 : IntKind.i64.wrap (q + s) = v1') :
    Calls Tryz.prog 28 #[.agg #[.int .i64 id, .int .i64 al, .int .i64 ah, .slice A n c, .slice B mm d, .slice C l ee, .int .i64 t0, .int .i64 t1, .int .i64 u0, .int .i64 u1, .int .i64 v0, .int .i64 v1, .int .i64 h0, .int .i64 h1], .agg #[.int .i64 fh, .int .i64 3, .int .i64 x0, .int .i64 x1, .int .i64 d0, .int .i64 d1], rv a b, rv e0 e1] w fun e w' => e = .returned (ft (movedS vol id v0' v1' (firstX vol) x1 (mixS d0 d1 e0 e1).1 (mixS d0 d1 e0 e1).2)) ∧ Below w.heap.size w w' :=
  pour_walk vol mom hei id al ah t0 t1 u0 u1 v0 v1 h0 h1 A B C n c mm d l ee fh 3 x0 x1 d0 d1 a b e0 e1 p q r s v0' v1' x0 x1 0 0 _ _ _ _ _ w hi g1 g2 g3 ht hle (by omega) (by omega) rfl (.inl ⟨rfl, rfl⟩)
    (fun W hW => by
      have := partlyVol_to vol id al ah t0 t1 u0 u1 v0 v1 h0 h1 A B C n c mm d l ee fh 3 x0 x1 d0 d1 W (hi.1.below hW)
      rwa [k1] at this)
    (fun W hW => partlySur_to id al ah t0 t1 u0 u1 v0 v1 h0 h1 A B C n c mm d l ee fh 3 x0 x1 d0 d1 W) k2 k3 k4
end

end Go.Proofs.YtemlaaipnhmcoaaGreat
