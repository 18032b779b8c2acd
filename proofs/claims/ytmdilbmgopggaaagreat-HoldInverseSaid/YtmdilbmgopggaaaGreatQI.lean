/- HoldInverse: whatever hold, tank and amount come in, the law returns true and leaves its arguments as they were. No conditions. -/
import Derived.Test.YtmdilbmgopggaaaGreatQ25
import Derived.Test.YtmdilbmgopggaaaGreatQ22
import Derived.Test.YtmdilbmgopggaaaGreatQ41
import Derived.Test.YtmdilbmgopggaaaGreatQ10
import Derived.Test.YtmdilbmgopggaaaGreatQ17
import Derived.Test.YtmdilbmgopggaaaGreatQ16
import Derived.Test.YtmdilbmgopggaaaGreatQ26
import Derived.Test.YtmdilbmgopggaaaGreatQ45
import Derived.Test.YtmdilbmgopggaaaGreatQ23
import Derived.Test.YtmdilbmgopggaaaGreatQ47
import Derived.Test.YtmdilbmgopggaaaGreatQH
set_option linter.unusedVariables false
set_option linter.unusedSimpArgs false
set_option linter.constructorNameAsVariable false
namespace Go.Proofs.YtmdilbmgopggaaaGreat

section
open Go.ChangeShapes Go.WideShapes Go.ChangeAt Go.RowKit Go.Joins Go.Deep

theorem Tryz.cellsTank : Tryz.prog.cellsOf 43 = 6 := by kernel_rfl
theorem Tryz.cellsAmount : Tryz.prog.cellsOf 54 = 4 := by kernel_rfl
set_option maxRecDepth 100000 in
set_option maxHeartbeats 2000000 in
theorem open_tank {H : Type} {enc : TypeId × Value → H} {W : World} {base : Nat} {v : Value} {d : DataW H} {pl : List MemPlace} (hv : Value.okWide Tryz.prog W .any base 43 v) (h : DataW.Trod enc Tryz.prog W 0 (fun _ => true) true 43 v d pl) :
    ∃ (t : TankD) (m : HoldM), v = tankV t m ∧ TankIn W t m := by
  obtain ⟨cs, rfl, hsz⟩ := okWide_struct Tryz.underlying43 hv
  rw [Tryz.cellsTank] at hsz
  obtain ⟨l⟩ := cs
  match l, hsz with
  | [c0, c1, c2, c3, c4, c5], _ =>
    obtain ⟨fuel, hf⟩ := h
    obtain ⟨xs, n, _, hx, _, hlen, hg⟩ := DataW.trod_struct Tryz.underlying43 hf
    obtain ⟨y0, hy0⟩ : ∃ y, xs[0]? = some y := ⟨_, List.getElem?_eq_getElem (by rw [hlen]; decide)⟩
    have g0 := hg 0 _ rfl
    rw [hy0] at g0
    have k0 : DataW.trod enc Tryz.prog W 0 (fun _ => true) true n 3 [c0] = some y0 := by simpa [Value.cells, Tryz.cellsInt, Tryz.cellsRange, Tryz.cellsTable] using g0
    clear g0
    obtain ⟨n0, e0⟩ := open_int1 k0
    subst e0
    obtain ⟨y1, hy1⟩ : ∃ y, xs[1]? = some y := ⟨_, List.getElem?_eq_getElem (by rw [hlen]; decide)⟩
    have g1 := hg 1 _ rfl
    rw [hy1] at g1
    have k1 : DataW.trod enc Tryz.prog W 0 (fun _ => true) true n 23 [c1, c2] = some y1 := by simpa [Value.cells, Tryz.cellsInt, Tryz.cellsRange, Tryz.cellsTable] using g1
    clear g1
    obtain ⟨n1, n2, e1, e2⟩ := open_range k1
    subst e1 e2
    obtain ⟨y2, hy2⟩ : ∃ y, xs[2]? = some y := ⟨_, List.getElem?_eq_getElem (by rw [hlen]; decide)⟩
    have g2 := hg 2 _ rfl
    rw [hy2] at g2
    have k2 : DataW.trod enc Tryz.prog W 0 (fun _ => true) true n 26 [c3] = some y2 := by simpa [Value.cells, Tryz.cellsInt, Tryz.cellsRange, Tryz.cellsTable] using g2
    clear g2
    obtain ⟨A3, m3, q3, ps3, e3, t3⟩ := open_tab1 k2
    subst e3
    obtain ⟨y3, hy3⟩ : ∃ y, xs[3]? = some y := ⟨_, List.getElem?_eq_getElem (by rw [hlen]; decide)⟩
    have g3 := hg 3 _ rfl
    rw [hy3] at g3
    have k3 : DataW.trod enc Tryz.prog W 0 (fun _ => true) true n 26 [c4] = some y3 := by simpa [Value.cells, Tryz.cellsInt, Tryz.cellsRange, Tryz.cellsTable] using g3
    clear g3
    obtain ⟨A4, m4, q4, ps4, e4, t4⟩ := open_tab1 k3
    subst e4
    obtain ⟨y4, hy4⟩ : ∃ y, xs[4]? = some y := ⟨_, List.getElem?_eq_getElem (by rw [hlen]; decide)⟩
    have g4 := hg 4 _ rfl
    rw [hy4] at g4
    have k4 : DataW.trod enc Tryz.prog W 0 (fun _ => true) true n 26 [c5] = some y4 := by simpa [Value.cells, Tryz.cellsInt, Tryz.cellsRange, Tryz.cellsTable] using g4
    clear g4
    obtain ⟨A5, m5, q5, ps5, e5, t5⟩ := open_tab1 k4
    subst e5
    exact ⟨⟨n0, n1, n2, ps3, ps4, ps5⟩, ⟨A3, m3, q3, A4, m4, q4, A5, m5, q5⟩, rfl, t3, t4, t5⟩
set_option maxRecDepth 100000 in
set_option maxHeartbeats 2000000 in
theorem open_amount {H : Type} {enc : TypeId × Value → H} {W : World} {base : Nat} {v : Value} {d : DataW H} {pl : List MemPlace} (hv : Value.okWide Tryz.prog W .any base 54 v) (h : DataW.Trod enc Tryz.prog W 0 (fun _ => true) true 54 v d pl) :
    ∃ a b c d : Int, v = .agg #[.int .i64 a, .int .i64 b, .int .i64 c, .int .i64 d] := by
  obtain ⟨cs, rfl, hsz⟩ := okWide_struct Tryz.underlying54 hv
  rw [Tryz.cellsAmount] at hsz
  obtain ⟨l⟩ := cs
  match l, hsz with
  | [c0, c1, c2, c3], _ =>
    obtain ⟨fuel, hf⟩ := h
    obtain ⟨xs, n, _, hx, _, hlen, hg⟩ := DataW.trod_struct Tryz.underlying54 hf
    obtain ⟨y0, hy0⟩ : ∃ y, xs[0]? = some y := ⟨_, List.getElem?_eq_getElem (by rw [hlen]; decide)⟩
    have g0 := hg 0 _ rfl
    rw [hy0] at g0
    have k0 : DataW.trod enc Tryz.prog W 0 (fun _ => true) true n 23 [c0, c1] = some y0 := by simpa [Value.cells, Tryz.cellsInt, Tryz.cellsRange, Tryz.cellsTable] using g0
    clear g0
    obtain ⟨n0, n1, e0, e1⟩ := open_range k0
    subst e0 e1
    obtain ⟨y1, hy1⟩ : ∃ y, xs[1]? = some y := ⟨_, List.getElem?_eq_getElem (by rw [hlen]; decide)⟩
    have g1 := hg 1 _ rfl
    rw [hy1] at g1
    have k1 : DataW.trod enc Tryz.prog W 0 (fun _ => true) true n 23 [c2, c3] = some y1 := by simpa [Value.cells, Tryz.cellsInt, Tryz.cellsRange, Tryz.cellsTable] using g1
    clear g1
    obtain ⟨n2, n3, e2, e3⟩ := open_range k1
    subst e2 e3
    exact ⟨n0, n1, n2, n3, rfl⟩
end

section
open Go.RowKit
attribute [local go_sem ↓] eqlRange neqRange
set_option maxRecDepth 100000 in
set_option maxHeartbeats 4000000 in
theorem holdInverse_walk (h : HoldD) (m : HoldM) (t : TankD) (k : HoldM) (x0 x1 y0 y1 : Int) (w : World) (hi : HoldIn w h m) (ti : TankIn w t k) :
    Calls Tryz.prog 5 #[holdV h m, tankV t k, .agg #[.int .i64 x0, .int .i64 x1, .int .i64 y0, .int .i64 y1]] w fun e w' => e = .returned (.bool true) ∧ Below w.heap.size w w' := by
  obtain ⟨⟨ra0, rb0, re0⟩, hr0⟩ : ∃ r, LitresS x0 x1 y0 y1 = r := ⟨_, rfl⟩
  obtain ⟨⟨ra1, rb1, re1⟩, hr1⟩ : ∃ r, UllageS h x0 x1 y0 y1 = r := ⟨_, rfl⟩
  obtain ⟨⟨ra2, rb2, re2⟩, hr2⟩ : ∃ r, SoundingS t x0 x1 y0 y1 = r := ⟨_, rfl⟩
  have CA0 : Hid (∀ W, Below w.heap.size w W → Calls Tryz.prog 44 #[rv x0 x1, rv y0 y1] W fun e w' => e = .returned (.tuple #[rv ra0 rb0, .int .i64 re0]) ∧ Below W.heap.size W w') := Lib.hid fun W hW => rt_to (hLitres_any x0 x1 y0 y1 W) hr0
  have CA1 : Hid (∀ W, Below w.heap.size w W → Calls Tryz.prog 46 #[holdV h m, rv x0 x1, rv y0 y1] W fun e w' => e = .returned (.tuple #[rv ra1 rb1, .int .i64 re1]) ∧ Below W.heap.size W w') := Lib.hid fun W hW => rt_to (hUllage_any h m x0 x1 y0 y1 W (hi.below hW)) hr1
  have CA2 : Hid (∀ W, Below w.heap.size w W → Calls Tryz.prog 48 #[tankV t k, rv x0 x1, rv y0 y1] W fun e w' => e = .returned (.tuple #[rv ra2 rb2, .int .i64 re2]) ∧ Below W.heap.size W w') := Lib.hid fun W hW => rt_to (hSounding_any t k x0 x1 y0 y1 W (ti.below hW)) hr2
  have CB0 : Hid (∀ W, Below w.heap.size w W → Calls Tryz.prog 45 #[rv x0 x1, rv y0 y1] W fun e w' => e = .returned (.tuple #[rv ra0 rb0, .int .i64 re0]) ∧ Below W.heap.size W w') := Lib.hid fun W hW => rt_to (sLitres_any x0 x1 y0 y1 W) hr0
  have CB1 : Hid (∀ W, Below w.heap.size w W → Calls Tryz.prog 47 #[holdV h m, rv x0 x1, rv y0 y1] W fun e w' => e = .returned (.tuple #[rv ra1 rb1, .int .i64 re1]) ∧ Below W.heap.size W w') := Lib.hid fun W hW => rt_to (sUllage_any h m x0 x1 y0 y1 W (hi.below hW)) hr1
  have CB2 : Hid (∀ W, Below w.heap.size w W → Calls Tryz.prog 49 #[tankV t k, rv x0 x1, rv y0 y1] W fun e w' => e = .returned (.tuple #[rv ra2 rb2, .int .i64 re2]) ∧ Below W.heap.size W w') := Lib.hid fun W hW => rt_to (sSounding_any t k x0 x1 y0 y1 W (ti.below hW)) hr2
  clear hr0 hr1 hr2 hi ti
  obtain ⟨id, al, ah, vol, mom, hei, t0, t1, u0, u1, v0, v1, h0, h1⟩ := h
  obtain ⟨A, n, c, B, mm, d, C, l, ee⟩ := m
  obtain ⟨id2, al2, ah2, vol2, sur2, hei2⟩ := t
  obtain ⟨A2, m2, c2, B2, mm2, d2, C2, l2, ee2⟩ := k
  have HE := Lib.hid (show Below w.heap.size w (((w.alloc (.cells #[.int .i64 id, .int .i64 al, .int .i64 ah, .slice A n c, .slice B mm d, .slice C l ee, .int .i64 t0, .int .i64 t1, .int .i64 u0, .int .i64 u1, .int .i64 v0, .int .i64 v1, .int .i64 h0, .int .i64 h1] 28)).alloc (.cells #[.int .i64 id2, .int .i64 al2, .int .i64 ah2, .slice A2 m2 c2, .slice B2 mm2 d2, .slice C2 l2 ee2] 43)).alloc (.cells #[.int .i64 x0, .int .i64 x1, .int .i64 y0, .int .i64 y1] 54)) from below_a3 (Below.refl _ _))
  have HK := Lib.hid (boxes3' w 28 43 54 #[.int .i64 id, .int .i64 al, .int .i64 ah, .slice A n c, .slice B mm d, .slice C l ee, .int .i64 t0, .int .i64 t1, .int .i64 u0, .int .i64 u1, .int .i64 v0, .int .i64 v1, .int .i64 h0, .int .i64 h1] #[.int .i64 id2, .int .i64 al2, .int .i64 ah2, .slice A2 m2 c2, .slice B2 mm2 d2, .slice C2 l2 ee2] #[.int .i64 x0, .int .i64 x1, .int .i64 y0, .int .i64 y1])
  go_enter Tryz.func5, Tryz.ntmps5
  go_upto_region 1 with fail
  obtain ⟨W0, hW0⟩ : ∃ W0 : World, (((w.alloc (.cells #[.int .i64 id, .int .i64 al, .int .i64 ah, .slice A n c, .slice B mm d, .slice C l ee, .int .i64 t0, .int .i64 t1, .int .i64 u0, .int .i64 u1, .int .i64 v0, .int .i64 v1, .int .i64 h0, .int .i64 h1] 28)).alloc (.cells #[.int .i64 id2, .int .i64 al2, .int .i64 ah2, .slice A2 m2 c2, .slice B2 mm2 d2, .slice C2 l2 ee2] 43)).alloc (.cells #[.int .i64 x0, .int .i64 x1, .int .i64 y0, .int .i64 y1] 54)) = W0 := ⟨_, rfl⟩
  rw [hW0] at HE HK ⊢
  clear hW0
  obtain ⟨G, hG⟩ : ∃ G, w.heap.size = G := ⟨_, rfl⟩
  rw [hG] at HK ⊢
  have HG := Lib.hid hG; clear hG
  have g := HK.out _ (.head _)
  have g0 := g.cell 0
  have g1 := g.cell 1
  have g2 := g.cell 2
  have g3 := g.cell 3
  simp at g0 g1 g2 g3
  clear g
  go_wp2_with fail
  refine (CA0.out _ HE.out).mono ?_
  rintro e z1 ⟨rfl, hb⟩
  have HE1 := Lib.hid (below_then (below_then HE.out hb) (below_alloc1 z1 (.cells #[.int .i64 ra0, .int .i64 rb0] 23))); have HK1 := Lib.hid ((HK.out.on hb).new 23 #[.int .i64 ra0, .int .i64 rb0])
  clear hb HE HK g0 g1 g2 g3 CA0
  go_upto_region 2 with fail
  obtain ⟨W1, hW⟩ : ∃ W1 : World, z1.alloc (.cells #[.int .i64 ra0, .int .i64 rb0] 23) = W1 := ⟨_, rfl⟩
  rw [hW] at HE1 HK1 ⊢
  clear hW
  obtain ⟨N1, hN⟩ : ∃ N, z1.heap.size = N := ⟨_, rfl⟩
  rw [hN] at HK1 ⊢
  clear hN
  have g := HK1.out _ (.tail _ (.head _))
  have g0 := g.cell 0
  have g1 := g.cell 1
  have g2 := g.cell 2
  have g3 := g.cell 3
  simp at g0 g1 g2 g3
  clear g
  go_wp2_with fail
  refine (CB0.out _ HE1.out).mono ?_
  rintro e z2 ⟨rfl, hb⟩
  have HE2 := Lib.hid (below_then (below_then HE1.out hb) (below_alloc1 z2 (.cells #[.int .i64 ra0, .int .i64 rb0] 23))); have HK2 := Lib.hid ((HK1.out.on hb).new 23 #[.int .i64 ra0, .int .i64 rb0])
  clear hb HE1 HK1 g0 g1 g2 g3 CB0
  go_upto_region 3 with fail
  obtain ⟨W2, hW⟩ : ∃ W2 : World, z2.alloc (.cells #[.int .i64 ra0, .int .i64 rb0] 23) = W2 := ⟨_, rfl⟩
  rw [hW] at HE2 HK2 ⊢
  clear hW
  obtain ⟨N2, hN⟩ : ∃ N, z2.heap.size = N := ⟨_, rfl⟩
  rw [hN] at HK2 ⊢
  clear hN
  as_aux_lemma =>
    have g := HK2.out _ (.tail _ (.tail _ (.head _)))
    have g0 := g.cell 0
    have g1 := g.cell 1
    have g2 := g.cell 2
    have g3 := g.cell 3
    simp at g0 g1 g2 g3
    clear g
    have s := HK2.out _ (.tail _ (.tail _ (.tail _ (.tail _ (.head _)))))
    have s0 := s.cell 0
    have s1 := s.cell 1
    have s2 := s.cell 2
    have s3 := s.cell 3
    have s4 := s.cell 4
    have s5 := s.cell 5
    have s6 := s.cell 6
    have s7 := s.cell 7
    have s8 := s.cell 8
    have s9 := s.cell 9
    have s10 := s.cell 10
    have s11 := s.cell 11
    have s12 := s.cell 12
    have s13 := s.cell 13
    simp at s0 s1 s2 s3 s4 s5 s6 s7 s8 s9 s10 s11 s12 s13
    clear s
    go_wp2_with fail
    refine (CA1.out _ HE2.out).mono ?_
    rintro e z3 ⟨rfl, hb⟩
    have HE3 := Lib.hid (below_then (below_then HE2.out hb) (below_alloc1 z3 (.cells #[.int .i64 ra1, .int .i64 rb1] 23))); have HK3 := Lib.hid ((HK2.out.on hb).new 23 #[.int .i64 ra1, .int .i64 rb1])
    clear hb HE2 HK2 g0 g1 g2 g3 s0 s1 s2 s3 s4 s5 s6 s7 s8 s9 s10 s11 s12 s13 CA1
    go_upto_region 4 with fail
    obtain ⟨W3, hW⟩ : ∃ W3 : World, z3.alloc (.cells #[.int .i64 ra1, .int .i64 rb1] 23) = W3 := ⟨_, rfl⟩
    rw [hW] at HE3 HK3 ⊢
    clear hW
    obtain ⟨N3, hN⟩ : ∃ N, z3.heap.size = N := ⟨_, rfl⟩
    rw [hN] at HK3 ⊢
    clear hN
    have g := HK3.out _ (.tail _ (.tail _ (.tail _ (.head _))))
    have g0 := g.cell 0
    have g1 := g.cell 1
    have g2 := g.cell 2
    have g3 := g.cell 3
    simp at g0 g1 g2 g3
    clear g
    have s := HK3.out _ (.tail _ (.tail _ (.tail _ (.tail _ (.tail _ (.head _))))))
    have s0 := s.cell 0
    have s1 := s.cell 1
    have s2 := s.cell 2
    have s3 := s.cell 3
    have s4 := s.cell 4
    have s5 := s.cell 5
    have s6 := s.cell 6
    have s7 := s.cell 7
    have s8 := s.cell 8
    have s9 := s.cell 9
    have s10 := s.cell 10
    have s11 := s.cell 11
    have s12 := s.cell 12
    have s13 := s.cell 13
    simp at s0 s1 s2 s3 s4 s5 s6 s7 s8 s9 s10 s11 s12 s13
    clear s
    go_wp2_with fail
    refine (CB1.out _ HE3.out).mono ?_
    rintro e z4 ⟨rfl, hb⟩
    have HE4 := Lib.hid (below_then (below_then HE3.out hb) (below_alloc1 z4 (.cells #[.int .i64 ra1, .int .i64 rb1] 23))); have HK4 := Lib.hid ((HK3.out.on hb).new 23 #[.int .i64 ra1, .int .i64 rb1])
    clear hb HE3 HK3 g0 g1 g2 g3 s0 s1 s2 s3 s4 s5 s6 s7 s8 s9 s10 s11 s12 s13 CB1
    go_upto_region 5 with fail
    obtain ⟨W4, hW⟩ : ∃ W4 : World, z4.alloc (.cells #[.int .i64 ra1, .int .i64 rb1] 23) = W4 := ⟨_, rfl⟩
    rw [hW] at HE4 HK4 ⊢
    clear hW
    obtain ⟨N4, hN⟩ : ∃ N, z4.heap.size = N := ⟨_, rfl⟩
    rw [hN] at HK4 ⊢
    clear hN
    as_aux_lemma =>
      have g := HK4.out _ (.tail _ (.tail _ (.tail _ (.tail _ (.head _)))))
      have g0 := g.cell 0
      have g1 := g.cell 1
      have g2 := g.cell 2
      have g3 := g.cell 3
      simp at g0 g1 g2 g3
      clear g
      have s := HK4.out _ (.tail _ (.tail _ (.tail _ (.tail _ (.tail _ (.head _))))))
      have s0 := s.cell 0
      have s1 := s.cell 1
      have s2 := s.cell 2
      have s3 := s.cell 3
      have s4 := s.cell 4
      have s5 := s.cell 5
      simp at s0 s1 s2 s3 s4 s5
      clear s
      go_wp2_with fail
      refine (CA2.out _ HE4.out).mono ?_
      rintro e z5 ⟨rfl, hb⟩
      have HE5 := Lib.hid (below_then (below_then HE4.out hb) (below_alloc1 z5 (.cells #[.int .i64 ra2, .int .i64 rb2] 23))); have HK5 := Lib.hid ((HK4.out.on hb).new 23 #[.int .i64 ra2, .int .i64 rb2])
      clear hb HE4 HK4 g0 g1 g2 g3 s0 s1 s2 s3 s4 s5 CA2
      go_upto_region 6 with fail
      obtain ⟨W5, hW⟩ : ∃ W5 : World, z5.alloc (.cells #[.int .i64 ra2, .int .i64 rb2] 23) = W5 := ⟨_, rfl⟩
      rw [hW] at HE5 HK5 ⊢
      clear hW
      obtain ⟨N5, hN⟩ : ∃ N, z5.heap.size = N := ⟨_, rfl⟩
      rw [hN] at HK5 ⊢
      clear hN
      have g := HK5.out _ (.tail _ (.tail _ (.tail _ (.tail _ (.tail _ (.head _))))))
      have g0 := g.cell 0
      have g1 := g.cell 1
      have g2 := g.cell 2
      have g3 := g.cell 3
      simp at g0 g1 g2 g3
      clear g
      have s := HK5.out _ (.tail _ (.tail _ (.tail _ (.tail _ (.tail _ (.tail _ (.head _)))))))
      have s0 := s.cell 0
      have s1 := s.cell 1
      have s2 := s.cell 2
      have s3 := s.cell 3
      have s4 := s.cell 4
      have s5 := s.cell 5
      simp at s0 s1 s2 s3 s4 s5
      clear s
      go_wp2_with fail
      refine (CB2.out _ HE5.out).mono ?_
      rintro e z6 ⟨rfl, hb⟩
      have HE6 := Lib.hid (below_then (below_then HE5.out hb) (below_alloc1 z6 (.cells #[.int .i64 ra2, .int .i64 rb2] 23))); have HK6 := Lib.hid ((HK5.out.on hb).new 23 #[.int .i64 ra2, .int .i64 rb2])
      clear hb HE5 HK5 g0 g1 g2 g3 s0 s1 s2 s3 s4 s5 CB2
      go_upto_region 7 with fail
      obtain ⟨W6, hW⟩ : ∃ W6 : World, z6.alloc (.cells #[.int .i64 ra2, .int .i64 rb2] 23) = W6 := ⟨_, rfl⟩
      rw [hW] at HE6 HK6 ⊢
      clear hW
      obtain ⟨N6, hN⟩ : ∃ N, z6.heap.size = N := ⟨_, rfl⟩
      rw [hN] at HK6 ⊢
      clear hN
      as_aux_lemma =>
        have a3_ := HK6.out _ (.tail _ (.tail _ (.tail _ (.tail _ (.tail _ (.head _))))))
        have a3_0 := a3_.cell 0
        have a3_1 := a3_.cell 1
        simp at a3_0 a3_1
        clear a3_
        have a4_ := HK6.out _ (.tail _ (.tail _ (.tail _ (.tail _ (.head _)))))
        have a4_0 := a4_.cell 0
        have a4_1 := a4_.cell 1
        simp at a4_0 a4_1
        clear a4_
        have a5_ := HK6.out _ (.tail _ (.tail _ (.tail _ (.head _))))
        have a5_0 := a5_.cell 0
        have a5_1 := a5_.cell 1
        simp at a5_0 a5_1
        clear a5_
        have a6_ := HK6.out _ (.tail _ (.tail _ (.head _)))
        have a6_0 := a6_.cell 0
        have a6_1 := a6_.cell 1
        simp at a6_0 a6_1
        clear a6_
        have a7_ := HK6.out _ (.tail _ (.head _))
        have a7_0 := a7_.cell 0
        have a7_1 := a7_.cell 1
        simp at a7_0 a7_1
        clear a7_
        have a8_ := HK6.out _ (.head _)
        have a8_0 := a8_.cell 0
        have a8_1 := a8_.cell 1
        simp at a8_0 a8_1
        clear a8_
        go_wp2_with fail
        refine (msane_any _).mono ?_
        rintro e z9 ⟨rfl, hb⟩
        have HE9 := Lib.hid (below_then HE6.out hb)
        clear hb
        go_wp2
        go_ret
        exact ⟨rfl, HE9.out⟩
end

section
open Go.ChangeShapes Go.WideShapes Go.ChangeAt Go.RowKit Go.Joins

set_option maxRecDepth 100000 in
theorem holdInverse_lifted (os : Os) (started : os.Started) (H : Type) (enc : TypeId × Value → H) :
    ReturnsInHanded {} Tryz.checked os 5 .any (Rows.holdInverseSpec.pre6 enc Tryz.prog Tryz.f5 Rows.holdInverseRow.domain false) (Rows.holdInverseSpec.post enc Tryz.prog Tryz.f5 false true false false) := by
  refine returnsInHanded_of_change (C := Tryz.checked) own started (by kernel_rfl) Tryz.func5
    (ChangeSpec.witness6 (enc := enc) (C := Tryz.checked) false ⟨#[], #[.agg #[.int .i64 0, .int .i64 0, .int .i64 0, .slice none 0 0, .slice none 0 0, .slice none 0 0, .int .i64 0, .int .i64 0, .int .i64 0, .int .i64 0, .int .i64 0, .int .i64 0, .int .i64 0, .int .i64 0], .agg #[.int .i64 0, .int .i64 0, .int .i64 0, .slice none 0 0, .slice none 0 0, .slice none 0 0], .agg #[.int .i64 0, .int .i64 0, .int .i64 0, .int .i64 0]], []⟩ 8 (by kernel_rfl) (by kernel_rfl) (by kernel_rfl) (by kernel_rfl)) ?_
  intro W base args ds gs before hval0 hW hcnd _
  have hval : ∀ (j : Nat) t v, Tryz.f5.params[j]? = some t → args[j]? = some v → Value.okWide Tryz.prog W .any base t v := hval0
  have hW' := hW
  obtain ⟨p, q, hA0, hV, rfl, hfz, hnd⟩ := hW
  have hA : DataW.TrodAll enc Tryz.prog W 0 (fun _ => true) true Tryz.f5.params.toList args.toList ds p := hA0
  rw [Tryz.params5] at hA hval
  obtain ⟨v0, v1, v2, d0, d1, d2, p0, p1, p2, hargs, rfl, rfl, h0, h1, h2⟩ := trodAll_three hA
  obtain rfl : args = #[v0, v1, v2] := by cases args; simp_all
  obtain ⟨rfl, rfl⟩ := trodVars_none hV
  obtain ⟨h, m, rfl, hi⟩ := open_hold (hval 0 28 v0 rfl rfl) h0
  obtain ⟨t, k, rfl, ti⟩ := open_tank (hval 1 43 v1 rfl rfl) h1
  obtain ⟨x0, x1, y0, y1, rfl⟩ := open_amount (hval 2 54 v2 rfl rfl) h2
  refine (holdInverse_walk h m t k x0 x1 y0 y1 W hi ti).mono fun e W' ⟨he, hb⟩ => ?_
  subst he
  exact ⟨_, rfl, law_post rfl rfl (by intro t ht; rw [Tryz.params5] at ht
                                      have : t = 28 ∨ t = 43 ∨ t = 54 := by simpa using ht
                                      rcases this with rfl | rfl | rfl <;> exact ⟨by kernel_rfl, of_decide_eq_true (by kernel_rfl)⟩) hW' rfl rfl rfl hb⟩

theorem holdInverse_holds : Rows.HoldInverseSaid :=
  OpenClaim.holds_of_wide 5 Tryz.f5 rfl rfl rfl rfl rfl rfl rfl ⟨rfl, rfl, rfl, rfl, rfl⟩ rfl rfl rfl rfl rfl (by kernel_rfl) Tryz.func5 (by kernel_rfl)
    (of_decide_eq_true (by kernel_rfl)) (by unfold Func.isWrapper; rw [if_neg (of_decide_eq_false (by kernel_rfl))]; exact ⟨rfl, rfl⟩)
    (fun os started H enc _ => holdInverse_lifted os started H enc)
end

end Go.Proofs.YtmdilbmgopggaaaGreat
