/- HoldLoads: whatever ship comes in, the law returns true and leaves its arguments as they were. No conditions. -/
import Derived.Test.YtekkiedlajhaiaaGreatQ37
import Derived.Test.YtekkiedlajhaiaaGreatQ38
import Derived.Test.YtekkiedlajhaiaaGreatQ36
import Derived.Test.YtekkiedlajhaiaaGreatQ16
set_option linter.unusedVariables false
set_option linter.unusedSimpArgs false
set_option linter.constructorNameAsVariable false
namespace Go.Proofs.YtekkiedlajhaiaaGreat

section
open Go.RowKit

def LoadIs (w w' : World) (x : Ending) (LW : List WD) (u0 u1 s0 s1 E : Int) : Prop := ∃ v, x = .returned (.tuple #[.agg #[v, .int .i64 u0, .int .i64 u1, .int .i64 s0, .int .i64 s1], .int .i64 E]) ∧ NWs w.heap.size w' v LW ∧ Below w.heap.size w w'
theorem load_shape (L : List (HoldD × HoldM)) (fs : List FillD) (T : List (TankD × HoldM)) (ls : List LevelD) (n l : Nat) (E : Int) (hE : loadErr L fs T ls = E) (hn : n = L.length) (hl : l = T.length) :
    ∃ (LW : List WD) (u0 u1 s0 s1 : Int), LW.length ≤ 40 ∧ (E = 0 → LW = (upTo L fs n).1 ++ (upToT T ls l).1 ∧ (upToT T ls l).2 = (u0, u1) ∧ (upTo L fs n).2 = (s0, s1)) ∧ (¬ E = 0 → LW = [] ∧ u0 = 0 ∧ u1 = 0 ∧ s0 = 0 ∧ s1 = 0) := by
  by_cases h : E = 0
  · obtain ⟨z1, z2, _⟩ := load_zero (hE.trans h)
    refine ⟨_, (upToT T ls l).2.1, (upToT T ls l).2.2, (upTo L fs n).2.1, (upTo L fs n).2.2, ?_, fun _ => ⟨rfl, rfl, rfl⟩, fun q => absurd h q⟩
    have j1 := upTo_len L fs n; have j2 := upToT_len T ls l
    rw [List.length_append]; omega
  · exact ⟨[], 0, 0, 0, 0, by simp, fun q => absurd q h, fun _ => ⟨rfl, rfl, rfl, rfl, rfl⟩⟩

set_option maxRecDepth 100000 in
set_option maxHeartbeats 4000000 in
theorem hLoad_is (A B C D : Option Addr) (n c m d l e r s : Nat) (L : List (HoldD × HoldM)) (fs : List FillD) (T : List (TankD × HoldM)) (ls : List LevelD) (w : World) (hL : HoldsIn w A n L) (hF : FillsIn w B m fs) (hT : TanksIn w C l T) (hV : LevelsIn w D r ls) (hc : n ≤ c) (he : l ≤ e) (iL : ∀ r ∈ L, HoldIn w r.1 r.2) (iT : ∀ r ∈ T, TankIn w r.1 r.2) (LW : List WD) (u0 u1 s0 s1 E : Int) (hE : loadErr L fs T ls = E) (h1 : E = 0 → LW = (upTo L fs n).1 ++ (upToT T ls l).1 ∧ (upToT T ls l).2 = (u0, u1) ∧ (upTo L fs n).2 = (s0, s1)) (h2 : ¬ E = 0 → LW = [] ∧ u0 = 0 ∧ u1 = 0 ∧ s0 = 0 ∧ s1 = 0) :
    Calls Tryz.prog 7 #[.slice A n c, .slice B m d, .slice C l e, .slice D r s] w fun x w' => LoadIs w w' x LW u0 u1 s0 s1 E := by
  by_cases h : E = 0
  · subst h
    obtain ⟨rfl, h3, h4⟩ := h1 rfl
    refine (hLoad_ok A B C D n c m d l e r s L fs T ls w hL hF hT hV hc he iL iT hE).mono ?_
    rintro x w' ⟨v, a0, a1, b0, b1, rfl, h5, h6, h7, h8⟩
    rw [h3] at h5; rw [h4] at h6
    injection h5 with e1 e2; injection h6 with e3 e4
    subst e1 e2 e3 e4
    exact ⟨v, rfl, h7, h8⟩
  · obtain ⟨rfl, rfl, rfl, rfl, rfl⟩ := h2 h
    refine (hLoad_e A B C D n c m d l e r s L fs T ls w hL hF hT hV hc he iL iT E hE h).mono ?_
    rintro x w' ⟨rfl, h8⟩
    exact ⟨_, rfl, NWs.nil _ _, h8⟩

set_option maxRecDepth 100000 in
set_option maxHeartbeats 4000000 in
theorem sLoad_is (A B C D : Option Addr) (n c m d l e r s : Nat) (L : List (HoldD × HoldM)) (fs : List FillD) (T : List (TankD × HoldM)) (ls : List LevelD) (w : World) (hL : HoldsIn w A n L) (hF : FillsIn w B m fs) (hT : TanksIn w C l T) (hV : LevelsIn w D r ls) (hc : n ≤ c) (he : l ≤ e) (iL : ∀ r ∈ L, HoldIn w r.1 r.2) (iT : ∀ r ∈ T, TankIn w r.1 r.2) (LW : List WD) (u0 u1 s0 s1 E : Int) (hE : loadErr L fs T ls = E) (h1 : E = 0 → LW = (upTo L fs n).1 ++ (upToT T ls l).1 ∧ (upToT T ls l).2 = (u0, u1) ∧ (upTo L fs n).2 = (s0, s1)) (h2 : ¬ E = 0 → LW = [] ∧ u0 = 0 ∧ u1 = 0 ∧ s0 = 0 ∧ s1 = 0) :
    Calls Tryz.prog 8 #[.slice A n c, .slice B m d, .slice C l e, .slice D r s] w fun x w' => LoadIs w w' x LW u0 u1 s0 s1 E := by
  refine (sLoad_any A B C D n c m d l e r s L fs T ls w hL hF hT hV hc he iL iT E hE).mono ?_
  rintro x w' ⟨q1, q2, h8⟩
  by_cases h : E = 0
  · subst h
    obtain ⟨rfl, h3, h4⟩ := h1 rfl
    obtain ⟨v, a0, a1, b0, b1, rfl, h5, h6, h7⟩ := q1 rfl
    rw [h3] at h5; rw [h4] at h6
    injection h5 with e1 e2; injection h6 with e3 e4
    subst e1 e2 e3 e4
    exact ⟨v, rfl, h7, h8⟩
  · obtain ⟨rfl, rfl, rfl, rfl, rfl⟩ := h2 h
    exact ⟨_, q2 h, NWs.nil _ _, h8⟩

set_option maxRecDepth 100000 in
set_option maxHeartbeats 4000000 in
theorem holdLoads_walk (A B C D : Option Addr) (n c m d l e r s : Nat) (L : List (HoldD × HoldM)) (fs : List FillD) (T : List (TankD × HoldM)) (ls : List LevelD) (w : World) (hL : HoldsIn w A n L) (hF : FillsIn w B m fs) (hT : TanksIn w C l T) (hV : LevelsIn w D r ls) (hc : n ≤ c) (he : l ≤ e) (iL : ∀ r ∈ L, HoldIn w r.1 r.2) (iT : ∀ r ∈ T, TankIn w r.1 r.2) :
  Calls Tryz.prog 3 #[.agg #[.slice A n c, .slice B m d, .slice C l e, .slice D r s]] w fun x w' => x = .returned (.bool true) ∧ Below w.heap.size w w' := by
 obtain ⟨E, hE⟩ : ∃ E, loadErr L fs T ls = E := ⟨_, rfl⟩
 obtain ⟨LW, u0, u1, s0, s1, h40, h1, h2⟩ := load_shape L fs T ls n l E hE hL.1 hT.1
 have CA : Hid (∀ W, Below w.heap.size w W → Calls Tryz.prog 7 #[.slice A n c, .slice B m d, .slice C l e, .slice D r s] W fun x w' => LoadIs W w' x LW u0 u1 s0 s1 E) := Lib.hid fun W hW =>
  hLoad_is A B C D n c m d l e r s L fs T ls W (hL.below hW) (hF.below hW) (hT.below hW) (hV.below hW) hc he (fun z hz => (iL z hz).below hW) (fun z hz => (iT z hz).below hW) LW u0 u1 s0 s1 E hE h1 h2
 have CB : Hid (∀ W, Below w.heap.size w W → Calls Tryz.prog 8 #[.slice A n c, .slice B m d, .slice C l e, .slice D r s] W fun x w' => LoadIs W w' x LW u0 u1 s0 s1 E) := Lib.hid fun W hW =>
  sLoad_is A B C D n c m d l e r s L fs T ls W (hL.below hW) (hF.below hW) (hT.below hW) (hV.below hW) hc he (fun z hz => (iL z hz).below hW) (fun z hz => (iT z hz).below hW) LW u0 u1 s0 s1 E hE h1 h2
 have H40 := Lib.hid h40
 clear hE h1 h2 h40 hL hF hT hV hc he iL iT
 have HE := Lib.hid (show Below w.heap.size w (w.alloc (.cells #[.slice A n c, .slice B m d, .slice C l e, .slice D r s] 27)) from below_alloc1 w _)
 have HK := Lib.hid (boxes1' w 27 #[.slice A n c, .slice B m d, .slice C l e, .slice D r s])
 go_enter Tryz.func3, Tryz.ntmps3
 go_upto_region 1 with fail
 obtain ⟨W0, hW0⟩ : ∃ W0 : World, (w.alloc (.cells #[.slice A n c, .slice B m d, .slice C l e, .slice D r s] 27)) = W0 := ⟨_, rfl⟩
 rw [hW0] at HE HK ⊢
 clear hW0
 obtain ⟨G, hG⟩ : ∃ G, w.heap.size = G := ⟨_, rfl⟩
 rw [hG] at HK ⊢
 have HG := Lib.hid hG; clear hG
 have t_ := HK.out _ (.head _)
 have t_0 := t_.cell 0
 have t_1 := t_.cell 1
 have t_2 := t_.cell 2
 have t_3 := t_.cell 3
 simp at t_0 t_1 t_2 t_3
 clear t_
 go_wp2_with fail
 refine (CA.out _ HE.out).mono ?_
 rintro x y1 ⟨v, rfl, hv, hq⟩
 obtain ⟨fp, fn, fc, rfl⟩ := hv.slice
 have HV1 := Lib.hid (hv.on (below_alloc1 y1 (.cells #[.slice fp fn fc, .int .i64 u0, .int .i64 u1, .int .i64 s0, .int .i64 s1] 32)))
 have HE1 := Lib.hid (below_then (below_then HE.out hq) (below_alloc1 y1 (.cells #[.slice fp fn fc, .int .i64 u0, .int .i64 u1, .int .i64 s0, .int .i64 s1] 32)))
 have HK1 := Lib.hid ((HK.out.on hq).new 32 #[.slice fp fn fc, .int .i64 u0, .int .i64 u1, .int .i64 s0, .int .i64 s1])
 clear hq hv HE HK t_0 t_1 t_2 t_3 CA
 go_upto_region 2 with fail
 obtain ⟨W1, hW⟩ : ∃ W' : World, y1.alloc (.cells #[.slice fp fn fc, .int .i64 u0, .int .i64 u1, .int .i64 s0, .int .i64 s1] 32) = W' := ⟨_, rfl⟩
 rw [hW] at HE1 HK1 HV1 ⊢
 clear hW
 obtain ⟨N1, hN⟩ : ∃ N, y1.heap.size = N := ⟨_, rfl⟩
 rw [hN] at HK1 ⊢
 clear hN
 have t_ := HK1.out _ (.tail _ (.head _))
 have t_0 := t_.cell 0
 have t_1 := t_.cell 1
 have t_2 := t_.cell 2
 have t_3 := t_.cell 3
 simp at t_0 t_1 t_2 t_3
 clear t_
 go_wp2_with fail
 refine (CB.out _ HE1.out).mono ?_
 rintro x y2 ⟨v, rfl, hv, hq⟩
 obtain ⟨gp, gn, gc, rfl⟩ := hv.slice
 have HV2 := Lib.hid (hv.on (below_alloc1 y2 (.cells #[.slice gp gn gc, .int .i64 u0, .int .i64 u1, .int .i64 s0, .int .i64 s1] 32)))
 have HE2 := Lib.hid (below_then (below_then HE1.out hq) (below_alloc1 y2 (.cells #[.slice gp gn gc, .int .i64 u0, .int .i64 u1, .int .i64 s0, .int .i64 s1] 32)))
 have HK2 := Lib.hid ((HK1.out.on hq).new 32 #[.slice gp gn gc, .int .i64 u0, .int .i64 u1, .int .i64 s0, .int .i64 s1])
 have HVp := Lib.hid ((HV1.out.on hq).on (below_alloc1 y2 (.cells #[.slice gp gn gc, .int .i64 u0, .int .i64 u1, .int .i64 s0, .int .i64 s1] 32)))
 clear HV1
 clear hq hv HE1 HK1 t_0 t_1 t_2 t_3 CB
 go_upto_region 3 with fail
 obtain ⟨W2, hW⟩ : ∃ W' : World, y2.alloc (.cells #[.slice gp gn gc, .int .i64 u0, .int .i64 u1, .int .i64 s0, .int .i64 s1] 32) = W' := ⟨_, rfl⟩
 rw [hW] at HE2 HK2 HV2 HVp ⊢
 clear hW
 obtain ⟨N2, hN⟩ : ∃ N, y2.heap.size = N := ⟨_, rfl⟩
 rw [hN] at HK2 ⊢
 clear hN
 have CL : Hid (∀ W, Below W2.heap.size W2 W → Calls Tryz.prog 9 #[.agg #[.slice fp fn fc, .int .i64 u0, .int .i64 u1, .int .i64 s0, .int .i64 s1], .agg #[.slice gp gn gc, .int .i64 u0, .int .i64 u1, .int .i64 s0, .int .i64 s1]] W fun x w' => x = .returned (.bool true) ∧ Below W.heap.size W w') := Lib.hid fun W hW =>
  sameLoad_any _ _ LW u0 u1 s0 s1 W H40.out ((HVp.out.1.sl).below hW) ((HV2.out.1.sl).below hW) HVp.out.2 HV2.out.2
 clear HVp HV2 H40
 have a_ := HK2.out _ (.tail _ (.head _))
 have a_0 := a_.cell 0
 have a_1 := a_.cell 1
 have a_2 := a_.cell 2
 have a_3 := a_.cell 3
 have a_4 := a_.cell 4
 simp at a_0 a_1 a_2 a_3 a_4
 clear a_
 have b_ := HK2.out _ (.head _)
 have b_0 := b_.cell 0
 have b_1 := b_.cell 1
 have b_2 := b_.cell 2
 have b_3 := b_.cell 3
 have b_4 := b_.cell 4
 simp at b_0 b_1 b_2 b_3 b_4
 clear b_
 go_wp2_with fail
 refine (CL.out _ (Below.refl _ _)).mono ?_
 rintro x y3 ⟨rfl, hq⟩
 have HE3 := Lib.hid (below_then HE2.out hq)
 clear hq HE2 HK2 CL a_0 a_1 a_2 a_3 a_4 b_0 b_1 b_2 b_3 b_4
 have g1 : (E == E) = true := by simp
 go_wp2_with fail
 refine (msane_any _).mono ?_
 rintro x y4 ⟨rfl, hq⟩
 have HE4 := Lib.hid (below_then HE3.out hq)
 clear hq HE3
 go_wp2
 go_ret
 exact ⟨rfl, HE4.out⟩
end

section
open Go.ChangeShapes Go.WideShapes Go.ChangeAt Go.RowKit Go.Joins Go.Deep

theorem Tryz.cellsLevel' : Tryz.prog.cellsOf 72 = 6 := by kernel_rfl
theorem Tryz.cellsBool : Tryz.prog.cellsOf 4 = 1 := by kernel_rfl
theorem Tryz.cellsShip : Tryz.prog.cellsOf 27 = 4 := by kernel_rfl
theorem Tryz.cellsHolds : Tryz.prog.cellsOf 22 = 1 := by kernel_rfl
theorem Tryz.cellsFills : Tryz.prog.cellsOf 23 = 1 := by kernel_rfl
theorem Tryz.cellsTanks : Tryz.prog.cellsOf 24 = 1 := by kernel_rfl
theorem Tryz.cellsLevels : Tryz.prog.cellsOf 25 = 1 := by kernel_rfl
set_option maxRecDepth 100000 in
theorem open_bool1 {H : Type} {enc : TypeId × Value → H} {W : World} {fuel : Nat} {c0 : Value} {x : DataW H × List MemPlace} (h : DataW.trod enc Tryz.prog W 0 (fun _ => true) true fuel 4 [c0] = some x) : ∃ a : Bool, c0 = .bool a := by
  obtain ⟨p0, e0, _, _⟩ := DataW.trod_bool Tryz.underlying4 h
  simp at e0
  exact ⟨p0, e0⟩
set_option maxRecDepth 100000 in
set_option maxHeartbeats 2000000 in
theorem cells_hold {H : Type} {enc : TypeId × Value → H} {W : World} {fuel : Nat} {x : DataW H × List MemPlace} {c0 c1 c2 c3 c4 c5 c6 c7 c8 c9 c10 c11 c12 c13 : Value} (hf : DataW.trod enc Tryz.prog W 0 (fun _ => true) true fuel 50 [c0, c1, c2, c3, c4, c5, c6, c7, c8, c9, c10, c11, c12, c13] = some x) :
    ∃ r : HoldD × HoldM, [c0, c1, c2, c3, c4, c5, c6, c7, c8, c9, c10, c11, c12, c13] = (holdCells r.1 r.2).toList ∧ HoldIn W r.1 r.2 := by
  obtain ⟨xs, n, _, hx, _, hlen, hg⟩ := DataW.trod_struct Tryz.underlying50 hf
  obtain ⟨y0, hy0⟩ : ∃ y, xs[0]? = some y := ⟨_, List.getElem?_eq_getElem (by rw [hlen]; decide)⟩
  have g0 := hg 0 _ rfl
  rw [hy0] at g0
  have k0 : DataW.trod enc Tryz.prog W 0 (fun _ => true) true n 3 [c0] = some y0 := by simpa [Value.cells, Tryz.cellsInt, Tryz.cellsRange, Tryz.cellsTable, Tryz.cellsBool] using g0
  clear g0
  obtain ⟨n0, e0⟩ := open_int1 k0
  subst e0
  obtain ⟨y1, hy1⟩ : ∃ y, xs[1]? = some y := ⟨_, List.getElem?_eq_getElem (by rw [hlen]; decide)⟩
  have g1 := hg 1 _ rfl
  rw [hy1] at g1
  have k1 : DataW.trod enc Tryz.prog W 0 (fun _ => true) true n 30 [c1, c2] = some y1 := by simpa [Value.cells, Tryz.cellsInt, Tryz.cellsRange, Tryz.cellsTable, Tryz.cellsBool] using g1
  clear g1
  obtain ⟨n1, n2, e1, e2⟩ := open_range k1
  subst e1 e2
  obtain ⟨y2, hy2⟩ : ∃ y, xs[2]? = some y := ⟨_, List.getElem?_eq_getElem (by rw [hlen]; decide)⟩
  have g2 := hg 2 _ rfl
  rw [hy2] at g2
  have k2 : DataW.trod enc Tryz.prog W 0 (fun _ => true) true n 48 [c3] = some y2 := by simpa [Value.cells, Tryz.cellsInt, Tryz.cellsRange, Tryz.cellsTable, Tryz.cellsBool] using g2
  clear g2
  obtain ⟨A3, m3, q3, ps3, e3, t3⟩ := open_tab1 k2
  subst e3
  obtain ⟨y3, hy3⟩ : ∃ y, xs[3]? = some y := ⟨_, List.getElem?_eq_getElem (by rw [hlen]; decide)⟩
  have g3 := hg 3 _ rfl
  rw [hy3] at g3
  have k3 : DataW.trod enc Tryz.prog W 0 (fun _ => true) true n 48 [c4] = some y3 := by simpa [Value.cells, Tryz.cellsInt, Tryz.cellsRange, Tryz.cellsTable, Tryz.cellsBool] using g3
  clear g3
  obtain ⟨A4, m4, q4, ps4, e4, t4⟩ := open_tab1 k3
  subst e4
  obtain ⟨y4, hy4⟩ : ∃ y, xs[4]? = some y := ⟨_, List.getElem?_eq_getElem (by rw [hlen]; decide)⟩
  have g4 := hg 4 _ rfl
  rw [hy4] at g4
  have k4 : DataW.trod enc Tryz.prog W 0 (fun _ => true) true n 48 [c5] = some y4 := by simpa [Value.cells, Tryz.cellsInt, Tryz.cellsRange, Tryz.cellsTable, Tryz.cellsBool] using g4
  clear g4
  obtain ⟨A5, m5, q5, ps5, e5, t5⟩ := open_tab1 k4
  subst e5
  obtain ⟨y5, hy5⟩ : ∃ y, xs[5]? = some y := ⟨_, List.getElem?_eq_getElem (by rw [hlen]; decide)⟩
  have g5 := hg 5 _ rfl
  rw [hy5] at g5
  have k5 : DataW.trod enc Tryz.prog W 0 (fun _ => true) true n 30 [c6, c7] = some y5 := by simpa [Value.cells, Tryz.cellsInt, Tryz.cellsRange, Tryz.cellsTable, Tryz.cellsBool] using g5
  clear g5
  obtain ⟨n6, n7, e6, e7⟩ := open_range k5
  subst e6 e7
  obtain ⟨y6, hy6⟩ : ∃ y, xs[6]? = some y := ⟨_, List.getElem?_eq_getElem (by rw [hlen]; decide)⟩
  have g6 := hg 6 _ rfl
  rw [hy6] at g6
  have k6 : DataW.trod enc Tryz.prog W 0 (fun _ => true) true n 30 [c8, c9] = some y6 := by simpa [Value.cells, Tryz.cellsInt, Tryz.cellsRange, Tryz.cellsTable, Tryz.cellsBool] using g6
  clear g6
  obtain ⟨n8, n9, e8, e9⟩ := open_range k6
  subst e8 e9
  obtain ⟨y7, hy7⟩ : ∃ y, xs[7]? = some y := ⟨_, List.getElem?_eq_getElem (by rw [hlen]; decide)⟩
  have g7 := hg 7 _ rfl
  rw [hy7] at g7
  have k7 : DataW.trod enc Tryz.prog W 0 (fun _ => true) true n 30 [c10, c11] = some y7 := by simpa [Value.cells, Tryz.cellsInt, Tryz.cellsRange, Tryz.cellsTable, Tryz.cellsBool] using g7
  clear g7
  obtain ⟨n10, n11, e10, e11⟩ := open_range k7
  subst e10 e11
  obtain ⟨y8, hy8⟩ : ∃ y, xs[8]? = some y := ⟨_, List.getElem?_eq_getElem (by rw [hlen]; decide)⟩
  have g8 := hg 8 _ rfl
  rw [hy8] at g8
  have k8 : DataW.trod enc Tryz.prog W 0 (fun _ => true) true n 30 [c12, c13] = some y8 := by simpa [Value.cells, Tryz.cellsInt, Tryz.cellsRange, Tryz.cellsTable, Tryz.cellsBool] using g8
  clear g8
  obtain ⟨n12, n13, e12, e13⟩ := open_range k8
  subst e12 e13
  exact ⟨⟨⟨n0, n1, n2, ps3, ps4, ps5, n6, n7, n8, n9, n10, n11, n12, n13⟩, ⟨A3, m3, q3, A4, m4, q4, A5, m5, q5⟩⟩, rfl, t3, t4, t5⟩
set_option maxRecDepth 100000 in
set_option maxHeartbeats 2000000 in
theorem cells_tank {H : Type} {enc : TypeId × Value → H} {W : World} {fuel : Nat} {x : DataW H × List MemPlace} {c0 c1 c2 c3 c4 c5 : Value} (hf : DataW.trod enc Tryz.prog W 0 (fun _ => true) true fuel 69 [c0, c1, c2, c3, c4, c5] = some x) :
    ∃ r : TankD × HoldM, [c0, c1, c2, c3, c4, c5] = (tankCells r.1 r.2).toList ∧ TankIn W r.1 r.2 := by
  obtain ⟨xs, n, _, hx, _, hlen, hg⟩ := DataW.trod_struct Tryz.underlying69 hf
  obtain ⟨y0, hy0⟩ : ∃ y, xs[0]? = some y := ⟨_, List.getElem?_eq_getElem (by rw [hlen]; decide)⟩
  have g0 := hg 0 _ rfl
  rw [hy0] at g0
  have k0 : DataW.trod enc Tryz.prog W 0 (fun _ => true) true n 3 [c0] = some y0 := by simpa [Value.cells, Tryz.cellsInt, Tryz.cellsRange, Tryz.cellsTable, Tryz.cellsBool] using g0
  clear g0
  obtain ⟨n0, e0⟩ := open_int1 k0
  subst e0
  obtain ⟨y1, hy1⟩ : ∃ y, xs[1]? = some y := ⟨_, List.getElem?_eq_getElem (by rw [hlen]; decide)⟩
  have g1 := hg 1 _ rfl
  rw [hy1] at g1
  have k1 : DataW.trod enc Tryz.prog W 0 (fun _ => true) true n 30 [c1, c2] = some y1 := by simpa [Value.cells, Tryz.cellsInt, Tryz.cellsRange, Tryz.cellsTable, Tryz.cellsBool] using g1
  clear g1
  obtain ⟨n1, n2, e1, e2⟩ := open_range k1
  subst e1 e2
  obtain ⟨y2, hy2⟩ : ∃ y, xs[2]? = some y := ⟨_, List.getElem?_eq_getElem (by rw [hlen]; decide)⟩
  have g2 := hg 2 _ rfl
  rw [hy2] at g2
  have k2 : DataW.trod enc Tryz.prog W 0 (fun _ => true) true n 48 [c3] = some y2 := by simpa [Value.cells, Tryz.cellsInt, Tryz.cellsRange, Tryz.cellsTable, Tryz.cellsBool] using g2
  clear g2
  obtain ⟨A3, m3, q3, ps3, e3, t3⟩ := open_tab1 k2
  subst e3
  obtain ⟨y3, hy3⟩ : ∃ y, xs[3]? = some y := ⟨_, List.getElem?_eq_getElem (by rw [hlen]; decide)⟩
  have g3 := hg 3 _ rfl
  rw [hy3] at g3
  have k3 : DataW.trod enc Tryz.prog W 0 (fun _ => true) true n 48 [c4] = some y3 := by simpa [Value.cells, Tryz.cellsInt, Tryz.cellsRange, Tryz.cellsTable, Tryz.cellsBool] using g3
  clear g3
  obtain ⟨A4, m4, q4, ps4, e4, t4⟩ := open_tab1 k3
  subst e4
  obtain ⟨y4, hy4⟩ : ∃ y, xs[4]? = some y := ⟨_, List.getElem?_eq_getElem (by rw [hlen]; decide)⟩
  have g4 := hg 4 _ rfl
  rw [hy4] at g4
  have k4 : DataW.trod enc Tryz.prog W 0 (fun _ => true) true n 48 [c5] = some y4 := by simpa [Value.cells, Tryz.cellsInt, Tryz.cellsRange, Tryz.cellsTable, Tryz.cellsBool] using g4
  clear g4
  obtain ⟨A5, m5, q5, ps5, e5, t5⟩ := open_tab1 k4
  subst e5
  exact ⟨⟨⟨n0, n1, n2, ps3, ps4, ps5⟩, ⟨A3, m3, q3, A4, m4, q4, A5, m5, q5⟩⟩, rfl, t3, t4, t5⟩
set_option maxRecDepth 100000 in
set_option maxHeartbeats 2000000 in
theorem cells_fill {H : Type} {enc : TypeId × Value → H} {W : World} {fuel : Nat} {x : DataW H × List MemPlace} {c0 c1 c2 c3 c4 c5 : Value} (hf : DataW.trod enc Tryz.prog W 0 (fun _ => true) true fuel 53 [c0, c1, c2, c3, c4, c5] = some x) :
    ∃ r : FillD, [c0, c1, c2, c3, c4, c5] = [.int .i64 r.hold, .int .i64 r.st, .int .i64 r.x0, .int .i64 r.x1, .int .i64 r.d0, .int .i64 r.d1] := by
  obtain ⟨xs, n, _, hx, _, hlen, hg⟩ := DataW.trod_struct Tryz.underlying53 hf
  obtain ⟨y0, hy0⟩ : ∃ y, xs[0]? = some y := ⟨_, List.getElem?_eq_getElem (by rw [hlen]; decide)⟩
  have g0 := hg 0 _ rfl
  rw [hy0] at g0
  have k0 : DataW.trod enc Tryz.prog W 0 (fun _ => true) true n 3 [c0] = some y0 := by simpa [Value.cells, Tryz.cellsInt, Tryz.cellsRange, Tryz.cellsTable, Tryz.cellsBool] using g0
  clear g0
  obtain ⟨n0, e0⟩ := open_int1 k0
  subst e0
  obtain ⟨y1, hy1⟩ : ∃ y, xs[1]? = some y := ⟨_, List.getElem?_eq_getElem (by rw [hlen]; decide)⟩
  have g1 := hg 1 _ rfl
  rw [hy1] at g1
  have k1 : DataW.trod enc Tryz.prog W 0 (fun _ => true) true n 3 [c1] = some y1 := by simpa [Value.cells, Tryz.cellsInt, Tryz.cellsRange, Tryz.cellsTable, Tryz.cellsBool] using g1
  clear g1
  obtain ⟨n1, e1⟩ := open_int1 k1
  subst e1
  obtain ⟨y2, hy2⟩ : ∃ y, xs[2]? = some y := ⟨_, List.getElem?_eq_getElem (by rw [hlen]; decide)⟩
  have g2 := hg 2 _ rfl
  rw [hy2] at g2
  have k2 : DataW.trod enc Tryz.prog W 0 (fun _ => true) true n 30 [c2, c3] = some y2 := by simpa [Value.cells, Tryz.cellsInt, Tryz.cellsRange, Tryz.cellsTable, Tryz.cellsBool] using g2
  clear g2
  obtain ⟨n2, n3, e2, e3⟩ := open_range k2
  subst e2 e3
  obtain ⟨y3, hy3⟩ : ∃ y, xs[3]? = some y := ⟨_, List.getElem?_eq_getElem (by rw [hlen]; decide)⟩
  have g3 := hg 3 _ rfl
  rw [hy3] at g3
  have k3 : DataW.trod enc Tryz.prog W 0 (fun _ => true) true n 30 [c4, c5] = some y3 := by simpa [Value.cells, Tryz.cellsInt, Tryz.cellsRange, Tryz.cellsTable, Tryz.cellsBool] using g3
  clear g3
  obtain ⟨n4, n5, e4, e5⟩ := open_range k3
  subst e4 e5
  exact ⟨⟨n0, n1, n2, n3, n4, n5⟩, rfl⟩
set_option maxRecDepth 100000 in
set_option maxHeartbeats 2000000 in
theorem cells_level {H : Type} {enc : TypeId × Value → H} {W : World} {fuel : Nat} {x : DataW H × List MemPlace} {c0 c1 c2 c3 c4 c5 : Value} (hf : DataW.trod enc Tryz.prog W 0 (fun _ => true) true fuel 72 [c0, c1, c2, c3, c4, c5] = some x) :
    ∃ r : LevelD, [c0, c1, c2, c3, c4, c5] = [.int .i64 r.tank, .bool r.pr, .int .i64 r.s0, .int .i64 r.s1, .int .i64 r.d0, .int .i64 r.d1] := by
  obtain ⟨xs, n, _, hx, _, hlen, hg⟩ := DataW.trod_struct Tryz.underlying72 hf
  obtain ⟨y0, hy0⟩ : ∃ y, xs[0]? = some y := ⟨_, List.getElem?_eq_getElem (by rw [hlen]; decide)⟩
  have g0 := hg 0 _ rfl
  rw [hy0] at g0
  have k0 : DataW.trod enc Tryz.prog W 0 (fun _ => true) true n 3 [c0] = some y0 := by simpa [Value.cells, Tryz.cellsInt, Tryz.cellsRange, Tryz.cellsTable, Tryz.cellsBool] using g0
  clear g0
  obtain ⟨n0, e0⟩ := open_int1 k0
  subst e0
  obtain ⟨y1, hy1⟩ : ∃ y, xs[1]? = some y := ⟨_, List.getElem?_eq_getElem (by rw [hlen]; decide)⟩
  have g1 := hg 1 _ rfl
  rw [hy1] at g1
  have k1 : DataW.trod enc Tryz.prog W 0 (fun _ => true) true n 4 [c1] = some y1 := by simpa [Value.cells, Tryz.cellsInt, Tryz.cellsRange, Tryz.cellsTable, Tryz.cellsBool] using g1
  clear g1
  obtain ⟨n1, e1⟩ := open_bool1 k1
  subst e1
  obtain ⟨y2, hy2⟩ : ∃ y, xs[2]? = some y := ⟨_, List.getElem?_eq_getElem (by rw [hlen]; decide)⟩
  have g2 := hg 2 _ rfl
  rw [hy2] at g2
  have k2 : DataW.trod enc Tryz.prog W 0 (fun _ => true) true n 30 [c2, c3] = some y2 := by simpa [Value.cells, Tryz.cellsInt, Tryz.cellsRange, Tryz.cellsTable, Tryz.cellsBool] using g2
  clear g2
  obtain ⟨n2, n3, e2, e3⟩ := open_range k2
  subst e2 e3
  obtain ⟨y3, hy3⟩ : ∃ y, xs[3]? = some y := ⟨_, List.getElem?_eq_getElem (by rw [hlen]; decide)⟩
  have g3 := hg 3 _ rfl
  rw [hy3] at g3
  have k3 : DataW.trod enc Tryz.prog W 0 (fun _ => true) true n 30 [c4, c5] = some y3 := by simpa [Value.cells, Tryz.cellsInt, Tryz.cellsRange, Tryz.cellsTable, Tryz.cellsBool] using g3
  clear g3
  obtain ⟨n4, n5, e4, e5⟩ := open_range k3
  subst e4 e5
  exact ⟨⟨n0, n1, n2, n3, n4, n5⟩, rfl⟩
set_option maxRecDepth 100000 in
set_option maxHeartbeats 2000000 in
theorem open_holds {H : Type} {enc : TypeId × Value → H} {W : World} {fuel : Nat} {v : Value} {x : DataW H × List MemPlace} (h : DataW.trod enc Tryz.prog W 0 (fun _ => true) true fuel 22 [v] = some x) :
    ∃ (A : Option Addr) (n c : Nat) (L : List (HoldD × HoldM)), v = .slice A n c ∧ n ≤ c ∧ HoldsIn W A n L ∧ ∀ r ∈ L, HoldIn W r.1 r.2 := by
  rcases open_slice Tryz.underlying22 h with ⟨e, _⟩ | ⟨a, len, cap, m, k, D, Pl, e, _, hl, hm, hmm, _, hi⟩
  · injection e with e _
    exact ⟨none, 0, 0, [], e, Nat.le_refl _, ⟨rfl, by unfold maxLen; omega, .inl rfl⟩, fun r hr => by cases hr⟩
  · injection e with e _
    have hmc : m = cap := by simpa using hmm
    rw [Tryz.cellsHold] at hi
    obtain ⟨ps, hps, hq⟩ := pick_list (Q := fun i (p : HoldD × HoldM) => (W.cell? ((a.add (i * 14)).add 0) = some (.int .i64 p.1.id) ∧ W.cell? ((a.add (i * 14)).add 1) = some (.int .i64 p.1.al) ∧ W.cell? ((a.add (i * 14)).add 2) = some (.int .i64 p.1.ah) ∧ W.cell? ((a.add (i * 14)).add 3) = some (.slice p.2.A p.2.n p.2.c) ∧ W.cell? ((a.add (i * 14)).add 4) = some (.slice p.2.B p.2.m p.2.d) ∧ W.cell? ((a.add (i * 14)).add 5) = some (.slice p.2.C p.2.l p.2.e) ∧ W.cell? ((a.add (i * 14)).add 6) = some (.int .i64 p.1.t0) ∧ W.cell? ((a.add (i * 14)).add 7) = some (.int .i64 p.1.t1) ∧ W.cell? ((a.add (i * 14)).add 8) = some (.int .i64 p.1.u0) ∧ W.cell? ((a.add (i * 14)).add 9) = some (.int .i64 p.1.u1) ∧ W.cell? ((a.add (i * 14)).add 10) = some (.int .i64 p.1.v0) ∧ W.cell? ((a.add (i * 14)).add 11) = some (.int .i64 p.1.v1) ∧ W.cell? ((a.add (i * 14)).add 12) = some (.int .i64 p.1.h0) ∧ W.cell? ((a.add (i * 14)).add 13) = some (.int .i64 p.1.h1)) ∧ HoldIn W p.1 p.2) len (fun i hil => by
      obtain ⟨cs', h1, h2⟩ := hi i (by omega)
      obtain ⟨_, hlen, hat⟩ := World.cells?_some h1
      match cs', hlen with
      | [v0, v1, v2, v3, v4, v5, v6, v7, v8, v9, v10, v11, v12, v13], _ =>
        obtain ⟨r, hr, hin⟩ := cells_hold h2
        injection hr with a0 hr
        injection hr with a1 hr
        injection hr with a2 hr
        injection hr with a3 hr
        injection hr with a4 hr
        injection hr with a5 hr
        injection hr with a6 hr
        injection hr with a7 hr
        injection hr with a8 hr
        injection hr with a9 hr
        injection hr with a10 hr
        injection hr with a11 hr
        injection hr with a12 hr
        injection hr with a13 hr
        subst a0 a1 a2 a3 a4 a5 a6 a7 a8 a9 a10 a11 a12 a13
        exact ⟨r, ⟨hat 0 (by omega), hat 1 (by omega), hat 2 (by omega), hat 3 (by omega), hat 4 (by omega), hat 5 (by omega), hat 6 (by omega), hat 7 (by omega), hat 8 (by omega), hat 9 (by omega), hat 10 (by omega), hat 11 (by omega), hat 12 (by omega), hat 13 (by omega)⟩, hin⟩)
    refine ⟨some a, len, cap, ps, e, hl, ⟨hps.symm, by omega, ?_⟩, fun r hr => by obtain ⟨i, hr⟩ := List.getElem?_of_mem hr; exact (hq i r hr).2⟩
    rcases Nat.lt_or_ge 0 len with c | c
    · have q0 := (hq 0 _ (List.getElem?_eq_getElem (show 0 < ps.length by omega))).1.1
      obtain ⟨ea, la⟩ := spot_none q0
      obtain ⟨b, o, s⟩ := a
      simp [Addr.add] at ea la
      subst ea
      exact .inr ⟨b, o, rfl, la, fun i p hp => by have h := (hq i p hp).1; simp only [addr_add] at h; exact h⟩
    · exact .inl (List.eq_nil_of_length_eq_zero (by omega))
set_option maxRecDepth 100000 in
set_option maxHeartbeats 2000000 in
theorem open_fills {H : Type} {enc : TypeId × Value → H} {W : World} {fuel : Nat} {v : Value} {x : DataW H × List MemPlace} (h : DataW.trod enc Tryz.prog W 0 (fun _ => true) true fuel 23 [v] = some x) :
    ∃ (A : Option Addr) (n c : Nat) (L : List FillD), v = .slice A n c ∧ n ≤ c ∧ FillsIn W A n L := by
  rcases open_slice Tryz.underlying23 h with ⟨e, _⟩ | ⟨a, len, cap, m, k, D, Pl, e, _, hl, hm, hmm, _, hi⟩
  · injection e with e _
    exact ⟨none, 0, 0, [], e, Nat.le_refl _, ⟨rfl, by unfold maxLen; omega, .inl rfl⟩⟩
  · injection e with e _
    have hmc : m = cap := by simpa using hmm
    rw [Tryz.cellsFill] at hi
    obtain ⟨ps, hps, hq⟩ := pick_list (Q := fun i (p : FillD) => (W.cell? ((a.add (i * 6)).add 0) = some (.int .i64 p.hold) ∧ W.cell? ((a.add (i * 6)).add 1) = some (.int .i64 p.st) ∧ W.cell? ((a.add (i * 6)).add 2) = some (.int .i64 p.x0) ∧ W.cell? ((a.add (i * 6)).add 3) = some (.int .i64 p.x1) ∧ W.cell? ((a.add (i * 6)).add 4) = some (.int .i64 p.d0) ∧ W.cell? ((a.add (i * 6)).add 5) = some (.int .i64 p.d1))) len (fun i hil => by
      obtain ⟨cs', h1, h2⟩ := hi i (by omega)
      obtain ⟨_, hlen, hat⟩ := World.cells?_some h1
      match cs', hlen with
      | [v0, v1, v2, v3, v4, v5], _ =>
        obtain ⟨r, hr⟩ := cells_fill h2
        injection hr with a0 hr
        injection hr with a1 hr
        injection hr with a2 hr
        injection hr with a3 hr
        injection hr with a4 hr
        injection hr with a5 hr
        subst a0 a1 a2 a3 a4 a5
        exact ⟨r, ⟨hat 0 (by omega), hat 1 (by omega), hat 2 (by omega), hat 3 (by omega), hat 4 (by omega), hat 5 (by omega)⟩⟩)
    refine ⟨some a, len, cap, ps, e, hl, ⟨hps.symm, by omega, ?_⟩⟩
    rcases Nat.lt_or_ge 0 len with c | c
    · have q0 := (hq 0 _ (List.getElem?_eq_getElem (show 0 < ps.length by omega))).1
      obtain ⟨ea, la⟩ := spot_none q0
      obtain ⟨b, o, s⟩ := a
      simp [Addr.add] at ea la
      subst ea
      exact .inr ⟨b, o, rfl, la, fun i p hp => by have h := (hq i p hp); simp only [addr_add] at h; exact h⟩
    · exact .inl (List.eq_nil_of_length_eq_zero (by omega))
set_option maxRecDepth 100000 in
set_option maxHeartbeats 2000000 in
theorem open_tanks {H : Type} {enc : TypeId × Value → H} {W : World} {fuel : Nat} {v : Value} {x : DataW H × List MemPlace} (h : DataW.trod enc Tryz.prog W 0 (fun _ => true) true fuel 24 [v] = some x) :
    ∃ (A : Option Addr) (n c : Nat) (L : List (TankD × HoldM)), v = .slice A n c ∧ n ≤ c ∧ TanksIn W A n L ∧ ∀ r ∈ L, TankIn W r.1 r.2 := by
  rcases open_slice Tryz.underlying24 h with ⟨e, _⟩ | ⟨a, len, cap, m, k, D, Pl, e, _, hl, hm, hmm, _, hi⟩
  · injection e with e _
    exact ⟨none, 0, 0, [], e, Nat.le_refl _, ⟨rfl, by unfold maxLen; omega, .inl rfl⟩, fun r hr => by cases hr⟩
  · injection e with e _
    have hmc : m = cap := by simpa using hmm
    rw [Tryz.cellsTank] at hi
    obtain ⟨ps, hps, hq⟩ := pick_list (Q := fun i (p : TankD × HoldM) => (W.cell? ((a.add (i * 6)).add 0) = some (.int .i64 p.1.id) ∧ W.cell? ((a.add (i * 6)).add 1) = some (.int .i64 p.1.al) ∧ W.cell? ((a.add (i * 6)).add 2) = some (.int .i64 p.1.ah) ∧ W.cell? ((a.add (i * 6)).add 3) = some (.slice p.2.A p.2.n p.2.c) ∧ W.cell? ((a.add (i * 6)).add 4) = some (.slice p.2.B p.2.m p.2.d) ∧ W.cell? ((a.add (i * 6)).add 5) = some (.slice p.2.C p.2.l p.2.e)) ∧ TankIn W p.1 p.2) len (fun i hil => by
      obtain ⟨cs', h1, h2⟩ := hi i (by omega)
      obtain ⟨_, hlen, hat⟩ := World.cells?_some h1
      match cs', hlen with
      | [v0, v1, v2, v3, v4, v5], _ =>
        obtain ⟨r, hr, hin⟩ := cells_tank h2
        injection hr with a0 hr
        injection hr with a1 hr
        injection hr with a2 hr
        injection hr with a3 hr
        injection hr with a4 hr
        injection hr with a5 hr
        subst a0 a1 a2 a3 a4 a5
        exact ⟨r, ⟨hat 0 (by omega), hat 1 (by omega), hat 2 (by omega), hat 3 (by omega), hat 4 (by omega), hat 5 (by omega)⟩, hin⟩)
    refine ⟨some a, len, cap, ps, e, hl, ⟨hps.symm, by omega, ?_⟩, fun r hr => by obtain ⟨i, hr⟩ := List.getElem?_of_mem hr; exact (hq i r hr).2⟩
    rcases Nat.lt_or_ge 0 len with c | c
    · have q0 := (hq 0 _ (List.getElem?_eq_getElem (show 0 < ps.length by omega))).1.1
      obtain ⟨ea, la⟩ := spot_none q0
      obtain ⟨b, o, s⟩ := a
      simp [Addr.add] at ea la
      subst ea
      exact .inr ⟨b, o, rfl, la, fun i p hp => by have h := (hq i p hp).1; simp only [addr_add] at h; exact h⟩
    · exact .inl (List.eq_nil_of_length_eq_zero (by omega))
set_option maxRecDepth 100000 in
set_option maxHeartbeats 2000000 in
theorem open_levels {H : Type} {enc : TypeId × Value → H} {W : World} {fuel : Nat} {v : Value} {x : DataW H × List MemPlace} (h : DataW.trod enc Tryz.prog W 0 (fun _ => true) true fuel 25 [v] = some x) :
    ∃ (A : Option Addr) (n c : Nat) (L : List LevelD), v = .slice A n c ∧ n ≤ c ∧ LevelsIn W A n L := by
  rcases open_slice Tryz.underlying25 h with ⟨e, _⟩ | ⟨a, len, cap, m, k, D, Pl, e, _, hl, hm, hmm, _, hi⟩
  · injection e with e _
    exact ⟨none, 0, 0, [], e, Nat.le_refl _, ⟨rfl, by unfold maxLen; omega, .inl rfl⟩⟩
  · injection e with e _
    have hmc : m = cap := by simpa using hmm
    rw [Tryz.cellsLevel'] at hi
    obtain ⟨ps, hps, hq⟩ := pick_list (Q := fun i (p : LevelD) => (W.cell? ((a.add (i * 6)).add 0) = some (.int .i64 p.tank) ∧ W.cell? ((a.add (i * 6)).add 1) = some (.bool p.pr) ∧ W.cell? ((a.add (i * 6)).add 2) = some (.int .i64 p.s0) ∧ W.cell? ((a.add (i * 6)).add 3) = some (.int .i64 p.s1) ∧ W.cell? ((a.add (i * 6)).add 4) = some (.int .i64 p.d0) ∧ W.cell? ((a.add (i * 6)).add 5) = some (.int .i64 p.d1))) len (fun i hil => by
      obtain ⟨cs', h1, h2⟩ := hi i (by omega)
      obtain ⟨_, hlen, hat⟩ := World.cells?_some h1
      match cs', hlen with
      | [v0, v1, v2, v3, v4, v5], _ =>
        obtain ⟨r, hr⟩ := cells_level h2
        injection hr with a0 hr
        injection hr with a1 hr
        injection hr with a2 hr
        injection hr with a3 hr
        injection hr with a4 hr
        injection hr with a5 hr
        subst a0 a1 a2 a3 a4 a5
        exact ⟨r, ⟨hat 0 (by omega), hat 1 (by omega), hat 2 (by omega), hat 3 (by omega), hat 4 (by omega), hat 5 (by omega)⟩⟩)
    refine ⟨some a, len, cap, ps, e, hl, ⟨hps.symm, by omega, ?_⟩⟩
    rcases Nat.lt_or_ge 0 len with c | c
    · have q0 := (hq 0 _ (List.getElem?_eq_getElem (show 0 < ps.length by omega))).1
      obtain ⟨ea, la⟩ := spot_none q0
      obtain ⟨b, o, s⟩ := a
      simp [Addr.add] at ea la
      subst ea
      exact .inr ⟨b, o, rfl, la, fun i p hp => by have h := (hq i p hp); simp only [addr_add] at h; exact h⟩
    · exact .inl (List.eq_nil_of_length_eq_zero (by omega))
set_option maxRecDepth 100000 in
set_option maxHeartbeats 2000000 in
theorem open_ship {H : Type} {enc : TypeId × Value → H} {W : World} {base : Nat} {v : Value} {d : DataW H} {pl : List MemPlace} (hv : Value.okWide Tryz.prog W .any base 27 v) (h : DataW.Trod enc Tryz.prog W 0 (fun _ => true) true 27 v d pl) :
    ∃ (A B C D : Option Addr) (n c m d l e r s : Nat) (L : List (HoldD × HoldM)) (fs : List FillD) (T : List (TankD × HoldM)) (ls : List LevelD), v = .agg #[.slice A n c, .slice B m d, .slice C l e, .slice D r s] ∧ n ≤ c ∧ l ≤ e ∧ HoldsIn W A n L ∧ FillsIn W B m fs ∧ TanksIn W C l T ∧ LevelsIn W D r ls ∧ (∀ r ∈ L, HoldIn W r.1 r.2) ∧ (∀ r ∈ T, TankIn W r.1 r.2) := by
  obtain ⟨cs, rfl, hsz⟩ := okWide_struct Tryz.underlying27 hv
  rw [Tryz.cellsShip] at hsz
  obtain ⟨ll⟩ := cs
  match ll, hsz with
  | [c0, c1, c2, c3], _ =>
    obtain ⟨fuel, hf⟩ := h
    obtain ⟨xs, n, _, hx, _, hlen, hg⟩ := DataW.trod_struct Tryz.underlying27 hf
    obtain ⟨y0, hy0⟩ : ∃ y, xs[0]? = some y := ⟨_, List.getElem?_eq_getElem (by rw [hlen]; decide)⟩
    have g0 := hg 0 _ rfl
    rw [hy0] at g0
    have k0 : DataW.trod enc Tryz.prog W 0 (fun _ => true) true n 22 [c0] = some y0 := by simpa [Value.cells, Tryz.cellsHolds, Tryz.cellsFills, Tryz.cellsTanks, Tryz.cellsLevels] using g0
    clear g0
    obtain ⟨y1, hy1⟩ : ∃ y, xs[1]? = some y := ⟨_, List.getElem?_eq_getElem (by rw [hlen]; decide)⟩
    have g1 := hg 1 _ rfl
    rw [hy1] at g1
    have k1 : DataW.trod enc Tryz.prog W 0 (fun _ => true) true n 23 [c1] = some y1 := by simpa [Value.cells, Tryz.cellsHolds, Tryz.cellsFills, Tryz.cellsTanks, Tryz.cellsLevels] using g1
    clear g1
    obtain ⟨y2, hy2⟩ : ∃ y, xs[2]? = some y := ⟨_, List.getElem?_eq_getElem (by rw [hlen]; decide)⟩
    have g2 := hg 2 _ rfl
    rw [hy2] at g2
    have k2 : DataW.trod enc Tryz.prog W 0 (fun _ => true) true n 24 [c2] = some y2 := by simpa [Value.cells, Tryz.cellsHolds, Tryz.cellsFills, Tryz.cellsTanks, Tryz.cellsLevels] using g2
    clear g2
    obtain ⟨y3, hy3⟩ : ∃ y, xs[3]? = some y := ⟨_, List.getElem?_eq_getElem (by rw [hlen]; decide)⟩
    have g3 := hg 3 _ rfl
    rw [hy3] at g3
    have k3 : DataW.trod enc Tryz.prog W 0 (fun _ => true) true n 25 [c3] = some y3 := by simpa [Value.cells, Tryz.cellsHolds, Tryz.cellsFills, Tryz.cellsTanks, Tryz.cellsLevels] using g3
    clear g3
    obtain ⟨A, a1, a2, L, rfl, a3, a4, a5⟩ := open_holds k0
    obtain ⟨B, b1, b2, fs, rfl, b3, b4⟩ := open_fills k1
    obtain ⟨C, d1, d2, T, rfl, d3, d4, d5⟩ := open_tanks k2
    obtain ⟨D, f1, f2, ls, rfl, f3, f4⟩ := open_levels k3
    exact ⟨A, B, C, D, a1, a2, b1, b2, d1, d2, f1, f2, L, fs, T, ls, rfl, a3, d3, a4, b4, d4, f4, a5, d5⟩

set_option maxRecDepth 100000 in
theorem holdLoads_lifted (os : Os) (started : os.Started) (H : Type) (enc : TypeId × Value → H) :
    ReturnsInHanded {} Tryz.checked os 3 .any (Rows.holdLoadsSpec.pre6 enc Tryz.prog Tryz.f3 Rows.holdLoadsRow.domain false) (Rows.holdLoadsSpec.post enc Tryz.prog Tryz.f3 false true false false) := by
  refine returnsInHanded_of_change (C := Tryz.checked) own started (by kernel_rfl) Tryz.func3
    (ChangeSpec.witness6 (enc := enc) (C := Tryz.checked) false ⟨#[], #[.agg #[.slice none 0 0, .slice none 0 0, .slice none 0 0, .slice none 0 0]], []⟩ 8 (by kernel_rfl) (by kernel_rfl) (by kernel_rfl) (by kernel_rfl)) ?_
  intro W base args ds gs before hval0 hW hcnd _
  have hval : ∀ (j : Nat) t v, Tryz.f3.params[j]? = some t → args[j]? = some v → Value.okWide Tryz.prog W .any base t v := hval0
  have hW' := hW
  obtain ⟨p, q, hA0, hV, rfl, hfz, hnd⟩ := hW
  have hA : DataW.TrodAll enc Tryz.prog W 0 (fun _ => true) true Tryz.f3.params.toList args.toList ds p := hA0
  rw [Tryz.params3] at hA hval
  obtain ⟨v0, d0, hargs, rfl, h0⟩ := trodAll_one hA
  obtain rfl : args = #[v0] := by cases args; simp_all
  obtain ⟨rfl, rfl⟩ := trodVars_none hV
  obtain ⟨A, B, C, D, n, c, m, d, l, e, r, s, L, fs, T, ls, rfl, a3, d3, a4, b4, d4, f4, a5, d5⟩ := open_ship (hval 0 27 v0 rfl rfl) h0
  refine (holdLoads_walk A B C D n c m d l e r s L fs T ls W a4 b4 d4 f4 a3 d3 a5 d5).mono fun e W' ⟨he, hb⟩ => ?_
  subst he
  exact ⟨_, rfl, law_post rfl rfl (by intro t ht; rw [Tryz.params3] at ht
                                      have : t = 27 := by simpa using ht
                                      subst this; exact ⟨by kernel_rfl, of_decide_eq_true (by kernel_rfl)⟩) hW' rfl rfl rfl hb⟩

theorem holdLoads_holds : Rows.HoldLoadsSaid :=
  OpenClaim.holds_of_wide 3 Tryz.f3 rfl rfl rfl rfl rfl rfl rfl ⟨rfl, rfl, rfl, rfl, rfl⟩ rfl rfl rfl rfl rfl (by kernel_rfl) Tryz.func3 (by kernel_rfl)
    (of_decide_eq_true (by kernel_rfl)) (by unfold Func.isWrapper; rw [if_neg (of_decide_eq_false (by kernel_rfl))]; exact ⟨rfl, rfl⟩)
    (fun os started H enc _ => holdLoads_lifted os started H enc)
end

end Go.Proofs.YtekkiedlajhaiaaGreat
