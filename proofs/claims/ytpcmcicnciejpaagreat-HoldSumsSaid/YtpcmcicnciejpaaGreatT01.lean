/- For HoldSums: an append of weights to weights of one's own, whatever both are; the sums stay small. No conditions. -/
import Derived.Test.YtpcmcicnciejpaaGreatR14
import Derived.Deep.AppendSrc
set_option linter.unusedVariables false
set_option linter.unusedSimpArgs false
set_option linter.constructorNameAsVariable false
set_option maxRecDepth 100000
set_option maxHeartbeats 4000000
namespace Go.Proofs.YtpcmcicnciejpaaGreat
theorem wsCells_len : ∀ L : List WD, (wsCells L).length = L.length * 6
  | [] => rfl
  | r :: L => by rw [wsCells, List.length_append, wsCells_len L, List.length_cons]; simp only [wCells, List.length_cons, List.length_nil]; omega

section
open Go.RowKit

def HoldOwn (base : Nat) (w : World) (h : HoldD) (m : HoldM) : Prop := OwnPts base w (.slice m.A m.n m.c) h.vol ∧ OwnPts base w (.slice m.B m.m m.d) h.mom ∧ OwnPts base w (.slice m.C m.l m.e) h.hei
def TankOwn (base : Nat) (w : World) (h : TankD) (m : HoldM) : Prop := OwnPts base w (.slice m.A m.n m.c) h.vol ∧ OwnPts base w (.slice m.B m.m m.d) h.sur ∧ OwnPts base w (.slice m.C m.l m.e) h.hei
theorem smadeHoldN (r : RawD) (m : RawM) (w : World) (hi : RawIn w r m) :
  Calls Tryz.prog 4 #[rawV r m] w fun e w' => (∃ mm, e = .returned (holdV (madeH r) mm) ∧ HoldIn w' (madeH r) mm ∧ HoldOwn w.heap.size w' (madeH r) mm) ∧ Below w.heap.size w w' := by
 obtain ⟨id, fi, st, vs⟩ := r
 obtain ⟨S, sn, sc, V, vn, vc⟩ := m
 have HV : Hid (∀ W i, Below w.heap.size w W → Calls Tryz.prog 12 #[.slice V vn vc, .int .i64 i] W fun e w' => e = .returned (.int .i64 (pickS vs i)) ∧ Below W.heap.size W w') := zH fun W i hW => spick_to V vn vc vs i W hi.2.2.2.1 hi.2.2.2.2.1 (hi.2.2.2.2.2.below hW)
 have CSV : Hid (∀ W, Below w.heap.size w W → Calls Tryz.prog 13 #[.agg #[.int .i64 id, .int .i64 fi, .slice S sn sc, .slice V vn vc], .int .i64 0, .int .i64 300, .bool true] W (GivesT W (slopedL vs 0 300 true (xsS fi st) (xsS fi st).length))) := zH fun W hW => ssloped_to ⟨id, fi, st, vs⟩ ⟨S, sn, sc, V, vn, vc⟩ 0 300 true W (hi.below hW) (by omega) (by omega) (by omega) (by omega)
 have CSH : Hid (∀ W, Below w.heap.size w W → Calls Tryz.prog 13 #[.agg #[.int .i64 id, .int .i64 fi, .slice S sn sc, .slice V vn vc], .int .i64 11, .int .i64 90, .bool true] W (GivesT W (slopedL vs 11 90 true (xsS fi st) (xsS fi st).length))) := zH fun W hW => ssloped_to ⟨id, fi, st, vs⟩ ⟨S, sn, sc, V, vn, vc⟩ 11 90 true W (hi.below hW) (by omega) (by omega) (by omega) (by omega)
 have CFM : Hid (∀ W, Below w.heap.size w W → Calls Tryz.prog 14 #[.agg #[.int .i64 id, .int .i64 fi, .slice S sn sc, .slice V vn vc], .int .i64 5, .int .i64 800] W (GivesT W (rowsTo (xsS fi st) (freeF vs 5 800) (xsS fi st).length))) := zH fun W hW => sfree_to ⟨id, fi, st, vs⟩ ⟨S, sn, sc, V, vn, vc⟩ 5 800 W (hi.below hW) (by omega) (by omega) (by omega) (by omega)
 have CST : Hid (∀ W, Below w.heap.size w W → Calls Tryz.prog 15 #[.agg #[.int .i64 id, .int .i64 fi, .slice S sn sc, .slice V vn vc], .int .i64 3, .int .i64 200] W fun e w' => e = .returned (rv (someS vs 3 200).1 (someS vs 3 200).2) ∧ Below W.heap.size W w') := zH fun W hW => ssome_to ⟨id, fi, st, vs⟩ ⟨S, sn, sc, V, vn, vc⟩ 3 200 W (hi.below hW) (by omega) (by omega) (by omega) (by omega)
 have CSU : Hid (∀ W, Below w.heap.size w W → Calls Tryz.prog 15 #[.agg #[.int .i64 id, .int .i64 fi, .slice S sn sc, .slice V vn vc], .int .i64 4, .int .i64 400] W fun e w' => e = .returned (rv (someS vs 4 400).1 (someS vs 4 400).2) ∧ Below W.heap.size W w') := zH fun W hW => ssome_to ⟨id, fi, st, vs⟩ ⟨S, sn, sc, V, vn, vc⟩ 4 400 W (hi.below hW) (by omega) (by omega) (by omega) (by omega)
 have CSE : Hid (∀ W, Below w.heap.size w W → Calls Tryz.prog 15 #[.agg #[.int .i64 id, .int .i64 fi, .slice S sn sc, .slice V vn vc], .int .i64 8, .int .i64 900] W fun e w' => e = .returned (rv (someS vs 8 900).1 (someS vs 8 900).2) ∧ Below W.heap.size W w') := zH fun W hW => ssome_to ⟨id, fi, st, vs⟩ ⟨S, sn, sc, V, vn, vc⟩ 8 900 W (hi.below hW) (by omega) (by omega) (by omega) (by omega)
 clear hi
 have hx8 := xsS_len fi st
 have hlV : (slopedL vs 0 300 true (xsS fi st) (xsS fi st).length).length ≤ 40 := by unfold slopedL; rw [if_pos rfl, rowsTo_len _ _ _ (Nat.le_refl _)]; omega
 have hlH : (slopedL vs 11 90 true (xsS fi st) (xsS fi st).length).length ≤ 40 := by unfold slopedL; rw [if_pos rfl, rowsTo_len _ _ _ (Nat.le_refl _)]; omega
 have hlM : (rowsTo (xsS fi st) (freeF vs 5 800) (xsS fi st).length).length ≤ 40 := by rw [rowsTo_len _ _ _ (Nat.le_refl _)]; omega
 have hlV0 : (slopedL vs 0 300 true (xsS fi st) (xsS fi st).length).length = (xsS fi st).length := by unfold slopedL; rw [if_pos rfl, rowsTo_len _ _ _ (Nat.le_refl _)]
 obtain ⟨x0, hx0⟩ : ∃ x, (xsS fi st)[0]? = some x := ⟨_, List.getElem?_eq_getElem (by omega)⟩
 have htop : (slopedL vs 0 300 true (xsS fi st) (xsS fi st).length)[0]? = some (x0, slopeF vs 0 300 ((xsS fi st).length - 1)) := by
  unfold slopedL; rw [if_pos rfl, rowsTo_get _ 0 x0 (Nat.le_refl _) (by omega) hx0]; rfl
 have hsl := slopeF_in vs 0 (mo := 300) (by omega) (by omega) ((xsS fi st).length - 1) (by omega)
 unfold madeH
 dsimp only
 obtain ⟨⟨tl, th⟩, hT⟩ : ∃ y, slopeF vs 0 300 ((xsS fi st).length - 1) = y := ⟨_, rfl⟩
 rw [hT] at htop hsl ⊢
 dsimp only at hsl
 obtain ⟨n1, n2, n3⟩ := hsl
 have n4 : th ≤ 20000000 := by omega
 have HX8 : Hid (2 ≤ (xsS fi st).length ∧ (xsS fi st).length ≤ 8) := zH hx8
 have HLV := zH hlV; have HLH := zH hlH; have HLM := zH hlM; have HLV0 := zH hlV0; have HTOP := zH htop
 obtain ⟨LV, hLV⟩ : ∃ l, slopedL vs 0 300 true (xsS fi st) (xsS fi st).length = l := ⟨_, rfl⟩
 obtain ⟨LH, hLH⟩ : ∃ l, slopedL vs 11 90 true (xsS fi st) (xsS fi st).length = l := ⟨_, rfl⟩
 obtain ⟨LM, hLM⟩ : ∃ l, rowsTo (xsS fi st) (freeF vs 5 800) (xsS fi st).length = l := ⟨_, rfl⟩
 rw [hLV] at CSV HLV HLV0 HTOP ⊢
 rw [hLH] at CSH HLH ⊢
 rw [hLM] at CFM HLM ⊢
 obtain ⟨NX, hNX⟩ : ∃ l, (xsS fi st).length = l := ⟨_, rfl⟩
 rw [hNX] at HX8 HLV0
 clear hLV hLH hLM hNX hlV hlH hlM hlV0 htop hx8 hT hx0
 obtain ⟨⟨tr0, tr1⟩, hs1⟩ : ∃ y, someS vs 3 200 = y := ⟨_, rfl⟩
 obtain ⟨⟨ut0, ut1⟩, hs2⟩ : ∃ y, someS vs 4 400 = y := ⟨_, rfl⟩
 obtain ⟨⟨he0, he1⟩, hs3⟩ : ∃ y, someS vs 8 900 = y := ⟨_, rfl⟩
 rw [hs1] at CST ⊢
 rw [hs2] at CSU ⊢
 rw [hs3] at CSE ⊢
 dsimp only at CST CSU CSE ⊢
 clear hs1 hs2 hs3
 obtain ⟨P1, hP1⟩ : ∃ z, pickS vs 1 = z := ⟨_, rfl⟩
 have CP1 : Hid (∀ W, Below w.heap.size w W → Calls Tryz.prog 12 #[.slice V vn vc, .int .i64 1] W fun e w' => e = .returned (.int .i64 P1) ∧ Below W.heap.size W w') := zH fun W hW => int_to (HV.out W 1 hW) hP1
 rw [hP1]
 obtain ⟨P2, hP2⟩ : ∃ z, pickS vs 2 = z := ⟨_, rfl⟩
 have CP2 : Hid (∀ W, Below w.heap.size w W → Calls Tryz.prog 12 #[.slice V vn vc, .int .i64 2] W fun e w' => e = .returned (.int .i64 P2) ∧ Below W.heap.size W w') := zH fun W hW => int_to (HV.out W 2 hW) hP2
 rw [hP2]
 obtain ⟨P6, hP6⟩ : ∃ z, pickS vs 6 = z := ⟨_, rfl⟩
 have CP6 : Hid (∀ W, Below w.heap.size w W → Calls Tryz.prog 12 #[.slice V vn vc, .int .i64 6] W fun e w' => e = .returned (.int .i64 P6) ∧ Below W.heap.size W w') := zH fun W hW => int_to (HV.out W 6 hW) hP6
 rw [hP6]
 obtain ⟨P7, hP7⟩ : ∃ z, pickS vs 7 = z := ⟨_, rfl⟩
 have CP7 : Hid (∀ W, Below w.heap.size w W → Calls Tryz.prog 12 #[.slice V vn vc, .int .i64 7] W fun e w' => e = .returned (.int .i64 P7) ∧ Below W.heap.size W w') := zH fun W hW => int_to (HV.out W 7 hW) hP7
 rw [hP7]
 obtain ⟨b0, c0⟩ := emod_in id (show (0 : Int) < 9 by omega)
 obtain ⟨a9, ha9⟩ : ∃ z, id % 9 = z := ⟨_, rfl⟩
 rw [ha9] at b0 c0 ⊢
 have CM0 : Hid (∀ W, Calls Tryz.prog 8 #[.int .i64 id, .int .i64 9] W fun e w' => e = .returned (.int .i64 a9) ∧ Below W.heap.size W w') := zH fun W => int_to (smod_to id 9 W (by omega) (by omega)) ha9
 obtain ⟨b1, c1⟩ := emod_in P1 (show (0 : Int) < 2001 by omega)
 obtain ⟨d1, hd1⟩ : ∃ z, P1 % 2001 = z := ⟨_, rfl⟩
 rw [hd1] at b1 c1 ⊢
 have CM1 : Hid (∀ W, Calls Tryz.prog 8 #[.int .i64 P1, .int .i64 2001] W fun e w' => e = .returned (.int .i64 d1) ∧ Below W.heap.size W w') := zH fun W => int_to (smod_to P1 2001 W (by omega) (by omega)) hd1
 obtain ⟨b2, c2⟩ := emod_in P2 (show (0 : Int) < 30 by omega)
 obtain ⟨d2, hd2⟩ : ∃ z, P2 % 30 = z := ⟨_, rfl⟩
 rw [hd2] at b2 c2 ⊢
 have CM2 : Hid (∀ W, Calls Tryz.prog 8 #[.int .i64 P2, .int .i64 30] W fun e w' => e = .returned (.int .i64 d2) ∧ Below W.heap.size W w') := zH fun W => int_to (smod_to P2 30 W (by omega) (by omega)) hd2
 obtain ⟨b6, c6⟩ := emod_in P6 (show (0 : Int) < 9 by omega)
 obtain ⟨d6, hd6⟩ : ∃ z, P6 % 9 = z := ⟨_, rfl⟩
 rw [hd6] at b6 c6 ⊢
 have CM6 : Hid (∀ W, Calls Tryz.prog 8 #[.int .i64 P6, .int .i64 9] W fun e w' => e = .returned (.int .i64 d6) ∧ Below W.heap.size W w') := zH fun W => int_to (smod_to P6 9 W (by omega) (by omega)) hd6
 obtain ⟨b7, c7⟩ := emod_in P7 (show (0 : Int) < 9 by omega)
 obtain ⟨d7, hd7⟩ : ∃ z, P7 % 9 = z := ⟨_, rfl⟩
 rw [hd7] at b7 c7 ⊢
 have CM7 : Hid (∀ W, Calls Tryz.prog 8 #[.int .i64 P7, .int .i64 9] W fun e w' => e = .returned (.int .i64 d7) ∧ Below W.heap.size W w') := zH fun W => int_to (smod_to P7 9 W (by omega) (by omega)) hd7
 obtain ⟨idd, hidd⟩ : ∃ z, 1 + a9 = z := ⟨_, rfl⟩
 have w1 : IntKind.i64.wrap (1 + a9) = idd := by rw [IntWalk.i64_in _ ⟨by omega, by omega⟩]; exact hidd
 rw [hidd]
 obtain ⟨al, hal⟩ : ∃ z, d1 - 1000 = z := ⟨_, rfl⟩
 have w2 : IntKind.i64.wrap (d1 - 1000) = al := by rw [IntWalk.i64_in _ ⟨by omega, by omega⟩]; exact hal
 rw [hal]
 obtain ⟨ah, hah⟩ : ∃ z, al + d2 = z := ⟨_, rfl⟩
 have w3 : IntKind.i64.wrap (al + d2) = ah := by rw [IntWalk.i64_in _ ⟨by omega, by omega⟩]; exact hah
 rw [hah]
 obtain ⟨v0, hv0⟩ : ∃ z, tl + d6 = z := ⟨_, rfl⟩
 have w4 : IntKind.i64.wrap (tl + d6) = v0 := by rw [IntWalk.i64_in _ ⟨by omega, by omega⟩]; exact hv0
 rw [hv0]
 obtain ⟨t9, ht9⟩ : ∃ z, th + 9 = z := ⟨_, rfl⟩
 have w5 : IntKind.i64.wrap (th + 9) = t9 := by rw [IntWalk.i64_in _ ⟨by omega, by omega⟩]; exact ht9
 rw [ht9]
 obtain ⟨v1, hv1⟩ : ∃ z, t9 + d7 = z := ⟨_, rfl⟩
 have w6 : IntKind.i64.wrap (t9 + d7) = v1 := by rw [IntWalk.i64_in _ ⟨by omega, by omega⟩]; exact hv1
 rw [hv1]
 clear hP1 hP2 hP6 hP7 ha9 hd1 hd2 hd6 hd7 hidd hal hah hv0 ht9 hv1 b0 b1 b2 b6 b7 c0 c1 c2 c6 c7 n1 n2 n3 n4 HV
 have HE := zH (show Below w.heap.size w ((w.alloc (.cells #[.int .i64 id, .int .i64 fi, .slice S sn sc, .slice V vn vc] 32)).alloc (.cells #[.int .i64 0, .int .i64 0, .int .i64 0, .slice none 0 0, .slice none 0 0, .slice none 0 0, .int .i64 0, .int .i64 0, .int .i64 0, .int .i64 0, .int .i64 0, .int .i64 0, .int .i64 0, .int .i64 0] 40)) from below_a2 (Below.refl _ _))
 have HK := zH (boxes2' w 32 40 #[.int .i64 id, .int .i64 fi, .slice S sn sc, .slice V vn vc] #[.int .i64 0, .int .i64 0, .int .i64 0, .slice none 0 0, .slice none 0 0, .slice none 0 0, .int .i64 0, .int .i64 0, .int .i64 0, .int .i64 0, .int .i64 0, .int .i64 0, .int .i64 0, .int .i64 0])
 go_enter Tryz.func4, Tryz.ntmps4
 go_upto_region 1 with fail
 obtain ⟨W0, hW0⟩ : ∃ W0 : World, ((w.alloc (.cells #[.int .i64 id, .int .i64 fi, .slice S sn sc, .slice V vn vc] 32)).alloc (.cells #[.int .i64 0, .int .i64 0, .int .i64 0, .slice none 0 0, .slice none 0 0, .slice none 0 0, .int .i64 0, .int .i64 0, .int .i64 0, .int .i64 0, .int .i64 0, .int .i64 0, .int .i64 0, .int .i64 0] 40)) = W0 := ⟨_, rfl⟩
 rw [hW0] at HE HK ⊢
 clear hW0
 obtain ⟨G, hG⟩ : ∃ G, w.heap.size = G := ⟨_, rfl⟩
 rw [hG] at HK ⊢
 have HG := zH hG; clear hG
 have r_ := HK.out _ (.tail _ (.head _))
 have r_0 := r_.cell 0
 have r_1 := r_.cell 1
 have r_2 := r_.cell 2
 have r_3 := r_.cell 3
 simp at r_0 r_1 r_2 r_3
 clear r_
 go_wp2_with fail
 refine (CM0.out _).mono ?_
 rintro e y1 ⟨rfl, hq⟩
 clear r_0 r_1 r_2 r_3
 have HKq := zH (HK.out.on hq); have HEq := zH (below_then HE.out hq)
 clear hq HK HE CM0
 go_upto_region 2 with fail
 have HX0 := zH (HKq.out.new 40 #[.int .i64 idd, .int .i64 0, .int .i64 0, .slice none 0 0, .slice none 0 0, .slice none 0 0, .int .i64 0, .int .i64 0, .int .i64 0, .int .i64 0, .int .i64 0, .int .i64 0, .int .i64 0, .int .i64 0]); have HB0 := zH (below_then HEq.out (below_alloc1 y1 (.cells #[.int .i64 idd, .int .i64 0, .int .i64 0, .slice none 0 0, .slice none 0 0, .slice none 0 0, .int .i64 0, .int .i64 0, .int .i64 0, .int .i64 0, .int .i64 0, .int .i64 0, .int .i64 0, .int .i64 0] 40)))
 have HMG : Hid (G + 1 < y1.heap.size ∧ w.heap.size ≤ G) := zH ⟨(HKq.out _ (.head _)).lt, by rw [HG.out]; exact Nat.le_refl _⟩
 clear HKq HEq w1
 obtain ⟨V0, hW⟩ : ∃ W', y1.alloc (.cells #[.int .i64 idd, .int .i64 0, .int .i64 0, .slice none 0 0, .slice none 0 0, .slice none 0 0, .int .i64 0, .int .i64 0, .int .i64 0, .int .i64 0, .int .i64 0, .int .i64 0, .int .i64 0, .int .i64 0] 40) = W' := ⟨_, rfl⟩
 rw [hW] at HX0 HB0 ⊢
 clear hW
 obtain ⟨M, hM⟩ : ∃ M, y1.heap.size = M := ⟨_, rfl⟩
 rw [hM] at HX0 HMG ⊢
 clear hM
 have HFAR : Hid (∀ p ∈ ([(G + 1, 40, #[.int .i64 0, .int .i64 0, .int .i64 0, .slice none 0 0, .slice none 0 0, .slice none 0 0, .int .i64 0, .int .i64 0, .int .i64 0, .int .i64 0, .int .i64 0, .int .i64 0, .int .i64 0, .int .i64 0]), (G, 32, #[.int .i64 id, .int .i64 fi, .slice S sn sc, .slice V vn vc])] : List (Nat × TypeId × Array Value)), p.1 ≠ M) := zH (fun p hp => by
  have hm := HMG.out
  simp only [List.mem_cons, List.not_mem_nil, or_false] at hp
  rcases hp with h | h <;> (rw [h]; dsimp only; omega))
 have r_ := HX0.out _ (.tail _ (.tail _ (.head _)))
 have r_0 := r_.cell 0
 have r_1 := r_.cell 1
 have r_2 := r_.cell 2
 have r_3 := r_.cell 3
 simp at r_0 r_1 r_2 r_3
 clear r_
 go_wp2_with fail
 refine (CP1.out _ HB0.out).mono ?_
 rintro e z1 ⟨rfl, hq⟩
 have HB1 := zH (below_then HB0.out hq); have HX1 := zH (HX0.out.on hq)
 clear hq HB0 HX0 r_0 r_1 r_2 r_3
 clear CP1
 go_wp2_with fail
 refine (CM1.out _).mono ?_
 rintro e z2 ⟨rfl, hq⟩
 have HB2 := zH (below_then HB1.out hq); have HX2 := zH (HX1.out.on hq)
 clear hq HB1 HX1 
 clear CM1
 have r_ := HX2.out _ (.tail _ (.tail _ (.head _)))
 have r_0 := r_.cell 0
 have r_1 := r_.cell 1
 have r_2 := r_.cell 2
 have r_3 := r_.cell 3
 simp at r_0 r_1 r_2 r_3
 clear r_
 go_wp2_with fail
 refine (CP2.out _ HB2.out).mono ?_
 rintro e z3 ⟨rfl, hq⟩
 have HB3 := zH (below_then HB2.out hq); have HX3 := zH (HX2.out.on hq)
 clear hq HB2 HX2 r_0 r_1 r_2 r_3
 clear CP2 w2
 go_wp2_with fail
 refine (CM2.out _).mono ?_
 rintro e z4 ⟨rfl, hq⟩
 have HB4 := zH (below_then HB3.out hq); have HX4 := zH (HX3.out.on hq)
 clear hq HB3 HX3 
 clear CM2
 have m_ := HX4.out _ (.head _)
 have m_1 := m_.cell 1
 have m_f1 := m_.frozen 1
 have m_2 := m_.cell 2
 have m_f2 := m_.frozen 2
 have m_l := m_.lt
 simp at m_1 m_f1 m_2 m_f2
 clear m_
 go_upto_region 4 with fail
 have HXs4_0 : Hid (Boxes ((z4).setCell ⟨M, 1, none⟩ (.int .i64 al)) [(M, 40, #[.int .i64 idd, .int .i64 al, .int .i64 0, .slice none 0 0, .slice none 0 0, .slice none 0 0, .int .i64 0, .int .i64 0, .int .i64 0, .int .i64 0, .int .i64 0, .int .i64 0, .int .i64 0, .int .i64 0]), (G + 1, 40, #[.int .i64 0, .int .i64 0, .int .i64 0, .slice none 0 0, .slice none 0 0, .slice none 0 0, .int .i64 0, .int .i64 0, .int .i64 0, .int .i64 0, .int .i64 0, .int .i64 0, .int .i64 0, .int .i64 0]), (G, 32, #[.int .i64 id, .int .i64 fi, .slice S sn sc, .slice V vn vc])]) := zH (HX4.out.set1 HFAR.out 1 (.int .i64 al) _ rfl)
 have HXs4_1 : Hid (Boxes (((z4).setCell ⟨M, 1, none⟩ (.int .i64 al)).setCell ⟨M, 2, none⟩ (.int .i64 ah)) [(M, 40, #[.int .i64 idd, .int .i64 al, .int .i64 ah, .slice none 0 0, .slice none 0 0, .slice none 0 0, .int .i64 0, .int .i64 0, .int .i64 0, .int .i64 0, .int .i64 0, .int .i64 0, .int .i64 0, .int .i64 0]), (G + 1, 40, #[.int .i64 0, .int .i64 0, .int .i64 0, .slice none 0 0, .slice none 0 0, .slice none 0 0, .int .i64 0, .int .i64 0, .int .i64 0, .int .i64 0, .int .i64 0, .int .i64 0, .int .i64 0, .int .i64 0]), (G, 32, #[.int .i64 id, .int .i64 fi, .slice S sn sc, .slice V vn vc])]) := zH (HXs4_0.out.set1 HFAR.out 2 (.int .i64 ah) _ rfl)
 have HB5 : Hid (Below w.heap.size w (((z4).setCell ⟨M, 1, none⟩ (.int .i64 al)).setCell ⟨M, 2, none⟩ (.int .i64 ah))) := zH (by
  have hm := HMG.out
  repeat (first | exact HB4.out | refine Below.setCell ?_ (by simp <;> omega) _))
 have HX5 := HXs4_1
 obtain ⟨V5, hW⟩ : ∃ W', ((z4).setCell ⟨M, 1, none⟩ (.int .i64 al)).setCell ⟨M, 2, none⟩ (.int .i64 ah) = W' := ⟨_, rfl⟩
 rw [hW] at HB5 HX5  ⊢
 clear hW HB4 HX4 HXs4_0 m_1 m_f1 m_2 m_f2 m_l
 clear w3
 have r_ := HX5.out _ (.tail _ (.tail _ (.head _)))
 have r_0 := r_.cell 0
 have r_1 := r_.cell 1
 have r_2 := r_.cell 2
 have r_3 := r_.cell 3
 simp at r_0 r_1 r_2 r_3
 clear r_
 have HZA := zH (HX5.out _ (.head _)).lt
 go_wp2_with fail
 refine (CSV.out _ HB5.out).mono ?_
 rintro e z6 ⟨Av, rfl, ho, hq⟩
 have HB6 := zH (below_then HB5.out hq); have HX6 := zH (HX5.out.on hq)
 clear hq HB5 HX5 r_0 r_1 r_2 r_3
 obtain ⟨Ap, An, Ac, rfl⟩ := ho.slice
 have HTA : Hid (OwnPts (M + 1) z6 (.slice Ap An Ac) LV) := zH (OwnPts.monoY ho HZA.out)
 clear ho HZA CSV
 have m_ := HX6.out _ (.head _)
 have m_3 := m_.cell 3
 have m_f3 := m_.frozen 3
 have m_l := m_.lt
 simp at m_3 m_f3
 clear m_
 go_upto_region 5 with fail
 have HXs6_0 : Hid (Boxes ((z6).setCell ⟨M, 3, none⟩ (.slice Ap An Ac)) [(M, 40, #[.int .i64 idd, .int .i64 al, .int .i64 ah, .slice Ap An Ac, .slice none 0 0, .slice none 0 0, .int .i64 0, .int .i64 0, .int .i64 0, .int .i64 0, .int .i64 0, .int .i64 0, .int .i64 0, .int .i64 0]), (G + 1, 40, #[.int .i64 0, .int .i64 0, .int .i64 0, .slice none 0 0, .slice none 0 0, .slice none 0 0, .int .i64 0, .int .i64 0, .int .i64 0, .int .i64 0, .int .i64 0, .int .i64 0, .int .i64 0, .int .i64 0]), (G, 32, #[.int .i64 id, .int .i64 fi, .slice S sn sc, .slice V vn vc])]) := zH (HX6.out.set1 HFAR.out 3 (.slice Ap An Ac) _ rfl)
 have HB7 : Hid (Below w.heap.size w ((z6).setCell ⟨M, 3, none⟩ (.slice Ap An Ac))) := zH (by
  have hm := HMG.out
  repeat (first | exact HB6.out | refine Below.setCell ?_ (by simp <;> omega) _))
 have HX7 := HXs6_0
 have HTA : Hid (OwnPts (M + 1) ((z6).setCell ⟨M, 3, none⟩ (.slice Ap An Ac)) (.slice Ap An Ac) LV) := zH ((HTA.out).keptAt (Nat.lt_succ_self M))
 obtain ⟨V7, hW⟩ : ∃ W', (z6).setCell ⟨M, 3, none⟩ (.slice Ap An Ac) = W' := ⟨_, rfl⟩
 rw [hW] at HB7 HX7 HTA ⊢
 clear hW HB6 HX6  m_3 m_f3 m_l
 have r_ := HX7.out _ (.tail _ (.tail _ (.head _)))
 have r_0 := r_.cell 0
 have r_1 := r_.cell 1
 have r_2 := r_.cell 2
 have r_3 := r_.cell 3
 simp at r_0 r_1 r_2 r_3
 clear r_
 have HZB := zH (HX7.out _ (.head _)).lt
 go_wp2_with fail
 refine (CFM.out _ HB7.out).mono ?_
 rintro e z8 ⟨Bv, rfl, ho, hq⟩
 have HB8 := zH (below_then HB7.out hq); have HX8 := zH (HX7.out.on hq)
 have HTA := zH (OwnPts.below HTA.out hq)
 clear hq HB7 HX7 r_0 r_1 r_2 r_3
 obtain ⟨Bp, Bn, Bc, rfl⟩ := ho.slice
 have HTB : Hid (OwnPts (M + 1) z8 (.slice Bp Bn Bc) LM) := zH (OwnPts.monoY ho HZB.out)
 clear ho HZB CFM
 have m_ := HX8.out _ (.head _)
 have m_4 := m_.cell 4
 have m_f4 := m_.frozen 4
 have m_l := m_.lt
 simp at m_4 m_f4
 clear m_
 go_upto_region 6 with fail
 have HXs8_0 : Hid (Boxes ((z8).setCell ⟨M, 4, none⟩ (.slice Bp Bn Bc)) [(M, 40, #[.int .i64 idd, .int .i64 al, .int .i64 ah, .slice Ap An Ac, .slice Bp Bn Bc, .slice none 0 0, .int .i64 0, .int .i64 0, .int .i64 0, .int .i64 0, .int .i64 0, .int .i64 0, .int .i64 0, .int .i64 0]), (G + 1, 40, #[.int .i64 0, .int .i64 0, .int .i64 0, .slice none 0 0, .slice none 0 0, .slice none 0 0, .int .i64 0, .int .i64 0, .int .i64 0, .int .i64 0, .int .i64 0, .int .i64 0, .int .i64 0, .int .i64 0]), (G, 32, #[.int .i64 id, .int .i64 fi, .slice S sn sc, .slice V vn vc])]) := zH (HX8.out.set1 HFAR.out 4 (.slice Bp Bn Bc) _ rfl)
 have HB9 : Hid (Below w.heap.size w ((z8).setCell ⟨M, 4, none⟩ (.slice Bp Bn Bc))) := zH (by
  have hm := HMG.out
  repeat (first | exact HB8.out | refine Below.setCell ?_ (by simp <;> omega) _))
 have HX9 := HXs8_0
 have HTA : Hid (OwnPts (M + 1) ((z8).setCell ⟨M, 4, none⟩ (.slice Bp Bn Bc)) (.slice Ap An Ac) LV) := zH ((HTA.out).keptAt (Nat.lt_succ_self M))
 have HTB : Hid (OwnPts (M + 1) ((z8).setCell ⟨M, 4, none⟩ (.slice Bp Bn Bc)) (.slice Bp Bn Bc) LM) := zH ((HTB.out).keptAt (Nat.lt_succ_self M))
 obtain ⟨V9, hW⟩ : ∃ W', (z8).setCell ⟨M, 4, none⟩ (.slice Bp Bn Bc) = W' := ⟨_, rfl⟩
 rw [hW] at HB9 HX9 HTA HTB ⊢
 clear hW HB8 HX8  m_4 m_f4 m_l
 have r_ := HX9.out _ (.tail _ (.tail _ (.head _)))
 have r_0 := r_.cell 0
 have r_1 := r_.cell 1
 have r_2 := r_.cell 2
 have r_3 := r_.cell 3
 simp at r_0 r_1 r_2 r_3
 clear r_
 have HZC := zH (HX9.out _ (.head _)).lt
 go_wp2_with fail
 refine (CSH.out _ HB9.out).mono ?_
 rintro e z10 ⟨Cv, rfl, ho, hq⟩
 have HB10 := zH (below_then HB9.out hq); have HX10 := zH (HX9.out.on hq)
 have HTA := zH (OwnPts.below HTA.out hq)
 have HTB := zH (OwnPts.below HTB.out hq)
 clear hq HB9 HX9 r_0 r_1 r_2 r_3
 obtain ⟨Cp, Cn, Cc, rfl⟩ := ho.slice
 have HTC : Hid (OwnPts (M + 1) z10 (.slice Cp Cn Cc) LH) := zH (OwnPts.monoY ho HZC.out)
 clear ho HZC CSH
 have m_ := HX10.out _ (.head _)
 have m_5 := m_.cell 5
 have m_f5 := m_.frozen 5
 have m_l := m_.lt
 simp at m_5 m_f5
 clear m_
 go_upto_region 7 with fail
 have HXs10_0 : Hid (Boxes ((z10).setCell ⟨M, 5, none⟩ (.slice Cp Cn Cc)) [(M, 40, #[.int .i64 idd, .int .i64 al, .int .i64 ah, .slice Ap An Ac, .slice Bp Bn Bc, .slice Cp Cn Cc, .int .i64 0, .int .i64 0, .int .i64 0, .int .i64 0, .int .i64 0, .int .i64 0, .int .i64 0, .int .i64 0]), (G + 1, 40, #[.int .i64 0, .int .i64 0, .int .i64 0, .slice none 0 0, .slice none 0 0, .slice none 0 0, .int .i64 0, .int .i64 0, .int .i64 0, .int .i64 0, .int .i64 0, .int .i64 0, .int .i64 0, .int .i64 0]), (G, 32, #[.int .i64 id, .int .i64 fi, .slice S sn sc, .slice V vn vc])]) := zH (HX10.out.set1 HFAR.out 5 (.slice Cp Cn Cc) _ rfl)
 have HB11 : Hid (Below w.heap.size w ((z10).setCell ⟨M, 5, none⟩ (.slice Cp Cn Cc))) := zH (by
  have hm := HMG.out
  repeat (first | exact HB10.out | refine Below.setCell ?_ (by simp <;> omega) _))
 have HX11 := HXs10_0
 have HTA : Hid (OwnPts (M + 1) ((z10).setCell ⟨M, 5, none⟩ (.slice Cp Cn Cc)) (.slice Ap An Ac) LV) := zH ((HTA.out).keptAt (Nat.lt_succ_self M))
 have HTB : Hid (OwnPts (M + 1) ((z10).setCell ⟨M, 5, none⟩ (.slice Cp Cn Cc)) (.slice Bp Bn Bc) LM) := zH ((HTB.out).keptAt (Nat.lt_succ_self M))
 have HTC : Hid (OwnPts (M + 1) ((z10).setCell ⟨M, 5, none⟩ (.slice Cp Cn Cc)) (.slice Cp Cn Cc) LH) := zH ((HTC.out).keptAt (Nat.lt_succ_self M))
 obtain ⟨V11, hW⟩ : ∃ W', (z10).setCell ⟨M, 5, none⟩ (.slice Cp Cn Cc) = W' := ⟨_, rfl⟩
 rw [hW] at HB11 HX11 HTA HTB HTC ⊢
 clear hW HB10 HX10  m_5 m_f5 m_l
 have r_ := HX11.out _ (.tail _ (.tail _ (.head _)))
 have r_0 := r_.cell 0
 have r_1 := r_.cell 1
 have r_2 := r_.cell 2
 have r_3 := r_.cell 3
 simp at r_0 r_1 r_2 r_3
 clear r_
 go_wp2_with fail
 refine (CST.out _ HB11.out).mono ?_
 rintro e z12 ⟨rfl, hq⟩
 have HB12 := zH (below_then HB11.out hq); have HX12 := zH (HX11.out.on hq)
 have HTA := zH (OwnPts.below HTA.out hq)
 have HTB := zH (OwnPts.below HTB.out hq)
 have HTC := zH (OwnPts.below HTC.out hq)
 clear hq HB11 HX11 r_0 r_1 r_2 r_3
 clear CST
 have m_ := HX12.out _ (.head _)
 have m_6 := m_.cell 6
 have m_f6 := m_.frozen 6
 have m_7 := m_.cell 7
 have m_f7 := m_.frozen 7
 have m_l := m_.lt
 simp at m_6 m_f6 m_7 m_f7
 clear m_
 go_upto_region 8 with fail
 have HXs12_0 : Hid (Boxes ((z12).setCell ⟨M, 6, none⟩ (.int .i64 tr0)) [(M, 40, #[.int .i64 idd, .int .i64 al, .int .i64 ah, .slice Ap An Ac, .slice Bp Bn Bc, .slice Cp Cn Cc, .int .i64 tr0, .int .i64 0, .int .i64 0, .int .i64 0, .int .i64 0, .int .i64 0, .int .i64 0, .int .i64 0]), (G + 1, 40, #[.int .i64 0, .int .i64 0, .int .i64 0, .slice none 0 0, .slice none 0 0, .slice none 0 0, .int .i64 0, .int .i64 0, .int .i64 0, .int .i64 0, .int .i64 0, .int .i64 0, .int .i64 0, .int .i64 0]), (G, 32, #[.int .i64 id, .int .i64 fi, .slice S sn sc, .slice V vn vc])]) := zH (HX12.out.set1 HFAR.out 6 (.int .i64 tr0) _ rfl)
 have HXs12_1 : Hid (Boxes (((z12).setCell ⟨M, 6, none⟩ (.int .i64 tr0)).setCell ⟨M, 7, none⟩ (.int .i64 tr1)) [(M, 40, #[.int .i64 idd, .int .i64 al, .int .i64 ah, .slice Ap An Ac, .slice Bp Bn Bc, .slice Cp Cn Cc, .int .i64 tr0, .int .i64 tr1, .int .i64 0, .int .i64 0, .int .i64 0, .int .i64 0, .int .i64 0, .int .i64 0]), (G + 1, 40, #[.int .i64 0, .int .i64 0, .int .i64 0, .slice none 0 0, .slice none 0 0, .slice none 0 0, .int .i64 0, .int .i64 0, .int .i64 0, .int .i64 0, .int .i64 0, .int .i64 0, .int .i64 0, .int .i64 0]), (G, 32, #[.int .i64 id, .int .i64 fi, .slice S sn sc, .slice V vn vc])]) := zH (HXs12_0.out.set1 HFAR.out 7 (.int .i64 tr1) _ rfl)
 have HB13 : Hid (Below w.heap.size w (((z12).setCell ⟨M, 6, none⟩ (.int .i64 tr0)).setCell ⟨M, 7, none⟩ (.int .i64 tr1))) := zH (by
  have hm := HMG.out
  repeat (first | exact HB12.out | refine Below.setCell ?_ (by simp <;> omega) _))
 have HX13 := HXs12_1
 have HTA : Hid (OwnPts (M + 1) (((z12).setCell ⟨M, 6, none⟩ (.int .i64 tr0)).setCell ⟨M, 7, none⟩ (.int .i64 tr1)) (.slice Ap An Ac) LV) := zH (((HTA.out).keptAt (Nat.lt_succ_self M)).keptAt (Nat.lt_succ_self M))
 have HTB : Hid (OwnPts (M + 1) (((z12).setCell ⟨M, 6, none⟩ (.int .i64 tr0)).setCell ⟨M, 7, none⟩ (.int .i64 tr1)) (.slice Bp Bn Bc) LM) := zH (((HTB.out).keptAt (Nat.lt_succ_self M)).keptAt (Nat.lt_succ_self M))
 have HTC : Hid (OwnPts (M + 1) (((z12).setCell ⟨M, 6, none⟩ (.int .i64 tr0)).setCell ⟨M, 7, none⟩ (.int .i64 tr1)) (.slice Cp Cn Cc) LH) := zH (((HTC.out).keptAt (Nat.lt_succ_self M)).keptAt (Nat.lt_succ_self M))
 obtain ⟨V13, hW⟩ : ∃ W', ((z12).setCell ⟨M, 6, none⟩ (.int .i64 tr0)).setCell ⟨M, 7, none⟩ (.int .i64 tr1) = W' := ⟨_, rfl⟩
 rw [hW] at HB13 HX13 HTA HTB HTC ⊢
 clear hW HB12 HX12 HXs12_0 m_6 m_f6 m_7 m_f7 m_l
 have r_ := HX13.out _ (.tail _ (.tail _ (.head _)))
 have r_0 := r_.cell 0
 have r_1 := r_.cell 1
 have r_2 := r_.cell 2
 have r_3 := r_.cell 3
 simp at r_0 r_1 r_2 r_3
 clear r_
 go_wp2_with fail
 refine (CSU.out _ HB13.out).mono ?_
 rintro e z14 ⟨rfl, hq⟩
 have HB14 := zH (below_then HB13.out hq); have HX14 := zH (HX13.out.on hq)
 have HTA := zH (OwnPts.below HTA.out hq)
 have HTB := zH (OwnPts.below HTB.out hq)
 have HTC := zH (OwnPts.below HTC.out hq)
 clear hq HB13 HX13 r_0 r_1 r_2 r_3
 clear CSU
 have m_ := HX14.out _ (.head _)
 have m_8 := m_.cell 8
 have m_f8 := m_.frozen 8
 have m_9 := m_.cell 9
 have m_f9 := m_.frozen 9
 have m_l := m_.lt
 simp at m_8 m_f8 m_9 m_f9
 clear m_
 go_upto_region 9 with fail
 have HXs14_0 : Hid (Boxes ((z14).setCell ⟨M, 8, none⟩ (.int .i64 ut0)) [(M, 40, #[.int .i64 idd, .int .i64 al, .int .i64 ah, .slice Ap An Ac, .slice Bp Bn Bc, .slice Cp Cn Cc, .int .i64 tr0, .int .i64 tr1, .int .i64 ut0, .int .i64 0, .int .i64 0, .int .i64 0, .int .i64 0, .int .i64 0]), (G + 1, 40, #[.int .i64 0, .int .i64 0, .int .i64 0, .slice none 0 0, .slice none 0 0, .slice none 0 0, .int .i64 0, .int .i64 0, .int .i64 0, .int .i64 0, .int .i64 0, .int .i64 0, .int .i64 0, .int .i64 0]), (G, 32, #[.int .i64 id, .int .i64 fi, .slice S sn sc, .slice V vn vc])]) := zH (HX14.out.set1 HFAR.out 8 (.int .i64 ut0) _ rfl)
 have HXs14_1 : Hid (Boxes (((z14).setCell ⟨M, 8, none⟩ (.int .i64 ut0)).setCell ⟨M, 9, none⟩ (.int .i64 ut1)) [(M, 40, #[.int .i64 idd, .int .i64 al, .int .i64 ah, .slice Ap An Ac, .slice Bp Bn Bc, .slice Cp Cn Cc, .int .i64 tr0, .int .i64 tr1, .int .i64 ut0, .int .i64 ut1, .int .i64 0, .int .i64 0, .int .i64 0, .int .i64 0]), (G + 1, 40, #[.int .i64 0, .int .i64 0, .int .i64 0, .slice none 0 0, .slice none 0 0, .slice none 0 0, .int .i64 0, .int .i64 0, .int .i64 0, .int .i64 0, .int .i64 0, .int .i64 0, .int .i64 0, .int .i64 0]), (G, 32, #[.int .i64 id, .int .i64 fi, .slice S sn sc, .slice V vn vc])]) := zH (HXs14_0.out.set1 HFAR.out 9 (.int .i64 ut1) _ rfl)
 have HB15 : Hid (Below w.heap.size w (((z14).setCell ⟨M, 8, none⟩ (.int .i64 ut0)).setCell ⟨M, 9, none⟩ (.int .i64 ut1))) := zH (by
  have hm := HMG.out
  repeat (first | exact HB14.out | refine Below.setCell ?_ (by simp <;> omega) _))
 have HX15 := HXs14_1
 have HTA : Hid (OwnPts (M + 1) (((z14).setCell ⟨M, 8, none⟩ (.int .i64 ut0)).setCell ⟨M, 9, none⟩ (.int .i64 ut1)) (.slice Ap An Ac) LV) := zH (((HTA.out).keptAt (Nat.lt_succ_self M)).keptAt (Nat.lt_succ_self M))
 have HTB : Hid (OwnPts (M + 1) (((z14).setCell ⟨M, 8, none⟩ (.int .i64 ut0)).setCell ⟨M, 9, none⟩ (.int .i64 ut1)) (.slice Bp Bn Bc) LM) := zH (((HTB.out).keptAt (Nat.lt_succ_self M)).keptAt (Nat.lt_succ_self M))
 have HTC : Hid (OwnPts (M + 1) (((z14).setCell ⟨M, 8, none⟩ (.int .i64 ut0)).setCell ⟨M, 9, none⟩ (.int .i64 ut1)) (.slice Cp Cn Cc) LH) := zH (((HTC.out).keptAt (Nat.lt_succ_self M)).keptAt (Nat.lt_succ_self M))
 obtain ⟨V15, hW⟩ : ∃ W', ((z14).setCell ⟨M, 8, none⟩ (.int .i64 ut0)).setCell ⟨M, 9, none⟩ (.int .i64 ut1) = W' := ⟨_, rfl⟩
 rw [hW] at HB15 HX15 HTA HTB HTC ⊢
 clear hW HB14 HX14 HXs14_0 m_8 m_f8 m_9 m_f9 m_l
 have r_ := HX15.out _ (.tail _ (.tail _ (.head _)))
 have r_0 := r_.cell 0
 have r_1 := r_.cell 1
 have r_2 := r_.cell 2
 have r_3 := r_.cell 3
 simp at r_0 r_1 r_2 r_3
 clear r_
 go_wp2_with fail
 refine (CSE.out _ HB15.out).mono ?_
 rintro e z16 ⟨rfl, hq⟩
 have HB16 := zH (below_then HB15.out hq); have HX16 := zH (HX15.out.on hq)
 have HTA := zH (OwnPts.below HTA.out hq)
 have HTB := zH (OwnPts.below HTB.out hq)
 have HTC := zH (OwnPts.below HTC.out hq)
 clear hq HB15 HX15 r_0 r_1 r_2 r_3
 clear CSE
 have m_ := HX16.out _ (.head _)
 have m_12 := m_.cell 12
 have m_f12 := m_.frozen 12
 have m_13 := m_.cell 13
 have m_f13 := m_.frozen 13
 have m_l := m_.lt
 simp at m_12 m_f12 m_13 m_f13
 clear m_
 go_upto_region 10 with fail
 have HXs16_0 : Hid (Boxes ((z16).setCell ⟨M, 12, none⟩ (.int .i64 he0)) [(M, 40, #[.int .i64 idd, .int .i64 al, .int .i64 ah, .slice Ap An Ac, .slice Bp Bn Bc, .slice Cp Cn Cc, .int .i64 tr0, .int .i64 tr1, .int .i64 ut0, .int .i64 ut1, .int .i64 0, .int .i64 0, .int .i64 he0, .int .i64 0]), (G + 1, 40, #[.int .i64 0, .int .i64 0, .int .i64 0, .slice none 0 0, .slice none 0 0, .slice none 0 0, .int .i64 0, .int .i64 0, .int .i64 0, .int .i64 0, .int .i64 0, .int .i64 0, .int .i64 0, .int .i64 0]), (G, 32, #[.int .i64 id, .int .i64 fi, .slice S sn sc, .slice V vn vc])]) := zH (HX16.out.set1 HFAR.out 12 (.int .i64 he0) _ rfl)
 have HXs16_1 : Hid (Boxes (((z16).setCell ⟨M, 12, none⟩ (.int .i64 he0)).setCell ⟨M, 13, none⟩ (.int .i64 he1)) [(M, 40, #[.int .i64 idd, .int .i64 al, .int .i64 ah, .slice Ap An Ac, .slice Bp Bn Bc, .slice Cp Cn Cc, .int .i64 tr0, .int .i64 tr1, .int .i64 ut0, .int .i64 ut1, .int .i64 0, .int .i64 0, .int .i64 he0, .int .i64 he1]), (G + 1, 40, #[.int .i64 0, .int .i64 0, .int .i64 0, .slice none 0 0, .slice none 0 0, .slice none 0 0, .int .i64 0, .int .i64 0, .int .i64 0, .int .i64 0, .int .i64 0, .int .i64 0, .int .i64 0, .int .i64 0]), (G, 32, #[.int .i64 id, .int .i64 fi, .slice S sn sc, .slice V vn vc])]) := zH (HXs16_0.out.set1 HFAR.out 13 (.int .i64 he1) _ rfl)
 have HB17 : Hid (Below w.heap.size w (((z16).setCell ⟨M, 12, none⟩ (.int .i64 he0)).setCell ⟨M, 13, none⟩ (.int .i64 he1))) := zH (by
  have hm := HMG.out
  repeat (first | exact HB16.out | refine Below.setCell ?_ (by simp <;> omega) _))
 have HX17 := HXs16_1
 have HTA : Hid (OwnPts (M + 1) (((z16).setCell ⟨M, 12, none⟩ (.int .i64 he0)).setCell ⟨M, 13, none⟩ (.int .i64 he1)) (.slice Ap An Ac) LV) := zH (((HTA.out).keptAt (Nat.lt_succ_self M)).keptAt (Nat.lt_succ_self M))
 have HTB : Hid (OwnPts (M + 1) (((z16).setCell ⟨M, 12, none⟩ (.int .i64 he0)).setCell ⟨M, 13, none⟩ (.int .i64 he1)) (.slice Bp Bn Bc) LM) := zH (((HTB.out).keptAt (Nat.lt_succ_self M)).keptAt (Nat.lt_succ_self M))
 have HTC : Hid (OwnPts (M + 1) (((z16).setCell ⟨M, 12, none⟩ (.int .i64 he0)).setCell ⟨M, 13, none⟩ (.int .i64 he1)) (.slice Cp Cn Cc) LH) := zH (((HTC.out).keptAt (Nat.lt_succ_self M)).keptAt (Nat.lt_succ_self M))
 obtain ⟨V17, hW⟩ : ∃ W', ((z16).setCell ⟨M, 12, none⟩ (.int .i64 he0)).setCell ⟨M, 13, none⟩ (.int .i64 he1) = W' := ⟨_, rfl⟩
 rw [hW] at HB17 HX17 HTA HTB HTC ⊢
 clear hW HB16 HX16 HXs16_0 m_12 m_f12 m_13 m_f13 m_l
 obtain ⟨gv, cv, hsl, hg1, hg2, hg3⟩ := own_pts_mem HTA.out HLV0.out (by have := HX8.out; omega)
 injection hsl with e1 e2 e3
 subst e1 e2 e3
 obtain ⟨q0, q1, q2⟩ := hg3 0 _ HTOP.out
 simp at q0 q1 q2
 have k1 : (0 : Int) < (An : Int) := by have := HX8.out; omega
 have m_ := HX17.out _ (.head _)
 have m_3 := m_.cell 3
 simp at m_3
 clear m_
 go_upto_region 11 with fail
 have HXp := zH (HX17.out.new 66 #[.int .i64 x0, .int .i64 tl, .int .i64 th]); have HBp := zH (below_then HB17.out (below_alloc1 V17 (.cells #[.int .i64 x0, .int .i64 tl, .int .i64 th] 66)))
 have HTA := zH (OwnPts.below HTA.out (below_alloc1 V17 (.cells #[.int .i64 x0, .int .i64 tl, .int .i64 th] 66))); have HTB := zH (OwnPts.below HTB.out (below_alloc1 V17 (.cells #[.int .i64 x0, .int .i64 tl, .int .i64 th] 66))); have HTC := zH (OwnPts.below HTC.out (below_alloc1 V17 (.cells #[.int .i64 x0, .int .i64 tl, .int .i64 th] 66)))
 have HPM : Hid (M < V17.heap.size) := zH (HX17.out _ (.head _)).lt
 obtain ⟨Vp, hW⟩ : ∃ W', V17.alloc (.cells #[.int .i64 x0, .int .i64 tl, .int .i64 th] 66) = W' := ⟨_, rfl⟩
 rw [hW] at HXp HBp HTA HTB HTC ⊢
 clear hW
 obtain ⟨Np, hN⟩ : ∃ n, V17.heap.size = n := ⟨_, rfl⟩
 rw [hN] at HXp HPM ⊢
 clear hN m_3 q0 q1 q2 hg1 hg2 hg3 k1 HX17 HB17
 have hS0 : BB2 w [(Np, 66, #[.int .i64 x0, .int .i64 tl, .int .i64 th]), (G, 32, #[.int .i64 id, .int .i64 fi, .slice S sn sc, .slice V vn vc])] Vp.drew := ⟨HXp.out.sub (fun p hp => by
  simp only [List.mem_cons, List.not_mem_nil, or_false] at hp ⊢
  rcases hp with h | h <;> simp [h]), HBp.out.drew⟩
 have HW := zH (below_drew1 Vp)
 refine wp_region_held_drew (S := BB2 w [(Np, 66, #[.int .i64 x0, .int .i64 tl, .int .i64 th]), (G, 32, #[.int .i64 id, .int .i64 fi, .slice S sn sc, .slice V vn vc])]) (by kernel_rfl) hS0 (fun hHeld => ?_)
 obtain ⟨yq, hW⟩ : ∃ W', Vp.drew = W' := ⟨_, rfl⟩
 rw [hW] at hHeld HW ⊢
 clear hW hS0
 refine tK 48 (i := 0) (v := .pointer (some ⟨Np, 1, none⟩)) rfl rfl (by kernel_rfl) ?_ hHeld ?_
 ·intro w hSw; clear hSw; go_simp; try with_reducible rfl
 simp only [uZ, uS]
 refine tK 49 (i := 1) (v := .int .i64 tl) rfl rfl (by kernel_rfl) ?_ hHeld ?_
 ·intro w hSw; have cx := (hSw.1 _ (.head _)).cell 1; simp at cx; clear hSw; go_simp; try with_reducible rfl
 simp only [uZ, uS]
 refine tK 50 (i := 2) (v := .pointer (some ⟨G, 3, none⟩)) rfl rfl (by kernel_rfl) ?_ hHeld ?_
 ·intro w hSw; clear hSw; go_simp; try with_reducible rfl
 simp only [uZ, uS]
 refine tK 51 (i := 3) (v := .slice V vn vc) rfl rfl (by kernel_rfl) ?_ hHeld ?_
 ·intro w hSw; have cx := (hSw.1 _ (.tail _ (.head _))).cell 3; simp at cx; clear hSw; go_simp; try with_reducible rfl
 simp only [uZ, uS]
 refine tK 55 (i := 7) (v := .pointer (some ⟨Np, 2, none⟩)) rfl rfl (by kernel_rfl) ?_ hHeld ?_
 ·intro w hSw; clear hSw; go_simp; try with_reducible rfl
 simp only [uZ, uS]
 refine tK 56 (i := 8) (v := .int .i64 th) rfl rfl (by kernel_rfl) ?_ hHeld ?_
 ·intro w hSw; have cx := (hSw.1 _ (.head _)).cell 2; simp at cx; clear hSw; go_simp; try with_reducible rfl
 simp only [uZ, uS]
 refine tK 57 (i := 9) (v := .int .i64 t9) rfl rfl (by kernel_rfl) ?_ hHeld ?_
 ·intro w hSw; clear hSw; go_simp; first | done | exact w5
 simp only [uZ, uS]
 refine tK 58 (i := 10) (v := .pointer (some ⟨G, 3, none⟩)) rfl rfl (by kernel_rfl) ?_ hHeld ?_
 ·intro w hSw; clear hSw; go_simp; try with_reducible rfl
 simp only [uZ, uS]
 refine tK 59 (i := 11) (v := .slice V vn vc) rfl rfl (by kernel_rfl) ?_ hHeld ?_
 ·intro w hSw; have cx := (hSw.1 _ (.tail _ (.head _))).cell 3; simp at cx; clear hSw; go_simp; try with_reducible rfl
 simp only [uZ, uS]
 refine rK 4 (by kernel_rfl) rfl (fun K hK => ?_)
 go_simp
 (with_reducible refine (CP6.out _ hHeld.be2).mono ?_)
 rintro x y ⟨rfl, hq⟩
 have HW := zH (below_then HW.out hq)
 refine hK.out _ _ ⟨hHeld.1.on hq, below_then hHeld.2 hq⟩ (fun θ => ?_)
 clear hq
 try simp only [Act.put, uA, uZ, uS]
 clear hK K hHeld
 have hHeld := θ
 clear θ
 refine rK 5 (by kernel_rfl) rfl (fun K hK => ?_)
 go_simp
 (with_reducible refine (CM6.out _).mono ?_)
 rintro x y ⟨rfl, hq⟩
 have HW := zH (below_then HW.out hq)
 refine hK.out _ _ ⟨hHeld.1.on hq, below_then hHeld.2 hq⟩ (fun θ => ?_)
 clear hq
 try simp only [Act.put, uA, uZ, uS]
 clear hK K hHeld
 have hHeld := θ
 clear θ
 refine tK 54 (i := 6) (v := .int .i64 v0) rfl rfl (by kernel_rfl) ?_ hHeld ?_
 ·intro w hSw; clear hSw; go_simp; first | done | exact w4
 simp only [uZ, uS]
 refine rK 12 (by kernel_rfl) rfl (fun K hK => ?_)
 go_simp
 (with_reducible refine (CP7.out _ hHeld.be2).mono ?_)
 rintro x y ⟨rfl, hq⟩
 have HW := zH (below_then HW.out hq)
 refine hK.out _ _ ⟨hHeld.1.on hq, below_then hHeld.2 hq⟩ (fun θ => ?_)
 clear hq
 try simp only [Act.put, uA, uZ, uS]
 clear hK K hHeld
 have hHeld := θ
 clear θ
 refine rK 13 (by kernel_rfl) rfl (fun K hK => ?_)
 go_simp
 (with_reducible refine (CM7.out _).mono ?_)
 rintro x y ⟨rfl, hq⟩
 have HW := zH (below_then HW.out hq)
 refine hK.out _ _ ⟨hHeld.1.on hq, below_then hHeld.2 hq⟩ (fun θ => ?_)
 clear hq
 try simp only [Act.put, uA, uZ, uS]
 clear hK K hHeld
 have hHeld := θ
 clear θ
 refine tK 62 (i := 14) (v := .int .i64 v1) rfl rfl (by kernel_rfl) ?_ hHeld ?_
 ·intro w hSw; clear hSw; go_simp; first | done | exact w6
 simp only [uZ, uS]
 refine tK 63 (i := 15) (v := rv v0 v1) rfl rfl (by kernel_rfl) ?_ hHeld ?_
 ·intro w hSw; clear hSw; go_simp; try with_reducible rfl
 simp only [uZ, uS]
 refine tK 64 (i := 16) (v := .pointer (some ⟨M, 10, none⟩)) rfl rfl (by kernel_rfl) ?_ hHeld ?_
 ·intro w hSw; clear hSw; go_simp; try with_reducible rfl
 simp only [uZ, uS]
 rename World => Vq
 have HXq := zH ((HXp.out.on HW.out).sub (L' := [(M, 40, #[.int .i64 idd, .int .i64 al, .int .i64 ah, .slice (some ⟨gv, 0, none⟩) An Ac, .slice Bp Bn Bc, .slice Cp Cn Cc, .int .i64 tr0, .int .i64 tr1, .int .i64 ut0, .int .i64 ut1, .int .i64 0, .int .i64 0, .int .i64 he0, .int .i64 he1]), (G + 1, 40, #[.int .i64 0, .int .i64 0, .int .i64 0, .slice none 0 0, .slice none 0 0, .slice none 0 0, .int .i64 0, .int .i64 0, .int .i64 0, .int .i64 0, .int .i64 0, .int .i64 0, .int .i64 0, .int .i64 0]), (G, 32, #[.int .i64 id, .int .i64 fi, .slice S sn sc, .slice V vn vc])]) (fun p hp => .tail _ hp))
 have HTA := zH (OwnPts.below HTA.out HW.out); have HTB := zH (OwnPts.below HTB.out HW.out); have HTC := zH (OwnPts.below HTC.out HW.out)
 have HBq := zH hHeld.2
 have m_ := HXq.out _ (.head _)
 have m_10 := m_.cell 10
 have m_f10 := m_.frozen 10
 have m_11 := m_.cell 11
 have m_f11 := m_.frozen 11
 have m_l := m_.lt
 simp at m_10 m_f10 m_11 m_f11
 clear m_
 refine rK 17 (by kernel_rfl) rfl (fun K hK => ?_)
 go_simp
 have HXr : Hid (Boxes (Vq.setCell ⟨M, 10, none⟩ (.int .i64 v0)) [(M, 40, #[.int .i64 idd, .int .i64 al, .int .i64 ah, .slice (some ⟨gv, 0, none⟩) An Ac, .slice Bp Bn Bc, .slice Cp Cn Cc, .int .i64 tr0, .int .i64 tr1, .int .i64 ut0, .int .i64 ut1, .int .i64 v0, .int .i64 0, .int .i64 he0, .int .i64 he1]), (G + 1, 40, #[.int .i64 0, .int .i64 0, .int .i64 0, .slice none 0 0, .slice none 0 0, .slice none 0 0, .int .i64 0, .int .i64 0, .int .i64 0, .int .i64 0, .int .i64 0, .int .i64 0, .int .i64 0, .int .i64 0]), (G, 32, #[.int .i64 id, .int .i64 fi, .slice S sn sc, .slice V vn vc])]) := zH (HXq.out.set1 HFAR.out 10 (.int .i64 v0) _ rfl)
 have HXs : Hid (Boxes ((Vq.setCell ⟨M, 10, none⟩ (.int .i64 v0)).setCell ⟨M, 11, none⟩ (.int .i64 v1)) [(M, 40, #[.int .i64 idd, .int .i64 al, .int .i64 ah, .slice (some ⟨gv, 0, none⟩) An Ac, .slice Bp Bn Bc, .slice Cp Cn Cc, .int .i64 tr0, .int .i64 tr1, .int .i64 ut0, .int .i64 ut1, .int .i64 v0, .int .i64 v1, .int .i64 he0, .int .i64 he1]), (G + 1, 40, #[.int .i64 0, .int .i64 0, .int .i64 0, .slice none 0 0, .slice none 0 0, .slice none 0 0, .int .i64 0, .int .i64 0, .int .i64 0, .int .i64 0, .int .i64 0, .int .i64 0, .int .i64 0, .int .i64 0]), (G, 32, #[.int .i64 id, .int .i64 fi, .slice S sn sc, .slice V vn vc])]) := zH (HXr.out.set1 HFAR.out 11 (.int .i64 v1) _ rfl)
 have HBs : Hid (Below w.heap.size w ((Vq.setCell ⟨M, 10, none⟩ (.int .i64 v0)).setCell ⟨M, 11, none⟩ (.int .i64 v1))) := zH (by
  have hm := HMG.out
  repeat (first | exact HBq.out | refine Below.setCell ?_ (by simp <;> omega) _))
 have HTA := zH ((OwnPts.keptAt (i := 11) (u := .int .i64 v1) (OwnPts.keptAt (i := 10) (u := .int .i64 v0) HTA.out (Nat.lt_succ_self M)) (Nat.lt_succ_self M)))
 have HTB := zH ((OwnPts.keptAt (i := 11) (u := .int .i64 v1) (OwnPts.keptAt (i := 10) (u := .int .i64 v0) HTB.out (Nat.lt_succ_self M)) (Nat.lt_succ_self M)))
 have HTC := zH ((OwnPts.keptAt (i := 11) (u := .int .i64 v1) (OwnPts.keptAt (i := 10) (u := .int .i64 v0) HTC.out (Nat.lt_succ_self M)) (Nat.lt_succ_self M)))
 refine hK.out _ _ ⟨(hHeld.1.farRowless2 (by have := HPM.out; have := HMG.out; intro p hp; simp only [List.mem_cons, List.not_mem_nil, or_false] at hp; rcases hp with h | h <;> (rw [h]; dsimp only; omega)) 10 11 _ _), HBs.out⟩ (fun θ => ?_)
 try simp only [Act.put, uA, uZ, uS]
 clear hK K hHeld
 have hHeld := θ
 clear θ
 refine wpAnyH_done (by kernel_rfl) ?_ _
 clear hHeld HXr HXq HBq HW HXp HBp m_10 m_f10 m_11 m_f11 m_l
 obtain ⟨We, hW⟩ : ∃ W', ((Vq.setCell ⟨M, 10, none⟩ (.int .i64 v0)).setCell ⟨M, 11, none⟩ (.int .i64 v1)) = W' := ⟨_, rfl⟩
 rw [hW] at HXs HBs HTA HTB HTC ⊢
 clear hW
 have m_ := HXs.out _ (.head _)
 have m_0 := m_.cell 0
 have m_1 := m_.cell 1
 have m_2 := m_.cell 2
 have m_3 := m_.cell 3
 have m_4 := m_.cell 4
 have m_5 := m_.cell 5
 have m_6 := m_.cell 6
 have m_7 := m_.cell 7
 have m_8 := m_.cell 8
 have m_9 := m_.cell 9
 have m_10 := m_.cell 10
 have m_11 := m_.cell 11
 have m_12 := m_.cell 12
 have m_13 := m_.cell 13
 simp at m_0 m_1 m_2 m_3 m_4 m_5 m_6 m_7 m_8 m_9 m_10 m_11 m_12 m_13
 clear m_
 go_upto_region 12 with fail
 refine wp_region_lit ?_
 refine wpList_plain rfl (fun K hK => ?_)
 go_simp
 refine hK _ _ ?_
 clear hK K
 have HKR : Hid (Blk (We.setRow (G + 1) #[.int .i64 idd, .int .i64 al, .int .i64 ah, .slice (some ⟨gv, 0, none⟩) An Ac, .slice Bp Bn Bc, .slice Cp Cn Cc, .int .i64 tr0, .int .i64 tr1, .int .i64 ut0, .int .i64 ut1, .int .i64 v0, .int .i64 v1, .int .i64 he0, .int .i64 he1]) (G + 1) 40 #[.int .i64 idd, .int .i64 al, .int .i64 ah, .slice (some ⟨gv, 0, none⟩) An Ac, .slice Bp Bn Bc, .slice Cp Cn Cc, .int .i64 tr0, .int .i64 tr1, .int .i64 ut0, .int .i64 ut1, .int .i64 v0, .int .i64 v1, .int .i64 he0, .int .i64 he1]) := zH (setRow_heap We (G + 1) _ _ 40 _ (HXs.out _ (.tail _ (.head _))))
 have HE9 := zH (below_setRow HBs.out (show w.heap.size ≤ G + 1 by have := HMG.out; omega) #[.int .i64 idd, .int .i64 al, .int .i64 ah, .slice (some ⟨gv, 0, none⟩) An Ac, .slice Bp Bn Bc, .slice Cp Cn Cc, .int .i64 tr0, .int .i64 tr1, .int .i64 ut0, .int .i64 ut1, .int .i64 v0, .int .i64 v1, .int .i64 he0, .int .i64 he1])
 have HTA := zH (OwnPts.keptRow (cs := #[.int .i64 idd, .int .i64 al, .int .i64 ah, .slice (some ⟨gv, 0, none⟩) An Ac, .slice Bp Bn Bc, .slice Cp Cn Cc, .int .i64 tr0, .int .i64 tr1, .int .i64 ut0, .int .i64 ut1, .int .i64 v0, .int .i64 v1, .int .i64 he0, .int .i64 he1]) HTA.out (show G + 1 < M + 1 by have := HMG.out; omega))
 have HTB := zH (OwnPts.keptRow (cs := #[.int .i64 idd, .int .i64 al, .int .i64 ah, .slice (some ⟨gv, 0, none⟩) An Ac, .slice Bp Bn Bc, .slice Cp Cn Cc, .int .i64 tr0, .int .i64 tr1, .int .i64 ut0, .int .i64 ut1, .int .i64 v0, .int .i64 v1, .int .i64 he0, .int .i64 he1]) HTB.out (show G + 1 < M + 1 by have := HMG.out; omega))
 have HTC := zH (OwnPts.keptRow (cs := #[.int .i64 idd, .int .i64 al, .int .i64 ah, .slice (some ⟨gv, 0, none⟩) An Ac, .slice Bp Bn Bc, .slice Cp Cn Cc, .int .i64 tr0, .int .i64 tr1, .int .i64 ut0, .int .i64 ut1, .int .i64 v0, .int .i64 v1, .int .i64 he0, .int .i64 he1]) HTC.out (show G + 1 < M + 1 by have := HMG.out; omega))
 refine wpList_store_row rfl 40 (.tmp 2) (.tmp 65) rfl (G + 1) #[.int .i64 idd, .int .i64 al, .int .i64 ah, .slice (some ⟨gv, 0, none⟩) An Ac, .slice Bp Bn Bc, .slice Cp Cn Cc, .int .i64 tr0, .int .i64 tr1, .int .i64 ut0, .int .i64 ut1, .int .i64 v0, .int .i64 v1, .int .i64 he0, .int .i64 he1] rfl rfl 40 _ (HXs.out _ (.tail _ (.head _))) (by kernel_rfl) rfl (by kernel_rfl) ?_
 obtain ⟨W9, hW9⟩ : ∃ W9, We.setRow (G + 1) #[.int .i64 idd, .int .i64 al, .int .i64 ah, .slice (some ⟨gv, 0, none⟩) An Ac, .slice Bp Bn Bc, .slice Cp Cn Cc, .int .i64 tr0, .int .i64 tr1, .int .i64 ut0, .int .i64 ut1, .int .i64 v0, .int .i64 v1, .int .i64 he0, .int .i64 he1] = W9 := ⟨_, rfl⟩
 rw [hW9] at HKR HE9 HTA HTB HTC ⊢
 clear hW9
 go_wp2
 exact bodyPost_ret (v := .agg #[.int .i64 idd, .int .i64 al, .int .i64 ah, .slice (some ⟨gv, 0, none⟩) An Ac, .slice Bp Bn Bc, .slice Cp Cn Cc, .int .i64 tr0, .int .i64 tr1, .int .i64 ut0, .int .i64 ut1, .int .i64 v0, .int .i64 v1, .int .i64 he0, .int .i64 he1]) (results_cell_row Tryz.results4 _ _ (G + 1) 40 #[.int .i64 idd, .int .i64 al, .int .i64 ah, .slice (some ⟨gv, 0, none⟩) An Ac, .slice Bp Bn Bc, .slice Cp Cn Cc, .int .i64 tr0, .int .i64 tr1, .int .i64 ut0, .int .i64 ut1, .int .i64 v0, .int .i64 v1, .int .i64 he0, .int .i64 he1] (0, 0) _ rfl HKR.out Tryz.underlying40 rfl (by kernel_rfl)) rfl ⟨⟨⟨_, _, _, _, _, _, _, _, _⟩, rfl, ⟨own_tab HTA.out HLV.out, own_tab HTB.out HLM.out, own_tab HTC.out HLH.out⟩, ⟨OwnPts.monoY HTA.out (by have := HMG.out; omega), OwnPts.monoY HTB.out (by have := HMG.out; omega), OwnPts.monoY HTC.out (by have := HMG.out; omega)⟩⟩, HE9.out⟩

theorem smadeTankN (r : RawD) (m : RawM) (w : World) (hi : RawIn w r m) :
  Calls Tryz.prog 6 #[rawV r m] w fun e w' => (∃ mm, e = .returned (tankV (madeT r) mm) ∧ TankIn w' (madeT r) mm ∧ TankOwn w.heap.size w' (madeT r) mm) ∧ Below w.heap.size w w' := by
 obtain ⟨id, fi, st, vs⟩ := r
 obtain ⟨S, sn, sc, V, vn, vc⟩ := m
 have HV : Hid (∀ W i, Below w.heap.size w W → Calls Tryz.prog 12 #[.slice V vn vc, .int .i64 i] W fun e w' => e = .returned (.int .i64 (pickS vs i)) ∧ Below W.heap.size W w') := zH fun W i hW => spick_to V vn vc vs i W hi.2.2.2.1 hi.2.2.2.2.1 (hi.2.2.2.2.2.below hW)
 have CSV : Hid (∀ W, Below w.heap.size w W → Calls Tryz.prog 13 #[.agg #[.int .i64 id, .int .i64 fi, .slice S sn sc, .slice V vn vc], .int .i64 3, .int .i64 300, .bool false] W (GivesT W (slopedL vs 3 300 false (xsS fi st) (xsS fi st).length))) := zH fun W hW => ssloped_to ⟨id, fi, st, vs⟩ ⟨S, sn, sc, V, vn, vc⟩ 3 300 false W (hi.below hW) (by omega) (by omega) (by omega) (by omega)
 have CSH : Hid (∀ W, Below w.heap.size w W → Calls Tryz.prog 13 #[.agg #[.int .i64 id, .int .i64 fi, .slice S sn sc, .slice V vn vc], .int .i64 7, .int .i64 90, .bool false] W (GivesT W (slopedL vs 7 90 false (xsS fi st) (xsS fi st).length))) := zH fun W hW => ssloped_to ⟨id, fi, st, vs⟩ ⟨S, sn, sc, V, vn, vc⟩ 7 90 false W (hi.below hW) (by omega) (by omega) (by omega) (by omega)
 have CFM : Hid (∀ W, Below w.heap.size w W → Calls Tryz.prog 14 #[.agg #[.int .i64 id, .int .i64 fi, .slice S sn sc, .slice V vn vc], .int .i64 2, .int .i64 500] W (GivesT W (rowsTo (xsS fi st) (freeF vs 2 500) (xsS fi st).length))) := zH fun W hW => sfree_to ⟨id, fi, st, vs⟩ ⟨S, sn, sc, V, vn, vc⟩ 2 500 W (hi.below hW) (by omega) (by omega) (by omega) (by omega)
 clear hi
 have hx8 := xsS_len fi st
 have hlV : (slopedL vs 3 300 false (xsS fi st) (xsS fi st).length).length = (xsS fi st).length := by unfold slopedL; rw [if_neg (by decide), rowsTo_len _ _ _ (Nat.le_refl _)]
 have hlH : (slopedL vs 7 90 false (xsS fi st) (xsS fi st).length).length ≤ 40 := by unfold slopedL; rw [if_neg (by decide), rowsTo_len _ _ _ (Nat.le_refl _)]; omega
 have hlM : (rowsTo (xsS fi st) (freeF vs 2 500) (xsS fi st).length).length ≤ 40 := by rw [rowsTo_len _ _ _ (Nat.le_refl _)]; omega
 unfold madeT tankVol
 dsimp only
 have HX8 : Hid (2 ≤ (xsS fi st).length ∧ (xsS fi st).length ≤ 8) := zH hx8
 have HLV := zH hlV; have HLH := zH hlH; have HLM := zH hlM
 obtain ⟨LV, hLV⟩ : ∃ l, slopedL vs 3 300 false (xsS fi st) (xsS fi st).length = l := ⟨_, rfl⟩
 obtain ⟨LH, hLH⟩ : ∃ l, slopedL vs 7 90 false (xsS fi st) (xsS fi st).length = l := ⟨_, rfl⟩
 obtain ⟨LM, hLM⟩ : ∃ l, rowsTo (xsS fi st) (freeF vs 2 500) (xsS fi st).length = l := ⟨_, rfl⟩
 rw [hLV] at CSV HLV ⊢
 rw [hLH] at CSH HLH ⊢
 rw [hLM] at CFM HLM ⊢
 obtain ⟨NX, hNX⟩ : ∃ l, (xsS fi st).length = l := ⟨_, rfl⟩
 rw [hNX] at HX8 HLV
 clear hLV hLH hLM hNX hlV hlH hlM hx8
 obtain ⟨P4, hP4⟩ : ∃ z, pickS vs 4 = z := ⟨_, rfl⟩
 have CP4 : Hid (∀ W, Below w.heap.size w W → Calls Tryz.prog 12 #[.slice V vn vc, .int .i64 4] W fun e w' => e = .returned (.int .i64 P4) ∧ Below W.heap.size W w') := zH fun W hW => int_to (HV.out W 4 hW) hP4
 rw [hP4]
 obtain ⟨P5, hP5⟩ : ∃ z, pickS vs 5 = z := ⟨_, rfl⟩
 have CP5 : Hid (∀ W, Below w.heap.size w W → Calls Tryz.prog 12 #[.slice V vn vc, .int .i64 5] W fun e w' => e = .returned (.int .i64 P5) ∧ Below W.heap.size W w') := zH fun W hW => int_to (HV.out W 5 hW) hP5
 rw [hP5]
 obtain ⟨P9, hP9⟩ : ∃ z, pickS vs 9 = z := ⟨_, rfl⟩
 have CP9 : Hid (∀ W, Below w.heap.size w W → Calls Tryz.prog 12 #[.slice V vn vc, .int .i64 9] W fun e w' => e = .returned (.int .i64 P9) ∧ Below W.heap.size W w') := zH fun W hW => int_to (HV.out W 9 hW) hP9
 rw [hP9]
 obtain ⟨b0, c0⟩ := emod_in id (show (0 : Int) < 9 by omega)
 obtain ⟨a9, ha9⟩ : ∃ z, id % 9 = z := ⟨_, rfl⟩
 rw [ha9] at b0 c0 ⊢
 have CM0 : Hid (∀ W, Calls Tryz.prog 8 #[.int .i64 id, .int .i64 9] W fun e w' => e = .returned (.int .i64 a9) ∧ Below W.heap.size W w') := zH fun W => int_to (smod_to id 9 W (by omega) (by omega)) ha9
 obtain ⟨b4, c4⟩ := emod_in P4 (show (0 : Int) < 2001 by omega)
 obtain ⟨d4, hd4⟩ : ∃ z, P4 % 2001 = z := ⟨_, rfl⟩
 rw [hd4] at b4 c4 ⊢
 have CM4 : Hid (∀ W, Calls Tryz.prog 8 #[.int .i64 P4, .int .i64 2001] W fun e w' => e = .returned (.int .i64 d4) ∧ Below W.heap.size W w') := zH fun W => int_to (smod_to P4 2001 W (by omega) (by omega)) hd4
 obtain ⟨b5, c5⟩ := emod_in P5 (show (0 : Int) < 30 by omega)
 obtain ⟨d5, hd5⟩ : ∃ z, P5 % 30 = z := ⟨_, rfl⟩
 rw [hd5] at b5 c5 ⊢
 have CM5 : Hid (∀ W, Calls Tryz.prog 8 #[.int .i64 P5, .int .i64 30] W fun e w' => e = .returned (.int .i64 d5) ∧ Below W.heap.size W w') := zH fun W => int_to (smod_to P5 30 W (by omega) (by omega)) hd5
 obtain ⟨b9, c9⟩ := emod_in P9 (show (0 : Int) < 2 by omega)
 obtain ⟨d9, hd9⟩ : ∃ z, P9 % 2 = z := ⟨_, rfl⟩
 rw [hd9] at b9 c9 ⊢
 have CM9 : Hid (∀ W, Calls Tryz.prog 8 #[.int .i64 P9, .int .i64 2] W fun e w' => e = .returned (.int .i64 d9) ∧ Below W.heap.size W w') := zH fun W => int_to (smod_to P9 2 W (by omega) (by omega)) hd9
 obtain ⟨idd, hidd⟩ : ∃ z, 1 + a9 = z := ⟨_, rfl⟩
 have w1 : IntKind.i64.wrap (1 + a9) = idd := by rw [IntWalk.i64_in _ ⟨by omega, by omega⟩]; exact hidd
 rw [hidd]
 obtain ⟨al, hal⟩ : ∃ z, d4 - 1000 = z := ⟨_, rfl⟩
 have w2 : IntKind.i64.wrap (d4 - 1000) = al := by rw [IntWalk.i64_in _ ⟨by omega, by omega⟩]; exact hal
 rw [hal]
 obtain ⟨ah, hah⟩ : ∃ z, al + d5 = z := ⟨_, rfl⟩
 have w3 : IntKind.i64.wrap (al + d5) = ah := by rw [IntWalk.i64_in _ ⟨by omega, by omega⟩]; exact hah
 rw [hah]
 obtain ⟨LA, hLA⟩ : ∃ l, (if d9 = 0 then zeroFirst LV else LV) = l := ⟨_, rfl⟩
 rw [hLA]
 have HLA := zH hLA
 clear hP4 hP5 hP9 ha9 hd4 hd5 hd9 hidd hal hah b0 b4 b5 b9 c0 c4 c5 c9 HV hLA
 have HE := zH (show Below w.heap.size w ((w.alloc (.cells #[.int .i64 id, .int .i64 fi, .slice S sn sc, .slice V vn vc] 32)).alloc (.cells #[.int .i64 0, .int .i64 0, .int .i64 0, .slice none 0 0, .slice none 0 0, .slice none 0 0] 46)) from below_a2 (Below.refl _ _))
 have HK := zH (boxes2' w 32 46 #[.int .i64 id, .int .i64 fi, .slice S sn sc, .slice V vn vc] #[.int .i64 0, .int .i64 0, .int .i64 0, .slice none 0 0, .slice none 0 0, .slice none 0 0])
 go_enter Tryz.func6, Tryz.ntmps6
 go_upto_region 1 with fail
 obtain ⟨W0, hW0⟩ : ∃ W0 : World, ((w.alloc (.cells #[.int .i64 id, .int .i64 fi, .slice S sn sc, .slice V vn vc] 32)).alloc (.cells #[.int .i64 0, .int .i64 0, .int .i64 0, .slice none 0 0, .slice none 0 0, .slice none 0 0] 46)) = W0 := ⟨_, rfl⟩
 rw [hW0] at HE HK ⊢
 clear hW0
 obtain ⟨G, hG⟩ : ∃ G, w.heap.size = G := ⟨_, rfl⟩
 rw [hG] at HK ⊢
 have HG := zH hG; clear hG
 have r_ := HK.out _ (.tail _ (.head _))
 have r_0 := r_.cell 0
 have r_1 := r_.cell 1
 have r_2 := r_.cell 2
 have r_3 := r_.cell 3
 simp at r_0 r_1 r_2 r_3
 clear r_
 go_wp2_with fail
 refine (CM0.out _).mono ?_
 rintro e y1 ⟨rfl, hq⟩
 clear r_0 r_1 r_2 r_3
 have HKq := zH (HK.out.on hq); have HEq := zH (below_then HE.out hq)
 clear hq HK HE CM0
 go_upto_region 2 with fail
 have HX0 := zH (HKq.out.new 46 #[.int .i64 idd, .int .i64 0, .int .i64 0, .slice none 0 0, .slice none 0 0, .slice none 0 0]); have HB0 := zH (below_then HEq.out (below_alloc1 y1 (.cells #[.int .i64 idd, .int .i64 0, .int .i64 0, .slice none 0 0, .slice none 0 0, .slice none 0 0] 46)))
 have HMG : Hid (G + 1 < y1.heap.size ∧ w.heap.size ≤ G) := zH ⟨(HKq.out _ (.head _)).lt, by rw [HG.out]; exact Nat.le_refl _⟩
 clear HKq HEq w1
 obtain ⟨V0, hW⟩ : ∃ W', y1.alloc (.cells #[.int .i64 idd, .int .i64 0, .int .i64 0, .slice none 0 0, .slice none 0 0, .slice none 0 0] 46) = W' := ⟨_, rfl⟩
 rw [hW] at HX0 HB0 ⊢
 clear hW
 obtain ⟨M, hM⟩ : ∃ M, y1.heap.size = M := ⟨_, rfl⟩
 rw [hM] at HX0 HMG ⊢
 clear hM
 have HFAR : Hid (∀ p ∈ ([(G + 1, 46, #[.int .i64 0, .int .i64 0, .int .i64 0, .slice none 0 0, .slice none 0 0, .slice none 0 0]), (G, 32, #[.int .i64 id, .int .i64 fi, .slice S sn sc, .slice V vn vc])] : List (Nat × TypeId × Array Value)), p.1 ≠ M) := zH (fun p hp => by
  have hm := HMG.out
  simp only [List.mem_cons, List.not_mem_nil, or_false] at hp
  rcases hp with h | h <;> (rw [h]; dsimp only; omega))
 have r_ := HX0.out _ (.tail _ (.tail _ (.head _)))
 have r_0 := r_.cell 0
 have r_1 := r_.cell 1
 have r_2 := r_.cell 2
 have r_3 := r_.cell 3
 simp at r_0 r_1 r_2 r_3
 clear r_
 go_wp2_with fail
 refine (CP4.out _ HB0.out).mono ?_
 rintro e z1 ⟨rfl, hq⟩
 have HB1 := zH (below_then HB0.out hq); have HX1 := zH (HX0.out.on hq)
 clear hq HB0 HX0 r_0 r_1 r_2 r_3
 clear CP4
 go_wp2_with fail
 refine (CM4.out _).mono ?_
 rintro e z2 ⟨rfl, hq⟩
 have HB2 := zH (below_then HB1.out hq); have HX2 := zH (HX1.out.on hq)
 clear hq HB1 HX1 
 clear CM4
 have r_ := HX2.out _ (.tail _ (.tail _ (.head _)))
 have r_0 := r_.cell 0
 have r_1 := r_.cell 1
 have r_2 := r_.cell 2
 have r_3 := r_.cell 3
 simp at r_0 r_1 r_2 r_3
 clear r_
 go_wp2_with fail
 refine (CP5.out _ HB2.out).mono ?_
 rintro e z3 ⟨rfl, hq⟩
 have HB3 := zH (below_then HB2.out hq); have HX3 := zH (HX2.out.on hq)
 clear hq HB2 HX2 r_0 r_1 r_2 r_3
 clear CP5 w2
 go_wp2_with fail
 refine (CM5.out _).mono ?_
 rintro e z4 ⟨rfl, hq⟩
 have HB4 := zH (below_then HB3.out hq); have HX4 := zH (HX3.out.on hq)
 clear hq HB3 HX3 
 clear CM5
 have m_ := HX4.out _ (.head _)
 have m_1 := m_.cell 1
 have m_f1 := m_.frozen 1
 have m_2 := m_.cell 2
 have m_f2 := m_.frozen 2
 have m_l := m_.lt
 simp at m_1 m_f1 m_2 m_f2
 clear m_
 go_upto_region 4 with fail
 have HXs4_0 : Hid (Boxes ((z4).setCell ⟨M, 1, none⟩ (.int .i64 al)) [(M, 46, #[.int .i64 idd, .int .i64 al, .int .i64 0, .slice none 0 0, .slice none 0 0, .slice none 0 0]), (G + 1, 46, #[.int .i64 0, .int .i64 0, .int .i64 0, .slice none 0 0, .slice none 0 0, .slice none 0 0]), (G, 32, #[.int .i64 id, .int .i64 fi, .slice S sn sc, .slice V vn vc])]) := zH (HX4.out.set1 HFAR.out 1 (.int .i64 al) _ rfl)
 have HXs4_1 : Hid (Boxes (((z4).setCell ⟨M, 1, none⟩ (.int .i64 al)).setCell ⟨M, 2, none⟩ (.int .i64 ah)) [(M, 46, #[.int .i64 idd, .int .i64 al, .int .i64 ah, .slice none 0 0, .slice none 0 0, .slice none 0 0]), (G + 1, 46, #[.int .i64 0, .int .i64 0, .int .i64 0, .slice none 0 0, .slice none 0 0, .slice none 0 0]), (G, 32, #[.int .i64 id, .int .i64 fi, .slice S sn sc, .slice V vn vc])]) := zH (HXs4_0.out.set1 HFAR.out 2 (.int .i64 ah) _ rfl)
 have HB5 : Hid (Below w.heap.size w (((z4).setCell ⟨M, 1, none⟩ (.int .i64 al)).setCell ⟨M, 2, none⟩ (.int .i64 ah))) := zH (by
  have hm := HMG.out
  repeat (first | exact HB4.out | refine Below.setCell ?_ (by simp <;> omega) _))
 have HX5 := HXs4_1
 obtain ⟨V5, hW⟩ : ∃ W', ((z4).setCell ⟨M, 1, none⟩ (.int .i64 al)).setCell ⟨M, 2, none⟩ (.int .i64 ah) = W' := ⟨_, rfl⟩
 rw [hW] at HB5 HX5  ⊢
 clear hW HB4 HX4 HXs4_0 m_1 m_f1 m_2 m_f2 m_l
 clear w3
 have r_ := HX5.out _ (.tail _ (.tail _ (.head _)))
 have r_0 := r_.cell 0
 have r_1 := r_.cell 1
 have r_2 := r_.cell 2
 have r_3 := r_.cell 3
 simp at r_0 r_1 r_2 r_3
 clear r_
 have HZA := zH (HX5.out _ (.head _)).lt
 go_wp2_with fail
 refine (CSV.out _ HB5.out).mono ?_
 rintro e z6 ⟨Av, rfl, ho, hq⟩
 have HB6 := zH (below_then HB5.out hq); have HX6 := zH (HX5.out.on hq)
 clear hq HB5 HX5 r_0 r_1 r_2 r_3
 obtain ⟨Ap, An, Ac, rfl⟩ := ho.slice
 have HTA : Hid (OwnPts (M + 1) z6 (.slice Ap An Ac) LV) := zH (OwnPts.monoY ho HZA.out)
 clear ho HZA CSV
 have m_ := HX6.out _ (.head _)
 have m_3 := m_.cell 3
 have m_f3 := m_.frozen 3
 have m_l := m_.lt
 simp at m_3 m_f3
 clear m_
 go_upto_region 5 with fail
 have HXs6_0 : Hid (Boxes ((z6).setCell ⟨M, 3, none⟩ (.slice Ap An Ac)) [(M, 46, #[.int .i64 idd, .int .i64 al, .int .i64 ah, .slice Ap An Ac, .slice none 0 0, .slice none 0 0]), (G + 1, 46, #[.int .i64 0, .int .i64 0, .int .i64 0, .slice none 0 0, .slice none 0 0, .slice none 0 0]), (G, 32, #[.int .i64 id, .int .i64 fi, .slice S sn sc, .slice V vn vc])]) := zH (HX6.out.set1 HFAR.out 3 (.slice Ap An Ac) _ rfl)
 have HB7 : Hid (Below w.heap.size w ((z6).setCell ⟨M, 3, none⟩ (.slice Ap An Ac))) := zH (by
  have hm := HMG.out
  repeat (first | exact HB6.out | refine Below.setCell ?_ (by simp <;> omega) _))
 have HX7 := HXs6_0
 have HTA : Hid (OwnPts (M + 1) ((z6).setCell ⟨M, 3, none⟩ (.slice Ap An Ac)) (.slice Ap An Ac) LV) := zH ((HTA.out).keptAt (Nat.lt_succ_self M))
 obtain ⟨V7, hW⟩ : ∃ W', (z6).setCell ⟨M, 3, none⟩ (.slice Ap An Ac) = W' := ⟨_, rfl⟩
 rw [hW] at HB7 HX7 HTA ⊢
 clear hW HB6 HX6  m_3 m_f3 m_l
 have r_ := HX7.out _ (.tail _ (.tail _ (.head _)))
 have r_0 := r_.cell 0
 have r_1 := r_.cell 1
 have r_2 := r_.cell 2
 have r_3 := r_.cell 3
 simp at r_0 r_1 r_2 r_3
 clear r_
 go_wp2_with fail
 refine (CP9.out _ HB7.out).mono ?_
 rintro e z8 ⟨rfl, hq⟩
 have HB8 := zH (below_then HB7.out hq); have HX8 := zH (HX7.out.on hq)
 have HTA := zH (OwnPts.below HTA.out hq)
 clear hq HB7 HX7 r_0 r_1 r_2 r_3
 clear CP9
 go_wp2_with fail
 refine (CM9.out _).mono ?_
 rintro e z9 ⟨rfl, hq⟩
 have HB9 := zH (below_then HB8.out hq); have HX9 := zH (HX8.out.on hq)
 have HTA := zH (OwnPts.below HTA.out hq)
 clear hq HB8 HX8 
 clear CM9
 obtain ⟨gv, cv, hsl, hg1, hg2, hg3⟩ := own_pts_mem HTA.out HLV.out (by have := HX8.out; omega)
 injection hsl with e1 e2 e3
 subst e1 e2 e3
 clear hg3
 by_cases g9 : d9 = 0
 ·skip
  have k1 : (0 : Int) < (An : Int) := by have := HX8.out; omega
  have b1 : (d9 == 0) = true := by simp [g9]
  have m_ := HX9.out _ (.head _)
  have m_3 := m_.cell 3
  simp at m_3
  clear m_
  obtain ⟨⟨q1, hq1⟩, ⟨q2, hq2⟩, hz1, hz2⟩ := own_cells HTA.out HLV.out (by have := HX8.out; omega)
  have hgl := hg2
  have HGV : Hid (M + 1 ≤ gv) := zH hg1
  go_upto_region 8 with fail
  have HXn : Hid (Boxes ((z9.setCell ⟨gv, 1, none⟩ (.int .i64 0)).setCell ⟨gv, 2, none⟩ (.int .i64 0)) [(M, 46, #[.int .i64 idd, .int .i64 al, .int .i64 ah, .slice (some ⟨gv, 0, none⟩) An Ac, .slice none 0 0, .slice none 0 0]), (G + 1, 46, #[.int .i64 0, .int .i64 0, .int .i64 0, .slice none 0 0, .slice none 0 0, .slice none 0 0]), (G, 32, #[.int .i64 id, .int .i64 fi, .slice S sn sc, .slice V vn vc])]) := zH (HX9.out.farRowless2 (fun p hp => by
   have hm := HMG.out; have hv := HGV.out
   simp only [List.mem_cons, List.not_mem_nil, or_false] at hp
   rcases hp with h | h | h <;> (rw [h]; dsimp only; omega)) 1 2 _ _)
  have HBn : Hid (Below w.heap.size w ((z9.setCell ⟨gv, 1, none⟩ (.int .i64 0)).setCell ⟨gv, 2, none⟩ (.int .i64 0))) := zH (by
   have hm := HMG.out; have hv := HGV.out
   repeat (first | exact HB9.out | refine Below.setCell ?_ (by simp <;> omega) _))
  have HTA := zH (own_zero HTA.out HLV.out (by have := HX8.out; omega))
  obtain ⟨Vn, hW⟩ : ∃ W', (z9.setCell ⟨gv, 1, none⟩ (.int .i64 0)).setCell ⟨gv, 2, none⟩ (.int .i64 0) = W' := ⟨_, rfl⟩
  rw [hW] at HXn HBn HTA ⊢
  clear hW HX9 HB9 m_3 hq1 hq2 hz1 hz2 hgl hg1 hg2 k1 b1
  have hla : zeroFirst LV = LA := by rw [← HLA.out, if_pos g9]
  rw [hla] at HTA
  have HLAA : Hid (LA.length ≤ 40) := zH (by rw [← hla, zeroFirst_len, HLV.out]; have := HX8.out; omega)
  clear hla g9
  have r_ := HXn.out _ (.tail _ (.tail _ (.head _)))
  have r_0 := r_.cell 0
  have r_1 := r_.cell 1
  have r_2 := r_.cell 2
  have r_3 := r_.cell 3
  simp at r_0 r_1 r_2 r_3
  clear r_
  have HZB := zH (HXn.out _ (.head _)).lt
  go_wp2_with fail
  refine (CFM.out _ HBn.out).mono ?_
  rintro e z10 ⟨Bv, rfl, ho, hq⟩
  have HB10 := zH (below_then HBn.out hq); have HX10 := zH (HXn.out.on hq)
  have HTA := zH (OwnPts.below HTA.out hq)
  clear hq HBn HXn r_0 r_1 r_2 r_3
  obtain ⟨Bp, Bn, Bc, rfl⟩ := ho.slice
  have HTB : Hid (OwnPts (M + 1) z10 (.slice Bp Bn Bc) LM) := zH (OwnPts.monoY ho HZB.out)
  clear ho HZB CFM
  have m_ := HX10.out _ (.head _)
  have m_4 := m_.cell 4
  have m_f4 := m_.frozen 4
  have m_l := m_.lt
  simp at m_4 m_f4
  clear m_
  go_upto_region 9 with fail
  have HXs10_0 : Hid (Boxes ((z10).setCell ⟨M, 4, none⟩ (.slice Bp Bn Bc)) [(M, 46, #[.int .i64 idd, .int .i64 al, .int .i64 ah, .slice (some ⟨gv, 0, none⟩) An Ac, .slice Bp Bn Bc, .slice none 0 0]), (G + 1, 46, #[.int .i64 0, .int .i64 0, .int .i64 0, .slice none 0 0, .slice none 0 0, .slice none 0 0]), (G, 32, #[.int .i64 id, .int .i64 fi, .slice S sn sc, .slice V vn vc])]) := zH (HX10.out.set1 HFAR.out 4 (.slice Bp Bn Bc) _ rfl)
  have HB11 : Hid (Below w.heap.size w ((z10).setCell ⟨M, 4, none⟩ (.slice Bp Bn Bc))) := zH (by
   have hm := HMG.out
   repeat (first | exact HB10.out | refine Below.setCell ?_ (by simp <;> omega) _))
  have HX11 := HXs10_0
  have HTA : Hid (OwnPts (M + 1) ((z10).setCell ⟨M, 4, none⟩ (.slice Bp Bn Bc)) (.slice (some ⟨gv, 0, none⟩) An Ac) LA) := zH ((HTA.out).keptAt (Nat.lt_succ_self M))
  have HTB : Hid (OwnPts (M + 1) ((z10).setCell ⟨M, 4, none⟩ (.slice Bp Bn Bc)) (.slice Bp Bn Bc) LM) := zH ((HTB.out).keptAt (Nat.lt_succ_self M))
  obtain ⟨V11, hW⟩ : ∃ W', (z10).setCell ⟨M, 4, none⟩ (.slice Bp Bn Bc) = W' := ⟨_, rfl⟩
  rw [hW] at HB11 HX11 HTA HTB ⊢
  clear hW HB10 HX10  m_4 m_f4 m_l
  have r_ := HX11.out _ (.tail _ (.tail _ (.head _)))
  have r_0 := r_.cell 0
  have r_1 := r_.cell 1
  have r_2 := r_.cell 2
  have r_3 := r_.cell 3
  simp at r_0 r_1 r_2 r_3
  clear r_
  have HZC := zH (HX11.out _ (.head _)).lt
  go_wp2_with fail
  refine (CSH.out _ HB11.out).mono ?_
  rintro e z12 ⟨Cv, rfl, ho, hq⟩
  have HB12 := zH (below_then HB11.out hq); have HX12 := zH (HX11.out.on hq)
  have HTA := zH (OwnPts.below HTA.out hq)
  have HTB := zH (OwnPts.below HTB.out hq)
  clear hq HB11 HX11 r_0 r_1 r_2 r_3
  obtain ⟨Cp, Cn, Cc, rfl⟩ := ho.slice
  have HTC : Hid (OwnPts (M + 1) z12 (.slice Cp Cn Cc) LH) := zH (OwnPts.monoY ho HZC.out)
  clear ho HZC CSH
  have m_ := HX12.out _ (.head _)
  have m_5 := m_.cell 5
  have m_f5 := m_.frozen 5
  have m_l := m_.lt
  simp at m_5 m_f5
  clear m_
  go_upto_region 10 with fail
  have HXs12_0 : Hid (Boxes ((z12).setCell ⟨M, 5, none⟩ (.slice Cp Cn Cc)) [(M, 46, #[.int .i64 idd, .int .i64 al, .int .i64 ah, .slice (some ⟨gv, 0, none⟩) An Ac, .slice Bp Bn Bc, .slice Cp Cn Cc]), (G + 1, 46, #[.int .i64 0, .int .i64 0, .int .i64 0, .slice none 0 0, .slice none 0 0, .slice none 0 0]), (G, 32, #[.int .i64 id, .int .i64 fi, .slice S sn sc, .slice V vn vc])]) := zH (HX12.out.set1 HFAR.out 5 (.slice Cp Cn Cc) _ rfl)
  have HB13 : Hid (Below w.heap.size w ((z12).setCell ⟨M, 5, none⟩ (.slice Cp Cn Cc))) := zH (by
   have hm := HMG.out
   repeat (first | exact HB12.out | refine Below.setCell ?_ (by simp <;> omega) _))
  have HX13 := HXs12_0
  have HTA : Hid (OwnPts (M + 1) ((z12).setCell ⟨M, 5, none⟩ (.slice Cp Cn Cc)) (.slice (some ⟨gv, 0, none⟩) An Ac) LA) := zH ((HTA.out).keptAt (Nat.lt_succ_self M))
  have HTB : Hid (OwnPts (M + 1) ((z12).setCell ⟨M, 5, none⟩ (.slice Cp Cn Cc)) (.slice Bp Bn Bc) LM) := zH ((HTB.out).keptAt (Nat.lt_succ_self M))
  have HTC : Hid (OwnPts (M + 1) ((z12).setCell ⟨M, 5, none⟩ (.slice Cp Cn Cc)) (.slice Cp Cn Cc) LH) := zH ((HTC.out).keptAt (Nat.lt_succ_self M))
  obtain ⟨V13, hW⟩ : ∃ W', (z12).setCell ⟨M, 5, none⟩ (.slice Cp Cn Cc) = W' := ⟨_, rfl⟩
  rw [hW] at HB13 HX13 HTA HTB HTC ⊢
  clear hW HB12 HX12  m_5 m_f5 m_l
  have m_ := HX13.out _ (.head _)
  have m_0 := m_.cell 0
  have m_1 := m_.cell 1
  have m_2 := m_.cell 2
  have m_3 := m_.cell 3
  have m_4 := m_.cell 4
  have m_5 := m_.cell 5
  simp at m_0 m_1 m_2 m_3 m_4 m_5
  clear m_
  refine wp_region_lit ?_
  refine wpList_plain rfl (fun K hK => ?_)
  go_simp
  refine hK _ _ ?_
  clear hK K
  have HKR : Hid (Blk (V13.setRow (G + 1) #[.int .i64 idd, .int .i64 al, .int .i64 ah, .slice (some ⟨gv, 0, none⟩) An Ac, .slice Bp Bn Bc, .slice Cp Cn Cc]) (G + 1) 46 #[.int .i64 idd, .int .i64 al, .int .i64 ah, .slice (some ⟨gv, 0, none⟩) An Ac, .slice Bp Bn Bc, .slice Cp Cn Cc]) := zH (setRow_heap V13 (G + 1) _ _ 46 _ (HX13.out _ (.tail _ (.head _))))
  have HE9 := zH (below_setRow HB13.out (show w.heap.size ≤ G + 1 by have := HMG.out; omega) #[.int .i64 idd, .int .i64 al, .int .i64 ah, .slice (some ⟨gv, 0, none⟩) An Ac, .slice Bp Bn Bc, .slice Cp Cn Cc])
  have HTA := zH (OwnPts.keptRow (cs := #[.int .i64 idd, .int .i64 al, .int .i64 ah, .slice (some ⟨gv, 0, none⟩) An Ac, .slice Bp Bn Bc, .slice Cp Cn Cc]) HTA.out (show G + 1 < M + 1 by have := HMG.out; omega))
  have HTB := zH (OwnPts.keptRow (cs := #[.int .i64 idd, .int .i64 al, .int .i64 ah, .slice (some ⟨gv, 0, none⟩) An Ac, .slice Bp Bn Bc, .slice Cp Cn Cc]) HTB.out (show G + 1 < M + 1 by have := HMG.out; omega))
  have HTC := zH (OwnPts.keptRow (cs := #[.int .i64 idd, .int .i64 al, .int .i64 ah, .slice (some ⟨gv, 0, none⟩) An Ac, .slice Bp Bn Bc, .slice Cp Cn Cc]) HTC.out (show G + 1 < M + 1 by have := HMG.out; omega))
  refine wpList_store_row rfl 46 (.tmp 2) (.tmp 48) rfl (G + 1) #[.int .i64 idd, .int .i64 al, .int .i64 ah, .slice (some ⟨gv, 0, none⟩) An Ac, .slice Bp Bn Bc, .slice Cp Cn Cc] rfl rfl 46 _ (HX13.out _ (.tail _ (.head _))) (by kernel_rfl) rfl (by kernel_rfl) ?_
  obtain ⟨W9, hW9⟩ : ∃ W9, V13.setRow (G + 1) #[.int .i64 idd, .int .i64 al, .int .i64 ah, .slice (some ⟨gv, 0, none⟩) An Ac, .slice Bp Bn Bc, .slice Cp Cn Cc] = W9 := ⟨_, rfl⟩
  rw [hW9] at HKR HE9 HTA HTB HTC ⊢
  clear hW9
  go_wp2
  exact bodyPost_ret (v := .agg #[.int .i64 idd, .int .i64 al, .int .i64 ah, .slice (some ⟨gv, 0, none⟩) An Ac, .slice Bp Bn Bc, .slice Cp Cn Cc]) (results_cell_row Tryz.results6 _ _ (G + 1) 46 #[.int .i64 idd, .int .i64 al, .int .i64 ah, .slice (some ⟨gv, 0, none⟩) An Ac, .slice Bp Bn Bc, .slice Cp Cn Cc] (0, 0) _ rfl HKR.out Tryz.underlying46 rfl (by kernel_rfl)) rfl ⟨⟨⟨_, _, _, _, _, _, _, _, _⟩, rfl, ⟨own_tab HTA.out HLAA.out, own_tab HTB.out HLM.out, own_tab HTC.out HLH.out⟩, ⟨OwnPts.monoY HTA.out (by have := HMG.out; omega), OwnPts.monoY HTB.out (by have := HMG.out; omega), OwnPts.monoY HTC.out (by have := HMG.out; omega)⟩⟩, HE9.out⟩
 have b1 : (d9 == 0) = false := beq_eq_false_iff_ne.2 g9
 go_upto_region 8 with fail
 have hla : LV = LA := by rw [← HLA.out, if_neg g9]
 rw [hla] at HTA
 have HLAA : Hid (LA.length ≤ 40) := zH (by rw [← hla, HLV.out]; have := HX8.out; omega)
 clear hla g9 b1 hg1 hg2
 have r_ := HX9.out _ (.tail _ (.tail _ (.head _)))
 have r_0 := r_.cell 0
 have r_1 := r_.cell 1
 have r_2 := r_.cell 2
 have r_3 := r_.cell 3
 simp at r_0 r_1 r_2 r_3
 clear r_
 have HZB := zH (HX9.out _ (.head _)).lt
 go_wp2_with fail
 refine (CFM.out _ HB9.out).mono ?_
 rintro e z10 ⟨Bv, rfl, ho, hq⟩
 have HB10 := zH (below_then HB9.out hq); have HX10 := zH (HX9.out.on hq)
 have HTA := zH (OwnPts.below HTA.out hq)
 clear hq HB9 HX9 r_0 r_1 r_2 r_3
 obtain ⟨Bp, Bn, Bc, rfl⟩ := ho.slice
 have HTB : Hid (OwnPts (M + 1) z10 (.slice Bp Bn Bc) LM) := zH (OwnPts.monoY ho HZB.out)
 clear ho HZB CFM
 have m_ := HX10.out _ (.head _)
 have m_4 := m_.cell 4
 have m_f4 := m_.frozen 4
 have m_l := m_.lt
 simp at m_4 m_f4
 clear m_
 go_upto_region 9 with fail
 have HXs10_0 : Hid (Boxes ((z10).setCell ⟨M, 4, none⟩ (.slice Bp Bn Bc)) [(M, 46, #[.int .i64 idd, .int .i64 al, .int .i64 ah, .slice (some ⟨gv, 0, none⟩) An Ac, .slice Bp Bn Bc, .slice none 0 0]), (G + 1, 46, #[.int .i64 0, .int .i64 0, .int .i64 0, .slice none 0 0, .slice none 0 0, .slice none 0 0]), (G, 32, #[.int .i64 id, .int .i64 fi, .slice S sn sc, .slice V vn vc])]) := zH (HX10.out.set1 HFAR.out 4 (.slice Bp Bn Bc) _ rfl)
 have HB11 : Hid (Below w.heap.size w ((z10).setCell ⟨M, 4, none⟩ (.slice Bp Bn Bc))) := zH (by
  have hm := HMG.out
  repeat (first | exact HB10.out | refine Below.setCell ?_ (by simp <;> omega) _))
 have HX11 := HXs10_0
 have HTA : Hid (OwnPts (M + 1) ((z10).setCell ⟨M, 4, none⟩ (.slice Bp Bn Bc)) (.slice (some ⟨gv, 0, none⟩) An Ac) LA) := zH ((HTA.out).keptAt (Nat.lt_succ_self M))
 have HTB : Hid (OwnPts (M + 1) ((z10).setCell ⟨M, 4, none⟩ (.slice Bp Bn Bc)) (.slice Bp Bn Bc) LM) := zH ((HTB.out).keptAt (Nat.lt_succ_self M))
 obtain ⟨V11, hW⟩ : ∃ W', (z10).setCell ⟨M, 4, none⟩ (.slice Bp Bn Bc) = W' := ⟨_, rfl⟩
 rw [hW] at HB11 HX11 HTA HTB ⊢
 clear hW HB10 HX10  m_4 m_f4 m_l
 have r_ := HX11.out _ (.tail _ (.tail _ (.head _)))
 have r_0 := r_.cell 0
 have r_1 := r_.cell 1
 have r_2 := r_.cell 2
 have r_3 := r_.cell 3
 simp at r_0 r_1 r_2 r_3
 clear r_
 have HZC := zH (HX11.out _ (.head _)).lt
 go_wp2_with fail
 refine (CSH.out _ HB11.out).mono ?_
 rintro e z12 ⟨Cv, rfl, ho, hq⟩
 have HB12 := zH (below_then HB11.out hq); have HX12 := zH (HX11.out.on hq)
 have HTA := zH (OwnPts.below HTA.out hq)
 have HTB := zH (OwnPts.below HTB.out hq)
 clear hq HB11 HX11 r_0 r_1 r_2 r_3
 obtain ⟨Cp, Cn, Cc, rfl⟩ := ho.slice
 have HTC : Hid (OwnPts (M + 1) z12 (.slice Cp Cn Cc) LH) := zH (OwnPts.monoY ho HZC.out)
 clear ho HZC CSH
 have m_ := HX12.out _ (.head _)
 have m_5 := m_.cell 5
 have m_f5 := m_.frozen 5
 have m_l := m_.lt
 simp at m_5 m_f5
 clear m_
 go_upto_region 10 with fail
 have HXs12_0 : Hid (Boxes ((z12).setCell ⟨M, 5, none⟩ (.slice Cp Cn Cc)) [(M, 46, #[.int .i64 idd, .int .i64 al, .int .i64 ah, .slice (some ⟨gv, 0, none⟩) An Ac, .slice Bp Bn Bc, .slice Cp Cn Cc]), (G + 1, 46, #[.int .i64 0, .int .i64 0, .int .i64 0, .slice none 0 0, .slice none 0 0, .slice none 0 0]), (G, 32, #[.int .i64 id, .int .i64 fi, .slice S sn sc, .slice V vn vc])]) := zH (HX12.out.set1 HFAR.out 5 (.slice Cp Cn Cc) _ rfl)
 have HB13 : Hid (Below w.heap.size w ((z12).setCell ⟨M, 5, none⟩ (.slice Cp Cn Cc))) := zH (by
  have hm := HMG.out
  repeat (first | exact HB12.out | refine Below.setCell ?_ (by simp <;> omega) _))
 have HX13 := HXs12_0
 have HTA : Hid (OwnPts (M + 1) ((z12).setCell ⟨M, 5, none⟩ (.slice Cp Cn Cc)) (.slice (some ⟨gv, 0, none⟩) An Ac) LA) := zH ((HTA.out).keptAt (Nat.lt_succ_self M))
 have HTB : Hid (OwnPts (M + 1) ((z12).setCell ⟨M, 5, none⟩ (.slice Cp Cn Cc)) (.slice Bp Bn Bc) LM) := zH ((HTB.out).keptAt (Nat.lt_succ_self M))
 have HTC : Hid (OwnPts (M + 1) ((z12).setCell ⟨M, 5, none⟩ (.slice Cp Cn Cc)) (.slice Cp Cn Cc) LH) := zH ((HTC.out).keptAt (Nat.lt_succ_self M))
 obtain ⟨V13, hW⟩ : ∃ W', (z12).setCell ⟨M, 5, none⟩ (.slice Cp Cn Cc) = W' := ⟨_, rfl⟩
 rw [hW] at HB13 HX13 HTA HTB HTC ⊢
 clear hW HB12 HX12  m_5 m_f5 m_l
 have m_ := HX13.out _ (.head _)
 have m_0 := m_.cell 0
 have m_1 := m_.cell 1
 have m_2 := m_.cell 2
 have m_3 := m_.cell 3
 have m_4 := m_.cell 4
 have m_5 := m_.cell 5
 simp at m_0 m_1 m_2 m_3 m_4 m_5
 clear m_
 refine wp_region_lit ?_
 refine wpList_plain rfl (fun K hK => ?_)
 go_simp
 refine hK _ _ ?_
 clear hK K
 have HKR : Hid (Blk (V13.setRow (G + 1) #[.int .i64 idd, .int .i64 al, .int .i64 ah, .slice (some ⟨gv, 0, none⟩) An Ac, .slice Bp Bn Bc, .slice Cp Cn Cc]) (G + 1) 46 #[.int .i64 idd, .int .i64 al, .int .i64 ah, .slice (some ⟨gv, 0, none⟩) An Ac, .slice Bp Bn Bc, .slice Cp Cn Cc]) := zH (setRow_heap V13 (G + 1) _ _ 46 _ (HX13.out _ (.tail _ (.head _))))
 have HE9 := zH (below_setRow HB13.out (show w.heap.size ≤ G + 1 by have := HMG.out; omega) #[.int .i64 idd, .int .i64 al, .int .i64 ah, .slice (some ⟨gv, 0, none⟩) An Ac, .slice Bp Bn Bc, .slice Cp Cn Cc])
 have HTA := zH (OwnPts.keptRow (cs := #[.int .i64 idd, .int .i64 al, .int .i64 ah, .slice (some ⟨gv, 0, none⟩) An Ac, .slice Bp Bn Bc, .slice Cp Cn Cc]) HTA.out (show G + 1 < M + 1 by have := HMG.out; omega))
 have HTB := zH (OwnPts.keptRow (cs := #[.int .i64 idd, .int .i64 al, .int .i64 ah, .slice (some ⟨gv, 0, none⟩) An Ac, .slice Bp Bn Bc, .slice Cp Cn Cc]) HTB.out (show G + 1 < M + 1 by have := HMG.out; omega))
 have HTC := zH (OwnPts.keptRow (cs := #[.int .i64 idd, .int .i64 al, .int .i64 ah, .slice (some ⟨gv, 0, none⟩) An Ac, .slice Bp Bn Bc, .slice Cp Cn Cc]) HTC.out (show G + 1 < M + 1 by have := HMG.out; omega))
 refine wpList_store_row rfl 46 (.tmp 2) (.tmp 48) rfl (G + 1) #[.int .i64 idd, .int .i64 al, .int .i64 ah, .slice (some ⟨gv, 0, none⟩) An Ac, .slice Bp Bn Bc, .slice Cp Cn Cc] rfl rfl 46 _ (HX13.out _ (.tail _ (.head _))) (by kernel_rfl) rfl (by kernel_rfl) ?_
 obtain ⟨W9, hW9⟩ : ∃ W9, V13.setRow (G + 1) #[.int .i64 idd, .int .i64 al, .int .i64 ah, .slice (some ⟨gv, 0, none⟩) An Ac, .slice Bp Bn Bc, .slice Cp Cn Cc] = W9 := ⟨_, rfl⟩
 rw [hW9] at HKR HE9 HTA HTB HTC ⊢
 clear hW9
 go_wp2
 exact bodyPost_ret (v := .agg #[.int .i64 idd, .int .i64 al, .int .i64 ah, .slice (some ⟨gv, 0, none⟩) An Ac, .slice Bp Bn Bc, .slice Cp Cn Cc]) (results_cell_row Tryz.results6 _ _ (G + 1) 46 #[.int .i64 idd, .int .i64 al, .int .i64 ah, .slice (some ⟨gv, 0, none⟩) An Ac, .slice Bp Bn Bc, .slice Cp Cn Cc] (0, 0) _ rfl HKR.out Tryz.underlying46 rfl (by kernel_rfl)) rfl ⟨⟨⟨_, _, _, _, _, _, _, _, _⟩, rfl, ⟨own_tab HTA.out HLAA.out, own_tab HTB.out HLM.out, own_tab HTC.out HLH.out⟩, ⟨OwnPts.monoY HTA.out (by have := HMG.out; omega), OwnPts.monoY HTB.out (by have := HMG.out; omega), OwnPts.monoY HTC.out (by have := HMG.out; omega)⟩⟩, HE9.out⟩
end

section
open Go.RowKit

def rowsC {α : Type} (f : α → List Value) (L : List α) : List Value := (L.map f).flatten
theorem rowsC_nil {α : Type} (f : α → List Value) : rowsC f [] = [] := rfl
theorem rowsC_snoc {α : Type} (f : α → List Value) (L : List α) (x : α) : rowsC f (L ++ [x]) = rowsC f L ++ f x := by simp [rowsC]
theorem rowsC_len {α : Type} {f : α → List Value} {n : Nat} (hf : ∀ x, (f x).length = n) : ∀ L : List α, (rowsC f L).length = L.length * n
  | [] => by simp [rowsC]
  | x :: L => by
    have ih := rowsC_len hf L
    unfold rowsC at ih ⊢
    rw [List.map_cons, List.flatten_cons, List.length_append, ih, hf, List.length_cons, Nat.succ_mul, Nat.add_comm]
theorem rowsC_at {α : Type} {f : α → List Value} {n : Nat} (hf : ∀ x, (f x).length = n) : ∀ (L : List α) (k i : Nat) (x : α), L[k]? = some x → i < n → (rowsC f L)[k * n + i]? = (f x)[i]?
  | [], k, i, x, h, _ => by cases h
  | y :: L, 0, i, x, h, hi => by
    injection h with h
    subst h
    unfold rowsC
    rw [List.map_cons, List.flatten_cons, Nat.zero_mul, Nat.zero_add, List.getElem?_append_left (by rw [hf]; exact hi)]
  | y :: L, k + 1, i, x, h, hi => by
    have ih := rowsC_at hf L k i x h hi
    unfold rowsC at ih ⊢
    rw [List.map_cons, List.flatten_cons, List.getElem?_append_right (by rw [hf, Nat.succ_mul]; omega), hf, show (k + 1) * n + i - n = k * n + i by rw [Nat.succ_mul]; omega]
    exact ih
def OwnL {α : Type} (f : α → List Value) (e : TypeId) (n base : Nat) (w : World) (v : Value) (L : List α) : Prop := w.ownsRow base e n v L.length (rowsC f L)
theorem OwnL.nil {α : Type} (f : α → List Value) (e : TypeId) (n base : Nat) (w : World) : OwnL f e n base w (.slice none 0 0) [] := World.ownsRow_nil _ _ _ _
theorem OwnL.on {α : Type} {f : α → List Value} {e : TypeId} {n base : Nat} {w w' : World} {v : Value} {L : List α} (h : OwnL f e n base w v L) (hb : Below w.heap.size w w') : OwnL f e n base w' v L :=
  World.ownsRow.kept (show w.ownsRow base e n v L.length (rowsC f L) from h) (below_grownNone hb) (by cases hv : v.ownBlock <;> simp)
theorem own_block_type {w : World} {base n k : Nat} {e : TypeId} {v : Value} {xs : List Value} {b : Nat} (h : w.ownsRow base e n v k xs) (hv : v.ownBlock = some b) : ∃ cur, w.heap[b]? = some (.cells cur e (0, 0)) := by
  rcases h.2 with ⟨rfl, _⟩ | ⟨g, cap, cur, rfl, _, hg, _⟩
  · cases hv
  · simp only [Value.ownBlock, Option.some.injEq] at hv
    exact ⟨cur, hv ▸ hg⟩
theorem own_apart {w : World} {base base' n n' k k' : Nat} {e e' : TypeId} {v v' : Value} {xs xs' : List Value} (h : w.ownsRow base e n v k xs) (h' : w.ownsRow base' e' n' v' k' xs') (he : e ≠ e') : v.ownBlock = none ∨ v.ownBlock ≠ v'.ownBlock := by
  cases hv : v.ownBlock with
  | none => exact .inl rfl
  | some b =>
    refine .inr fun q => ?_
    obtain ⟨c1, q1⟩ := own_block_type h hv
    obtain ⟨c2, q2⟩ := own_block_type h' q.symm
    rw [q1] at q2
    injection q2 with q2
    injection q2 with _ q2
    exact he q2
theorem blk_apart {w : World} {base n k g : Nat} {e t : TypeId} {v : Value} {xs : List Value} {cs : Array Value} (h : w.ownsRow base e n v k xs) (h' : Blk w g t cs) (he : e ≠ t) : some g ≠ v.ownBlock := by
  intro q
  obtain ⟨c1, q1⟩ := own_block_type h q.symm
  have q2 : w.heap[g]? = some (.cells cs t (0, 0)) := h'
  rw [q1] at q2
  injection q2 with q2
  injection q2 with _ q2
  exact he q2
theorem OwnL.beside {α : Type} {f : α → List Value} {e e' : TypeId} {n n' base base' k : Nat} {w w' : World} {v v' : Value} {L : List α} {xs : List Value} (h : OwnL f e n base w v L) (ho : w.ownsRow base' e' n' v' k xs) (he : e ≠ e') (hg : w.grownBy w' v'.ownBlock) : OwnL f e n base w' v L :=
  World.ownsRow.kept (show w.ownsRow base e n v L.length (rowsC f L) from h) hg (own_apart h ho he)
theorem OwnL.aside {α : Type} {f : α → List Value} {e t : TypeId} {n base g : Nat} {w : World} {v : Value} {L : List α} {cs : Array Value} (h : OwnL f e n base w v L) (hb : Blk w g t cs) (he : e ≠ t) (i : Nat) (u : Value) : OwnL f e n base (w.setCell ⟨g, i, none⟩ u) v L :=
  World.ownsRow.kept (show w.ownsRow base e n v L.length (rowsC f L) from h) (grownBy_setCellAt w g i u) (.inr (fun q => blk_apart (show w.ownsRow base e n v L.length (rowsC f L) from h) hb he q.symm))
theorem OwnL.form {α : Type} {f : α → List Value} {e : TypeId} {n base : Nat} {w : World} {v : Value} {L : List α} (h : OwnL f e n base w v L) : ∃ A c, v = .slice A L.length c ∧ L.length ≤ c ∧ c ≤ maxLen ∧ (L = [] ∨ ∃ g, A = some ⟨g, 0, none⟩ ∧ base ≤ g ∧ g < w.heap.size) := by
  rcases h.2 with ⟨hv, h0⟩ | ⟨g, c, cur, hv, hb, hg, hc, hm, _⟩
  · exact ⟨none, 0, by rw [hv, h0], by omega, by unfold maxLen; omega, .inl (List.eq_nil_of_length_eq_zero h0)⟩
  · exact ⟨_, c, hv, hc, hm, .inr ⟨g, rfl, hb, (World.ownsRow.lt (show w.ownsRow base e n v L.length (rowsC f L) from h) g (by rw [hv]; rfl)).2⟩⟩
theorem OwnL.cell {α : Type} {f : α → List Value} {e : TypeId} {n base : Nat} {w : World} {L : List α} {g c : Nat} (hf : ∀ x, (f x).length = n) (h : OwnL f e n base w (.slice (some ⟨g, 0, none⟩) L.length c) L) {k : Nat} {x : α} (hk : L[k]? = some x) {i : Nat} (hi : i < n) : w.cell? ⟨g, k * n + i, none⟩ = (f x)[i]? := by
  have hkl : k < L.length := (List.getElem?_eq_some_iff.1 hk).1
  have h2 : k * n + i < L.length * n := by
    have : (k + 1) * n ≤ L.length * n := Nat.mul_le_mul_right n hkl
    rw [Nat.succ_mul] at this
    omega
  rw [World.ownsRow.cellAt (show w.ownsRow base e n (.slice (some ⟨g, 0, none⟩) L.length c) L.length (rowsC f L) from h) _ h2]
  exact rowsC_at hf L k i x hk hi
def holdL (r : HoldD × HoldM) : List Value := [.int .i64 r.1.id, .int .i64 r.1.al, .int .i64 r.1.ah, .slice r.2.A r.2.n r.2.c, .slice r.2.B r.2.m r.2.d, .slice r.2.C r.2.l r.2.e, .int .i64 r.1.t0, .int .i64 r.1.t1, .int .i64 r.1.u0, .int .i64 r.1.u1, .int .i64 r.1.v0, .int .i64 r.1.v1, .int .i64 r.1.h0, .int .i64 r.1.h1]
def fillL (f : FillD) : List Value := [.int .i64 f.hold, .int .i64 f.st, .int .i64 f.x0, .int .i64 f.x1, .int .i64 f.d0, .int .i64 f.d1]
def tankL (r : TankD × HoldM) : List Value := [.int .i64 r.1.id, .int .i64 r.1.al, .int .i64 r.1.ah, .slice r.2.A r.2.n r.2.c, .slice r.2.B r.2.m r.2.d, .slice r.2.C r.2.l r.2.e]
def levelL (l : LevelD) : List Value := [.int .i64 l.tank, .bool l.pr, .int .i64 l.s0, .int .i64 l.s1, .int .i64 l.d0, .int .i64 l.d1]
theorem holdL_len (r : HoldD × HoldM) : (holdL r).length = 14 := rfl
theorem fillL_len (r : FillD) : (fillL r).length = 6 := rfl
theorem tankL_len (r : TankD × HoldM) : (tankL r).length = 6 := rfl
theorem levelL_len (r : LevelD) : (levelL r).length = 6 := rfl
abbrev OwnHs (base : Nat) (w : World) (v : Value) (L : List (HoldD × HoldM)) : Prop := OwnL holdL 40 14 base w v L
abbrev OwnFs (base : Nat) (w : World) (v : Value) (L : List FillD) : Prop := OwnL fillL 43 6 base w v L
abbrev OwnTs (base : Nat) (w : World) (v : Value) (L : List (TankD × HoldM)) : Prop := OwnL tankL 46 6 base w v L
abbrev OwnVs (base : Nat) (w : World) (v : Value) (L : List LevelD) : Prop := OwnL levelL 49 6 base w v L
theorem OwnHs.mem {base g c : Nat} {w : World} {L : List (HoldD × HoldM)} (h : OwnHs base w (.slice (some ⟨g, 0, none⟩) L.length c) L) : HoldsMem w g 0 L := fun k r hr => by
  have q := fun i (hi : i < 14) => OwnL.cell holdL_len h hr hi
  rw [Nat.zero_add]
  exact ⟨q 0 (by omega), q 1 (by omega), q 2 (by omega), q 3 (by omega), q 4 (by omega), q 5 (by omega), q 6 (by omega), q 7 (by omega), q 8 (by omega), q 9 (by omega), q 10 (by omega), q 11 (by omega), q 12 (by omega), q 13 (by omega)⟩
theorem OwnTs.mem {base g c : Nat} {w : World} {L : List (TankD × HoldM)} (h : OwnTs base w (.slice (some ⟨g, 0, none⟩) L.length c) L) : TanksMem w g 0 L := fun k r hr => by
  have q := fun i (hi : i < 6) => OwnL.cell tankL_len h hr hi
  rw [Nat.zero_add]
  exact ⟨q 0 (by omega), q 1 (by omega), q 2 (by omega), q 3 (by omega), q 4 (by omega), q 5 (by omega)⟩
theorem OwnFs.mem {base g c : Nat} {w : World} {L : List FillD} (h : OwnFs base w (.slice (some ⟨g, 0, none⟩) L.length c) L) : FillsAt w g 0 L := fun k r hr => by
  have q := fun i (hi : i < 6) => OwnL.cell fillL_len h hr hi
  rw [Nat.zero_add]
  exact ⟨q 0 (by omega), q 1 (by omega), q 2 (by omega), q 3 (by omega), q 4 (by omega), q 5 (by omega)⟩
theorem OwnVs.mem {base g c : Nat} {w : World} {L : List LevelD} (h : OwnVs base w (.slice (some ⟨g, 0, none⟩) L.length c) L) : LevelsAt w g 0 L := fun k r hr => by
  have q := fun i (hi : i < 6) => OwnL.cell levelL_len h hr hi
  rw [Nat.zero_add]
  exact ⟨q 0 (by omega), q 1 (by omega), q 2 (by omega), q 3 (by omega), q 4 (by omega), q 5 (by omega)⟩
theorem HoldsMem.drop {w : World} {g j : Nat} {L : List (HoldD × HoldM)} (h : HoldsMem w g 0 L) : HoldsMem w g (j * 14) (L.drop j) := fun k r hr => by
  rw [List.getElem?_drop] at hr
  have q := h (j + k) r hr
  rw [Nat.zero_add, Nat.add_mul] at q
  exact q
theorem FillsAt.drop {w : World} {g j : Nat} {L : List FillD} (h : FillsAt w g 0 L) : FillsAt w g (j * 6) (L.drop j) := fun k r hr => by
  rw [List.getElem?_drop] at hr
  have q := h (j + k) r hr
  rw [Nat.zero_add, Nat.add_mul] at q
  exact q
theorem FillsAt.take' {w : World} {b o j : Nat} {L : List FillD} (h : FillsAt w b o L) : FillsAt w b o (L.take j) := fun k r hr => h k r (by
  rw [List.getElem?_take] at hr; split at hr
  · exact hr
  · cases hr)
theorem OwnHs.isIn {base : Nat} {w : World} {A : Option Addr} {c : Nat} {L : List (HoldD × HoldM)} (h : OwnHs base w (.slice A L.length c) L) (hL : L.length ≤ 9) : HoldsIn w A L.length L := by
  obtain ⟨A', c', e, _, _, q⟩ := h.form
  injection e with e1 _ e2
  subst e1 e2
  refine ⟨rfl, by unfold maxLen; omega, q.imp id ?_⟩
  rintro ⟨g, rfl, _, hg⟩
  exact ⟨g, 0, rfl, hg, h.mem⟩
theorem OwnTs.isIn {base : Nat} {w : World} {A : Option Addr} {c : Nat} {L : List (TankD × HoldM)} (h : OwnTs base w (.slice A L.length c) L) (hL : L.length ≤ 9) : TanksIn w A L.length L := by
  obtain ⟨A', c', e, _, _, q⟩ := h.form
  injection e with e1 _ e2
  subst e1 e2
  refine ⟨rfl, by unfold maxLen; omega, q.imp id ?_⟩
  rintro ⟨g, rfl, _, hg⟩
  exact ⟨g, 0, rfl, hg, h.mem⟩
theorem OwnFs.isIn {base : Nat} {w : World} {A : Option Addr} {c : Nat} {L : List FillD} (h : OwnFs base w (.slice A L.length c) L) (hL : L.length ≤ 9) : FillsIn w A L.length L := by
  obtain ⟨A', c', e, _, _, q⟩ := h.form
  injection e with e1 _ e2
  subst e1 e2
  refine ⟨rfl, by unfold maxLen; omega, q.imp id ?_⟩
  rintro ⟨g, rfl, _, hg⟩
  exact ⟨g, 0, rfl, hg, h.mem⟩
theorem OwnVs.isIn {base : Nat} {w : World} {A : Option Addr} {c : Nat} {L : List LevelD} (h : OwnVs base w (.slice A L.length c) L) (hL : L.length ≤ 9) : LevelsIn w A L.length L := by
  obtain ⟨A', c', e, _, _, q⟩ := h.form
  injection e with e1 _ e2
  subst e1 e2
  refine ⟨rfl, by unfold maxLen; omega, q.imp id ?_⟩
  rintro ⟨g, rfl, _, hg⟩
  exact ⟨g, 0, rfl, hg, h.mem⟩
theorem HoldsIn.take' {w : World} {A : Option Addr} {n k : Nat} {L : List (HoldD × HoldM)} (h : HoldsIn w A n L) (hk : k ≤ n) : HoldsIn w A k (L.take k) := by
  obtain ⟨h1, h2, h3⟩ := h
  refine ⟨by rw [List.length_take]; omega, by omega, ?_⟩
  rcases h3 with rfl | ⟨b, o, q1, q2, q3⟩
  · exact .inl (by simp)
  · exact .inr ⟨b, o, q1, q2, q3.take⟩
theorem FillsIn.take' {w : World} {A : Option Addr} {n k : Nat} {L : List FillD} (h : FillsIn w A n L) (hk : k ≤ n) : FillsIn w A k (L.take k) := by
  obtain ⟨h1, h2, h3⟩ := h
  refine ⟨by rw [List.length_take]; omega, by omega, ?_⟩
  rcases h3 with rfl | ⟨b, o, q1, q2, q3⟩
  · exact .inl (by simp)
  · exact .inr ⟨b, o, q1, q2, FillsAt.take' q3⟩
def TabsOwn (base : Nat) (w : World) (L : List (HoldD × HoldM)) (T : List (TankD × HoldM)) : Prop := (∀ r ∈ L, HoldOwn base w r.1 r.2) ∧ ∀ r ∈ T, TankOwn base w r.1 r.2
theorem HoldOwn.kept {base : Nat} {w w' : World} {h : HoldD} {m : HoldM} {row : Option Nat} (q : HoldOwn base w h m) (hg : w.grownBy w' row) (hr : ∀ g, row = some g → ∃ cs t fr, w.heap[g]? = some (.cells cs t fr) ∧ t ≠ 66) : HoldOwn base w' h m := by
  have hk : ∀ v L, OwnPts base w v L → OwnPts base w' v L := fun v L hv => by
    refine World.ownsRow.kept (show w.ownsRow base 66 3 v L.length (ptCells L) from hv) hg ?_
    cases hb : v.ownBlock with
    | none => exact .inl rfl
    | some b =>
      refine .inr fun e => ?_
      obtain ⟨cs, t, fr, q1, q2⟩ := hr b e.symm
      obtain ⟨cur, q3⟩ := own_block_type (show w.ownsRow base 66 3 v L.length (ptCells L) from hv) hb
      rw [q3] at q1
      injection q1 with q1
      injection q1 with _ q1
      exact q2 q1.symm
  exact ⟨hk _ _ q.1, hk _ _ q.2.1, hk _ _ q.2.2⟩
theorem TankOwn.kept {base : Nat} {w w' : World} {h : TankD} {m : HoldM} {row : Option Nat} (q : TankOwn base w h m) (hg : w.grownBy w' row) (hr : ∀ g, row = some g → ∃ cs t fr, w.heap[g]? = some (.cells cs t fr) ∧ t ≠ 66) : TankOwn base w' h m :=
  HoldOwn.kept (h := ⟨0, 0, 0, h.vol, h.sur, h.hei, 0, 0, 0, 0, 0, 0, 0, 0⟩) (m := m) q hg hr
theorem TabsOwn.kept {base : Nat} {w w' : World} {L : List (HoldD × HoldM)} {T : List (TankD × HoldM)} {row : Option Nat} (q : TabsOwn base w L T) (hg : w.grownBy w' row) (hr : ∀ g, row = some g → ∃ cs t fr, w.heap[g]? = some (.cells cs t fr) ∧ t ≠ 66) : TabsOwn base w' L T :=
  ⟨fun r h => (q.1 r h).kept hg hr, fun r h => (q.2 r h).kept hg hr⟩
theorem TabsOwn.on {base : Nat} {w w' : World} {L : List (HoldD × HoldM)} {T : List (TankD × HoldM)} (q : TabsOwn base w L T) (hb : Below w.heap.size w w') : TabsOwn base w' L T := q.kept (below_grownNone hb) (fun g e => by cases e)
theorem HoldOwn.isIn {base : Nat} {w : World} {h : HoldD} {m : HoldM} (q : HoldOwn base w h m) (hl : h.vol.length ≤ 40 ∧ h.mom.length ≤ 40 ∧ h.hei.length ≤ 40) : HoldIn w h m := ⟨own_tab q.1 hl.1, own_tab q.2.1 hl.2.1, own_tab q.2.2 hl.2.2⟩
theorem TankOwn.isIn {base : Nat} {w : World} {h : TankD} {m : HoldM} (q : TankOwn base w h m) (hl : h.vol.length ≤ 40 ∧ h.sur.length ≤ 40 ∧ h.hei.length ≤ 40) : TankIn w h m := ⟨own_tab q.1 hl.1, own_tab q.2.1 hl.2.1, own_tab q.2.2 hl.2.2⟩
end

section
open Go.RowKit

theorem hold_firstN {h : HoldD} (e : holdS h = true) : firstX h.vol ≤ lastX h.vol := by
  have ht := hold_tab e
  have hr := rising_pts h.vol (-1) (tabOk_pts ht) (by omega)
  have hl := tabOk_len ht
  have q1 : firstX h.vol = (h.vol[0]'(by omega)).1 := by unfold firstX; rw [List.head?_eq_getElem?, List.getElem?_eq_getElem (show 0 < h.vol.length by omega)]; rfl
  have q2 : lastX h.vol = (h.vol[h.vol.length - 1]'(by omega)).1 := by unfold lastX; rw [List.getLast?_eq_getElem?, List.getElem?_eq_getElem (show h.vol.length - 1 < h.vol.length by omega)]; rfl
  rw [q1, q2]
  rcases Nat.lt_or_ge 1 h.vol.length with g | g
  · exact Int.le_of_lt (List.pairwise_iff_getElem.1 hr 0 (h.vol.length - 1) (by omega) (by omega) (by omega))
  · have : h.vol.length = 1 := by omega
    simp [this]
theorem tank_firstN {t : TankD} (e : tankS t = true) : firstX t.vol ≤ lastX t.vol := by
  have ht := measures_ok (tank_parts e).1.1
  have hr := rising_pts t.vol (-1) (tabOk_pts ht) (by omega)
  have hl := tabOk_len ht
  have q1 : firstX t.vol = (t.vol[0]'(by omega)).1 := by unfold firstX; rw [List.head?_eq_getElem?, List.getElem?_eq_getElem (show 0 < t.vol.length by omega)]; rfl
  have q2 : lastX t.vol = (t.vol[t.vol.length - 1]'(by omega)).1 := by unfold lastX; rw [List.getLast?_eq_getElem?, List.getElem?_eq_getElem (show t.vol.length - 1 < t.vol.length by omega)]; rfl
  rw [q1, q2]
  rcases Nat.lt_or_ge 1 t.vol.length with g | g
  · exact Int.le_of_lt (List.pairwise_iff_getElem.1 hr 0 (t.vol.length - 1) (by omega) (by omega) (by omega))
  · have : t.vol.length = 1 := by omega
    simp [this]
theorem tankTabN {t : TankD} (e : tankS t = true) : tabOk t.vol = true := measures_ok (tank_parts e).1.1
def Lens3 (a b c : List P3) : Prop := a.length ≤ 40 ∧ b.length ≤ 40 ∧ c.length ≤ 40
theorem made_lens (r : RawD) : Lens3 (madeH r).vol (madeH r).mom (madeH r).hei := by
  have h8 := xsS_len r.fi r.st
  unfold madeH
  dsimp only
  refine ⟨?_, ?_, ?_⟩
  · unfold slopedL; rw [if_pos rfl, rowsTo_len _ _ _ (Nat.le_refl _)]; omega
  · rw [rowsTo_len _ _ _ (Nat.le_refl _)]; omega
  · unfold slopedL; rw [if_pos rfl, rowsTo_len _ _ _ (Nat.le_refl _)]; omega
theorem madeT_lens (r : RawD) : Lens3 (madeT r).vol (madeT r).sur (madeT r).hei := by
  have h8 := xsS_len r.fi r.st
  have hv : tabOk (madeT r).vol = true := tankTabN (madeT_valid r)
  refine ⟨(tabOk_len hv).2, ?_, ?_⟩
  · unfold madeT
    dsimp only
    rw [rowsTo_len _ _ _ (Nat.le_refl _)]; omega
  · unfold madeT
    dsimp only
    unfold slopedL; rw [if_neg (by decide), rowsTo_len _ _ _ (Nat.le_refl _)]; omega
structure SumsOk (L : List (HoldD × HoldM)) (fs : List FillD) (T : List (TankD × HoldM)) (ls : List LevelD) (k : Nat) : Prop where
  n1 : L.length = k
  n2 : fs.length = k
  n3 : T.length = k
  n4 : ls.length = k
  fe : ∀ (j : Nat) (r : HoldD × HoldM) (f : FillD), L[j]? = some r → fs[j]? = some f → fillErr r.1 f = 0
  ve : ∀ (j : Nat) (r : TankD × HoldM) (f : LevelD), T[j]? = some r → ls[j]? = some f → levelErr r.1 f = 0
  hi : ∀ (j : Nat) (r : HoldD × HoldM), L[j]? = some r → r.1.id = 1 + (j : Int)
  ti : ∀ (j : Nat) (r : TankD × HoldM), T[j]? = some r → r.1.id = 1 + (j : Int)
  hl : ∀ r ∈ L, Lens3 r.1.vol r.1.mom r.1.hei
  tl : ∀ r ∈ T, Lens3 r.1.vol r.1.sur r.1.hei
theorem SumsOk.nil : SumsOk [] [] [] [] 0 :=
  ⟨rfl, rfl, rfl, rfl, fun j r f h => by simp at h, fun j r f h => by simp at h, fun j r h => by simp at h, fun j r h => by simp at h, fun r h => by simp at h, fun r h => by simp at h⟩
theorem get_snoc {α : Type} {L : List α} {x y : α} {j : Nat} (h : (L ++ [x])[j]? = some y) : L[j]? = some y ∨ (j = L.length ∧ y = x) := by
  rcases Nat.lt_or_ge j L.length with hj | hj
  · rw [List.getElem?_append_left hj] at h
    exact .inl h
  · rw [List.getElem?_append_right hj] at h
    have h0 : j - L.length = 0 := by
      rcases Nat.eq_zero_or_pos (j - L.length) with e | e
      · exact e
      · rw [List.getElem?_eq_none (by simp; omega)] at h; cases h
    rw [h0] at h
    injection h with h
    exact .inr ⟨by omega, h.symm⟩
theorem SumsOk.push {L : List (HoldD × HoldM)} {fs : List FillD} {T : List (TankD × HoldM)} {ls : List LevelD} {k : Nat} (h : SumsOk L fs T ls k) (hk : k < 4) (r : RawD) (hid : r.id = (k : Int)) (m m' : HoldM) (x0 x1 x2 x3 x4 : Int) :
    SumsOk (L ++ [(madeH r, m)]) (fs ++ [madeF (madeH r) x0 x1 x2 x3 x4]) (T ++ [(madeT r, m')]) (ls ++ [madeL (madeT r) x0 x1 x2 x3 x4]) (k + 1) := by
  have q1 := made_valid r
  have q2 := madeT_valid r
  have i1 : (madeH r).id = 1 + (k : Int) := by show 1 + r.id % 9 = _; rw [hid]; omega
  have i2 : (madeT r).id = 1 + (k : Int) := by show 1 + r.id % 9 = _; rw [hid]; omega
  have f1 := madeF_ok q1 (hold_firstN q1) x0 x1 x2 x3 x4
  have f2 := madeL_ok q2 (tank_firstN q2) x0 x1 x2 x3 x4
  refine ⟨by simp [h.n1], by simp [h.n2], by simp [h.n3], by simp [h.n4], fun j z y hz hy => ?_, fun j z y hz hy => ?_, fun j z hz => ?_, fun j z hz => ?_, fun z hz => ?_, fun z hz => ?_⟩
  · rcases get_snoc hz with a | ⟨a, rfl⟩ <;> rcases get_snoc hy with b | ⟨b, rfl⟩
    · exact h.fe j z y a b
    · have := (List.getElem?_eq_some_iff.1 a).1; have := h.n1; have := h.n2; omega
    · have := (List.getElem?_eq_some_iff.1 b).1; have := h.n1; have := h.n2; omega
    · exact f1
  · rcases get_snoc hz with a | ⟨a, rfl⟩ <;> rcases get_snoc hy with b | ⟨b, rfl⟩
    · exact h.ve j z y a b
    · have := (List.getElem?_eq_some_iff.1 a).1; have := h.n3; have := h.n4; omega
    · have := (List.getElem?_eq_some_iff.1 b).1; have := h.n3; have := h.n4; omega
    · exact f2
  · rcases get_snoc hz with a | ⟨rfl, rfl⟩
    · exact h.hi j z a
    · rw [h.n1]; exact i1
  · rcases get_snoc hz with a | ⟨rfl, rfl⟩
    · exact h.ti j z a
    · rw [h.n3]; exact i2
  · rcases List.mem_append.1 hz with a | a
    · exact h.hl z a
    · rw [List.mem_singleton.1 a]; exact made_lens r
  · rcases List.mem_append.1 hz with a | a
    · exact h.tl z a
    · rw [List.mem_singleton.1 a]; exact madeT_lens r
theorem load_none {L : List (HoldD × HoldM)} {fs : List FillD} {T : List (TankD × HoldM)} {ls : List LevelD} (h1 : L.length ≤ 9) (h2 : T.length ≤ 9) (h3 : fs.length = L.length) (h4 : ls.length = T.length) (e1 : eachHold L fs = 0) (e2 : eachTank T ls = 0) : loadErr L fs T ls = 0 := by
  unfold loadErr
  rw [if_neg (by omega), if_neg (by omega), if_pos e1]
  exact e2
theorem eachHold_nil : eachHold [] [] = 0 := rfl
theorem eachTank_nil : eachTank [] [] = 0 := rfl
theorem SumsOk.eH {L : List (HoldD × HoldM)} {fs : List FillD} {T : List (TankD × HoldM)} {ls : List LevelD} {k : Nat} (h : SumsOk L fs T ls k) : eachHold L fs = 0 :=
  each_none h.fe fun i j r s hij hr hs e => by rw [h.hi i r hr, h.hi j s hs] at e; omega
theorem SumsOk.eT {L : List (HoldD × HoldM)} {fs : List FillD} {T : List (TankD × HoldM)} {ls : List LevelD} {k : Nat} (h : SumsOk L fs T ls k) : eachTank T ls = 0 :=
  each_noneT h.ve fun i j r s hij hr hs e => by rw [h.ti i r hr, h.ti j s hs] at e; omega
theorem take_get {α : Type} {L : List α} {n j : Nat} {x : α} (h : (L.take n)[j]? = some x) : L[j]? = some x := by
  rw [List.getElem?_take] at h
  split at h
  · exact h
  · cases h
theorem SumsOk.eTake {L : List (HoldD × HoldM)} {fs : List FillD} {T : List (TankD × HoldM)} {ls : List LevelD} {k : Nat} (h : SumsOk L fs T ls k) (n : Nat) : eachHold (L.take n) (fs.take n) = 0 :=
  each_none (fun j r f hr hf => h.fe j r f (take_get hr) (take_get hf)) fun i j r s hij hr hs e => by rw [h.hi i r (take_get hr), h.hi j s (take_get hs)] at e; omega
theorem SumsOk.eDrop {L : List (HoldD × HoldM)} {fs : List FillD} {T : List (TankD × HoldM)} {ls : List LevelD} {k : Nat} (h : SumsOk L fs T ls k) (n : Nat) : eachHold (L.drop n) (fs.drop n) = 0 := by
  refine each_none (fun j r f hr hf => ?_) fun i j r s hij hr hs e => ?_
  · rw [List.getElem?_drop] at hr hf
    exact h.fe _ r f hr hf
  · rw [List.getElem?_drop] at hr hs
    rw [h.hi _ r hr, h.hi _ s hs] at e
    omega
end

section
open Go.RowKit

structure Bun (w : World) (SB RB NB base : Nat) (v0 v1 v2 v3 : Value) (raw five : Array Value) (L : List (HoldD × HoldM)) (fs : List FillD) (T : List (TankD × HoldM)) (ls : List LevelD) (W : World) : Prop where
  sb : Blk W SB 29 #[v0, v1, v2, v3]
  rb : Blk W RB 32 raw
  nb : Blk W NB 33 five
  o1 : OwnHs base W v0 L
  o2 : OwnFs base W v1 fs
  o3 : OwnTs base W v2 T
  o4 : OwnVs base W v3 ls
  tb : TabsOwn base W L T
  bl : Below w.heap.size w W
  ba : w.heap.size ≤ SB ∧ SB < base ∧ base ≤ W.heap.size
section
variable {w : World} {SB RB NB base : Nat} {v0 v1 v2 v3 : Value} {raw five : Array Value} {L : List (HoldD × HoldM)} {fs : List FillD} {T : List (TankD × HoldM)} {ls : List LevelD} {W W' : World}
theorem Bun.on (h : Bun w SB RB NB base v0 v1 v2 v3 raw five L fs T ls W) (hb : Below W.heap.size W W') : Bun w SB RB NB base v0 v1 v2 v3 raw five L fs T ls W' :=
  ⟨blkOn h.sb hb, blkOn h.rb hb, blkOn h.nb hb, h.o1.on hb, h.o2.on hb, h.o3.on hb, h.o4.on hb, h.tb.on hb, below_then h.bl hb, ⟨h.ba.1, h.ba.2.1, Nat.le_trans h.ba.2.2 hb.size⟩⟩
theorem row_type {base n k : Nat} {e : TypeId} {v : Value} {xs : List Value} (h : W.ownsRow base e n v k xs) (he : e ≠ 66) : ∀ g, v.ownBlock = some g → ∃ cs t fr, W.heap[g]? = some (.cells cs t fr) ∧ t ≠ 66 := fun g hg => by
  obtain ⟨cur, q⟩ := own_block_type h hg
  exact ⟨cur, e, _, q, he⟩
theorem Bun.grown (h : Bun w SB RB NB base v0 v1 v2 v3 raw five L fs T ls W) {e : TypeId} {n k : Nat} {v : Value} {xs : List Value} (ho : W.ownsRow base e n v k xs) (hg : W.grownBy W' v.ownBlock) (he : e ≠ 66 ∧ e ≠ 29 ∧ e ≠ 32 ∧ e ≠ 33) :
    Blk W' SB 29 #[v0, v1, v2, v3] ∧ Blk W' RB 32 raw ∧ Blk W' NB 33 five ∧ TabsOwn base W' L T ∧ Below w.heap.size w W' ∧ (w.heap.size ≤ SB ∧ SB < base ∧ base ≤ W'.heap.size) :=
  ⟨h.sb.grown hg (blk_apart ho h.sb he.2.1), h.rb.grown hg (blk_apart ho h.rb he.2.2.1), h.nb.grown hg (blk_apart ho h.nb he.2.2.2), h.tb.kept hg (row_type ho he.1), h.bl.grown hg h.bl.size (fun j hj => by have := (ho.lt j hj).1; have := h.ba; omega), ⟨h.ba.1, h.ba.2.1, Nat.le_trans h.ba.2.2 hg.size⟩⟩
theorem tabs_cell {base : Nat} {L : List (HoldD × HoldM)} {T : List (TankD × HoldM)} {W : World} (h : TabsOwn base W L T) {g i : Nat} {t : TypeId} {cs : Array Value} (hb : Blk W g t cs) (ht : t ≠ 66) (u : Value) : TabsOwn base (W.setCell ⟨g, i, none⟩ u) L T :=
  h.kept (grownBy_setCellAt W g i u) (fun j hj => by injection hj with hj; subst hj; exact ⟨cs, t, _, hb, ht⟩)
theorem ne_of_blk {W : World} {g g' : Nat} {t t' : TypeId} {cs cs' : Array Value} (h : Blk W g t cs) (h' : Blk W g' t' cs') (ht : t ≠ t') : g ≠ g' := fun e => by
  subst e
  have h1 : W.heap[g]? = some (.cells cs t (0, 0)) := h
  have h2 : W.heap[g]? = some (.cells cs' t' (0, 0)) := h'
  rw [h1] at h2
  injection h2 with h2
  injection h2 with _ h2
  exact ht h2
theorem ownL_snoc {α : Type} {f : α → List Value} {e : TypeId} {n base : Nat} {W : World} {v : Value} {L : List α} {x : α} (h : W.ownsRow base e n v (L.length + 1) (rowsC f L ++ f x)) : OwnL f e n base W v (L ++ [x]) := by
  unfold OwnL
  rw [List.length_append, rowsC_snoc]
  exact h
theorem Bun.push1 (h : Bun w SB RB NB base v0 v1 v2 v3 raw five L fs T ls W) {v' : Value} {r : HoldD × HoldM} (hown : W'.ownsRow base 40 14 v' (L.length + 1) (rowsC holdL L ++ holdL r)) (hg : W.grownBy W' v0.ownBlock) (ht : HoldOwn base W r.1 r.2) :
    Bun w SB RB NB base v' v1 v2 v3 raw five (L ++ [r]) fs T ls (W'.setCell ⟨SB, 0, none⟩ v') := by
  have ho : W.ownsRow base 40 14 v0 L.length (rowsC holdL L) := h.o1
  obtain ⟨a1, a2, a3, a4, a5, a6⟩ := h.grown ho hg (by decide)
  have b2 := h.o2.beside ho (by decide) hg
  have b3 := h.o3.beside ho (by decide) hg
  have b4 := h.o4.beside ho (by decide) hg
  have ht' := ht.kept hg (row_type ho (by decide))
  refine ⟨by simpa using a1.set_ 0 v', a2.far (p := ⟨SB, 0, none⟩) (ne_of_blk a2 a1 (by decide)) _, a3.far (p := ⟨SB, 0, none⟩) (ne_of_blk a3 a1 (by decide)) _, (ownL_snoc hown).aside a1 (by decide) 0 v', b2.aside a1 (by decide) 0 v', b3.aside a1 (by decide) 0 v', b4.aside a1 (by decide) 0 v', ?_, a5.setCell (p := ⟨SB, 0, none⟩) (by have := a6.1; dsimp only; omega) _, ⟨a6.1, a6.2.1, by simp [World.setCell]; exact a6.2.2⟩⟩
  refine tabs_cell (L := L ++ [r]) ⟨fun z hz => ?_, a4.2⟩ a1 (by decide) v'
  rcases List.mem_append.1 hz with q | q
  · exact a4.1 z q
  · rw [List.mem_singleton.1 q]; exact ht'
theorem Bun.push2 (h : Bun w SB RB NB base v0 v1 v2 v3 raw five L fs T ls W) {v' : Value} {r : FillD} (hown : W'.ownsRow base 43 6 v' (fs.length + 1) (rowsC fillL fs ++ fillL r)) (hg : W.grownBy W' v1.ownBlock) :
    Bun w SB RB NB base v0 v' v2 v3 raw five L (fs ++ [r]) T ls (W'.setCell ⟨SB, 1, none⟩ v') := by
  have ho : W.ownsRow base 43 6 v1 fs.length (rowsC fillL fs) := h.o2
  obtain ⟨a1, a2, a3, a4, a5, a6⟩ := h.grown ho hg (by decide)
  have b1 := h.o1.beside ho (by decide) hg
  have b3 := h.o3.beside ho (by decide) hg
  have b4 := h.o4.beside ho (by decide) hg
  exact ⟨by simpa using a1.set_ 1 v', a2.far (p := ⟨SB, 1, none⟩) (ne_of_blk a2 a1 (by decide)) _, a3.far (p := ⟨SB, 1, none⟩) (ne_of_blk a3 a1 (by decide)) _, b1.aside a1 (by decide) 1 v', (ownL_snoc hown).aside a1 (by decide) 1 v', b3.aside a1 (by decide) 1 v', b4.aside a1 (by decide) 1 v', tabs_cell a4 a1 (by decide) v', a5.setCell (p := ⟨SB, 1, none⟩) (by have := a6.1; dsimp only; omega) _, ⟨a6.1, a6.2.1, by simp [World.setCell]; exact a6.2.2⟩⟩
theorem Bun.push3 (h : Bun w SB RB NB base v0 v1 v2 v3 raw five L fs T ls W) {v' : Value} {r : TankD × HoldM} (hown : W'.ownsRow base 46 6 v' (T.length + 1) (rowsC tankL T ++ tankL r)) (hg : W.grownBy W' v2.ownBlock) (ht : TankOwn base W r.1 r.2) :
    Bun w SB RB NB base v0 v1 v' v3 raw five L fs (T ++ [r]) ls (W'.setCell ⟨SB, 2, none⟩ v') := by
  have ho : W.ownsRow base 46 6 v2 T.length (rowsC tankL T) := h.o3
  obtain ⟨a1, a2, a3, a4, a5, a6⟩ := h.grown ho hg (by decide)
  have b1 := h.o1.beside ho (by decide) hg
  have b2 := h.o2.beside ho (by decide) hg
  have b4 := h.o4.beside ho (by decide) hg
  have ht' := ht.kept hg (row_type ho (by decide))
  refine ⟨by simpa using a1.set_ 2 v', a2.far (p := ⟨SB, 2, none⟩) (ne_of_blk a2 a1 (by decide)) _, a3.far (p := ⟨SB, 2, none⟩) (ne_of_blk a3 a1 (by decide)) _, b1.aside a1 (by decide) 2 v', b2.aside a1 (by decide) 2 v', (ownL_snoc hown).aside a1 (by decide) 2 v', b4.aside a1 (by decide) 2 v', ?_, a5.setCell (p := ⟨SB, 2, none⟩) (by have := a6.1; dsimp only; omega) _, ⟨a6.1, a6.2.1, by simp [World.setCell]; exact a6.2.2⟩⟩
  refine tabs_cell (T := T ++ [r]) ⟨a4.1, fun z hz => ?_⟩ a1 (by decide) v'
  rcases List.mem_append.1 hz with q | q
  · exact a4.2 z q
  · rw [List.mem_singleton.1 q]; exact ht'
theorem Bun.push4 (h : Bun w SB RB NB base v0 v1 v2 v3 raw five L fs T ls W) {v' : Value} {r : LevelD} (hown : W'.ownsRow base 49 6 v' (ls.length + 1) (rowsC levelL ls ++ levelL r)) (hg : W.grownBy W' v3.ownBlock) :
    Bun w SB RB NB base v0 v1 v2 v' raw five L fs T (ls ++ [r]) (W'.setCell ⟨SB, 3, none⟩ v') := by
  have ho : W.ownsRow base 49 6 v3 ls.length (rowsC levelL ls) := h.o4
  obtain ⟨a1, a2, a3, a4, a5, a6⟩ := h.grown ho hg (by decide)
  have b1 := h.o1.beside ho (by decide) hg
  have b2 := h.o2.beside ho (by decide) hg
  have b3 := h.o3.beside ho (by decide) hg
  exact ⟨by simpa using a1.set_ 3 v', a2.far (p := ⟨SB, 3, none⟩) (ne_of_blk a2 a1 (by decide)) _, a3.far (p := ⟨SB, 3, none⟩) (ne_of_blk a3 a1 (by decide)) _, b1.aside a1 (by decide) 3 v', b2.aside a1 (by decide) 3 v', b3.aside a1 (by decide) 3 v', (ownL_snoc hown).aside a1 (by decide) 3 v', tabs_cell a4 a1 (by decide) v', a5.setCell (p := ⟨SB, 3, none⟩) (by have := a6.1; dsimp only; omega) _, ⟨a6.1, a6.2.1, by simp [World.setCell]; exact a6.2.2⟩⟩
structure Bun0 (w : World) (SB base : Nat) (v0 v1 v2 v3 : Value) (L : List (HoldD × HoldM)) (fs : List FillD) (T : List (TankD × HoldM)) (ls : List LevelD) (W : World) : Prop where
  sb : Blk W SB 29 #[v0, v1, v2, v3]
  o1 : OwnHs base W v0 L
  o2 : OwnFs base W v1 fs
  o3 : OwnTs base W v2 T
  o4 : OwnVs base W v3 ls
  tb : TabsOwn base W L T
  bl : Below w.heap.size w W
  ba : w.heap.size ≤ SB ∧ SB < base ∧ base ≤ W.heap.size
theorem Bun.of (h : Bun0 w SB base v0 v1 v2 v3 L fs T ls W) (hr : Blk W RB 32 raw) (hn : Blk W NB 33 five) : Bun w SB RB NB base v0 v1 v2 v3 raw five L fs T ls W := ⟨h.sb, hr, hn, h.o1, h.o2, h.o3, h.o4, h.tb, h.bl, h.ba⟩
theorem Bun.zero (h : Bun w SB RB NB base v0 v1 v2 v3 raw five L fs T ls W) : Bun0 w SB base v0 v1 v2 v3 L fs T ls W := ⟨h.sb, h.o1, h.o2, h.o3, h.o4, h.tb, h.bl, h.ba⟩
theorem Bun0.on (h : Bun0 w SB base v0 v1 v2 v3 L fs T ls W) (hb : Below W.heap.size W W') : Bun0 w SB base v0 v1 v2 v3 L fs T ls W' :=
  ⟨blkOn h.sb hb, h.o1.on hb, h.o2.on hb, h.o3.on hb, h.o4.on hb, h.tb.on hb, below_then h.bl hb, ⟨h.ba.1, h.ba.2.1, Nat.le_trans h.ba.2.2 hb.size⟩⟩
theorem Bun0.cell (h : Bun0 w SB base v0 v1 v2 v3 L fs T ls W) {g : Nat} {t : TypeId} {cs : Array Value} (hb : Blk W g t cs) (ht : t = 32 ∨ t = 33) (hg : base ≤ g) (i : Nat) (u : Value) : Bun0 w SB base v0 v1 v2 v3 L fs T ls (W.setCell ⟨g, i, none⟩ u) := by
  have d : t ≠ 29 ∧ t ≠ 66 ∧ 40 ≠ t ∧ 43 ≠ t ∧ 46 ≠ t ∧ 49 ≠ t := by rcases ht with rfl | rfl <;> decide
  have q1 := h.ba
  exact ⟨h.sb.far (p := ⟨g, i, none⟩) (by dsimp only; omega) u, h.o1.aside hb d.2.2.1 i u, h.o2.aside hb d.2.2.2.1 i u, h.o3.aside hb d.2.2.2.2.1 i u, h.o4.aside hb d.2.2.2.2.2 i u, tabs_cell h.tb hb d.2.1 u, h.bl.setCell (p := ⟨g, i, none⟩) (by dsimp only; omega) u, ⟨q1.1, q1.2.1, by simp [World.setCell]; exact q1.2.2⟩⟩
theorem HoldsIn_drop {A : Option Addr} {c k : Nat} (h : OwnHs base W (.slice A L.length c) L) (hk : k ≤ L.length) (h9 : L.length ≤ 9) : HoldsIn W (if c = k then A else Option.map (fun x => x.add (k * 14)) A) (L.length - k) (L.drop k) := by
  refine ⟨by rw [List.length_drop], by unfold maxLen; omega, ?_⟩
  obtain ⟨A', c', e, hc, _, q⟩ := h.form
  injection e with e1 _ e2
  subst e1 e2
  rcases q with rfl | ⟨g, rfl, _, hg⟩
  · exact .inl (by simp)
  · by_cases hck : c = k
    · exact .inl (List.drop_eq_nil_of_le (by omega))
    · rw [if_neg hck]
      exact .inr ⟨g, k * 14, by simp [Addr.add]; omega, hg, h.mem.drop⟩
theorem FillsIn_drop {A : Option Addr} {c k : Nat} (h : OwnFs base W (.slice A fs.length c) fs) (hk : k ≤ fs.length) (h9 : fs.length ≤ 9) : FillsIn W (if c = k then A else Option.map (fun x => x.add (k * 6)) A) (fs.length - k) (fs.drop k) := by
  refine ⟨by rw [List.length_drop], by unfold maxLen; omega, ?_⟩
  obtain ⟨A', c', e, hc, _, q⟩ := h.form
  injection e with e1 _ e2
  subst e1 e2
  rcases q with rfl | ⟨g, rfl, _, hg⟩
  · exact .inl (by simp)
  · by_cases hck : c = k
    · exact .inl (List.drop_eq_nil_of_le (by omega))
    · rw [if_neg hck]
      exact .inr ⟨g, k * 6, by simp [Addr.add]; omega, hg, FillsAt.drop h.mem⟩
theorem NWs.aside {v : Value} {l : List WD} (h : NWs base W v l) {g i : Nat} {t : TypeId} {cs : Array Value} (hb : Blk W g t cs) (ht : 73 ≠ t) (u : Value) : NWs base (W.setCell ⟨g, i, none⟩ u) v l :=
  ⟨World.ownsRow.kept (show W.ownsRow base 73 6 v l.length (wsCells l) from h.1) (grownBy_setCellAt W g i u) (.inr (fun q => blk_apart (show W.ownsRow base 73 6 v l.length (wsCells l) from h.1) hb ht q.symm)), h.2⟩
end
end

section
open Go.RowKit

theorem wsCells_cat : ∀ (L K : List WD), wsCells (L ++ K) = wsCells L ++ wsCells K := by
  intro L K
  induction L with
  | nil => rfl
  | cons r L ih =>
    rw [List.cons_append]
    show wCells r ++ wsCells (L ++ K) = (wCells r ++ wsCells L) ++ wsCells K
    rw [ih, List.append_assoc]
theorem wsCells_one : ∀ (L : List WD), ∀ u ∈ wsCells L, u.oneCell' = true
  | [], u, h => by cases h
  | r :: L, u, h => by
    replace h : u ∈ wCells r ++ wsCells L := h
    rcases List.mem_append.1 h with h | h
    · unfold wCells at h
      simp only [List.mem_cons, List.not_mem_nil, or_false] at h
      rcases h with rfl | rfl | rfl | rfl | rfl | rfl <;> rfl
    · exact wsCells_one L u h
theorem append_nil_own {w : World} {base : Nat} {v : Value} {L : List WD} (h : OwnWs base w v L) : (Builtin.append_ #[52, 52] 52 #[v, .slice none 0 0]).run Tryz.prog w = .ok v w := by
  obtain ⟨i0, i1, i2, i3, i4⟩ := info_parts Tryz.infoWt
  have hu := Tryz.underlying52
  rcases (show w.ownsRow base 73 6 v L.length (wsCells L) from h).2 with ⟨rfl, h0⟩ | ⟨g, c, cur, rfl, _, _, hc, _⟩
  · have q := (Src.ofNil (P := Tryz.prog) (size := i0.size) w hu 0).cells
    simp [Builtin.append_, run_underlying hu, sizeOf, typeInfo, i1, Builtin.lenOf, q]
  · have q := run_append_room_src (P := Tryz.prog) w 52 52 52 73 i0 hu i1 g 0 L.length c (.slice none 0 0) 0 [] (Src.ofNil w hu 0) (by omega) (fun j hj => by simp at hj) (fun j hj => by simp at hj)
    simpa [World.setCells] using q
theorem wpList_append_ws {ops : Array Oper} {rest : List Oper} {o : Oper} {a : Act} {Q : Exit → Act → World → Prop} {w : World} (hgd : o.guard = none) (s x : Operand) (hty : o.type = 52)
    (ho : o.op = .call { callee := .builtin .append, args := #[s, x], argTypes := #[52, 52] })
    (base base' : Nat) (v u : Value) (L K : List WD) (hs : a.eval s = v) (hown : NWs base w v L) (hx : a.eval x = u) (hu : NWs base' w u K) (hlen : L.length + K.length ≤ 1000) (hbase : base ≤ w.heap.size)
    (h : ∀ v' w', NWs base w' v' (L ++ K) → w.grownBy w' v.ownBlock → wpList Tryz.prog ops Q rest (a.put o.dst v') w') :
    wpList Tryz.prog ops Q (o :: rest) a w := by
  obtain ⟨i0, i1, i2, i3, i4⟩ := info_parts Tryz.infoWt
  rcases (show w.ownsRow base' 73 6 u K.length (wsCells K) from hu.1).2 with ⟨rfl, h0⟩ | ⟨g, c, cur, rfl, _, hg, hc, _⟩
  · have hK : K = [] := List.eq_nil_of_length_eq_zero h0
    subst hK
    refine wpList_plain hgd fun K0 hK0 => ?_
    have hr := append_nil_own hown.1
    unfold Oper.wp execOp
    simp only [ho, resolve, invoke, builtin, Sem.run_bind, Sem.run_pure, Result.andThen_ok, List.map_toArray, List.map_cons, List.map_nil, hs, hx, hty, hr]
    exact hK0 _ _ (h v w (by rw [List.append_nil]; exact hown) (World.grownBy.refl w _))
  · refine wpList_append_own_at w hgd s x 52 ho base 73 i0 _ 6 48 Tryz.underlying52 i1 i2 i3 i4 rfl (by decide) v L.length (wsCells L) hs hown.1 ⟨g, 0, none⟩ K.length c (wsCells K) hx (wsCells_len K) ?_ (wsCells_one K) (by unfold maxLen; omega) (by omega) hbase ?_
    · intro j z hz
      have hj : j < K.length * 6 := by rw [← wsCells_len K]; exact (List.getElem?_eq_some_iff.1 hz).1
      have q := World.ownsRow.cellAt (show w.ownsRow base' 73 6 (.slice (some ⟨g, 0, none⟩) K.length c) K.length (wsCells K) from hu.1) j hj
      have e : ((⟨g, 0, none⟩ : Addr).add j) = ⟨g, j, none⟩ := by simp [Addr.add]; intro h0; exact h0.symm
      rw [e]
      exact q.trans hz
    · intro v' w' q1 q2 q3 _
      refine h v' w' ⟨?_, ?_⟩ q2
      · unfold OwnWs
        rw [List.length_append, wsCells_cat]
        exact q1
      · rw [List.append_eq_nil_iff]
        constructor
        · rintro ⟨a1, a2⟩
          exact q3.2 ⟨hown.2.1 a1, by rw [a2]; rfl⟩
        · intro a1
          obtain ⟨b1, b2⟩ := q3.1 a1
          exact ⟨hown.2.2 b1, List.eq_nil_of_length_eq_zero b2⟩
theorem SumsOk.sum {L : List (HoldD × HoldM)} {fs : List FillD} {T : List (TankD × HoldM)} {ls : List LevelD} {n : Nat} (h : SumsOk L fs T ls n) : ∀ k, k ≤ n → k ≤ 9 → SumOf k (upTo L fs k).2
  | 0, _, _ => by simp [upTo, SumOf]
  | k + 1, hk, h9 => by
    have ih := h.sum k (by omega) (by omega)
    obtain ⟨z, hz⟩ : ∃ z, L[k]? = some z := ⟨_, List.getElem?_eq_getElem (by rw [h.n1]; omega)⟩
    obtain ⟨y, hy⟩ : ∃ y, fs[k]? = some y := ⟨_, List.getElem?_eq_getElem (by rw [h.n2]; omega)⟩
    obtain ⟨⟨s0, s1⟩, hs⟩ : ∃ s, (upTo L fs k).2 = s := ⟨_, rfl⟩
    rw [hs] at ih
    obtain ⟨_, _, t0, t1, _, _, _, _, q, q2, _⟩ := hold_step (by omega) hz hy (h.fe k z y hz hy) hs ih
    rw [q]
    exact q2
theorem SumsOk.parts {L : List (HoldD × HoldM)} {fs : List FillD} {T : List (TankD × HoldM)} {ls : List LevelD} {n kk : Nat} (h : SumsOk L fs T ls n) (hn : n ≤ 9) (hk : kk ≤ L.length) {g0 g1 a0 a1 c0 c1 : Int} (e1 : (upTo L fs L.length).2 = (g0, g1)) (e2 : (upTo (L.take kk) (fs.take kk) kk).2 = (a0, a1)) (e3 : (upTo (L.drop kk) (fs.drop kk) (L.length - kk)).2 = (c0, c1)) :
    g0 = a0 + c0 ∧ g1 = a1 + c1 ∧ IntKind.i64.wrap g0 = g0 ∧ IntKind.i64.wrap g1 = g1 ∧ (upTo L fs L.length).1 ++ (upToT T ls T.length).1 = (((upTo (L.take kk) (fs.take kk) kk).1 ++ (upToT [] [] 0).1) ++ ((upTo (L.drop kk) (fs.drop kk) (L.length - kk)).1 ++ (upToT [] [] 0).1)) ++ ((upTo [] [] 0).1 ++ (upToT T ls T.length).1) := by
  have hf : fs.length = L.length := h.n2.trans h.n1.symm
  obtain ⟨q1, q2, q3⟩ := upTo_cut hf hk
  have hs := h.sum L.length (by rw [h.n1]; omega) (by rw [h.n1]; omega)
  rw [e1, e2, e3] at q2 q3
  rw [e1] at hs
  have hl : L.length ≤ 9 := by rw [h.n1]; omega
  obtain ⟨b1, b2, b3⟩ := hs
  dsimp only at b1 b2 b3 q2 q3
  have b4 : (L.length : Int) * 2000000001 ≤ 9 * 2000000001 := Int.mul_le_mul_of_nonneg_right (by omega) (by omega)
  refine ⟨q2, q3, IntWalk.i64_in _ ⟨by omega, by omega⟩, IntWalk.i64_in _ ⟨by omega, by omega⟩, ?_⟩
  rw [q1]
  simp [upTo, upToT]
end

end Go.Proofs.YtpcmcicnciejpaaGreat
