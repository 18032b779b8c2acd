/- Plain: the tank that numbers describe is valid, the level that numbers describe is one of it; all that HoldLevels asks. -/
import Derived.Test.YtemlaaipnhmcoaaGreatR35
import Derived.Test.YtemlaaipnhmcoaaGreatR14
import Derived.Test.YtemlaaipnhmcoaaGreatR37
import Derived.Test.YtemlaaipnhmcoaaGreatR38
import Derived.Test.YtemlaaipnhmcoaaGreatR44
import Derived.Test.YtemlaaipnhmcoaaGreatQ98
set_option linter.unusedVariables false
set_option linter.unusedSimpArgs false
set_option linter.constructorNameAsVariable false
namespace Go.Proofs.YtemlaaipnhmcoaaGreat

section
open Go.RowKit

def zeroFirst : List P3 → List P3
  | p :: r => (p.1, 0, 0) :: r
  | [] => []
def tankVol (r : RawD) : List P3 := if pickS r.vs 9 % 2 = 0 then zeroFirst (slopedL r.vs 3 300 false (xsS r.fi r.st) (xsS r.fi r.st).length) else slopedL r.vs 3 300 false (xsS r.fi r.st) (xsS r.fi r.st).length
def madeT (r : RawD) : TankD :=
  ⟨1 + r.id % 9, pickS r.vs 4 % 2001 - 1000, pickS r.vs 4 % 2001 - 1000 + pickS r.vs 5 % 30, tankVol r, rowsTo (xsS r.fi r.st) (freeF r.vs 2 500) (xsS r.fi r.st).length, slopedL r.vs 7 90 false (xsS r.fi r.st) (xsS r.fi r.st).length⟩
theorem zeroFirst_len (l : List P3) : (zeroFirst l).length = l.length := by cases l <;> rfl
theorem own_zero {base g n cap : Nat} {w : World} {l : List P3} (h : OwnPts base w (.slice (some ⟨g, 0, none⟩) n cap) l) (hl : l.length = n) (hp : 0 < n) : OwnPts base ((w.setCell ⟨g, 1, none⟩ (.int .i64 0)).setCell ⟨g, 2, none⟩ (.int .i64 0)) (.slice (some ⟨g, 0, none⟩) n cap) (zeroFirst l) := by
  have h' : w.ownsRow base 110 3 (.slice (some ⟨g, 0, none⟩) n cap) n (ptCells l) := by
    have q := h
    unfold OwnPts at q
    rw [hl] at q
    exact q
  have h1 := (h'.stored 1 (.int .i64 0)).1
  have h2 := (h1.stored 2 (.int .i64 0)).1
  unfold OwnPts
  rw [zeroFirst_len, hl]
  have e : ptCells (zeroFirst l) = ((ptCells l).set 1 (.int .i64 0)).set 2 (.int .i64 0) := by
    cases l with
    | nil => simp at hl; omega
    | cons p r => simp [zeroFirst, ptCells]
  rw [e]
  exact h2
theorem own_cells {base g n cap : Nat} {w : World} {l : List P3} (h : OwnPts base w (.slice (some ⟨g, 0, none⟩) n cap) l) (hl : l.length = n) (hp : 0 < n) : (∃ a, w.cell? ⟨g, 1, none⟩ = some a) ∧ (∃ a, w.cell? ⟨g, 2, none⟩ = some a) ∧ w.frozen? ⟨g, 1, none⟩ = false ∧ w.frozen? ⟨g, 2, none⟩ = false := by
  have h' : w.ownsRow base 110 3 (.slice (some ⟨g, 0, none⟩) n cap) n (ptCells l) := by
    have q := h
    unfold OwnPts at q
    rw [hl] at q
    exact q
  have hlen : (ptCells l).length = n * 3 := h'.1
  refine ⟨⟨_, (h'.cellAt 1 (by omega)).trans (List.getElem?_eq_getElem (show 1 < (ptCells l).length by omega))⟩, ⟨_, (h'.cellAt 2 (by omega)).trans (List.getElem?_eq_getElem (show 2 < (ptCells l).length by omega))⟩, h'.frozenAt 1, h'.frozenAt 2⟩

set_option maxRecDepth 100000 in
set_option maxHeartbeats 4000000 in
theorem smadeTank (r : RawD) (m : RawM) (w : World) (hi : RawIn w r m) :
  Calls Tryz.prog 14 #[rawV r m] w fun e w' => (∃ mm, e = .returned (tankV (madeT r) mm) ∧ TankIn w' (madeT r) mm) ∧ Below w.heap.size w w' := by
 obtain ⟨id, fi, st, vs⟩ := r
 obtain ⟨S, sn, sc, V, vn, vc⟩ := m
 have HV : Hid (∀ W i, Below w.heap.size w W → Calls Tryz.prog 61 #[.slice V vn vc, .int .i64 i] W fun e w' => e = .returned (.int .i64 (pickS vs i)) ∧ Below W.heap.size W w') := Lib.hid fun W i hW => spick_to V vn vc vs i W hi.2.2.2.1 hi.2.2.2.2.1 (hi.2.2.2.2.2.below hW)
 have CSV : Hid (∀ W, Below w.heap.size w W → Calls Tryz.prog 62 #[.agg #[.int .i64 id, .int .i64 fi, .slice S sn sc, .slice V vn vc], .int .i64 3, .int .i64 300, .bool false] W (GivesT W (slopedL vs 3 300 false (xsS fi st) (xsS fi st).length))) := Lib.hid fun W hW => ssloped_to ⟨id, fi, st, vs⟩ ⟨S, sn, sc, V, vn, vc⟩ 3 300 false W (hi.below hW) (by omega) (by omega) (by omega) (by omega)
 have CSH : Hid (∀ W, Below w.heap.size w W → Calls Tryz.prog 62 #[.agg #[.int .i64 id, .int .i64 fi, .slice S sn sc, .slice V vn vc], .int .i64 7, .int .i64 90, .bool false] W (GivesT W (slopedL vs 7 90 false (xsS fi st) (xsS fi st).length))) := Lib.hid fun W hW => ssloped_to ⟨id, fi, st, vs⟩ ⟨S, sn, sc, V, vn, vc⟩ 7 90 false W (hi.below hW) (by omega) (by omega) (by omega) (by omega)
 have CFM : Hid (∀ W, Below w.heap.size w W → Calls Tryz.prog 63 #[.agg #[.int .i64 id, .int .i64 fi, .slice S sn sc, .slice V vn vc], .int .i64 2, .int .i64 500] W (GivesT W (rowsTo (xsS fi st) (freeF vs 2 500) (xsS fi st).length))) := Lib.hid fun W hW => sfree_to ⟨id, fi, st, vs⟩ ⟨S, sn, sc, V, vn, vc⟩ 2 500 W (hi.below hW) (by omega) (by omega) (by omega) (by omega)
 clear hi
 have hx8 := xsS_len fi st
 have hlV : (slopedL vs 3 300 false (xsS fi st) (xsS fi st).length).length = (xsS fi st).length := by unfold slopedL; rw [if_neg (by decide), rowsTo_len _ _ _ (Nat.le_refl _)]
 have hlH : (slopedL vs 7 90 false (xsS fi st) (xsS fi st).length).length ≤ 40 := by unfold slopedL; rw [if_neg (by decide), rowsTo_len _ _ _ (Nat.le_refl _)]; omega
 have hlM : (rowsTo (xsS fi st) (freeF vs 2 500) (xsS fi st).length).length ≤ 40 := by rw [rowsTo_len _ _ _ (Nat.le_refl _)]; omega
 unfold madeT tankVol
 dsimp only
 have HX8 : Hid (2 ≤ (xsS fi st).length ∧ (xsS fi st).length ≤ 8) := Lib.hid hx8
 have HLV := Lib.hid hlV; have HLH := Lib.hid hlH; have HLM := Lib.hid hlM
 obtain ⟨LV, hLV⟩ : ∃ l, slopedL vs 3 300 false (xsS fi st) (xsS fi st).length = l := ⟨_, rfl⟩
 obtain ⟨LH, hLH⟩ : ∃ l, slopedL vs 7 90 false (xsS fi st) (xsS fi st).length = l := ⟨_, rfl⟩
 obtain ⟨LM, hLM⟩ : ∃ l, rowsTo (xsS fi st) (freeF vs 2 500) (xsS fi st).length = l := ⟨_, rfl⟩
 rw [hLV] at CSV HLV ⊢
 rw [hLH] at CSH HLH ⊢
 rw [hLM] at CFM HLM ⊢
 obtain ⟨NX, hNX⟩ : ∃ l, (xsS fi st).length = l := ⟨_, rfl⟩
 rw [hNX] at HX8 HLV
 clear hLV hLH hLM hNX hlV hlH hlM hx8
 obtain ⟨P4, hP4⟩ : ∃ z, pickS vs 4 = z := ⟨_, rfl⟩
 have CP4 : Hid (∀ W, Below w.heap.size w W → Calls Tryz.prog 61 #[.slice V vn vc, .int .i64 4] W fun e w' => e = .returned (.int .i64 P4) ∧ Below W.heap.size W w') := Lib.hid fun W hW => int_to (HV.out W 4 hW) hP4
 rw [hP4]
 obtain ⟨P5, hP5⟩ : ∃ z, pickS vs 5 = z := ⟨_, rfl⟩
 have CP5 : Hid (∀ W, Below w.heap.size w W → Calls Tryz.prog 61 #[.slice V vn vc, .int .i64 5] W fun e w' => e = .returned (.int .i64 P5) ∧ Below W.heap.size W w') := Lib.hid fun W hW => int_to (HV.out W 5 hW) hP5
 rw [hP5]
 obtain ⟨P9, hP9⟩ : ∃ z, pickS vs 9 = z := ⟨_, rfl⟩
 have CP9 : Hid (∀ W, Below w.heap.size w W → Calls Tryz.prog 61 #[.slice V vn vc, .int .i64 9] W fun e w' => e = .returned (.int .i64 P9) ∧ Below W.heap.size W w') := Lib.hid fun W hW => int_to (HV.out W 9 hW) hP9
 rw [hP9]
 obtain ⟨b0, c0⟩ := emod_in id (show (0 : Int) < 9 by omega)
 obtain ⟨a9, ha9⟩ : ∃ z, id % 9 = z := ⟨_, rfl⟩
 rw [ha9] at b0 c0 ⊢
 have CM0 : Hid (∀ W, Calls Tryz.prog 23 #[.int .i64 id, .int .i64 9] W fun e w' => e = .returned (.int .i64 a9) ∧ Below W.heap.size W w') := Lib.hid fun W => int_to (smod_to id 9 W (by omega) (by omega)) ha9
 obtain ⟨b4, c4⟩ := emod_in P4 (show (0 : Int) < 2001 by omega)
 obtain ⟨d4, hd4⟩ : ∃ z, P4 % 2001 = z := ⟨_, rfl⟩
 rw [hd4] at b4 c4 ⊢
 have CM4 : Hid (∀ W, Calls Tryz.prog 23 #[.int .i64 P4, .int .i64 2001] W fun e w' => e = .returned (.int .i64 d4) ∧ Below W.heap.size W w') := Lib.hid fun W => int_to (smod_to P4 2001 W (by omega) (by omega)) hd4
 obtain ⟨b5, c5⟩ := emod_in P5 (show (0 : Int) < 30 by omega)
 obtain ⟨d5, hd5⟩ : ∃ z, P5 % 30 = z := ⟨_, rfl⟩
 rw [hd5] at b5 c5 ⊢
 have CM5 : Hid (∀ W, Calls Tryz.prog 23 #[.int .i64 P5, .int .i64 30] W fun e w' => e = .returned (.int .i64 d5) ∧ Below W.heap.size W w') := Lib.hid fun W => int_to (smod_to P5 30 W (by omega) (by omega)) hd5
 obtain ⟨b9, c9⟩ := emod_in P9 (show (0 : Int) < 2 by omega)
 obtain ⟨d9, hd9⟩ : ∃ z, P9 % 2 = z := ⟨_, rfl⟩
 rw [hd9] at b9 c9 ⊢
 have CM9 : Hid (∀ W, Calls Tryz.prog 23 #[.int .i64 P9, .int .i64 2] W fun e w' => e = .returned (.int .i64 d9) ∧ Below W.heap.size W w') := Lib.hid fun W => int_to (smod_to P9 2 W (by omega) (by omega)) hd9
 obtain ⟨idd, hidd⟩ : ∃ z, 1 + a9 = z := ⟨_, rfl⟩
 have w1 : IntKind.i64.wrap (1 + a9) = idd := by rw [IntWalk.i64_in _ ⟨by omega, by omega⟩]; exact hidd
 rw [hidd]
 obtain ⟨al, hal⟩ : ∃ z, d4 - 1000 = z := ⟨_, rfl⟩
 have w2 : IntKind.i64.wrap (d4 - 1000) = al := by rw [IntWalk.i64_in _ ⟨by omega, by omega⟩]; exact hal
 rw [hal]
 obtain ⟨ah, hah⟩ : ∃ z, al + d5 = z := ⟨_, rfl⟩
 have w3 : IntKind.i64.wrap (al + d5) = ah := by rw [IntWalk.i64_in _ ⟨by omega, by omega⟩]; exact hah
 rw [hah]
 obtain ⟨LA, hLA⟩ : ∃ l, (if d9 = 0 then zeroFirst LV else LV) = l := ⟨_, rfl⟩
 rw [hLA]
 have HLA := Lib.hid hLA
 clear hP4 hP5 hP9 ha9 hd4 hd5 hd9 hidd hal hah b0 b4 b5 b9 c0 c4 c5 c9 HV hLA
 have HE := Lib.hid (show Below w.heap.size w ((w.alloc (.cells #[.int .i64 id, .int .i64 fi, .slice S sn sc, .slice V vn vc] 24)).alloc (.cells #[.int .i64 0, .int .i64 0, .int .i64 0, .slice none 0 0, .slice none 0 0, .slice none 0 0] 38)) from below_a2 (Below.refl _ _))
 have HK := Lib.hid (boxes2' w 24 38 #[.int .i64 id, .int .i64 fi, .slice S sn sc, .slice V vn vc] #[.int .i64 0, .int .i64 0, .int .i64 0, .slice none 0 0, .slice none 0 0, .slice none 0 0])
 go_enter Tryz.func14, Tryz.ntmps14
 go_upto_region 1 with fail
 obtain ⟨W0, hW0⟩ : ∃ W0 : World, ((w.alloc (.cells #[.int .i64 id, .int .i64 fi, .slice S sn sc, .slice V vn vc] 24)).alloc (.cells #[.int .i64 0, .int .i64 0, .int .i64 0, .slice none 0 0, .slice none 0 0, .slice none 0 0] 38)) = W0 := ⟨_, rfl⟩
 rw [hW0] at HE HK ⊢
 clear hW0
 obtain ⟨G, hG⟩ : ∃ G, w.heap.size = G := ⟨_, rfl⟩
 rw [hG] at HK ⊢
 have HG := Lib.hid hG; clear hG
 have r_ := HK.out _ (.tail _ (.head _))
 have r_0 := r_.cell 0
 have r_1 := r_.cell 1
 have r_2 := r_.cell 2
 have r_3 := r_.cell 3
 simp at r_0 r_1 r_2 r_3
 clear r_
 go_wp2_with fail
 refine (CM0.out _).mono ?_
 rintro e y1 ⟨rfl, hq⟩
 clear r_0 r_1 r_2 r_3
 have HKq := Lib.hid (HK.out.on hq); have HEq := Lib.hid (below_then HE.out hq)
 clear hq HK HE CM0
 go_upto_region 2 with fail
 have HX0 := Lib.hid (HKq.out.new 38 #[.int .i64 idd, .int .i64 0, .int .i64 0, .slice none 0 0, .slice none 0 0, .slice none 0 0]); have HB0 := Lib.hid (below_then HEq.out (below_alloc1 y1 (.cells #[.int .i64 idd, .int .i64 0, .int .i64 0, .slice none 0 0, .slice none 0 0, .slice none 0 0] 38)))
 have HMG : Hid (G + 1 < y1.heap.size ∧ w.heap.size ≤ G) := Lib.hid ⟨(HKq.out _ (.head _)).lt, by rw [HG.out]; exact Nat.le_refl _⟩
 clear HKq HEq w1
 obtain ⟨V0, hW⟩ : ∃ W', y1.alloc (.cells #[.int .i64 idd, .int .i64 0, .int .i64 0, .slice none 0 0, .slice none 0 0, .slice none 0 0] 38) = W' := ⟨_, rfl⟩
 rw [hW] at HX0 HB0 ⊢
 clear hW
 obtain ⟨M, hM⟩ : ∃ M, y1.heap.size = M := ⟨_, rfl⟩
 rw [hM] at HX0 HMG ⊢
 clear hM
 have HFAR : Hid (∀ p ∈ ([(G + 1, 38, #[.int .i64 0, .int .i64 0, .int .i64 0, .slice none 0 0, .slice none 0 0, .slice none 0 0]), (G, 24, #[.int .i64 id, .int .i64 fi, .slice S sn sc, .slice V vn vc])] : List (Nat × TypeId × Array Value)), p.1 ≠ M) := Lib.hid (fun p hp => by
  have hm := HMG.out
  simp only [List.mem_cons, List.not_mem_nil, or_false] at hp
  rcases hp with h | h <;> (rw [h]; dsimp only; omega))
 have r_ := HX0.out _ (.tail _ (.tail _ (.head _)))
 have r_0 := r_.cell 0
 have r_1 := r_.cell 1
 have r_2 := r_.cell 2
 have r_3 := r_.cell 3
 simp at r_0 r_1 r_2 r_3
 clear r_
 go_wp2_with fail
 refine (CP4.out _ HB0.out).mono ?_
 rintro e z1 ⟨rfl, hq⟩
 have HB1 := Lib.hid (below_then HB0.out hq); have HX1 := Lib.hid (HX0.out.on hq)
 clear hq HB0 HX0 r_0 r_1 r_2 r_3
 clear CP4
 go_wp2_with fail
 refine (CM4.out _).mono ?_
 rintro e z2 ⟨rfl, hq⟩
 have HB2 := Lib.hid (below_then HB1.out hq); have HX2 := Lib.hid (HX1.out.on hq)
 clear hq HB1 HX1 
 clear CM4
 have r_ := HX2.out _ (.tail _ (.tail _ (.head _)))
 have r_0 := r_.cell 0
 have r_1 := r_.cell 1
 have r_2 := r_.cell 2
 have r_3 := r_.cell 3
 simp at r_0 r_1 r_2 r_3
 clear r_
 go_wp2_with fail
 refine (CP5.out _ HB2.out).mono ?_
 rintro e z3 ⟨rfl, hq⟩
 have HB3 := Lib.hid (below_then HB2.out hq); have HX3 := Lib.hid (HX2.out.on hq)
 clear hq HB2 HX2 r_0 r_1 r_2 r_3
 clear CP5 w2
 go_wp2_with fail
 refine (CM5.out _).mono ?_
 rintro e z4 ⟨rfl, hq⟩
 have HB4 := Lib.hid (below_then HB3.out hq); have HX4 := Lib.hid (HX3.out.on hq)
 clear hq HB3 HX3 
 clear CM5
 have m_ := HX4.out _ (.head _)
 have m_1 := m_.cell 1
 have m_f1 := m_.frozen 1
 have m_2 := m_.cell 2
 have m_f2 := m_.frozen 2
 have m_l := m_.lt
 simp at m_1 m_f1 m_2 m_f2
 clear m_
 go_upto_region 4 with fail
 have HXs4_0 : Hid (Boxes ((z4).setCell ⟨M, 1, none⟩ (.int .i64 al)) [(M, 38, #[.int .i64 idd, .int .i64 al, .int .i64 0, .slice none 0 0, .slice none 0 0, .slice none 0 0]), (G + 1, 38, #[.int .i64 0, .int .i64 0, .int .i64 0, .slice none 0 0, .slice none 0 0, .slice none 0 0]), (G, 24, #[.int .i64 id, .int .i64 fi, .slice S sn sc, .slice V vn vc])]) := Lib.hid (HX4.out.set1 HFAR.out 1 (.int .i64 al) _ rfl)
 have HXs4_1 : Hid (Boxes (((z4).setCell ⟨M, 1, none⟩ (.int .i64 al)).setCell ⟨M, 2, none⟩ (.int .i64 ah)) [(M, 38, #[.int .i64 idd, .int .i64 al, .int .i64 ah, .slice none 0 0, .slice none 0 0, .slice none 0 0]), (G + 1, 38, #[.int .i64 0, .int .i64 0, .int .i64 0, .slice none 0 0, .slice none 0 0, .slice none 0 0]), (G, 24, #[.int .i64 id, .int .i64 fi, .slice S sn sc, .slice V vn vc])]) := Lib.hid (HXs4_0.out.set1 HFAR.out 2 (.int .i64 ah) _ rfl)
 have HB5 : Hid (Below w.heap.size w (((z4).setCell ⟨M, 1, none⟩ (.int .i64 al)).setCell ⟨M, 2, none⟩ (.int .i64 ah))) := Lib.hid (by
  have hm := HMG.out
  repeat (first | exact HB4.out | refine Below.setCell ?_ (by simp <;> omega) _))
 have HX5 := HXs4_1
 obtain ⟨V5, hW⟩ : ∃ W', ((z4).setCell ⟨M, 1, none⟩ (.int .i64 al)).setCell ⟨M, 2, none⟩ (.int .i64 ah) = W' := ⟨_, rfl⟩
 rw [hW] at HB5 HX5  ⊢
 clear hW HB4 HX4 HXs4_0 m_1 m_f1 m_2 m_f2 m_l
 clear w3
 have r_ := HX5.out _ (.tail _ (.tail _ (.head _)))
 have r_0 := r_.cell 0
 have r_1 := r_.cell 1
 have r_2 := r_.cell 2
 have r_3 := r_.cell 3
 simp at r_0 r_1 r_2 r_3
 clear r_
 have HZA := Lib.hid (HX5.out _ (.head _)).lt
 go_wp2_with fail
 refine (CSV.out _ HB5.out).mono ?_
 rintro e z6 ⟨Av, rfl, ho, hq⟩
 have HB6 := Lib.hid (below_then HB5.out hq); have HX6 := Lib.hid (HX5.out.on hq)
 clear hq HB5 HX5 r_0 r_1 r_2 r_3
 obtain ⟨Ap, An, Ac, rfl⟩ := ho.slice
 have HTA : Hid (OwnPts (M + 1) z6 (.slice Ap An Ac) LV) := Lib.hid (OwnPts.monoY ho HZA.out)
 clear ho HZA CSV
 have m_ := HX6.out _ (.head _)
 have m_3 := m_.cell 3
 have m_f3 := m_.frozen 3
 have m_l := m_.lt
 simp at m_3 m_f3
 clear m_
 go_upto_region 5 with fail
 have HXs6_0 : Hid (Boxes ((z6).setCell ⟨M, 3, none⟩ (.slice Ap An Ac)) [(M, 38, #[.int .i64 idd, .int .i64 al, .int .i64 ah, .slice Ap An Ac, .slice none 0 0, .slice none 0 0]), (G + 1, 38, #[.int .i64 0, .int .i64 0, .int .i64 0, .slice none 0 0, .slice none 0 0, .slice none 0 0]), (G, 24, #[.int .i64 id, .int .i64 fi, .slice S sn sc, .slice V vn vc])]) := Lib.hid (HX6.out.set1 HFAR.out 3 (.slice Ap An Ac) _ rfl)
 have HB7 : Hid (Below w.heap.size w ((z6).setCell ⟨M, 3, none⟩ (.slice Ap An Ac))) := Lib.hid (by
  have hm := HMG.out
  repeat (first | exact HB6.out | refine Below.setCell ?_ (by simp <;> omega) _))
 have HX7 := HXs6_0
 have HTA : Hid (OwnPts (M + 1) ((z6).setCell ⟨M, 3, none⟩ (.slice Ap An Ac)) (.slice Ap An Ac) LV) := Lib.hid ((HTA.out).keptAt (Nat.lt_succ_self M))
 obtain ⟨V7, hW⟩ : ∃ W', (z6).setCell ⟨M, 3, none⟩ (.slice Ap An Ac) = W' := ⟨_, rfl⟩
 rw [hW] at HB7 HX7 HTA ⊢
 clear hW HB6 HX6  m_3 m_f3 m_l
 have r_ := HX7.out _ (.tail _ (.tail _ (.head _)))
 have r_0 := r_.cell 0
 have r_1 := r_.cell 1
 have r_2 := r_.cell 2
 have r_3 := r_.cell 3
 simp at r_0 r_1 r_2 r_3
 clear r_
 go_wp2_with fail
 refine (CP9.out _ HB7.out).mono ?_
 rintro e z8 ⟨rfl, hq⟩
 have HB8 := Lib.hid (below_then HB7.out hq); have HX8 := Lib.hid (HX7.out.on hq)
 have HTA := Lib.hid (OwnPts.below HTA.out hq)
 clear hq HB7 HX7 r_0 r_1 r_2 r_3
 clear CP9
 go_wp2_with fail
 refine (CM9.out _).mono ?_
 rintro e z9 ⟨rfl, hq⟩
 have HB9 := Lib.hid (below_then HB8.out hq); have HX9 := Lib.hid (HX8.out.on hq)
 have HTA := Lib.hid (OwnPts.below HTA.out hq)
 clear hq HB8 HX8 
 clear CM9
 obtain ⟨gv, cv, hsl, hg1, hg2, hg3⟩ := own_pts_mem HTA.out HLV.out (by have := HX8.out; omega)
 injection hsl with e1 e2 e3
 subst e1 e2 e3
 clear hg3
 by_cases g9 : d9 = 0
 ·skip
  have k1 : (0 : Int) < (An : Int) := by have := HX8.out; omega
  have b1 : (d9 == 0) = true := by simp [g9]
  have m_ := HX9.out _ (.head _)
  have m_3 := m_.cell 3
  simp at m_3
  clear m_
  obtain ⟨⟨q1, hq1⟩, ⟨q2, hq2⟩, hz1, hz2⟩ := own_cells HTA.out HLV.out (by have := HX8.out; omega)
  have hgl := hg2
  have HGV : Hid (M + 1 ≤ gv) := Lib.hid hg1
  go_upto_region 8 with fail
  have HXn : Hid (Boxes ((z9.setCell ⟨gv, 1, none⟩ (.int .i64 0)).setCell ⟨gv, 2, none⟩ (.int .i64 0)) [(M, 38, #[.int .i64 idd, .int .i64 al, .int .i64 ah, .slice (some ⟨gv, 0, none⟩) An Ac, .slice none 0 0, .slice none 0 0]), (G + 1, 38, #[.int .i64 0, .int .i64 0, .int .i64 0, .slice none 0 0, .slice none 0 0, .slice none 0 0]), (G, 24, #[.int .i64 id, .int .i64 fi, .slice S sn sc, .slice V vn vc])]) := Lib.hid (HX9.out.farRowless2 (fun p hp => by
   have hm := HMG.out; have hv := HGV.out
   simp only [List.mem_cons, List.not_mem_nil, or_false] at hp
   rcases hp with h | h | h <;> (rw [h]; dsimp only; omega)) 1 2 _ _)
  have HBn : Hid (Below w.heap.size w ((z9.setCell ⟨gv, 1, none⟩ (.int .i64 0)).setCell ⟨gv, 2, none⟩ (.int .i64 0))) := Lib.hid (by
   have hm := HMG.out; have hv := HGV.out
   repeat (first | exact HB9.out | refine Below.setCell ?_ (by simp <;> omega) _))
  have HTA := Lib.hid (own_zero HTA.out HLV.out (by have := HX8.out; omega))
  obtain ⟨Vn, hW⟩ : ∃ W', (z9.setCell ⟨gv, 1, none⟩ (.int .i64 0)).setCell ⟨gv, 2, none⟩ (.int .i64 0) = W' := ⟨_, rfl⟩
  rw [hW] at HXn HBn HTA ⊢
  clear hW HX9 HB9 m_3 hq1 hq2 hz1 hz2 hgl hg1 hg2 k1 b1
  have hla : zeroFirst LV = LA := by rw [← HLA.out, if_pos g9]
  rw [hla] at HTA
  have HLAA : Hid (LA.length ≤ 40) := Lib.hid (by rw [← hla, zeroFirst_len, HLV.out]; have := HX8.out; omega)
  clear hla g9
  have r_ := HXn.out _ (.tail _ (.tail _ (.head _)))
  have r_0 := r_.cell 0
  have r_1 := r_.cell 1
  have r_2 := r_.cell 2
  have r_3 := r_.cell 3
  simp at r_0 r_1 r_2 r_3
  clear r_
  have HZB := Lib.hid (HXn.out _ (.head _)).lt
  go_wp2_with fail
  refine (CFM.out _ HBn.out).mono ?_
  rintro e z10 ⟨Bv, rfl, ho, hq⟩
  have HB10 := Lib.hid (below_then HBn.out hq); have HX10 := Lib.hid (HXn.out.on hq)
  have HTA := Lib.hid (OwnPts.below HTA.out hq)
  clear hq HBn HXn r_0 r_1 r_2 r_3
  obtain ⟨Bp, Bn, Bc, rfl⟩ := ho.slice
  have HTB : Hid (OwnPts (M + 1) z10 (.slice Bp Bn Bc) LM) := Lib.hid (OwnPts.monoY ho HZB.out)
  clear ho HZB CFM
  have m_ := HX10.out _ (.head _)
  have m_4 := m_.cell 4
  have m_f4 := m_.frozen 4
  have m_l := m_.lt
  simp at m_4 m_f4
  clear m_
  go_upto_region 9 with fail
  have HXs10_0 : Hid (Boxes ((z10).setCell ⟨M, 4, none⟩ (.slice Bp Bn Bc)) [(M, 38, #[.int .i64 idd, .int .i64 al, .int .i64 ah, .slice (some ⟨gv, 0, none⟩) An Ac, .slice Bp Bn Bc, .slice none 0 0]), (G + 1, 38, #[.int .i64 0, .int .i64 0, .int .i64 0, .slice none 0 0, .slice none 0 0, .slice none 0 0]), (G, 24, #[.int .i64 id, .int .i64 fi, .slice S sn sc, .slice V vn vc])]) := Lib.hid (HX10.out.set1 HFAR.out 4 (.slice Bp Bn Bc) _ rfl)
  have HB11 : Hid (Below w.heap.size w ((z10).setCell ⟨M, 4, none⟩ (.slice Bp Bn Bc))) := Lib.hid (by
   have hm := HMG.out
   repeat (first | exact HB10.out | refine Below.setCell ?_ (by simp <;> omega) _))
  have HX11 := HXs10_0
  have HTA : Hid (OwnPts (M + 1) ((z10).setCell ⟨M, 4, none⟩ (.slice Bp Bn Bc)) (.slice (some ⟨gv, 0, none⟩) An Ac) LA) := Lib.hid ((HTA.out).keptAt (Nat.lt_succ_self M))
  have HTB : Hid (OwnPts (M + 1) ((z10).setCell ⟨M, 4, none⟩ (.slice Bp Bn Bc)) (.slice Bp Bn Bc) LM) := Lib.hid ((HTB.out).keptAt (Nat.lt_succ_self M))
  obtain ⟨V11, hW⟩ : ∃ W', (z10).setCell ⟨M, 4, none⟩ (.slice Bp Bn Bc) = W' := ⟨_, rfl⟩
  rw [hW] at HB11 HX11 HTA HTB ⊢
  clear hW HB10 HX10  m_4 m_f4 m_l
  have r_ := HX11.out _ (.tail _ (.tail _ (.head _)))
  have r_0 := r_.cell 0
  have r_1 := r_.cell 1
  have r_2 := r_.cell 2
  have r_3 := r_.cell 3
  simp at r_0 r_1 r_2 r_3
  clear r_
  have HZC := Lib.hid (HX11.out _ (.head _)).lt
  go_wp2_with fail
  refine (CSH.out _ HB11.out).mono ?_
  rintro e z12 ⟨Cv, rfl, ho, hq⟩
  have HB12 := Lib.hid (below_then HB11.out hq); have HX12 := Lib.hid (HX11.out.on hq)
  have HTA := Lib.hid (OwnPts.below HTA.out hq)
  have HTB := Lib.hid (OwnPts.below HTB.out hq)
  clear hq HB11 HX11 r_0 r_1 r_2 r_3
  obtain ⟨Cp, Cn, Cc, rfl⟩ := ho.slice
  have HTC : Hid (OwnPts (M + 1) z12 (.slice Cp Cn Cc) LH) := Lib.hid (OwnPts.monoY ho HZC.out)
  clear ho HZC CSH
  have m_ := HX12.out _ (.head _)
  have m_5 := m_.cell 5
  have m_f5 := m_.frozen 5
  have m_l := m_.lt
  simp at m_5 m_f5
  clear m_
  go_upto_region 10 with fail
  have HXs12_0 : Hid (Boxes ((z12).setCell ⟨M, 5, none⟩ (.slice Cp Cn Cc)) [(M, 38, #[.int .i64 idd, .int .i64 al, .int .i64 ah, .slice (some ⟨gv, 0, none⟩) An Ac, .slice Bp Bn Bc, .slice Cp Cn Cc]), (G + 1, 38, #[.int .i64 0, .int .i64 0, .int .i64 0, .slice none 0 0, .slice none 0 0, .slice none 0 0]), (G, 24, #[.int .i64 id, .int .i64 fi, .slice S sn sc, .slice V vn vc])]) := Lib.hid (HX12.out.set1 HFAR.out 5 (.slice Cp Cn Cc) _ rfl)
  have HB13 : Hid (Below w.heap.size w ((z12).setCell ⟨M, 5, none⟩ (.slice Cp Cn Cc))) := Lib.hid (by
   have hm := HMG.out
   repeat (first | exact HB12.out | refine Below.setCell ?_ (by simp <;> omega) _))
  have HX13 := HXs12_0
  have HTA : Hid (OwnPts (M + 1) ((z12).setCell ⟨M, 5, none⟩ (.slice Cp Cn Cc)) (.slice (some ⟨gv, 0, none⟩) An Ac) LA) := Lib.hid ((HTA.out).keptAt (Nat.lt_succ_self M))
  have HTB : Hid (OwnPts (M + 1) ((z12).setCell ⟨M, 5, none⟩ (.slice Cp Cn Cc)) (.slice Bp Bn Bc) LM) := Lib.hid ((HTB.out).keptAt (Nat.lt_succ_self M))
  have HTC : Hid (OwnPts (M + 1) ((z12).setCell ⟨M, 5, none⟩ (.slice Cp Cn Cc)) (.slice Cp Cn Cc) LH) := Lib.hid ((HTC.out).keptAt (Nat.lt_succ_self M))
  obtain ⟨V13, hW⟩ : ∃ W', (z12).setCell ⟨M, 5, none⟩ (.slice Cp Cn Cc) = W' := ⟨_, rfl⟩
  rw [hW] at HB13 HX13 HTA HTB HTC ⊢
  clear hW HB12 HX12  m_5 m_f5 m_l
  have m_ := HX13.out _ (.head _)
  have m_0 := m_.cell 0
  have m_1 := m_.cell 1
  have m_2 := m_.cell 2
  have m_3 := m_.cell 3
  have m_4 := m_.cell 4
  have m_5 := m_.cell 5
  simp at m_0 m_1 m_2 m_3 m_4 m_5
  clear m_
  refine wp_region_lit ?_
  refine wpList_plain rfl (fun K hK => ?_)
  go_simp
  refine hK _ _ ?_
  clear hK K
  have HKR : Hid (Blk (V13.setRow (G + 1) #[.int .i64 idd, .int .i64 al, .int .i64 ah, .slice (some ⟨gv, 0, none⟩) An Ac, .slice Bp Bn Bc, .slice Cp Cn Cc]) (G + 1) 38 #[.int .i64 idd, .int .i64 al, .int .i64 ah, .slice (some ⟨gv, 0, none⟩) An Ac, .slice Bp Bn Bc, .slice Cp Cn Cc]) := Lib.hid (setRow_heap V13 (G + 1) _ _ 38 _ (HX13.out _ (.tail _ (.head _))))
  have HE9 := Lib.hid (below_setRow HB13.out (show w.heap.size ≤ G + 1 by have := HMG.out; omega) #[.int .i64 idd, .int .i64 al, .int .i64 ah, .slice (some ⟨gv, 0, none⟩) An Ac, .slice Bp Bn Bc, .slice Cp Cn Cc])
  have HTA := Lib.hid (OwnPts.keptRow (cs := #[.int .i64 idd, .int .i64 al, .int .i64 ah, .slice (some ⟨gv, 0, none⟩) An Ac, .slice Bp Bn Bc, .slice Cp Cn Cc]) HTA.out (show G + 1 < M + 1 by have := HMG.out; omega))
  have HTB := Lib.hid (OwnPts.keptRow (cs := #[.int .i64 idd, .int .i64 al, .int .i64 ah, .slice (some ⟨gv, 0, none⟩) An Ac, .slice Bp Bn Bc, .slice Cp Cn Cc]) HTB.out (show G + 1 < M + 1 by have := HMG.out; omega))
  have HTC := Lib.hid (OwnPts.keptRow (cs := #[.int .i64 idd, .int .i64 al, .int .i64 ah, .slice (some ⟨gv, 0, none⟩) An Ac, .slice Bp Bn Bc, .slice Cp Cn Cc]) HTC.out (show G + 1 < M + 1 by have := HMG.out; omega))
  refine wpList_store_row rfl 38 (.tmp 2) (.tmp 48) rfl (G + 1) #[.int .i64 idd, .int .i64 al, .int .i64 ah, .slice (some ⟨gv, 0, none⟩) An Ac, .slice Bp Bn Bc, .slice Cp Cn Cc] rfl rfl 38 _ (HX13.out _ (.tail _ (.head _))) (by kernel_rfl) rfl (by kernel_rfl) ?_
  obtain ⟨W9, hW9⟩ : ∃ W9, V13.setRow (G + 1) #[.int .i64 idd, .int .i64 al, .int .i64 ah, .slice (some ⟨gv, 0, none⟩) An Ac, .slice Bp Bn Bc, .slice Cp Cn Cc] = W9 := ⟨_, rfl⟩
  rw [hW9] at HKR HE9 HTA HTB HTC ⊢
  clear hW9
  go_wp2
  exact bodyPost_ret (v := .agg #[.int .i64 idd, .int .i64 al, .int .i64 ah, .slice (some ⟨gv, 0, none⟩) An Ac, .slice Bp Bn Bc, .slice Cp Cn Cc]) (results_cell_row Tryz.results14 _ _ (G + 1) 38 #[.int .i64 idd, .int .i64 al, .int .i64 ah, .slice (some ⟨gv, 0, none⟩) An Ac, .slice Bp Bn Bc, .slice Cp Cn Cc] (0, 0) _ rfl HKR.out Tryz.underlying38 rfl (by kernel_rfl)) rfl ⟨⟨⟨_, _, _, _, _, _, _, _, _⟩, rfl, own_tab HTA.out HLAA.out, own_tab HTB.out HLM.out, own_tab HTC.out HLH.out⟩, HE9.out⟩
 have b1 : (d9 == 0) = false := beq_eq_false_iff_ne.2 g9
 go_upto_region 8 with fail
 have hla : LV = LA := by rw [← HLA.out, if_neg g9]
 rw [hla] at HTA
 have HLAA : Hid (LA.length ≤ 40) := Lib.hid (by rw [← hla, HLV.out]; have := HX8.out; omega)
 clear hla g9 b1 hg1 hg2
 have r_ := HX9.out _ (.tail _ (.tail _ (.head _)))
 have r_0 := r_.cell 0
 have r_1 := r_.cell 1
 have r_2 := r_.cell 2
 have r_3 := r_.cell 3
 simp at r_0 r_1 r_2 r_3
 clear r_
 have HZB := Lib.hid (HX9.out _ (.head _)).lt
 go_wp2_with fail
 refine (CFM.out _ HB9.out).mono ?_
 rintro e z10 ⟨Bv, rfl, ho, hq⟩
 have HB10 := Lib.hid (below_then HB9.out hq); have HX10 := Lib.hid (HX9.out.on hq)
 have HTA := Lib.hid (OwnPts.below HTA.out hq)
 clear hq HB9 HX9 r_0 r_1 r_2 r_3
 obtain ⟨Bp, Bn, Bc, rfl⟩ := ho.slice
 have HTB : Hid (OwnPts (M + 1) z10 (.slice Bp Bn Bc) LM) := Lib.hid (OwnPts.monoY ho HZB.out)
 clear ho HZB CFM
 have m_ := HX10.out _ (.head _)
 have m_4 := m_.cell 4
 have m_f4 := m_.frozen 4
 have m_l := m_.lt
 simp at m_4 m_f4
 clear m_
 go_upto_region 9 with fail
 have HXs10_0 : Hid (Boxes ((z10).setCell ⟨M, 4, none⟩ (.slice Bp Bn Bc)) [(M, 38, #[.int .i64 idd, .int .i64 al, .int .i64 ah, .slice (some ⟨gv, 0, none⟩) An Ac, .slice Bp Bn Bc, .slice none 0 0]), (G + 1, 38, #[.int .i64 0, .int .i64 0, .int .i64 0, .slice none 0 0, .slice none 0 0, .slice none 0 0]), (G, 24, #[.int .i64 id, .int .i64 fi, .slice S sn sc, .slice V vn vc])]) := Lib.hid (HX10.out.set1 HFAR.out 4 (.slice Bp Bn Bc) _ rfl)
 have HB11 : Hid (Below w.heap.size w ((z10).setCell ⟨M, 4, none⟩ (.slice Bp Bn Bc))) := Lib.hid (by
  have hm := HMG.out
  repeat (first | exact HB10.out | refine Below.setCell ?_ (by simp <;> omega) _))
 have HX11 := HXs10_0
 have HTA : Hid (OwnPts (M + 1) ((z10).setCell ⟨M, 4, none⟩ (.slice Bp Bn Bc)) (.slice (some ⟨gv, 0, none⟩) An Ac) LA) := Lib.hid ((HTA.out).keptAt (Nat.lt_succ_self M))
 have HTB : Hid (OwnPts (M + 1) ((z10).setCell ⟨M, 4, none⟩ (.slice Bp Bn Bc)) (.slice Bp Bn Bc) LM) := Lib.hid ((HTB.out).keptAt (Nat.lt_succ_self M))
 obtain ⟨V11, hW⟩ : ∃ W', (z10).setCell ⟨M, 4, none⟩ (.slice Bp Bn Bc) = W' := ⟨_, rfl⟩
 rw [hW] at HB11 HX11 HTA HTB ⊢
 clear hW HB10 HX10  m_4 m_f4 m_l
 have r_ := HX11.out _ (.tail _ (.tail _ (.head _)))
 have r_0 := r_.cell 0
 have r_1 := r_.cell 1
 have r_2 := r_.cell 2
 have r_3 := r_.cell 3
 simp at r_0 r_1 r_2 r_3
 clear r_
 have HZC := Lib.hid (HX11.out _ (.head _)).lt
 go_wp2_with fail
 refine (CSH.out _ HB11.out).mono ?_
 rintro e z12 ⟨Cv, rfl, ho, hq⟩
 have HB12 := Lib.hid (below_then HB11.out hq); have HX12 := Lib.hid (HX11.out.on hq)
 have HTA := Lib.hid (OwnPts.below HTA.out hq)
 have HTB := Lib.hid (OwnPts.below HTB.out hq)
 clear hq HB11 HX11 r_0 r_1 r_2 r_3
 obtain ⟨Cp, Cn, Cc, rfl⟩ := ho.slice
 have HTC : Hid (OwnPts (M + 1) z12 (.slice Cp Cn Cc) LH) := Lib.hid (OwnPts.monoY ho HZC.out)
 clear ho HZC CSH
 have m_ := HX12.out _ (.head _)
 have m_5 := m_.cell 5
 have m_f5 := m_.frozen 5
 have m_l := m_.lt
 simp at m_5 m_f5
 clear m_
 go_upto_region 10 with fail
 have HXs12_0 : Hid (Boxes ((z12).setCell ⟨M, 5, none⟩ (.slice Cp Cn Cc)) [(M, 38, #[.int .i64 idd, .int .i64 al, .int .i64 ah, .slice (some ⟨gv, 0, none⟩) An Ac, .slice Bp Bn Bc, .slice Cp Cn Cc]), (G + 1, 38, #[.int .i64 0, .int .i64 0, .int .i64 0, .slice none 0 0, .slice none 0 0, .slice none 0 0]), (G, 24, #[.int .i64 id, .int .i64 fi, .slice S sn sc, .slice V vn vc])]) := Lib.hid (HX12.out.set1 HFAR.out 5 (.slice Cp Cn Cc) _ rfl)
 have HB13 : Hid (Below w.heap.size w ((z12).setCell ⟨M, 5, none⟩ (.slice Cp Cn Cc))) := Lib.hid (by
  have hm := HMG.out
  repeat (first | exact HB12.out | refine Below.setCell ?_ (by simp <;> omega) _))
 have HX13 := HXs12_0
 have HTA : Hid (OwnPts (M + 1) ((z12).setCell ⟨M, 5, none⟩ (.slice Cp Cn Cc)) (.slice (some ⟨gv, 0, none⟩) An Ac) LA) := Lib.hid ((HTA.out).keptAt (Nat.lt_succ_self M))
 have HTB : Hid (OwnPts (M + 1) ((z12).setCell ⟨M, 5, none⟩ (.slice Cp Cn Cc)) (.slice Bp Bn Bc) LM) := Lib.hid ((HTB.out).keptAt (Nat.lt_succ_self M))
 have HTC : Hid (OwnPts (M + 1) ((z12).setCell ⟨M, 5, none⟩ (.slice Cp Cn Cc)) (.slice Cp Cn Cc) LH) := Lib.hid ((HTC.out).keptAt (Nat.lt_succ_self M))
 obtain ⟨V13, hW⟩ : ∃ W', (z12).setCell ⟨M, 5, none⟩ (.slice Cp Cn Cc) = W' := ⟨_, rfl⟩
 rw [hW] at HB13 HX13 HTA HTB HTC ⊢
 clear hW HB12 HX12  m_5 m_f5 m_l
 have m_ := HX13.out _ (.head _)
 have m_0 := m_.cell 0
 have m_1 := m_.cell 1
 have m_2 := m_.cell 2
 have m_3 := m_.cell 3
 have m_4 := m_.cell 4
 have m_5 := m_.cell 5
 simp at m_0 m_1 m_2 m_3 m_4 m_5
 clear m_
 refine wp_region_lit ?_
 refine wpList_plain rfl (fun K hK => ?_)
 go_simp
 refine hK _ _ ?_
 clear hK K
 have HKR : Hid (Blk (V13.setRow (G + 1) #[.int .i64 idd, .int .i64 al, .int .i64 ah, .slice (some ⟨gv, 0, none⟩) An Ac, .slice Bp Bn Bc, .slice Cp Cn Cc]) (G + 1) 38 #[.int .i64 idd, .int .i64 al, .int .i64 ah, .slice (some ⟨gv, 0, none⟩) An Ac, .slice Bp Bn Bc, .slice Cp Cn Cc]) := Lib.hid (setRow_heap V13 (G + 1) _ _ 38 _ (HX13.out _ (.tail _ (.head _))))
 have HE9 := Lib.hid (below_setRow HB13.out (show w.heap.size ≤ G + 1 by have := HMG.out; omega) #[.int .i64 idd, .int .i64 al, .int .i64 ah, .slice (some ⟨gv, 0, none⟩) An Ac, .slice Bp Bn Bc, .slice Cp Cn Cc])
 have HTA := Lib.hid (OwnPts.keptRow (cs := #[.int .i64 idd, .int .i64 al, .int .i64 ah, .slice (some ⟨gv, 0, none⟩) An Ac, .slice Bp Bn Bc, .slice Cp Cn Cc]) HTA.out (show G + 1 < M + 1 by have := HMG.out; omega))
 have HTB := Lib.hid (OwnPts.keptRow (cs := #[.int .i64 idd, .int .i64 al, .int .i64 ah, .slice (some ⟨gv, 0, none⟩) An Ac, .slice Bp Bn Bc, .slice Cp Cn Cc]) HTB.out (show G + 1 < M + 1 by have := HMG.out; omega))
 have HTC := Lib.hid (OwnPts.keptRow (cs := #[.int .i64 idd, .int .i64 al, .int .i64 ah, .slice (some ⟨gv, 0, none⟩) An Ac, .slice Bp Bn Bc, .slice Cp Cn Cc]) HTC.out (show G + 1 < M + 1 by have := HMG.out; omega))
 refine wpList_store_row rfl 38 (.tmp 2) (.tmp 48) rfl (G + 1) #[.int .i64 idd, .int .i64 al, .int .i64 ah, .slice (some ⟨gv, 0, none⟩) An Ac, .slice Bp Bn Bc, .slice Cp Cn Cc] rfl rfl 38 _ (HX13.out _ (.tail _ (.head _))) (by kernel_rfl) rfl (by kernel_rfl) ?_
 obtain ⟨W9, hW9⟩ : ∃ W9, V13.setRow (G + 1) #[.int .i64 idd, .int .i64 al, .int .i64 ah, .slice (some ⟨gv, 0, none⟩) An Ac, .slice Bp Bn Bc, .slice Cp Cn Cc] = W9 := ⟨_, rfl⟩
 rw [hW9] at HKR HE9 HTA HTB HTC ⊢
 clear hW9
 go_wp2
 exact bodyPost_ret (v := .agg #[.int .i64 idd, .int .i64 al, .int .i64 ah, .slice (some ⟨gv, 0, none⟩) An Ac, .slice Bp Bn Bc, .slice Cp Cn Cc]) (results_cell_row Tryz.results14 _ _ (G + 1) 38 #[.int .i64 idd, .int .i64 al, .int .i64 ah, .slice (some ⟨gv, 0, none⟩) An Ac, .slice Bp Bn Bc, .slice Cp Cn Cc] (0, 0) _ rfl HKR.out Tryz.underlying38 rfl (by kernel_rfl)) rfl ⟨⟨⟨_, _, _, _, _, _, _, _, _⟩, rfl, own_tab HTA.out HLAA.out, own_tab HTB.out HLM.out, own_tab HTC.out HLH.out⟩, HE9.out⟩
end

section
open Go.RowKit

def madeL (t : TankD) (x0 x1 x2 x3 x4 : Int) : LevelD :=
  if (x0 % 5 == 4) = true then ⟨t.id, true, lastX t.vol, lastX t.vol, (densityS x3 x4).1, (densityS x3 x4).2⟩
  else ⟨t.id, false, (spanS (firstX t.vol) (lastX t.vol) x1 x2).1, (spanS (firstX t.vol) (lastX t.vol) x1 x2).2, (densityS x3 x4).1, (densityS x3 x4).2⟩

set_option maxRecDepth 100000 in
set_option maxHeartbeats 4000000 in
theorem slevel_to (t : TankD) (m : HoldM) (x0 x1 x2 x3 x4 : Int) (w : World) (hi : TankIn w t m) (ht : tabOk t.vol = true) (hle : firstX t.vol ≤ lastX t.vol) (hlo : 0 ≤ firstX t.vol) (hhi : lastX t.vol ≤ 1000000) :
  Calls Tryz.prog 39 #[tankV t m, .agg #[.int .i64 x0, .int .i64 x1, .int .i64 x2, .int .i64 x3, .int .i64 x4]] w fun e w' => e = .returned (levelV (madeL t x0 x1 x2 x3 x4)) ∧ Below w.heap.size w w' := by
 have CSP : Hid (∀ W, Below w.heap.size w W → Calls Tryz.prog 73 #[tv m.A m.n m.c, .int .i64 x1, .int .i64 x2] W fun e w' => e = .returned (rv (spanS (firstX t.vol) (lastX t.vol) x1 x2).1 (spanS (firstX t.vol) (lastX t.vol) x1 x2).2) ∧ Below W.heap.size W w') := Lib.hid fun W hW => sspan_to m.A m.n m.c t.vol x1 x2 W (hi.1.below hW) ht hle (by omega) (by omega)
 have CDE : Hid (∀ W, Calls Tryz.prog 18 #[.int .i64 x3, .int .i64 x4] W fun e w' => e = .returned (rv (densityS x3 x4).1 (densityS x3 x4).2) ∧ Below W.heap.size W w') := Lib.hid fun W => sDensityN_to x3 x4 W
 have CLA : Hid (∀ W, Below w.heap.size w W → Calls Tryz.prog 16 #[tv m.A m.n m.c] W fun e w' => e = .returned (.int .i64 (lastX t.vol)) ∧ Below W.heap.size W w') := Lib.hid fun W hW => sLast_tab m.A m.n m.c t.vol W (hi.1.below hW) ht
 clear hi ht hle hlo hhi
 obtain ⟨⟨p0, p1⟩, hsp⟩ : ∃ y, spanS (firstX t.vol) (lastX t.vol) x1 x2 = y := ⟨_, rfl⟩
 obtain ⟨⟨d0, d1⟩, hde⟩ : ∃ y, densityS x3 x4 = y := ⟨_, rfl⟩
 obtain ⟨z1, hz1⟩ : ∃ y, lastX t.vol = y := ⟨_, rfl⟩
 obtain ⟨q0, hq0⟩ : ∃ z, x0 % 5 = z := ⟨_, rfl⟩
 obtain ⟨pb, hpb⟩ : ∃ z, (q0 == 4) = z := ⟨_, rfl⟩
 have hR : madeL t x0 x1 x2 x3 x4 = if pb = true then ⟨t.id, true, z1, z1, d0, d1⟩ else ⟨t.id, false, p0, p1, d0, d1⟩ := by
  unfold madeL
  rw [hq0, hpb, hsp, hz1, hde]
 obtain ⟨RR, hRR⟩ : ∃ R, madeL t x0 x1 x2 x3 x4 = R := ⟨_, rfl⟩
 rw [hRR] at hR ⊢
 rw [hsp] at CSP
 rw [hde] at CDE
 rw [hz1] at CLA
 clear hRR hsp hde hz1
 obtain ⟨id, al, ah, vol, sur, hei⟩ := t
 obtain ⟨A, n, c, B, mm, d, C, l, ee⟩ := m
 dsimp only at CSP CDE CLA hR ⊢
 have CM0 : Hid (∀ W, Calls Tryz.prog 23 #[.int .i64 x0, .int .i64 5] W fun e w' => e = .returned (.int .i64 q0) ∧ Below W.heap.size W w') := Lib.hid fun W => int_to (smod_to x0 5 W (by omega) (by omega)) hq0
 have HR := Lib.hid hR; have HPB := Lib.hid hpb
 clear hq0 hR hpb
 have HE := Lib.hid (show Below w.heap.size w (((w.alloc (.cells #[.int .i64 id, .int .i64 al, .int .i64 ah, .slice A n c, .slice B mm d, .slice C l ee] 38)).alloc (.cells #[.int .i64 x0, .int .i64 x1, .int .i64 x2, .int .i64 x3, .int .i64 x4] 53)).alloc (.cells #[.int .i64 0, .bool false, .int .i64 0, .int .i64 0, .int .i64 0, .int .i64 0] 86)) from below_a3 (Below.refl _ _))
 have HK := Lib.hid (boxes3' w 38 53 86 #[.int .i64 id, .int .i64 al, .int .i64 ah, .slice A n c, .slice B mm d, .slice C l ee] #[.int .i64 x0, .int .i64 x1, .int .i64 x2, .int .i64 x3, .int .i64 x4] #[.int .i64 0, .bool false, .int .i64 0, .int .i64 0, .int .i64 0, .int .i64 0])
 go_enter Tryz.func39, Tryz.ntmps39
 go_upto_region 1 with fail
 obtain ⟨W0, hW0⟩ : ∃ W0 : World, (((w.alloc (.cells #[.int .i64 id, .int .i64 al, .int .i64 ah, .slice A n c, .slice B mm d, .slice C l ee] 38)).alloc (.cells #[.int .i64 x0, .int .i64 x1, .int .i64 x2, .int .i64 x3, .int .i64 x4] 53)).alloc (.cells #[.int .i64 0, .bool false, .int .i64 0, .int .i64 0, .int .i64 0, .int .i64 0] 86)) = W0 := ⟨_, rfl⟩
 rw [hW0] at HE HK ⊢
 clear hW0
 obtain ⟨G, hG⟩ : ∃ G, w.heap.size = G := ⟨_, rfl⟩
 rw [hG] at HK ⊢
 have HG := Lib.hid hG; clear hG
 have HX_0 := HK
 go_cut [5] (fun s5 wx => ∃ N, s5 = .pointer (some ⟨N, 0, none⟩) ∧ Boxes wx ((N, 86, #[.int .i64 id, .bool pb, .int .i64 p0, .int .i64 p1, .int .i64 d0, .int .i64 d1]) :: [(G + 1 + 1, 86, #[.int .i64 0, .bool false, .int .i64 0, .int .i64 0, .int .i64 0, .int .i64 0]), (G + 1, 53, #[.int .i64 x0, .int .i64 x1, .int .i64 x2, .int .i64 x3, .int .i64 x4]), (G, 38, #[.int .i64 id, .int .i64 al, .int .i64 ah, .slice A n c, .slice B mm d, .slice C l ee])]) ∧ Below w.heap.size w wx ∧ G + 1 + 1 < N)
 case first =>
  obtain ⟨LB, hLB⟩ : ∃ x, ([(G + 1 + 1, 86, #[.int .i64 0, .bool false, .int .i64 0, .int .i64 0, .int .i64 0, .int .i64 0]), (G + 1, 53, #[.int .i64 x0, .int .i64 x1, .int .i64 x2, .int .i64 x3, .int .i64 x4]), (G, 38, #[.int .i64 id, .int .i64 al, .int .i64 ah, .slice A n c, .slice B mm d, .slice C l ee])] : List (Nat × TypeId × Array Value)) = x := ⟨_, rfl⟩
  have hl0 : (G, 38, #[.int .i64 id, .int .i64 al, .int .i64 ah, .slice A n c, .slice B mm d, .slice C l ee]) ∈ LB ∧ (G + 1, 53, #[.int .i64 x0, .int .i64 x1, .int .i64 x2, .int .i64 x3, .int .i64 x4]) ∈ LB ∧ (G + 1 + 1, 86, #[.int .i64 0, .bool false, .int .i64 0, .int .i64 0, .int .i64 0, .int .i64 0]) ∈ LB := by rw [← hLB]; simp
  have HL0 := Lib.hid hl0
  have hS0 : BB2 w LB W0.drew := ⟨by rw [← hLB]; exact HK.out, HE.out.drew⟩
  have HLB := Lib.hid hLB
  clear hLB hl0
  refine wp_region_held_drew (S := BB2 w LB) (by kernel_rfl) hS0 (fun hHeld => ?_)
  obtain ⟨yq, hW⟩ : ∃ W', W0.drew = W' := ⟨_, rfl⟩
  rw [hW] at hHeld ⊢
  clear hW hS0 HE HK HX_0 CLA
  refine tK 6 (i := 0) (v := .pointer (some ⟨G, 0, none⟩)) rfl rfl (by kernel_rfl) ?_ hHeld ?_
  ·intro w hSw; clear hSw; go_simp; try with_reducible rfl
  simp only [uZ, uS]
  refine tK 7 (i := 1) (v := .int .i64 id) rfl rfl (by kernel_rfl) ?_ hHeld ?_
  ·intro w hSw; have cx := (hSw.1 _ HL0.out.1).cell 0; simp at cx; clear hSw; go_simp; try with_reducible rfl
  simp only [uZ, uS]
  refine tK 8 (i := 2) (v := .pointer (some ⟨G + 1, 0, none⟩)) rfl rfl (by kernel_rfl) ?_ hHeld ?_
  ·intro w hSw; clear hSw; go_simp; try with_reducible rfl
  simp only [uZ, uS]
  refine tK 9 (i := 3) (v := .int .i64 x0) rfl rfl (by kernel_rfl) ?_ hHeld ?_
  ·intro w hSw; have cx := (hSw.1 _ HL0.out.2.1).cell 0; simp at cx; clear hSw; go_simp; try with_reducible rfl
  simp only [uZ, uS]
  refine tK 12 (i := 6) (v := .pointer (some ⟨G, 3, none⟩)) rfl rfl (by kernel_rfl) ?_ hHeld ?_
  ·intro w hSw; clear hSw; go_simp; try with_reducible rfl
  simp only [uZ, uS]
  refine tK 13 (i := 7) (v := tv A n c) rfl rfl (by kernel_rfl) ?_ hHeld ?_
  ·intro w hSw; have cx := (hSw.1 _ HL0.out.1).cell 3; simp at cx; clear hSw; go_simp; try with_reducible rfl
  simp only [uZ, uS]
  refine tK 14 (i := 8) (v := .pointer (some ⟨G + 1, 1, none⟩)) rfl rfl (by kernel_rfl) ?_ hHeld ?_
  ·intro w hSw; clear hSw; go_simp; try with_reducible rfl
  simp only [uZ, uS]
  refine tK 15 (i := 9) (v := .int .i64 x1) rfl rfl (by kernel_rfl) ?_ hHeld ?_
  ·intro w hSw; have cx := (hSw.1 _ HL0.out.2.1).cell 1; simp at cx; clear hSw; go_simp; try with_reducible rfl
  simp only [uZ, uS]
  refine tK 16 (i := 10) (v := .pointer (some ⟨G + 1, 2, none⟩)) rfl rfl (by kernel_rfl) ?_ hHeld ?_
  ·intro w hSw; clear hSw; go_simp; try with_reducible rfl
  simp only [uZ, uS]
  refine tK 17 (i := 11) (v := .int .i64 x2) rfl rfl (by kernel_rfl) ?_ hHeld ?_
  ·intro w hSw; have cx := (hSw.1 _ HL0.out.2.1).cell 2; simp at cx; clear hSw; go_simp; try with_reducible rfl
  simp only [uZ, uS]
  refine tK 19 (i := 13) (v := .pointer (some ⟨G + 1, 3, none⟩)) rfl rfl (by kernel_rfl) ?_ hHeld ?_
  ·intro w hSw; clear hSw; go_simp; try with_reducible rfl
  simp only [uZ, uS]
  refine tK 20 (i := 14) (v := .int .i64 x3) rfl rfl (by kernel_rfl) ?_ hHeld ?_
  ·intro w hSw; have cx := (hSw.1 _ HL0.out.2.1).cell 3; simp at cx; clear hSw; go_simp; try with_reducible rfl
  simp only [uZ, uS]
  refine tK 21 (i := 15) (v := .pointer (some ⟨G + 1, 4, none⟩)) rfl rfl (by kernel_rfl) ?_ hHeld ?_
  ·intro w hSw; clear hSw; go_simp; try with_reducible rfl
  simp only [uZ, uS]
  refine tK 22 (i := 16) (v := .int .i64 x4) rfl rfl (by kernel_rfl) ?_ hHeld ?_
  ·intro w hSw; have cx := (hSw.1 _ HL0.out.2.1).cell 4; simp at cx; clear hSw; go_simp; try with_reducible rfl
  simp only [uZ, uS]
  refine wpAnyH_ready (rs := [4, 19]) (by kernel_rfl) (by simp) ?_
  refine AllReadyH.cons rfl (fun K hK => ?_) (AllReadyH.cons rfl (fun K hK => ?_) AllReadyH.nil)
  ·skip
   go_simp
   (with_reducible refine (CM0.out _).mono ?_)
   rintro x y ⟨rfl, hq⟩
   refine hK.out _ _ ⟨hHeld.1.on hq, below_then hHeld.2 hq⟩ (fun hHeld2 => ?_)
   clear hq
   try simp only [Act.put, uA, uZ, uS]
   clear hK K hHeld
   have hHeld := hHeld2
   clear hHeld2
   refine tK 11 (i := 5) (v := .bool pb) rfl rfl (by kernel_rfl) ?_ hHeld ?_
   ·intro w hSw; clear hSw; go_simp; first | done | exact HPB.out
   simp only [uZ, uS]
   refine wpAnyH_ready (rs := [12, 19]) (by kernel_rfl) (by simp) ?_
   refine AllReadyH.cons rfl (fun K hK => ?_) (AllReadyH.cons rfl (fun K hK => ?_) AllReadyH.nil)
   ·skip
    go_simp
    (with_reducible refine (CSP.out _ hHeld.be2).mono ?_)
    rintro x y ⟨rfl, hq⟩
    refine hK.out _ _ ⟨hHeld.1.on hq, below_then hHeld.2 hq⟩ (fun hHeld2 => ?_)
    clear hq
    try simp only [Act.put, uA, uZ, uS]
    clear hK K hHeld
    have hHeld := hHeld2
    clear hHeld2
    refine wpAnyH_ready (rs := [17, 19]) (by kernel_rfl) (by simp) ?_
    refine AllReadyH.cons rfl (fun K hK => ?_) (AllReadyH.cons rfl (fun K hK => ?_) AllReadyH.nil)
    ·skip
     go_simp
     (with_reducible refine (CDE.out _).mono ?_)
     rintro x y ⟨rfl, hq⟩
     refine hK.out _ _ ⟨hHeld.1.on hq, below_then hHeld.2 hq⟩ (fun hHeld2 => ?_)
     clear hq
     try simp only [Act.put, uA, uZ, uS]
     clear hK K hHeld
     have hHeld := hHeld2
     clear hHeld2
     refine tK 24 (i := 18) (v := .agg #[.int .i64 id, .bool pb, .int .i64 p0, .int .i64 p1, .int .i64 d0, .int .i64 d1]) rfl rfl (by kernel_rfl) ?_ hHeld ?_
     ·intro w hSw; clear hSw; go_simp; try with_reducible rfl
     simp only [uZ, uS]
     refine wpAnyH_ready (rs := [19]) (by kernel_rfl) (by simp) ?_
     refine AllReadyH.cons rfl (fun K hK => ?_) AllReadyH.nil
     rename World => yq
     go_simp
     have HDN := Lib.hid (boxes_lt hHeld.1); have HZN := Lib.hid hHeld.2.size; have HGN := Lib.hid (hHeld.1 _ HL0.out.2.2).lt; have HY := Lib.hid (hHeld.1.new 86 #[.int .i64 0, .bool false, .int .i64 0, .int .i64 0, .int .i64 0, .int .i64 0])
     refine hK.out _ _ ⟨hHeld.1.on (below_alloc1 _ _), below_then hHeld.2 (below_alloc1 _ _)⟩ (fun hHeld2 => ?_)
     try simp only [Act.put, uA, uZ, uS]
     clear hK K hHeld
     have hHeld := hHeld2
     clear hHeld2
     obtain ⟨yr, hW⟩ : ∃ W', yq.alloc (.cells #[.int .i64 0, .bool false, .int .i64 0, .int .i64 0, .int .i64 0, .int .i64 0] 86) = W' := ⟨_, rfl⟩
     rw [hW] at HY hHeld ⊢
     clear hW
     obtain ⟨N, hN⟩ : ∃ N, yq.heap.size = N := ⟨_, rfl⟩
     rw [hN] at HY HDN HZN HGN ⊢
     clear hN
     refine wpAnyH_ready (rs := [20]) (by kernel_rfl) (by simp) ?_
     refine AllReadyH.cons rfl (fun K hK => ?_) AllReadyH.nil
     rw [if_pos (by kernel_rfl)]
     rename World => yq
     have HXs : Hid (Boxes (yq.setRow N #[.int .i64 id, .bool pb, .int .i64 p0, .int .i64 p1, .int .i64 d0, .int .i64 d1]) ((N, 86, #[.int .i64 id, .bool pb, .int .i64 p0, .int .i64 p1, .int .i64 d0, .int .i64 d1]) :: LB)) := Lib.hid (Boxes.row HY.out (.head _) (fun p hp => ⟨.tail _ hp, HDN.out p hp⟩) #[.int .i64 id, .bool pb, .int .i64 p0, .int .i64 p1, .int .i64 d0, .int .i64 d1])
     have HEs := Lib.hid (below_setRow hHeld.2 (show w.heap.size ≤ N from HZN.out) #[.int .i64 id, .bool pb, .int .i64 p0, .int .i64 p1, .int .i64 d0, .int .i64 d1])
     refine wp_store_row 86 (.tmp 5) (.tmp 24) rfl N #[.int .i64 id, .bool pb, .int .i64 p0, .int .i64 p1, .int .i64 d0, .int .i64 d1] rfl rfl 86 _ (HY.out _ (.head _)) (by kernel_rfl) rfl (by kernel_rfl) ?_
     refine hK.out _ _ ⟨hHeld.1.farRow (g := N) HDN.out _, HEs.out⟩ (fun hHeld2 => ?_)
     try simp only [Act.put, uA, uZ, uS]
     clear hK K hHeld
     have hHeld := hHeld2
     clear hHeld2
     refine wpAnyH_done (by kernel_rfl) ?_ _
     clear hHeld
     go_wp2_with fail
     go_meet
     rw [← HLB.out] at HXs
     exact ⟨N, rfl, HXs.out, HEs.out, HGN.out⟩
    ·skip
     rename World => yq
     go_simp
     have HDN := Lib.hid (boxes_lt hHeld.1); have HZN := Lib.hid hHeld.2.size; have HGN := Lib.hid (hHeld.1 _ HL0.out.2.2).lt; have HY := Lib.hid (hHeld.1.new 86 #[.int .i64 0, .bool false, .int .i64 0, .int .i64 0, .int .i64 0, .int .i64 0])
     refine hK.out _ _ ⟨hHeld.1.on (below_alloc1 _ _), below_then hHeld.2 (below_alloc1 _ _)⟩ (fun hHeld2 => ?_)
     try simp only [Act.put, uA, uZ, uS]
     clear hK K hHeld
     have hHeld := hHeld2
     clear hHeld2
     obtain ⟨yr, hW⟩ : ∃ W', yq.alloc (.cells #[.int .i64 0, .bool false, .int .i64 0, .int .i64 0, .int .i64 0, .int .i64 0] 86) = W' := ⟨_, rfl⟩
     rw [hW] at HY hHeld ⊢
     clear hW
     obtain ⟨N, hN⟩ : ∃ N, yq.heap.size = N := ⟨_, rfl⟩
     rw [hN] at HY HDN HZN HGN ⊢
     clear hN
     refine wpAnyH_ready (rs := [17]) (by kernel_rfl) (by simp) ?_
     refine AllReadyH.cons rfl (fun K hK => ?_) AllReadyH.nil
     go_simp
     (with_reducible refine (CDE.out _).mono ?_)
     rintro x y ⟨rfl, hq⟩
     have HY := Lib.hid (HY.out.on hq)
     refine hK.out _ _ ⟨hHeld.1.on hq, below_then hHeld.2 hq⟩ (fun hHeld2 => ?_)
     clear hq
     try simp only [Act.put, uA, uZ, uS]
     clear hK K hHeld
     have hHeld := hHeld2
     clear hHeld2
     refine tK 24 (i := 18) (v := .agg #[.int .i64 id, .bool pb, .int .i64 p0, .int .i64 p1, .int .i64 d0, .int .i64 d1]) rfl rfl (by kernel_rfl) ?_ hHeld ?_
     ·intro w hSw; clear hSw; go_simp; try with_reducible rfl
     simp only [uZ, uS]
     refine wpAnyH_ready (rs := [20]) (by kernel_rfl) (by simp) ?_
     refine AllReadyH.cons rfl (fun K hK => ?_) AllReadyH.nil
     rw [if_pos (by kernel_rfl)]
     rename World => yq
     have HXs : Hid (Boxes (yq.setRow N #[.int .i64 id, .bool pb, .int .i64 p0, .int .i64 p1, .int .i64 d0, .int .i64 d1]) ((N, 86, #[.int .i64 id, .bool pb, .int .i64 p0, .int .i64 p1, .int .i64 d0, .int .i64 d1]) :: LB)) := Lib.hid (Boxes.row HY.out (.head _) (fun p hp => ⟨.tail _ hp, HDN.out p hp⟩) #[.int .i64 id, .bool pb, .int .i64 p0, .int .i64 p1, .int .i64 d0, .int .i64 d1])
     have HEs := Lib.hid (below_setRow hHeld.2 (show w.heap.size ≤ N from HZN.out) #[.int .i64 id, .bool pb, .int .i64 p0, .int .i64 p1, .int .i64 d0, .int .i64 d1])
     refine wp_store_row 86 (.tmp 5) (.tmp 24) rfl N #[.int .i64 id, .bool pb, .int .i64 p0, .int .i64 p1, .int .i64 d0, .int .i64 d1] rfl rfl 86 _ (HY.out _ (.head _)) (by kernel_rfl) rfl (by kernel_rfl) ?_
     refine hK.out _ _ ⟨hHeld.1.farRow (g := N) HDN.out _, HEs.out⟩ (fun hHeld2 => ?_)
     try simp only [Act.put, uA, uZ, uS]
     clear hK K hHeld
     have hHeld := hHeld2
     clear hHeld2
     refine wpAnyH_done (by kernel_rfl) ?_ _
     clear hHeld
     go_wp2_with fail
     go_meet
     rw [← HLB.out] at HXs
     exact ⟨N, rfl, HXs.out, HEs.out, HGN.out⟩
   ·skip
    rename World => yq
    go_simp
    have HDN := Lib.hid (boxes_lt hHeld.1); have HZN := Lib.hid hHeld.2.size; have HGN := Lib.hid (hHeld.1 _ HL0.out.2.2).lt; have HY := Lib.hid (hHeld.1.new 86 #[.int .i64 0, .bool false, .int .i64 0, .int .i64 0, .int .i64 0, .int .i64 0])
    refine hK.out _ _ ⟨hHeld.1.on (below_alloc1 _ _), below_then hHeld.2 (below_alloc1 _ _)⟩ (fun hHeld2 => ?_)
    try simp only [Act.put, uA, uZ, uS]
    clear hK K hHeld
    have hHeld := hHeld2
    clear hHeld2
    obtain ⟨yr, hW⟩ : ∃ W', yq.alloc (.cells #[.int .i64 0, .bool false, .int .i64 0, .int .i64 0, .int .i64 0, .int .i64 0] 86) = W' := ⟨_, rfl⟩
    rw [hW] at HY hHeld ⊢
    clear hW
    obtain ⟨N, hN⟩ : ∃ N, yq.heap.size = N := ⟨_, rfl⟩
    rw [hN] at HY HDN HZN HGN ⊢
    clear hN
    refine wpAnyH_ready (rs := [12]) (by kernel_rfl) (by simp) ?_
    refine AllReadyH.cons rfl (fun K hK => ?_) AllReadyH.nil
    go_simp
    (with_reducible refine (CSP.out _ hHeld.be2).mono ?_)
    rintro x y ⟨rfl, hq⟩
    have HY := Lib.hid (HY.out.on hq)
    refine hK.out _ _ ⟨hHeld.1.on hq, below_then hHeld.2 hq⟩ (fun hHeld2 => ?_)
    clear hq
    try simp only [Act.put, uA, uZ, uS]
    clear hK K hHeld
    have hHeld := hHeld2
    clear hHeld2
    refine wpAnyH_ready (rs := [17]) (by kernel_rfl) (by simp) ?_
    refine AllReadyH.cons rfl (fun K hK => ?_) AllReadyH.nil
    go_simp
    (with_reducible refine (CDE.out _).mono ?_)
    rintro x y ⟨rfl, hq⟩
    have HY := Lib.hid (HY.out.on hq)
    refine hK.out _ _ ⟨hHeld.1.on hq, below_then hHeld.2 hq⟩ (fun hHeld2 => ?_)
    clear hq
    try simp only [Act.put, uA, uZ, uS]
    clear hK K hHeld
    have hHeld := hHeld2
    clear hHeld2
    refine tK 24 (i := 18) (v := .agg #[.int .i64 id, .bool pb, .int .i64 p0, .int .i64 p1, .int .i64 d0, .int .i64 d1]) rfl rfl (by kernel_rfl) ?_ hHeld ?_
    ·intro w hSw; clear hSw; go_simp; try with_reducible rfl
    simp only [uZ, uS]
    refine wpAnyH_ready (rs := [20]) (by kernel_rfl) (by simp) ?_
    refine AllReadyH.cons rfl (fun K hK => ?_) AllReadyH.nil
    rw [if_pos (by kernel_rfl)]
    rename World => yq
    have HXs : Hid (Boxes (yq.setRow N #[.int .i64 id, .bool pb, .int .i64 p0, .int .i64 p1, .int .i64 d0, .int .i64 d1]) ((N, 86, #[.int .i64 id, .bool pb, .int .i64 p0, .int .i64 p1, .int .i64 d0, .int .i64 d1]) :: LB)) := Lib.hid (Boxes.row HY.out (.head _) (fun p hp => ⟨.tail _ hp, HDN.out p hp⟩) #[.int .i64 id, .bool pb, .int .i64 p0, .int .i64 p1, .int .i64 d0, .int .i64 d1])
    have HEs := Lib.hid (below_setRow hHeld.2 (show w.heap.size ≤ N from HZN.out) #[.int .i64 id, .bool pb, .int .i64 p0, .int .i64 p1, .int .i64 d0, .int .i64 d1])
    refine wp_store_row 86 (.tmp 5) (.tmp 24) rfl N #[.int .i64 id, .bool pb, .int .i64 p0, .int .i64 p1, .int .i64 d0, .int .i64 d1] rfl rfl 86 _ (HY.out _ (.head _)) (by kernel_rfl) rfl (by kernel_rfl) ?_
    refine hK.out _ _ ⟨hHeld.1.farRow (g := N) HDN.out _, HEs.out⟩ (fun hHeld2 => ?_)
    try simp only [Act.put, uA, uZ, uS]
    clear hK K hHeld
    have hHeld := hHeld2
    clear hHeld2
    refine wpAnyH_done (by kernel_rfl) ?_ _
    clear hHeld
    go_wp2_with fail
    go_meet
    rw [← HLB.out] at HXs
    exact ⟨N, rfl, HXs.out, HEs.out, HGN.out⟩
  ·skip
   rename World => yq
   go_simp
   have HDN := Lib.hid (boxes_lt hHeld.1); have HZN := Lib.hid hHeld.2.size; have HGN := Lib.hid (hHeld.1 _ HL0.out.2.2).lt; have HY := Lib.hid (hHeld.1.new 86 #[.int .i64 0, .bool false, .int .i64 0, .int .i64 0, .int .i64 0, .int .i64 0])
   refine hK.out _ _ ⟨hHeld.1.on (below_alloc1 _ _), below_then hHeld.2 (below_alloc1 _ _)⟩ (fun hHeld2 => ?_)
   try simp only [Act.put, uA, uZ, uS]
   clear hK K hHeld
   have hHeld := hHeld2
   clear hHeld2
   obtain ⟨yr, hW⟩ : ∃ W', yq.alloc (.cells #[.int .i64 0, .bool false, .int .i64 0, .int .i64 0, .int .i64 0, .int .i64 0] 86) = W' := ⟨_, rfl⟩
   rw [hW] at HY hHeld ⊢
   clear hW
   obtain ⟨N, hN⟩ : ∃ N, yq.heap.size = N := ⟨_, rfl⟩
   rw [hN] at HY HDN HZN HGN ⊢
   clear hN
   refine wpAnyH_ready (rs := [4]) (by kernel_rfl) (by simp) ?_
   refine AllReadyH.cons rfl (fun K hK => ?_) AllReadyH.nil
   go_simp
   (with_reducible refine (CM0.out _).mono ?_)
   rintro x y ⟨rfl, hq⟩
   have HY := Lib.hid (HY.out.on hq)
   refine hK.out _ _ ⟨hHeld.1.on hq, below_then hHeld.2 hq⟩ (fun hHeld2 => ?_)
   clear hq
   try simp only [Act.put, uA, uZ, uS]
   clear hK K hHeld
   have hHeld := hHeld2
   clear hHeld2
   refine tK 11 (i := 5) (v := .bool pb) rfl rfl (by kernel_rfl) ?_ hHeld ?_
   ·intro w hSw; clear hSw; go_simp; first | done | exact HPB.out
   simp only [uZ, uS]
   refine wpAnyH_ready (rs := [12]) (by kernel_rfl) (by simp) ?_
   refine AllReadyH.cons rfl (fun K hK => ?_) AllReadyH.nil
   go_simp
   (with_reducible refine (CSP.out _ hHeld.be2).mono ?_)
   rintro x y ⟨rfl, hq⟩
   have HY := Lib.hid (HY.out.on hq)
   refine hK.out _ _ ⟨hHeld.1.on hq, below_then hHeld.2 hq⟩ (fun hHeld2 => ?_)
   clear hq
   try simp only [Act.put, uA, uZ, uS]
   clear hK K hHeld
   have hHeld := hHeld2
   clear hHeld2
   refine wpAnyH_ready (rs := [17]) (by kernel_rfl) (by simp) ?_
   refine AllReadyH.cons rfl (fun K hK => ?_) AllReadyH.nil
   go_simp
   (with_reducible refine (CDE.out _).mono ?_)
   rintro x y ⟨rfl, hq⟩
   have HY := Lib.hid (HY.out.on hq)
   refine hK.out _ _ ⟨hHeld.1.on hq, below_then hHeld.2 hq⟩ (fun hHeld2 => ?_)
   clear hq
   try simp only [Act.put, uA, uZ, uS]
   clear hK K hHeld
   have hHeld := hHeld2
   clear hHeld2
   refine tK 24 (i := 18) (v := .agg #[.int .i64 id, .bool pb, .int .i64 p0, .int .i64 p1, .int .i64 d0, .int .i64 d1]) rfl rfl (by kernel_rfl) ?_ hHeld ?_
   ·intro w hSw; clear hSw; go_simp; try with_reducible rfl
   simp only [uZ, uS]
   refine wpAnyH_ready (rs := [20]) (by kernel_rfl) (by simp) ?_
   refine AllReadyH.cons rfl (fun K hK => ?_) AllReadyH.nil
   rw [if_pos (by kernel_rfl)]
   rename World => yq
   have HXs : Hid (Boxes (yq.setRow N #[.int .i64 id, .bool pb, .int .i64 p0, .int .i64 p1, .int .i64 d0, .int .i64 d1]) ((N, 86, #[.int .i64 id, .bool pb, .int .i64 p0, .int .i64 p1, .int .i64 d0, .int .i64 d1]) :: LB)) := Lib.hid (Boxes.row HY.out (.head _) (fun p hp => ⟨.tail _ hp, HDN.out p hp⟩) #[.int .i64 id, .bool pb, .int .i64 p0, .int .i64 p1, .int .i64 d0, .int .i64 d1])
   have HEs := Lib.hid (below_setRow hHeld.2 (show w.heap.size ≤ N from HZN.out) #[.int .i64 id, .bool pb, .int .i64 p0, .int .i64 p1, .int .i64 d0, .int .i64 d1])
   refine wp_store_row 86 (.tmp 5) (.tmp 24) rfl N #[.int .i64 id, .bool pb, .int .i64 p0, .int .i64 p1, .int .i64 d0, .int .i64 d1] rfl rfl 86 _ (HY.out _ (.head _)) (by kernel_rfl) rfl (by kernel_rfl) ?_
   refine hK.out _ _ ⟨hHeld.1.farRow (g := N) HDN.out _, HEs.out⟩ (fun hHeld2 => ?_)
   try simp only [Act.put, uA, uZ, uS]
   clear hK K hHeld
   have hHeld := hHeld2
   clear hHeld2
   refine wpAnyH_done (by kernel_rfl) ?_ _
   clear hHeld
   go_wp2_with fail
   go_meet
   rw [← HLB.out] at HXs
   exact ⟨N, rfl, HXs.out, HEs.out, HGN.out⟩
 case rest =>
  obtain ⟨M, rfl, hX, hB, hM⟩ := hcut
  have HX0 := Lib.hid hX; have HB0 := Lib.hid hB
  have HMG : Hid (G + 1 + 1 < M ∧ w.heap.size ≤ G) := Lib.hid ⟨hM, by rw [HG.out]; exact Nat.le_refl _⟩
  clear hX hB hM HE HK HX_0 CM0 CSP CDE HPB
  rename World => V0
  have HFAR : Hid (∀ p ∈ ([(G + 1 + 1, 86, #[.int .i64 0, .bool false, .int .i64 0, .int .i64 0, .int .i64 0, .int .i64 0]), (G + 1, 53, #[.int .i64 x0, .int .i64 x1, .int .i64 x2, .int .i64 x3, .int .i64 x4]), (G, 38, #[.int .i64 id, .int .i64 al, .int .i64 ah, .slice A n c, .slice B mm d, .slice C l ee])] : List (Nat × TypeId × Array Value)), p.1 ≠ M) := Lib.hid (fun p hp => by
   have hm := HMG.out
   simp only [List.mem_cons, List.not_mem_nil, or_false] at hp
   rcases hp with h | h | h <;> (rw [h]; dsimp only; omega))
  cases pb
  ·have HV : Hid (RR = ⟨id, false, p0, p1, d0, d1⟩) := Lib.hid (by rw [HR.out, if_neg (by decide)])
   have m_ := HX0.out _ (.head _)
   have m_0 := m_.cell 0
   have m_1 := m_.cell 1
   have m_2 := m_.cell 2
   have m_3 := m_.cell 3
   have m_4 := m_.cell 4
   have m_5 := m_.cell 5
   simp at m_0 m_1 m_2 m_3 m_4 m_5
   clear m_
   go_upto_region 4 with fail
   refine wp_region_lit ?_
   refine wpList_plain rfl (fun K hK => ?_)
   go_simp
   refine hK _ _ ?_
   clear hK K
   have HKR : Hid (Blk (V0.setRow (G + 1 + 1) #[.int .i64 id, .bool false, .int .i64 p0, .int .i64 p1, .int .i64 d0, .int .i64 d1]) (G + 1 + 1) 86 #[.int .i64 id, .bool false, .int .i64 p0, .int .i64 p1, .int .i64 d0, .int .i64 d1]) := Lib.hid (setRow_heap V0 (G + 1 + 1) _ _ 86 _ (HX0.out _ (.tail _ (.head _))))
   have HE9 := Lib.hid (below_setRow HB0.out (show w.heap.size ≤ G + 1 + 1 by have := HMG.out; omega) #[.int .i64 id, .bool false, .int .i64 p0, .int .i64 p1, .int .i64 d0, .int .i64 d1])
   refine wpList_store_row rfl 86 (.tmp 4) (.tmp 35) rfl (G + 1 + 1) #[.int .i64 id, .bool false, .int .i64 p0, .int .i64 p1, .int .i64 d0, .int .i64 d1] rfl rfl 86 _ (HX0.out _ (.tail _ (.head _))) (by kernel_rfl) rfl (by kernel_rfl) ?_
   obtain ⟨W9, hW9⟩ : ∃ W9, V0.setRow (G + 1 + 1) #[.int .i64 id, .bool false, .int .i64 p0, .int .i64 p1, .int .i64 d0, .int .i64 d1] = W9 := ⟨_, rfl⟩
   rw [hW9] at HKR HE9 ⊢
   clear hW9
   have hv : levelV RR = .agg #[.int .i64 id, .bool false, .int .i64 p0, .int .i64 p1, .int .i64 d0, .int .i64 d1] := by rw [HV.out]
   go_wp2
   exact bodyPost_ret (v := .agg #[.int .i64 id, .bool false, .int .i64 p0, .int .i64 p1, .int .i64 d0, .int .i64 d1]) (results_cell_row Tryz.results39 _ _ (G + 1 + 1) 86 #[.int .i64 id, .bool false, .int .i64 p0, .int .i64 p1, .int .i64 d0, .int .i64 d1] (0, 0) _ rfl HKR.out Tryz.underlying86 rfl (by kernel_rfl)) rfl ⟨by first | rfl | rw [hv], HE9.out⟩
  ·skip
   have HV : Hid (RR = ⟨id, true, z1, z1, d0, d1⟩) := Lib.hid (by rw [HR.out, if_pos rfl])
   have m_ := HX0.out _ (.head _)
   have m_1 := m_.cell 1
   simp at m_1
   clear m_
   go_upto_region 3 with fail
   clear m_1
   have hS0 : BB2 w [(G + 1 + 1, 86, #[.int .i64 0, .bool false, .int .i64 0, .int .i64 0, .int .i64 0, .int .i64 0]), (G + 1, 53, #[.int .i64 x0, .int .i64 x1, .int .i64 x2, .int .i64 x3, .int .i64 x4]), (G, 38, #[.int .i64 id, .int .i64 al, .int .i64 ah, .slice A n c, .slice B mm d, .slice C l ee])] V0.drew := ⟨HX0.out.sub (fun p hp => .tail _ hp), HB0.out.drew⟩
   have HW := Lib.hid (below_drew1 V0)
   refine wp_region_held_drew (S := BB2 w [(G + 1 + 1, 86, #[.int .i64 0, .bool false, .int .i64 0, .int .i64 0, .int .i64 0, .int .i64 0]), (G + 1, 53, #[.int .i64 x0, .int .i64 x1, .int .i64 x2, .int .i64 x3, .int .i64 x4]), (G, 38, #[.int .i64 id, .int .i64 al, .int .i64 ah, .slice A n c, .slice B mm d, .slice C l ee])]) (by kernel_rfl) hS0 (fun hHeld => ?_)
   obtain ⟨yq, hW⟩ : ∃ W', V0.drew = W' := ⟨_, rfl⟩
   rw [hW] at hHeld HW ⊢
   clear hW hS0
   refine tK 27 (i := 0) (v := .pointer (some ⟨G, 3, none⟩)) rfl rfl (by kernel_rfl) ?_ hHeld ?_
   ·intro w hSw; clear hSw; go_simp; try with_reducible rfl
   simp only [uZ, uS]
   refine tK 28 (i := 1) (v := tv A n c) rfl rfl (by kernel_rfl) ?_ hHeld ?_
   ·intro w hSw; have cx := (hSw.1 _ (.tail _ (.tail _ (.head _)))).cell 3; simp at cx; clear hSw; go_simp; try with_reducible rfl
   simp only [uZ, uS]
   refine tK 30 (i := 3) (v := .pointer (some ⟨G, 3, none⟩)) rfl rfl (by kernel_rfl) ?_ hHeld ?_
   ·intro w hSw; clear hSw; go_simp; try with_reducible rfl
   simp only [uZ, uS]
   refine tK 31 (i := 4) (v := tv A n c) rfl rfl (by kernel_rfl) ?_ hHeld ?_
   ·intro w hSw; have cx := (hSw.1 _ (.tail _ (.tail _ (.head _)))).cell 3; simp at cx; clear hSw; go_simp; try with_reducible rfl
   simp only [uZ, uS]
   refine wpAnyH_ready (rs := [2]) (by kernel_rfl) (by simp) ?_
   refine AllReadyH.cons rfl (fun K hK => ?_) AllReadyH.nil
   go_simp
   (with_reducible refine (CLA.out _ hHeld.be2).mono ?_)
   rintro x y ⟨rfl, hq⟩
   have HW := Lib.hid (below_then HW.out hq)
   refine hK.out _ _ ⟨hHeld.1.on hq, below_then hHeld.2 hq⟩ (fun hHeld2 => ?_)
   clear hq
   try simp only [Act.put, uA, uZ, uS]
   clear hK K hHeld
   have hHeld := hHeld2
   clear hHeld2
   refine wpAnyH_ready (rs := [5]) (by kernel_rfl) (by simp) ?_
   refine AllReadyH.cons rfl (fun K hK => ?_) AllReadyH.nil
   go_simp
   (with_reducible refine (CLA.out _ hHeld.be2).mono ?_)
   rintro x y ⟨rfl, hq⟩
   have HW := Lib.hid (below_then HW.out hq)
   refine hK.out _ _ ⟨hHeld.1.on hq, below_then hHeld.2 hq⟩ (fun hHeld2 => ?_)
   clear hq
   try simp only [Act.put, uA, uZ, uS]
   clear hK K hHeld
   have hHeld := hHeld2
   clear hHeld2
   refine tK 33 (i := 6) (v := rv z1 z1) rfl rfl (by kernel_rfl) ?_ hHeld ?_
   ·intro w hSw; clear hSw; go_simp; try with_reducible rfl
   simp only [uZ, uS]
   refine tK 34 (i := 7) (v := .pointer (some ⟨M, 2, none⟩)) rfl rfl (by kernel_rfl) ?_ hHeld ?_
   ·intro w hSw; clear hSw; go_simp; try with_reducible rfl
   simp only [uZ, uS]
   rename World => Vq
   have HXq := Lib.hid (HX0.out.on HW.out)
   have HBq := Lib.hid hHeld.2
   have m_ := HXq.out _ (.head _)
   have m_2 := m_.cell 2
   have m_f2 := m_.frozen 2
   have m_3 := m_.cell 3
   have m_f3 := m_.frozen 3
   have m_l := m_.lt
   simp at m_2 m_f2 m_3 m_f3
   clear m_
   refine wpAnyH_ready (rs := [8]) (by kernel_rfl) (by simp) ?_
   refine AllReadyH.cons rfl (fun K hK => ?_) AllReadyH.nil
   go_simp
   have HXr : Hid (Boxes (Vq.setCell ⟨M, 2, none⟩ (.int .i64 z1)) [(M, 86, #[.int .i64 id, .bool true, .int .i64 z1, .int .i64 p1, .int .i64 d0, .int .i64 d1]), (G + 1 + 1, 86, #[.int .i64 0, .bool false, .int .i64 0, .int .i64 0, .int .i64 0, .int .i64 0]), (G + 1, 53, #[.int .i64 x0, .int .i64 x1, .int .i64 x2, .int .i64 x3, .int .i64 x4]), (G, 38, #[.int .i64 id, .int .i64 al, .int .i64 ah, .slice A n c, .slice B mm d, .slice C l ee])]) := Lib.hid (HXq.out.set1 HFAR.out 2 (.int .i64 z1) _ rfl)
   have HXs : Hid (Boxes ((Vq.setCell ⟨M, 2, none⟩ (.int .i64 z1)).setCell ⟨M, 3, none⟩ (.int .i64 z1)) [(M, 86, #[.int .i64 id, .bool true, .int .i64 z1, .int .i64 z1, .int .i64 d0, .int .i64 d1]), (G + 1 + 1, 86, #[.int .i64 0, .bool false, .int .i64 0, .int .i64 0, .int .i64 0, .int .i64 0]), (G + 1, 53, #[.int .i64 x0, .int .i64 x1, .int .i64 x2, .int .i64 x3, .int .i64 x4]), (G, 38, #[.int .i64 id, .int .i64 al, .int .i64 ah, .slice A n c, .slice B mm d, .slice C l ee])]) := Lib.hid (HXr.out.set1 HFAR.out 3 (.int .i64 z1) _ rfl)
   have HBs : Hid (Below w.heap.size w ((Vq.setCell ⟨M, 2, none⟩ (.int .i64 z1)).setCell ⟨M, 3, none⟩ (.int .i64 z1))) := Lib.hid (by
    have hm := HMG.out
    repeat (first | exact HBq.out | refine Below.setCell ?_ (by simp <;> omega) _))
   refine hK.out _ _ ⟨(hHeld.1.farRowless2 HFAR.out 2 3 _ _), HBs.out⟩ (fun hHeld2 => ?_)
   try simp only [Act.put, uA, uZ, uS]
   clear hK K hHeld
   have hHeld := hHeld2
   clear hHeld2
   refine wpAnyH_done (by kernel_rfl) ?_ _
   clear hHeld HXr HXq HBq HW HX0 HB0 m_2 m_f2 m_3 m_f3 m_l
   obtain ⟨We, hW⟩ : ∃ W', ((Vq.setCell ⟨M, 2, none⟩ (.int .i64 z1)).setCell ⟨M, 3, none⟩ (.int .i64 z1)) = W' := ⟨_, rfl⟩
   rw [hW] at HXs HBs ⊢
   clear hW
   have m_ := HXs.out _ (.head _)
   have m_0 := m_.cell 0
   have m_1 := m_.cell 1
   have m_2 := m_.cell 2
   have m_3 := m_.cell 3
   have m_4 := m_.cell 4
   have m_5 := m_.cell 5
   simp at m_0 m_1 m_2 m_3 m_4 m_5
   clear m_
   go_upto_region 4 with fail
   refine wp_region_lit ?_
   refine wpList_plain rfl (fun K hK => ?_)
   go_simp
   refine hK _ _ ?_
   clear hK K
   have HKR : Hid (Blk (We.setRow (G + 1 + 1) #[.int .i64 id, .bool true, .int .i64 z1, .int .i64 z1, .int .i64 d0, .int .i64 d1]) (G + 1 + 1) 86 #[.int .i64 id, .bool true, .int .i64 z1, .int .i64 z1, .int .i64 d0, .int .i64 d1]) := Lib.hid (setRow_heap We (G + 1 + 1) _ _ 86 _ (HXs.out _ (.tail _ (.head _))))
   have HE9 := Lib.hid (below_setRow HBs.out (show w.heap.size ≤ G + 1 + 1 by have := HMG.out; omega) #[.int .i64 id, .bool true, .int .i64 z1, .int .i64 z1, .int .i64 d0, .int .i64 d1])
   refine wpList_store_row rfl 86 (.tmp 4) (.tmp 35) rfl (G + 1 + 1) #[.int .i64 id, .bool true, .int .i64 z1, .int .i64 z1, .int .i64 d0, .int .i64 d1] rfl rfl 86 _ (HXs.out _ (.tail _ (.head _))) (by kernel_rfl) rfl (by kernel_rfl) ?_
   obtain ⟨W9, hW9⟩ : ∃ W9, We.setRow (G + 1 + 1) #[.int .i64 id, .bool true, .int .i64 z1, .int .i64 z1, .int .i64 d0, .int .i64 d1] = W9 := ⟨_, rfl⟩
   rw [hW9] at HKR HE9 ⊢
   clear hW9
   have hv : levelV RR = .agg #[.int .i64 id, .bool true, .int .i64 z1, .int .i64 z1, .int .i64 d0, .int .i64 d1] := by rw [HV.out]
   go_wp2
   exact bodyPost_ret (v := .agg #[.int .i64 id, .bool true, .int .i64 z1, .int .i64 z1, .int .i64 d0, .int .i64 d1]) (results_cell_row Tryz.results39 _ _ (G + 1 + 1) 86 #[.int .i64 id, .bool true, .int .i64 z1, .int .i64 z1, .int .i64 d0, .int .i64 d1] (0, 0) _ rfl HKR.out Tryz.underlying86 rfl (by kernel_rfl)) rfl ⟨by first | rfl | rw [hv], HE9.out⟩
end

section
open Go.RowKit

def zeroF (f : Nat → Int × Int) (k : Nat) : Int × Int := if k = 0 then (0, 0) else f k
theorem zero_rows {xs : List Int} {f : Nat → Int × Int} : ∀ n : Nat, n ≤ xs.length → zeroFirst (rowsTo xs f n) = rowsTo xs (zeroF f) n
  | 0, _ => rfl
  | k + 1, h => by
    obtain ⟨x, hx⟩ : ∃ x, xs[k]? = some x := ⟨_, List.getElem?_eq_getElem (show k < xs.length by omega)⟩
    have ih := zero_rows (xs := xs) (f := f) k (by omega)
    have hl := rowsTo_len xs f k (by omega)
    rw [rowsTo_succ hx, rowsTo_succ hx, ← ih]
    cases k with
    | zero => rfl
    | succ j =>
      cases hr : rowsTo xs f (j + 1) with
      | nil => rw [hr] at hl; simp at hl
      | cons a r => simp [zeroFirst, zeroF]
theorem rises_of : ∀ (ps : List P3), (∀ k p q, ps[k]? = some p → ps[k + 1]? = some q → p.2.1 ≤ q.2.1 ∧ p.2.2 ≤ q.2.2) → risesS ps = true
  | [], _ => rfl
  | [_], _ => rfl
  | p :: q :: r, h => by
    have h1 := h 0 p q rfl rfl
    have h2 := rises_of (q :: r) fun k a b ha hb => h (k + 1) a b ha hb
    rw [risesS, h2]
    simp [h1.1, h1.2]
theorem rises_rows {fi : Int} {st : List Int} {f : Nat → Int × Int} {n : Nat} (hn : n = (xsS fi st).length) (hf : ∀ j, j < n → 0 ≤ (f j).1 ∧ (f j).1 ≤ (f j).2 ∧ (f j).2 ≤ 1000000000) (hu : ∀ k, (f k).1 ≤ (f (k + 1)).1 ∧ (f k).2 ≤ (f (k + 1)).2) : risesS (rowsTo (xsS fi st) f n) = true := by
  have r := rows3 (f := f) hn (fun j hj => by have := hf j hj; omega)
  refine rises_of _ fun k p q hp hq => ?_
  obtain ⟨k1, e1⟩ := r.at_ k p hp
  obtain ⟨k2, e2⟩ := r.at_ (k + 1) q hq
  rw [e1, e2]
  exact hu k
theorem slope_in (vs : List Int) (fr : Int) {mo : Int} (g0 : 0 < mo) (g1 : mo ≤ 1000000) (n : Nat) (h8 : n ≤ 8) (j : Nat) (hj : j < n) : 0 ≤ (slopeF vs fr mo j).1 ∧ (slopeF vs fr mo j).1 ≤ (slopeF vs fr mo j).2 ∧ (slopeF vs fr mo j).2 ≤ 1000000000 := by
  obtain ⟨h1, h2, h3⟩ := slopeF_in vs fr g0 g1 j (by omega)
  omega
theorem zero_in {f : Nat → Int × Int} {n : Nat} (hf : ∀ j, j < n → 0 ≤ (f j).1 ∧ (f j).1 ≤ (f j).2 ∧ (f j).2 ≤ 1000000000) (j : Nat) (hj : j < n) : 0 ≤ (zeroF f j).1 ∧ (zeroF f j).1 ≤ (zeroF f j).2 ∧ (zeroF f j).2 ≤ 1000000000 := by
  have := hf j hj
  unfold zeroF
  split
  · simp
  · exact this
theorem zero_up {f : Nat → Int × Int} (h0 : ∀ k, 0 ≤ (f k).1 ∧ 0 ≤ (f k).2) (hu : ∀ k, (f k).1 ≤ (f (k + 1)).1 ∧ (f k).2 ≤ (f (k + 1)).2) (k : Nat) : (zeroF f k).1 ≤ (zeroF f (k + 1)).1 ∧ (zeroF f k).2 ≤ (zeroF f (k + 1)).2 := by
  unfold zeroF
  rw [if_neg (show ¬ k + 1 = 0 by omega)]
  split
  · exact h0 (k + 1)
  · exact hu k
theorem slope_pos (vs : List Int) (fr : Int) {mo : Int} (g0 : 0 < mo) (g1 : mo ≤ 1000000) (k : Nat) : 0 ≤ (slopeF vs fr mo k).1 ∧ 0 ≤ (slopeF vs fr mo k).2 := by
  obtain ⟨h1, h2, _⟩ := slopeF_in vs fr g0 g1 0 (by omega)
  have h3 := slope_up vs fr g0 k 0
  rw [Nat.zero_add] at h3
  omega
theorem slope_next (vs : List Int) (fr : Int) {mo : Int} (g0 : 0 < mo) (k : Nat) : (slopeF vs fr mo k).1 ≤ (slopeF vs fr mo (k + 1)).1 ∧ (slopeF vs fr mo k).2 ≤ (slopeF vs fr mo (k + 1)).2 := slope_up vs fr g0 1 k
theorem tank_vol (r : RawD) : ∃ f : Nat → Int × Int, tankVol r = rowsTo (xsS r.fi r.st) f (xsS r.fi r.st).length ∧ (∀ j, j < (xsS r.fi r.st).length → 0 ≤ (f j).1 ∧ (f j).1 ≤ (f j).2 ∧ (f j).2 ≤ 1000000000) ∧ (∀ k, (f k).1 ≤ (f (k + 1)).1 ∧ (f k).2 ≤ (f (k + 1)).2) := by
  have h8 := xsS_len r.fi r.st
  have e : slopedL r.vs 3 300 false (xsS r.fi r.st) (xsS r.fi r.st).length = rowsTo (xsS r.fi r.st) (slopeF r.vs 3 300) (xsS r.fi r.st).length := by unfold slopedL; rw [if_neg (by decide)]
  have f1 : ∀ j, j < (xsS r.fi r.st).length → 0 ≤ (slopeF r.vs 3 300 j).1 ∧ (slopeF r.vs 3 300 j).1 ≤ (slopeF r.vs 3 300 j).2 ∧ (slopeF r.vs 3 300 j).2 ≤ 1000000000 := fun j hj => slope_in r.vs 3 (by omega) (by omega) _ (by omega) j hj
  unfold tankVol
  rw [e]
  by_cases g : pickS r.vs 9 % 2 = 0
  · rw [if_pos g]
    exact ⟨zeroF (slopeF r.vs 3 300), zero_rows _ (Nat.le_refl _), fun j hj => zero_in f1 j hj, zero_up (fun k => slope_pos r.vs 3 (by omega) (by omega) k) (fun k => slope_next r.vs 3 (by omega) k)⟩
  · rw [if_neg g]
    exact ⟨slopeF r.vs 3 300, rfl, f1, fun k => slope_next r.vs 3 (by omega) k⟩
theorem madeT_valid (r : RawD) : tankS (madeT r) = true := by
  have h8 := xsS_len r.fi r.st
  obtain ⟨a1, a2⟩ := emod_in r.id (show (0 : Int) < 9 by omega)
  obtain ⟨b1, b2⟩ := emod_in (pickS r.vs 4) (show (0 : Int) < 2001 by omega)
  obtain ⟨c1, c2⟩ := emod_in (pickS r.vs 5) (show (0 : Int) < 30 by omega)
  obtain ⟨f, hv, hf, hu⟩ := tank_vol r
  have eh : slopedL r.vs 7 90 false (xsS r.fi r.st) (xsS r.fi r.st).length = rowsTo (xsS r.fi r.st) (slopeF r.vs 7 90) (xsS r.fi r.st).length := by unfold slopedL; rw [if_neg (by decide)]
  have f2 : ∀ j, j < (xsS r.fi r.st).length → 0 ≤ (slopeF r.vs 7 90 j).1 ∧ (slopeF r.vs 7 90 j).1 ≤ (slopeF r.vs 7 90 j).2 ∧ (slopeF r.vs 7 90 j).2 ≤ 1000000000 := fun j hj => slope_in r.vs 7 (by omega) (by omega) _ (by omega) j hj
  have mv : measuresS (rowsTo (xsS r.fi r.st) f (xsS r.fi r.st).length) = true := measures_rows rfl hf
  have mh : measuresS (rowsTo (xsS r.fi r.st) (slopeF r.vs 7 90) (xsS r.fi r.st).length) = true := measures_rows rfl f2
  have mm : measuresS (rowsTo (xsS r.fi r.st) (freeF r.vs 2 500) (xsS r.fi r.st).length) = true := measures_rows rfl fun j hj => free_in r.vs 2 (by omega) (by omega) j
  have fv := rises_rows (fi := r.fi) (st := r.st) rfl hf hu
  have fh := rises_rows (fi := r.fi) (st := r.st) rfl f2 (fun k => slope_next r.vs 7 (by omega) k)
  obtain ⟨x1, y1⟩ := rows_first (fi := r.fi) (st := r.st) (f := f) rfl
  obtain ⟨x2, y2⟩ := rows_first (fi := r.fi) (st := r.st) (f := slopeF r.vs 7 90) rfl
  obtain ⟨x3, y3⟩ := rows_first (fi := r.fi) (st := r.st) (f := freeF r.vs 2 500) rfl
  unfold tankS madeT ctRest alongS inB
  dsimp only
  rw [hv, eh, mv, mh, mm, fv, fh, x1, x2, x3, y1, y2, y3]
  simp only [Bool.and_eq_true, decide_eq_true_eq, and_true, true_and]
  omega
theorem madeL_ok {t : TankD} (e : tankS t = true) (hle : firstX t.vol ≤ lastX t.vol) (x0 x1 x2 x3 x4 : Int) : levelErr t (madeL t x0 x1 x2 x3 x4) = 0 := by
  obtain ⟨a1, a2⟩ := emod_in x1 (show (0 : Int) < lastX t.vol - firstX t.vol + 1 by omega)
  obtain ⟨a3, a4⟩ := emod_in x2 (show (0 : Int) < min (lastX t.vol - (firstX t.vol + x1 % (lastX t.vol - firstX t.vol + 1))) 25 + 1 by omega)
  obtain ⟨b1, b2⟩ := emod_in x3 (show (0 : Int) < 900 by omega)
  obtain ⟨b3, b4⟩ := emod_in x4 (show (0 : Int) < 200 by omega)
  unfold levelErr
  rw [if_pos e]
  have : levelS t (madeL t x0 x1 x2 x3 x4) = true := by
    unfold levelS madeL densS inB
    split
    · unfold densityS
      simp only [Bool.and_eq_true, Bool.or_eq_true, decide_eq_true_eq]
      refine ⟨by trivial, by omega, by omega, by simp⟩
    · unfold spanS densityS
      simp only [Bool.and_eq_true, Bool.or_eq_true, decide_eq_true_eq]
      refine ⟨by trivial, by omega, by omega, by simp⟩
  rw [if_pos this]
def srfB (t : TankD) (l : LevelD) : Int × Int := if l.pr = true ∨ (ovL t.vol l).2 = 0 then (0, 0) else (if (ovL t.vol l).1 = 0 then 0 else (denL l (ovL t.sur l)).1, (denL l (ovL t.sur l)).2)
theorem srf_ok {t : TankD} {l : LevelD} (e : levelErr t l = 0) : srfS t l = ((srfB t l).1, (srfB t l).2, 0) := by
  unfold srfS srfB
  rw [if_pos e]
  split <;> rfl
end

end Go.Proofs.YtemlaaipnhmcoaaGreat
