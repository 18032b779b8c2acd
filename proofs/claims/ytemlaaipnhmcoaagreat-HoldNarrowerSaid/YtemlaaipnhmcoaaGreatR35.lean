/- The hold that numbers describe (Hold of the specification). Its condition: the lists lie in memory. -/
import Derived.Deep.QuietTactic
import Derived.BigQuiet
import Derived.Test.YtemlaaipnhmcoaaGreatR19
import Derived.Test.YtemlaaipnhmcoaaGreatR11
import Derived.Test.YtemlaaipnhmcoaaGreatR13
import Derived.Test.YtemlaaipnhmcoaaGreatR12
import Derived.Test.YtemlaaipnhmcoaaGreatR14
import Derived.Test.YtemlaaipnhmcoaaGreatR20
import Derived.Test.YtemlaaipnhmcoaaGreatR25
import Derived.Test.YtemlaaipnhmcoaaGreatR26
import Derived.Test.YtemlaaipnhmcoaaGreatR34
import Derived.Test.YtemlaaipnhmcoaaGreatQ98
set_option linter.unusedVariables false
set_option linter.unusedSimpArgs false
set_option linter.constructorNameAsVariable false
namespace Go.Proofs.YtemlaaipnhmcoaaGreat

section
open Go.RowKit

theorem own_tab {base : Nat} {w : World} {p : Option Addr} {n c : Nat} {L : List P3} (ho : OwnPts base w (.slice p n c) L) (h40 : L.length ≤ 40) : TabIn w p n L := by
  rcases Nat.lt_or_ge 0 L.length with hl | hl
  · obtain ⟨g, cap, h, _, hg, hp⟩ := ho.pts hl
    injection h with h1 h2 h3
    subst h1 h2 h3
    exact ⟨rfl, by simp only [maxLen]; omega, .inr ⟨g, 0, rfl, hg, hp⟩⟩
  · obtain rfl : L = [] := List.eq_nil_of_length_eq_zero (by omega)
    rcases (show w.ownsRow base 110 3 (.slice p n c) 0 [] from ho).2 with ⟨h, _⟩ | ⟨g, cap, cur, h, _⟩
    · injection h with h1 h2 h3; subst h2; exact ⟨rfl, by simp only [maxLen]; omega, .inl rfl⟩
    · injection h with h1 h2 h3; subst h2; exact ⟨rfl, by simp only [maxLen]; omega, .inl rfl⟩
theorem grownBy_setCellY (w : World) (b i : Nat) (v : Value) : w.grownBy (w.setCell ⟨b, i, none⟩ v) (some b) := ⟨rfl, rfl, rfl, by simp [World.setCell], fun k _ hk => Below.heap_setCell _ _ _ _ (fun e => hk (by simp [e]))⟩
theorem grownBy_setRowY (w : World) (g : Nat) (cs : Array Value) : w.grownBy (w.setRow g cs) (some g) := ⟨rfl, rfl, rfl, by simp [World.setRow], fun k _ hk => setRow_other w g k _ (fun e => hk (by rw [e]))⟩
theorem OwnPts.keptAt {base g i : Nat} {w : World} {v u : Value} {L : List P3} (h : OwnPts base w v L) (hg : g < base) : OwnPts base (w.setCell ⟨g, i, none⟩ u) v L :=
  World.ownsRow.kept (show w.ownsRow base 110 3 v L.length (ptCells L) from h) (grownBy_setCellY w g i u) (.inr (fun e => by have := (World.ownsRow.lt (show w.ownsRow base 110 3 v L.length (ptCells L) from h) _ e).1; omega))
theorem OwnPts.keptRow {base g : Nat} {w : World} {v : Value} {L : List P3} {cs : Array Value} (h : OwnPts base w v L) (hg : g < base) : OwnPts base (w.setRow g cs) v L :=
  World.ownsRow.kept (show w.ownsRow base 110 3 v L.length (ptCells L) from h) (grownBy_setRowY w g cs) (.inr (fun e => by have := (World.ownsRow.lt (show w.ownsRow base 110 3 v L.length (ptCells L) from h) _ e).1; omega))
def BB2 (w0 : World) (L : List (Nat × TypeId × Array Value)) (w : World) : Prop := Boxes w L ∧ Below w0.heap.size w0 w
theorem BB2.be2 {w0 w : World} {L : List (Nat × TypeId × Array Value)} (h : BB2 w0 L w) : Below w0.heap.size w0 w := h.2
theorem Boxes.farRowless2 {W : World} {L : List (Nat × TypeId × Array Value)} (h : Boxes W L) {g : Nat} (hg : ∀ p ∈ L, p.1 ≠ g) (i j : Nat) (u v : Value) : Boxes ((W.setCell ⟨g, i, none⟩ u).setCell ⟨g, j, none⟩ v) L := fun p hp => ((h p hp).far (p := ⟨g, i, none⟩) (hg p hp) u).far (p := ⟨g, j, none⟩) (hg p hp) v
def madeH (r : RawD) : HoldD :=
  ⟨1 + r.id % 9, pickS r.vs 1 % 2001 - 1000, pickS r.vs 1 % 2001 - 1000 + pickS r.vs 2 % 30,
   slopedL r.vs 0 300 true (xsS r.fi r.st) (xsS r.fi r.st).length, rowsTo (xsS r.fi r.st) (freeF r.vs 5 800) (xsS r.fi r.st).length, slopedL r.vs 11 90 true (xsS r.fi r.st) (xsS r.fi r.st).length,
   (someS r.vs 3 200).1, (someS r.vs 3 200).2, (someS r.vs 4 400).1, (someS r.vs 4 400).2,
   (slopeF r.vs 0 300 ((xsS r.fi r.st).length - 1)).1 + pickS r.vs 6 % 9, (slopeF r.vs 0 300 ((xsS r.fi r.st).length - 1)).2 + 9 + pickS r.vs 7 % 9,
   (someS r.vs 8 900).1, (someS r.vs 8 900).2⟩

set_option maxRecDepth 100000 in
set_option maxHeartbeats 4000000 in
theorem smadeHold (r : RawD) (m : RawM) (w : World) (hi : RawIn w r m) :
  Calls Tryz.prog 13 #[rawV r m] w fun e w' => (∃ mm, e = .returned (holdV (madeH r) mm) ∧ HoldIn w' (madeH r) mm) ∧ Below w.heap.size w w' := by
 obtain ⟨id, fi, st, vs⟩ := r
 obtain ⟨S, sn, sc, V, vn, vc⟩ := m
 have HV : Hid (∀ W i, Below w.heap.size w W → Calls Tryz.prog 61 #[.slice V vn vc, .int .i64 i] W fun e w' => e = .returned (.int .i64 (pickS vs i)) ∧ Below W.heap.size W w') := Lib.hid fun W i hW => spick_to V vn vc vs i W hi.2.2.2.1 hi.2.2.2.2.1 (hi.2.2.2.2.2.below hW)
 have CSV : Hid (∀ W, Below w.heap.size w W → Calls Tryz.prog 62 #[.agg #[.int .i64 id, .int .i64 fi, .slice S sn sc, .slice V vn vc], .int .i64 0, .int .i64 300, .bool true] W (GivesT W (slopedL vs 0 300 true (xsS fi st) (xsS fi st).length))) := Lib.hid fun W hW => ssloped_to ⟨id, fi, st, vs⟩ ⟨S, sn, sc, V, vn, vc⟩ 0 300 true W (hi.below hW) (by omega) (by omega) (by omega) (by omega)
 have CSH : Hid (∀ W, Below w.heap.size w W → Calls Tryz.prog 62 #[.agg #[.int .i64 id, .int .i64 fi, .slice S sn sc, .slice V vn vc], .int .i64 11, .int .i64 90, .bool true] W (GivesT W (slopedL vs 11 90 true (xsS fi st) (xsS fi st).length))) := Lib.hid fun W hW => ssloped_to ⟨id, fi, st, vs⟩ ⟨S, sn, sc, V, vn, vc⟩ 11 90 true W (hi.below hW) (by omega) (by omega) (by omega) (by omega)
 have CFM : Hid (∀ W, Below w.heap.size w W → Calls Tryz.prog 63 #[.agg #[.int .i64 id, .int .i64 fi, .slice S sn sc, .slice V vn vc], .int .i64 5, .int .i64 800] W (GivesT W (rowsTo (xsS fi st) (freeF vs 5 800) (xsS fi st).length))) := Lib.hid fun W hW => sfree_to ⟨id, fi, st, vs⟩ ⟨S, sn, sc, V, vn, vc⟩ 5 800 W (hi.below hW) (by omega) (by omega) (by omega) (by omega)
 have CST : Hid (∀ W, Below w.heap.size w W → Calls Tryz.prog 64 #[.agg #[.int .i64 id, .int .i64 fi, .slice S sn sc, .slice V vn vc], .int .i64 3, .int .i64 200] W fun e w' => e = .returned (rv (someS vs 3 200).1 (someS vs 3 200).2) ∧ Below W.heap.size W w') := Lib.hid fun W hW => ssome_to ⟨id, fi, st, vs⟩ ⟨S, sn, sc, V, vn, vc⟩ 3 200 W (hi.below hW) (by omega) (by omega) (by omega) (by omega)
 have CSU : Hid (∀ W, Below w.heap.size w W → Calls Tryz.prog 64 #[.agg #[.int .i64 id, .int .i64 fi, .slice S sn sc, .slice V vn vc], .int .i64 4, .int .i64 400] W fun e w' => e = .returned (rv (someS vs 4 400).1 (someS vs 4 400).2) ∧ Below W.heap.size W w') := Lib.hid fun W hW => ssome_to ⟨id, fi, st, vs⟩ ⟨S, sn, sc, V, vn, vc⟩ 4 400 W (hi.below hW) (by omega) (by omega) (by omega) (by omega)
 have CSE : Hid (∀ W, Below w.heap.size w W → Calls Tryz.prog 64 #[.agg #[.int .i64 id, .int .i64 fi, .slice S sn sc, .slice V vn vc], .int .i64 8, .int .i64 900] W fun e w' => e = .returned (rv (someS vs 8 900).1 (someS vs 8 900).2) ∧ Below W.heap.size W w') := Lib.hid fun W hW => ssome_to ⟨id, fi, st, vs⟩ ⟨S, sn, sc, V, vn, vc⟩ 8 900 W (hi.below hW) (by omega) (by omega) (by omega) (by omega)
 clear hi
 have hx8 := xsS_len fi st
 have hlV : (slopedL vs 0 300 true (xsS fi st) (xsS fi st).length).length ≤ 40 := by unfold slopedL; rw [if_pos rfl, rowsTo_len _ _ _ (Nat.le_refl _)]; omega
 have hlH : (slopedL vs 11 90 true (xsS fi st) (xsS fi st).length).length ≤ 40 := by unfold slopedL; rw [if_pos rfl, rowsTo_len _ _ _ (Nat.le_refl _)]; omega
 have hlM : (rowsTo (xsS fi st) (freeF vs 5 800) (xsS fi st).length).length ≤ 40 := by rw [rowsTo_len _ _ _ (Nat.le_refl _)]; omega
 have hlV0 : (slopedL vs 0 300 true (xsS fi st) (xsS fi st).length).length = (xsS fi st).length := by unfold slopedL; rw [if_pos rfl, rowsTo_len _ _ _ (Nat.le_refl _)]
 obtain ⟨x0, hx0⟩ : ∃ x, (xsS fi st)[0]? = some x := ⟨_, List.getElem?_eq_getElem (by omega)⟩
 have htop : (slopedL vs 0 300 true (xsS fi st) (xsS fi st).length)[0]? = some (x0, slopeF vs 0 300 ((xsS fi st).length - 1)) := by
  unfold slopedL; rw [if_pos rfl, rowsTo_get _ 0 x0 (Nat.le_refl _) (by omega) hx0]; rfl
 have hsl := slopeF_in vs 0 (mo := 300) (by omega) (by omega) ((xsS fi st).length - 1) (by omega)
 unfold madeH
 dsimp only
 obtain ⟨⟨tl, th⟩, hT⟩ : ∃ y, slopeF vs 0 300 ((xsS fi st).length - 1) = y := ⟨_, rfl⟩
 rw [hT] at htop hsl ⊢
 dsimp only at hsl
 obtain ⟨n1, n2, n3⟩ := hsl
 have n4 : th ≤ 20000000 := by omega
 have HX8 : Hid (2 ≤ (xsS fi st).length ∧ (xsS fi st).length ≤ 8) := Lib.hid hx8
 have HLV := Lib.hid hlV; have HLH := Lib.hid hlH; have HLM := Lib.hid hlM; have HLV0 := Lib.hid hlV0; have HTOP := Lib.hid htop
 obtain ⟨LV, hLV⟩ : ∃ l, slopedL vs 0 300 true (xsS fi st) (xsS fi st).length = l := ⟨_, rfl⟩
 obtain ⟨LH, hLH⟩ : ∃ l, slopedL vs 11 90 true (xsS fi st) (xsS fi st).length = l := ⟨_, rfl⟩
 obtain ⟨LM, hLM⟩ : ∃ l, rowsTo (xsS fi st) (freeF vs 5 800) (xsS fi st).length = l := ⟨_, rfl⟩
 rw [hLV] at CSV HLV HLV0 HTOP ⊢
 rw [hLH] at CSH HLH ⊢
 rw [hLM] at CFM HLM ⊢
 obtain ⟨NX, hNX⟩ : ∃ l, (xsS fi st).length = l := ⟨_, rfl⟩
 rw [hNX] at HX8 HLV0
 clear hLV hLH hLM hNX hlV hlH hlM hlV0 htop hx8 hT hx0
 obtain ⟨⟨tr0, tr1⟩, hs1⟩ : ∃ y, someS vs 3 200 = y := ⟨_, rfl⟩
 obtain ⟨⟨ut0, ut1⟩, hs2⟩ : ∃ y, someS vs 4 400 = y := ⟨_, rfl⟩
 obtain ⟨⟨he0, he1⟩, hs3⟩ : ∃ y, someS vs 8 900 = y := ⟨_, rfl⟩
 rw [hs1] at CST ⊢
 rw [hs2] at CSU ⊢
 rw [hs3] at CSE ⊢
 dsimp only at CST CSU CSE ⊢
 clear hs1 hs2 hs3
 obtain ⟨P1, hP1⟩ : ∃ z, pickS vs 1 = z := ⟨_, rfl⟩
 have CP1 : Hid (∀ W, Below w.heap.size w W → Calls Tryz.prog 61 #[.slice V vn vc, .int .i64 1] W fun e w' => e = .returned (.int .i64 P1) ∧ Below W.heap.size W w') := Lib.hid fun W hW => int_to (HV.out W 1 hW) hP1
 rw [hP1]
 obtain ⟨P2, hP2⟩ : ∃ z, pickS vs 2 = z := ⟨_, rfl⟩
 have CP2 : Hid (∀ W, Below w.heap.size w W → Calls Tryz.prog 61 #[.slice V vn vc, .int .i64 2] W fun e w' => e = .returned (.int .i64 P2) ∧ Below W.heap.size W w') := Lib.hid fun W hW => int_to (HV.out W 2 hW) hP2
 rw [hP2]
 obtain ⟨P6, hP6⟩ : ∃ z, pickS vs 6 = z := ⟨_, rfl⟩
 have CP6 : Hid (∀ W, Below w.heap.size w W → Calls Tryz.prog 61 #[.slice V vn vc, .int .i64 6] W fun e w' => e = .returned (.int .i64 P6) ∧ Below W.heap.size W w') := Lib.hid fun W hW => int_to (HV.out W 6 hW) hP6
 rw [hP6]
 obtain ⟨P7, hP7⟩ : ∃ z, pickS vs 7 = z := ⟨_, rfl⟩
 have CP7 : Hid (∀ W, Below w.heap.size w W → Calls Tryz.prog 61 #[.slice V vn vc, .int .i64 7] W fun e w' => e = .returned (.int .i64 P7) ∧ Below W.heap.size W w') := Lib.hid fun W hW => int_to (HV.out W 7 hW) hP7
 rw [hP7]
 obtain ⟨b0, c0⟩ := emod_in id (show (0 : Int) < 9 by omega)
 obtain ⟨a9, ha9⟩ : ∃ z, id % 9 = z := ⟨_, rfl⟩
 rw [ha9] at b0 c0 ⊢
 have CM0 : Hid (∀ W, Calls Tryz.prog 23 #[.int .i64 id, .int .i64 9] W fun e w' => e = .returned (.int .i64 a9) ∧ Below W.heap.size W w') := Lib.hid fun W => int_to (smod_to id 9 W (by omega) (by omega)) ha9
 obtain ⟨b1, c1⟩ := emod_in P1 (show (0 : Int) < 2001 by omega)
 obtain ⟨d1, hd1⟩ : ∃ z, P1 % 2001 = z := ⟨_, rfl⟩
 rw [hd1] at b1 c1 ⊢
 have CM1 : Hid (∀ W, Calls Tryz.prog 23 #[.int .i64 P1, .int .i64 2001] W fun e w' => e = .returned (.int .i64 d1) ∧ Below W.heap.size W w') := Lib.hid fun W => int_to (smod_to P1 2001 W (by omega) (by omega)) hd1
 obtain ⟨b2, c2⟩ := emod_in P2 (show (0 : Int) < 30 by omega)
 obtain ⟨d2, hd2⟩ : ∃ z, P2 % 30 = z := ⟨_, rfl⟩
 rw [hd2] at b2 c2 ⊢
 have CM2 : Hid (∀ W, Calls Tryz.prog 23 #[.int .i64 P2, .int .i64 30] W fun e w' => e = .returned (.int .i64 d2) ∧ Below W.heap.size W w') := Lib.hid fun W => int_to (smod_to P2 30 W (by omega) (by omega)) hd2
 obtain ⟨b6, c6⟩ := emod_in P6 (show (0 : Int) < 9 by omega)
 obtain ⟨d6, hd6⟩ : ∃ z, P6 % 9 = z := ⟨_, rfl⟩
 rw [hd6] at b6 c6 ⊢
 have CM6 : Hid (∀ W, Calls Tryz.prog 23 #[.int .i64 P6, .int .i64 9] W fun e w' => e = .returned (.int .i64 d6) ∧ Below W.heap.size W w') := Lib.hid fun W => int_to (smod_to P6 9 W (by omega) (by omega)) hd6
 obtain ⟨b7, c7⟩ := emod_in P7 (show (0 : Int) < 9 by omega)
 obtain ⟨d7, hd7⟩ : ∃ z, P7 % 9 = z := ⟨_, rfl⟩
 rw [hd7] at b7 c7 ⊢
 have CM7 : Hid (∀ W, Calls Tryz.prog 23 #[.int .i64 P7, .int .i64 9] W fun e w' => e = .returned (.int .i64 d7) ∧ Below W.heap.size W w') := Lib.hid fun W => int_to (smod_to P7 9 W (by omega) (by omega)) hd7
 obtain ⟨idd, hidd⟩ : ∃ z, 1 + a9 = z := ⟨_, rfl⟩
 have w1 : IntKind.i64.wrap (1 + a9) = idd := by rw [IntWalk.i64_in _ ⟨by omega, by omega⟩]; exact hidd
 rw [hidd]
 obtain ⟨al, hal⟩ : ∃ z, d1 - 1000 = z := ⟨_, rfl⟩
 have w2 : IntKind.i64.wrap (d1 - 1000) = al := by rw [IntWalk.i64_in _ ⟨by omega, by omega⟩]; exact hal
 rw [hal]
 obtain ⟨ah, hah⟩ : ∃ z, al + d2 = z := ⟨_, rfl⟩
 have w3 : IntKind.i64.wrap (al + d2) = ah := by rw [IntWalk.i64_in _ ⟨by omega, by omega⟩]; exact hah
 rw [hah]
 obtain ⟨v0, hv0⟩ : ∃ z, tl + d6 = z := ⟨_, rfl⟩
 have w4 : IntKind.i64.wrap (tl + d6) = v0 := by rw [IntWalk.i64_in _ ⟨by omega, by omega⟩]; exact hv0
 rw [hv0]
 obtain ⟨t9, ht9⟩ : ∃ z, th + 9 = z := ⟨_, rfl⟩
 have w5 : IntKind.i64.wrap (th + 9) = t9 := by rw [IntWalk.i64_in _ ⟨by omega, by omega⟩]; exact ht9
 rw [ht9]
 obtain ⟨v1, hv1⟩ : ∃ z, t9 + d7 = z := ⟨_, rfl⟩
 have w6 : IntKind.i64.wrap (t9 + d7) = v1 := by rw [IntWalk.i64_in _ ⟨by omega, by omega⟩]; exact hv1
 rw [hv1]
 clear hP1 hP2 hP6 hP7 ha9 hd1 hd2 hd6 hd7 hidd hal hah hv0 ht9 hv1 b0 b1 b2 b6 b7 c0 c1 c2 c6 c7 n1 n2 n3 n4 HV
 have HE := Lib.hid (show Below w.heap.size w ((w.alloc (.cells #[.int .i64 id, .int .i64 fi, .slice S sn sc, .slice V vn vc] 24)).alloc (.cells #[.int .i64 0, .int .i64 0, .int .i64 0, .slice none 0 0, .slice none 0 0, .slice none 0 0, .int .i64 0, .int .i64 0, .int .i64 0, .int .i64 0, .int .i64 0, .int .i64 0, .int .i64 0, .int .i64 0] 35)) from below_a2 (Below.refl _ _))
 have HK := Lib.hid (boxes2' w 24 35 #[.int .i64 id, .int .i64 fi, .slice S sn sc, .slice V vn vc] #[.int .i64 0, .int .i64 0, .int .i64 0, .slice none 0 0, .slice none 0 0, .slice none 0 0, .int .i64 0, .int .i64 0, .int .i64 0, .int .i64 0, .int .i64 0, .int .i64 0, .int .i64 0, .int .i64 0])
 go_enter Tryz.func13, Tryz.ntmps13
 go_upto_region 1 with fail
 obtain ⟨W0, hW0⟩ : ∃ W0 : World, ((w.alloc (.cells #[.int .i64 id, .int .i64 fi, .slice S sn sc, .slice V vn vc] 24)).alloc (.cells #[.int .i64 0, .int .i64 0, .int .i64 0, .slice none 0 0, .slice none 0 0, .slice none 0 0, .int .i64 0, .int .i64 0, .int .i64 0, .int .i64 0, .int .i64 0, .int .i64 0, .int .i64 0, .int .i64 0] 35)) = W0 := ⟨_, rfl⟩
 rw [hW0] at HE HK ⊢
 clear hW0
 obtain ⟨G, hG⟩ : ∃ G, w.heap.size = G := ⟨_, rfl⟩
 rw [hG] at HK ⊢
 have HG := Lib.hid hG; clear hG
 have r_ := HK.out _ (.tail _ (.head _))
 have r_0 := r_.cell 0
 have r_1 := r_.cell 1
 have r_2 := r_.cell 2
 have r_3 := r_.cell 3
 simp at r_0 r_1 r_2 r_3
 clear r_
 go_wp2_with fail
 refine (CM0.out _).mono ?_
 rintro e y1 ⟨rfl, hq⟩
 clear r_0 r_1 r_2 r_3
 have HKq := Lib.hid (HK.out.on hq); have HEq := Lib.hid (below_then HE.out hq)
 clear hq HK HE CM0
 go_upto_region 2 with fail
 have HX0 := Lib.hid (HKq.out.new 35 #[.int .i64 idd, .int .i64 0, .int .i64 0, .slice none 0 0, .slice none 0 0, .slice none 0 0, .int .i64 0, .int .i64 0, .int .i64 0, .int .i64 0, .int .i64 0, .int .i64 0, .int .i64 0, .int .i64 0]); have HB0 := Lib.hid (below_then HEq.out (below_alloc1 y1 (.cells #[.int .i64 idd, .int .i64 0, .int .i64 0, .slice none 0 0, .slice none 0 0, .slice none 0 0, .int .i64 0, .int .i64 0, .int .i64 0, .int .i64 0, .int .i64 0, .int .i64 0, .int .i64 0, .int .i64 0] 35)))
 have HMG : Hid (G + 1 < y1.heap.size ∧ w.heap.size ≤ G) := Lib.hid ⟨(HKq.out _ (.head _)).lt, by rw [HG.out]; exact Nat.le_refl _⟩
 clear HKq HEq w1
 obtain ⟨V0, hW⟩ : ∃ W', y1.alloc (.cells #[.int .i64 idd, .int .i64 0, .int .i64 0, .slice none 0 0, .slice none 0 0, .slice none 0 0, .int .i64 0, .int .i64 0, .int .i64 0, .int .i64 0, .int .i64 0, .int .i64 0, .int .i64 0, .int .i64 0] 35) = W' := ⟨_, rfl⟩
 rw [hW] at HX0 HB0 ⊢
 clear hW
 obtain ⟨M, hM⟩ : ∃ M, y1.heap.size = M := ⟨_, rfl⟩
 rw [hM] at HX0 HMG ⊢
 clear hM
 have HFAR : Hid (∀ p ∈ ([(G + 1, 35, #[.int .i64 0, .int .i64 0, .int .i64 0, .slice none 0 0, .slice none 0 0, .slice none 0 0, .int .i64 0, .int .i64 0, .int .i64 0, .int .i64 0, .int .i64 0, .int .i64 0, .int .i64 0, .int .i64 0]), (G, 24, #[.int .i64 id, .int .i64 fi, .slice S sn sc, .slice V vn vc])] : List (Nat × TypeId × Array Value)), p.1 ≠ M) := Lib.hid (fun p hp => by
  have hm := HMG.out
  simp only [List.mem_cons, List.not_mem_nil, or_false] at hp
  rcases hp with h | h <;> (rw [h]; dsimp only; omega))
 have r_ := HX0.out _ (.tail _ (.tail _ (.head _)))
 have r_0 := r_.cell 0
 have r_1 := r_.cell 1
 have r_2 := r_.cell 2
 have r_3 := r_.cell 3
 simp at r_0 r_1 r_2 r_3
 clear r_
 go_wp2_with fail
 refine (CP1.out _ HB0.out).mono ?_
 rintro e z1 ⟨rfl, hq⟩
 have HB1 := Lib.hid (below_then HB0.out hq); have HX1 := Lib.hid (HX0.out.on hq)
 clear hq HB0 HX0 r_0 r_1 r_2 r_3
 clear CP1
 go_wp2_with fail
 refine (CM1.out _).mono ?_
 rintro e z2 ⟨rfl, hq⟩
 have HB2 := Lib.hid (below_then HB1.out hq); have HX2 := Lib.hid (HX1.out.on hq)
 clear hq HB1 HX1 
 clear CM1
 have r_ := HX2.out _ (.tail _ (.tail _ (.head _)))
 have r_0 := r_.cell 0
 have r_1 := r_.cell 1
 have r_2 := r_.cell 2
 have r_3 := r_.cell 3
 simp at r_0 r_1 r_2 r_3
 clear r_
 go_wp2_with fail
 refine (CP2.out _ HB2.out).mono ?_
 rintro e z3 ⟨rfl, hq⟩
 have HB3 := Lib.hid (below_then HB2.out hq); have HX3 := Lib.hid (HX2.out.on hq)
 clear hq HB2 HX2 r_0 r_1 r_2 r_3
 clear CP2 w2
 go_wp2_with fail
 refine (CM2.out _).mono ?_
 rintro e z4 ⟨rfl, hq⟩
 have HB4 := Lib.hid (below_then HB3.out hq); have HX4 := Lib.hid (HX3.out.on hq)
 clear hq HB3 HX3 
 clear CM2
 have m_ := HX4.out _ (.head _)
 have m_1 := m_.cell 1
 have m_f1 := m_.frozen 1
 have m_2 := m_.cell 2
 have m_f2 := m_.frozen 2
 have m_l := m_.lt
 simp at m_1 m_f1 m_2 m_f2
 clear m_
 go_upto_region 4 with fail
 have HXs4_0 : Hid (Boxes ((z4).setCell ⟨M, 1, none⟩ (.int .i64 al)) [(M, 35, #[.int .i64 idd, .int .i64 al, .int .i64 0, .slice none 0 0, .slice none 0 0, .slice none 0 0, .int .i64 0, .int .i64 0, .int .i64 0, .int .i64 0, .int .i64 0, .int .i64 0, .int .i64 0, .int .i64 0]), (G + 1, 35, #[.int .i64 0, .int .i64 0, .int .i64 0, .slice none 0 0, .slice none 0 0, .slice none 0 0, .int .i64 0, .int .i64 0, .int .i64 0, .int .i64 0, .int .i64 0, .int .i64 0, .int .i64 0, .int .i64 0]), (G, 24, #[.int .i64 id, .int .i64 fi, .slice S sn sc, .slice V vn vc])]) := Lib.hid (HX4.out.set1 HFAR.out 1 (.int .i64 al) _ rfl)
 have HXs4_1 : Hid (Boxes (((z4).setCell ⟨M, 1, none⟩ (.int .i64 al)).setCell ⟨M, 2, none⟩ (.int .i64 ah)) [(M, 35, #[.int .i64 idd, .int .i64 al, .int .i64 ah, .slice none 0 0, .slice none 0 0, .slice none 0 0, .int .i64 0, .int .i64 0, .int .i64 0, .int .i64 0, .int .i64 0, .int .i64 0, .int .i64 0, .int .i64 0]), (G + 1, 35, #[.int .i64 0, .int .i64 0, .int .i64 0, .slice none 0 0, .slice none 0 0, .slice none 0 0, .int .i64 0, .int .i64 0, .int .i64 0, .int .i64 0, .int .i64 0, .int .i64 0, .int .i64 0, .int .i64 0]), (G, 24, #[.int .i64 id, .int .i64 fi, .slice S sn sc, .slice V vn vc])]) := Lib.hid (HXs4_0.out.set1 HFAR.out 2 (.int .i64 ah) _ rfl)
 have HB5 : Hid (Below w.heap.size w (((z4).setCell ⟨M, 1, none⟩ (.int .i64 al)).setCell ⟨M, 2, none⟩ (.int .i64 ah))) := Lib.hid (by
  have hm := HMG.out
  repeat (first | exact HB4.out | refine Below.setCell ?_ (by simp <;> omega) _))
 have HX5 := HXs4_1
 obtain ⟨V5, hW⟩ : ∃ W', ((z4).setCell ⟨M, 1, none⟩ (.int .i64 al)).setCell ⟨M, 2, none⟩ (.int .i64 ah) = W' := ⟨_, rfl⟩
 rw [hW] at HB5 HX5  ⊢
 clear hW HB4 HX4 HXs4_0 m_1 m_f1 m_2 m_f2 m_l
 clear w3
 have r_ := HX5.out _ (.tail _ (.tail _ (.head _)))
 have r_0 := r_.cell 0
 have r_1 := r_.cell 1
 have r_2 := r_.cell 2
 have r_3 := r_.cell 3
 simp at r_0 r_1 r_2 r_3
 clear r_
 have HZA := Lib.hid (HX5.out _ (.head _)).lt
 go_wp2_with fail
 refine (CSV.out _ HB5.out).mono ?_
 rintro e z6 ⟨Av, rfl, ho, hq⟩
 have HB6 := Lib.hid (below_then HB5.out hq); have HX6 := Lib.hid (HX5.out.on hq)
 clear hq HB5 HX5 r_0 r_1 r_2 r_3
 obtain ⟨Ap, An, Ac, rfl⟩ := ho.slice
 have HTA : Hid (OwnPts (M + 1) z6 (.slice Ap An Ac) LV) := Lib.hid (OwnPts.monoY ho HZA.out)
 clear ho HZA CSV
 have m_ := HX6.out _ (.head _)
 have m_3 := m_.cell 3
 have m_f3 := m_.frozen 3
 have m_l := m_.lt
 simp at m_3 m_f3
 clear m_
 go_upto_region 5 with fail
 have HXs6_0 : Hid (Boxes ((z6).setCell ⟨M, 3, none⟩ (.slice Ap An Ac)) [(M, 35, #[.int .i64 idd, .int .i64 al, .int .i64 ah, .slice Ap An Ac, .slice none 0 0, .slice none 0 0, .int .i64 0, .int .i64 0, .int .i64 0, .int .i64 0, .int .i64 0, .int .i64 0, .int .i64 0, .int .i64 0]), (G + 1, 35, #[.int .i64 0, .int .i64 0, .int .i64 0, .slice none 0 0, .slice none 0 0, .slice none 0 0, .int .i64 0, .int .i64 0, .int .i64 0, .int .i64 0, .int .i64 0, .int .i64 0, .int .i64 0, .int .i64 0]), (G, 24, #[.int .i64 id, .int .i64 fi, .slice S sn sc, .slice V vn vc])]) := Lib.hid (HX6.out.set1 HFAR.out 3 (.slice Ap An Ac) _ rfl)
 have HB7 : Hid (Below w.heap.size w ((z6).setCell ⟨M, 3, none⟩ (.slice Ap An Ac))) := Lib.hid (by
  have hm := HMG.out
  repeat (first | exact HB6.out | refine Below.setCell ?_ (by simp <;> omega) _))
 have HX7 := HXs6_0
 have HTA : Hid (OwnPts (M + 1) ((z6).setCell ⟨M, 3, none⟩ (.slice Ap An Ac)) (.slice Ap An Ac) LV) := Lib.hid ((HTA.out).keptAt (Nat.lt_succ_self M))
 obtain ⟨V7, hW⟩ : ∃ W', (z6).setCell ⟨M, 3, none⟩ (.slice Ap An Ac) = W' := ⟨_, rfl⟩
 rw [hW] at HB7 HX7 HTA ⊢
 clear hW HB6 HX6  m_3 m_f3 m_l
 have r_ := HX7.out _ (.tail _ (.tail _ (.head _)))
 have r_0 := r_.cell 0
 have r_1 := r_.cell 1
 have r_2 := r_.cell 2
 have r_3 := r_.cell 3
 simp at r_0 r_1 r_2 r_3
 clear r_
 have HZB := Lib.hid (HX7.out _ (.head _)).lt
 go_wp2_with fail
 refine (CFM.out _ HB7.out).mono ?_
 rintro e z8 ⟨Bv, rfl, ho, hq⟩
 have HB8 := Lib.hid (below_then HB7.out hq); have HX8 := Lib.hid (HX7.out.on hq)
 have HTA := Lib.hid (OwnPts.below HTA.out hq)
 clear hq HB7 HX7 r_0 r_1 r_2 r_3
 obtain ⟨Bp, Bn, Bc, rfl⟩ := ho.slice
 have HTB : Hid (OwnPts (M + 1) z8 (.slice Bp Bn Bc) LM) := Lib.hid (OwnPts.monoY ho HZB.out)
 clear ho HZB CFM
 have m_ := HX8.out _ (.head _)
 have m_4 := m_.cell 4
 have m_f4 := m_.frozen 4
 have m_l := m_.lt
 simp at m_4 m_f4
 clear m_
 go_upto_region 6 with fail
 have HXs8_0 : Hid (Boxes ((z8).setCell ⟨M, 4, none⟩ (.slice Bp Bn Bc)) [(M, 35, #[.int .i64 idd, .int .i64 al, .int .i64 ah, .slice Ap An Ac, .slice Bp Bn Bc, .slice none 0 0, .int .i64 0, .int .i64 0, .int .i64 0, .int .i64 0, .int .i64 0, .int .i64 0, .int .i64 0, .int .i64 0]), (G + 1, 35, #[.int .i64 0, .int .i64 0, .int .i64 0, .slice none 0 0, .slice none 0 0, .slice none 0 0, .int .i64 0, .int .i64 0, .int .i64 0, .int .i64 0, .int .i64 0, .int .i64 0, .int .i64 0, .int .i64 0]), (G, 24, #[.int .i64 id, .int .i64 fi, .slice S sn sc, .slice V vn vc])]) := Lib.hid (HX8.out.set1 HFAR.out 4 (.slice Bp Bn Bc) _ rfl)
 have HB9 : Hid (Below w.heap.size w ((z8).setCell ⟨M, 4, none⟩ (.slice Bp Bn Bc))) := Lib.hid (by
  have hm := HMG.out
  repeat (first | exact HB8.out | refine Below.setCell ?_ (by simp <;> omega) _))
 have HX9 := HXs8_0
 have HTA : Hid (OwnPts (M + 1) ((z8).setCell ⟨M, 4, none⟩ (.slice Bp Bn Bc)) (.slice Ap An Ac) LV) := Lib.hid ((HTA.out).keptAt (Nat.lt_succ_self M))
 have HTB : Hid (OwnPts (M + 1) ((z8).setCell ⟨M, 4, none⟩ (.slice Bp Bn Bc)) (.slice Bp Bn Bc) LM) := Lib.hid ((HTB.out).keptAt (Nat.lt_succ_self M))
 obtain ⟨V9, hW⟩ : ∃ W', (z8).setCell ⟨M, 4, none⟩ (.slice Bp Bn Bc) = W' := ⟨_, rfl⟩
 rw [hW] at HB9 HX9 HTA HTB ⊢
 clear hW HB8 HX8  m_4 m_f4 m_l
 have r_ := HX9.out _ (.tail _ (.tail _ (.head _)))
 have r_0 := r_.cell 0
 have r_1 := r_.cell 1
 have r_2 := r_.cell 2
 have r_3 := r_.cell 3
 simp at r_0 r_1 r_2 r_3
 clear r_
 have HZC := Lib.hid (HX9.out _ (.head _)).lt
 go_wp2_with fail
 refine (CSH.out _ HB9.out).mono ?_
 rintro e z10 ⟨Cv, rfl, ho, hq⟩
 have HB10 := Lib.hid (below_then HB9.out hq); have HX10 := Lib.hid (HX9.out.on hq)
 have HTA := Lib.hid (OwnPts.below HTA.out hq)
 have HTB := Lib.hid (OwnPts.below HTB.out hq)
 clear hq HB9 HX9 r_0 r_1 r_2 r_3
 obtain ⟨Cp, Cn, Cc, rfl⟩ := ho.slice
 have HTC : Hid (OwnPts (M + 1) z10 (.slice Cp Cn Cc) LH) := Lib.hid (OwnPts.monoY ho HZC.out)
 clear ho HZC CSH
 have m_ := HX10.out _ (.head _)
 have m_5 := m_.cell 5
 have m_f5 := m_.frozen 5
 have m_l := m_.lt
 simp at m_5 m_f5
 clear m_
 go_upto_region 7 with fail
 have HXs10_0 : Hid (Boxes ((z10).setCell ⟨M, 5, none⟩ (.slice Cp Cn Cc)) [(M, 35, #[.int .i64 idd, .int .i64 al, .int .i64 ah, .slice Ap An Ac, .slice Bp Bn Bc, .slice Cp Cn Cc, .int .i64 0, .int .i64 0, .int .i64 0, .int .i64 0, .int .i64 0, .int .i64 0, .int .i64 0, .int .i64 0]), (G + 1, 35, #[.int .i64 0, .int .i64 0, .int .i64 0, .slice none 0 0, .slice none 0 0, .slice none 0 0, .int .i64 0, .int .i64 0, .int .i64 0, .int .i64 0, .int .i64 0, .int .i64 0, .int .i64 0, .int .i64 0]), (G, 24, #[.int .i64 id, .int .i64 fi, .slice S sn sc, .slice V vn vc])]) := Lib.hid (HX10.out.set1 HFAR.out 5 (.slice Cp Cn Cc) _ rfl)
 have HB11 : Hid (Below w.heap.size w ((z10).setCell ⟨M, 5, none⟩ (.slice Cp Cn Cc))) := Lib.hid (by
  have hm := HMG.out
  repeat (first | exact HB10.out | refine Below.setCell ?_ (by simp <;> omega) _))
 have HX11 := HXs10_0
 have HTA : Hid (OwnPts (M + 1) ((z10).setCell ⟨M, 5, none⟩ (.slice Cp Cn Cc)) (.slice Ap An Ac) LV) := Lib.hid ((HTA.out).keptAt (Nat.lt_succ_self M))
 have HTB : Hid (OwnPts (M + 1) ((z10).setCell ⟨M, 5, none⟩ (.slice Cp Cn Cc)) (.slice Bp Bn Bc) LM) := Lib.hid ((HTB.out).keptAt (Nat.lt_succ_self M))
 have HTC : Hid (OwnPts (M + 1) ((z10).setCell ⟨M, 5, none⟩ (.slice Cp Cn Cc)) (.slice Cp Cn Cc) LH) := Lib.hid ((HTC.out).keptAt (Nat.lt_succ_self M))
 obtain ⟨V11, hW⟩ : ∃ W', (z10).setCell ⟨M, 5, none⟩ (.slice Cp Cn Cc) = W' := ⟨_, rfl⟩
 rw [hW] at HB11 HX11 HTA HTB HTC ⊢
 clear hW HB10 HX10  m_5 m_f5 m_l
 have r_ := HX11.out _ (.tail _ (.tail _ (.head _)))
 have r_0 := r_.cell 0
 have r_1 := r_.cell 1
 have r_2 := r_.cell 2
 have r_3 := r_.cell 3
 simp at r_0 r_1 r_2 r_3
 clear r_
 go_wp2_with fail
 refine (CST.out _ HB11.out).mono ?_
 rintro e z12 ⟨rfl, hq⟩
 have HB12 := Lib.hid (below_then HB11.out hq); have HX12 := Lib.hid (HX11.out.on hq)
 have HTA := Lib.hid (OwnPts.below HTA.out hq)
 have HTB := Lib.hid (OwnPts.below HTB.out hq)
 have HTC := Lib.hid (OwnPts.below HTC.out hq)
 clear hq HB11 HX11 r_0 r_1 r_2 r_3
 clear CST
 have m_ := HX12.out _ (.head _)
 have m_6 := m_.cell 6
 have m_f6 := m_.frozen 6
 have m_7 := m_.cell 7
 have m_f7 := m_.frozen 7
 have m_l := m_.lt
 simp at m_6 m_f6 m_7 m_f7
 clear m_
 go_upto_region 8 with fail
 have HXs12_0 : Hid (Boxes ((z12).setCell ⟨M, 6, none⟩ (.int .i64 tr0)) [(M, 35, #[.int .i64 idd, .int .i64 al, .int .i64 ah, .slice Ap An Ac, .slice Bp Bn Bc, .slice Cp Cn Cc, .int .i64 tr0, .int .i64 0, .int .i64 0, .int .i64 0, .int .i64 0, .int .i64 0, .int .i64 0, .int .i64 0]), (G + 1, 35, #[.int .i64 0, .int .i64 0, .int .i64 0, .slice none 0 0, .slice none 0 0, .slice none 0 0, .int .i64 0, .int .i64 0, .int .i64 0, .int .i64 0, .int .i64 0, .int .i64 0, .int .i64 0, .int .i64 0]), (G, 24, #[.int .i64 id, .int .i64 fi, .slice S sn sc, .slice V vn vc])]) := Lib.hid (HX12.out.set1 HFAR.out 6 (.int .i64 tr0) _ rfl)
 have HXs12_1 : Hid (Boxes (((z12).setCell ⟨M, 6, none⟩ (.int .i64 tr0)).setCell ⟨M, 7, none⟩ (.int .i64 tr1)) [(M, 35, #[.int .i64 idd, .int .i64 al, .int .i64 ah, .slice Ap An Ac, .slice Bp Bn Bc, .slice Cp Cn Cc, .int .i64 tr0, .int .i64 tr1, .int .i64 0, .int .i64 0, .int .i64 0, .int .i64 0, .int .i64 0, .int .i64 0]), (G + 1, 35, #[.int .i64 0, .int .i64 0, .int .i64 0, .slice none 0 0, .slice none 0 0, .slice none 0 0, .int .i64 0, .int .i64 0, .int .i64 0, .int .i64 0, .int .i64 0, .int .i64 0, .int .i64 0, .int .i64 0]), (G, 24, #[.int .i64 id, .int .i64 fi, .slice S sn sc, .slice V vn vc])]) := Lib.hid (HXs12_0.out.set1 HFAR.out 7 (.int .i64 tr1) _ rfl)
 have HB13 : Hid (Below w.heap.size w (((z12).setCell ⟨M, 6, none⟩ (.int .i64 tr0)).setCell ⟨M, 7, none⟩ (.int .i64 tr1))) := Lib.hid (by
  have hm := HMG.out
  repeat (first | exact HB12.out | refine Below.setCell ?_ (by simp <;> omega) _))
 have HX13 := HXs12_1
 have HTA : Hid (OwnPts (M + 1) (((z12).setCell ⟨M, 6, none⟩ (.int .i64 tr0)).setCell ⟨M, 7, none⟩ (.int .i64 tr1)) (.slice Ap An Ac) LV) := Lib.hid (((HTA.out).keptAt (Nat.lt_succ_self M)).keptAt (Nat.lt_succ_self M))
 have HTB : Hid (OwnPts (M + 1) (((z12).setCell ⟨M, 6, none⟩ (.int .i64 tr0)).setCell ⟨M, 7, none⟩ (.int .i64 tr1)) (.slice Bp Bn Bc) LM) := Lib.hid (((HTB.out).keptAt (Nat.lt_succ_self M)).keptAt (Nat.lt_succ_self M))
 have HTC : Hid (OwnPts (M + 1) (((z12).setCell ⟨M, 6, none⟩ (.int .i64 tr0)).setCell ⟨M, 7, none⟩ (.int .i64 tr1)) (.slice Cp Cn Cc) LH) := Lib.hid (((HTC.out).keptAt (Nat.lt_succ_self M)).keptAt (Nat.lt_succ_self M))
 obtain ⟨V13, hW⟩ : ∃ W', ((z12).setCell ⟨M, 6, none⟩ (.int .i64 tr0)).setCell ⟨M, 7, none⟩ (.int .i64 tr1) = W' := ⟨_, rfl⟩
 rw [hW] at HB13 HX13 HTA HTB HTC ⊢
 clear hW HB12 HX12 HXs12_0 m_6 m_f6 m_7 m_f7 m_l
 have r_ := HX13.out _ (.tail _ (.tail _ (.head _)))
 have r_0 := r_.cell 0
 have r_1 := r_.cell 1
 have r_2 := r_.cell 2
 have r_3 := r_.cell 3
 simp at r_0 r_1 r_2 r_3
 clear r_
 go_wp2_with fail
 refine (CSU.out _ HB13.out).mono ?_
 rintro e z14 ⟨rfl, hq⟩
 have HB14 := Lib.hid (below_then HB13.out hq); have HX14 := Lib.hid (HX13.out.on hq)
 have HTA := Lib.hid (OwnPts.below HTA.out hq)
 have HTB := Lib.hid (OwnPts.below HTB.out hq)
 have HTC := Lib.hid (OwnPts.below HTC.out hq)
 clear hq HB13 HX13 r_0 r_1 r_2 r_3
 clear CSU
 have m_ := HX14.out _ (.head _)
 have m_8 := m_.cell 8
 have m_f8 := m_.frozen 8
 have m_9 := m_.cell 9
 have m_f9 := m_.frozen 9
 have m_l := m_.lt
 simp at m_8 m_f8 m_9 m_f9
 clear m_
 go_upto_region 9 with fail
 have HXs14_0 : Hid (Boxes ((z14).setCell ⟨M, 8, none⟩ (.int .i64 ut0)) [(M, 35, #[.int .i64 idd, .int .i64 al, .int .i64 ah, .slice Ap An Ac, .slice Bp Bn Bc, .slice Cp Cn Cc, .int .i64 tr0, .int .i64 tr1, .int .i64 ut0, .int .i64 0, .int .i64 0, .int .i64 0, .int .i64 0, .int .i64 0]), (G + 1, 35, #[.int .i64 0, .int .i64 0, .int .i64 0, .slice none 0 0, .slice none 0 0, .slice none 0 0, .int .i64 0, .int .i64 0, .int .i64 0, .int .i64 0, .int .i64 0, .int .i64 0, .int .i64 0, .int .i64 0]), (G, 24, #[.int .i64 id, .int .i64 fi, .slice S sn sc, .slice V vn vc])]) := Lib.hid (HX14.out.set1 HFAR.out 8 (.int .i64 ut0) _ rfl)
 have HXs14_1 : Hid (Boxes (((z14).setCell ⟨M, 8, none⟩ (.int .i64 ut0)).setCell ⟨M, 9, none⟩ (.int .i64 ut1)) [(M, 35, #[.int .i64 idd, .int .i64 al, .int .i64 ah, .slice Ap An Ac, .slice Bp Bn Bc, .slice Cp Cn Cc, .int .i64 tr0, .int .i64 tr1, .int .i64 ut0, .int .i64 ut1, .int .i64 0, .int .i64 0, .int .i64 0, .int .i64 0]), (G + 1, 35, #[.int .i64 0, .int .i64 0, .int .i64 0, .slice none 0 0, .slice none 0 0, .slice none 0 0, .int .i64 0, .int .i64 0, .int .i64 0, .int .i64 0, .int .i64 0, .int .i64 0, .int .i64 0, .int .i64 0]), (G, 24, #[.int .i64 id, .int .i64 fi, .slice S sn sc, .slice V vn vc])]) := Lib.hid (HXs14_0.out.set1 HFAR.out 9 (.int .i64 ut1) _ rfl)
 have HB15 : Hid (Below w.heap.size w (((z14).setCell ⟨M, 8, none⟩ (.int .i64 ut0)).setCell ⟨M, 9, none⟩ (.int .i64 ut1))) := Lib.hid (by
  have hm := HMG.out
  repeat (first | exact HB14.out | refine Below.setCell ?_ (by simp <;> omega) _))
 have HX15 := HXs14_1
 have HTA : Hid (OwnPts (M + 1) (((z14).setCell ⟨M, 8, none⟩ (.int .i64 ut0)).setCell ⟨M, 9, none⟩ (.int .i64 ut1)) (.slice Ap An Ac) LV) := Lib.hid (((HTA.out).keptAt (Nat.lt_succ_self M)).keptAt (Nat.lt_succ_self M))
 have HTB : Hid (OwnPts (M + 1) (((z14).setCell ⟨M, 8, none⟩ (.int .i64 ut0)).setCell ⟨M, 9, none⟩ (.int .i64 ut1)) (.slice Bp Bn Bc) LM) := Lib.hid (((HTB.out).keptAt (Nat.lt_succ_self M)).keptAt (Nat.lt_succ_self M))
 have HTC : Hid (OwnPts (M + 1) (((z14).setCell ⟨M, 8, none⟩ (.int .i64 ut0)).setCell ⟨M, 9, none⟩ (.int .i64 ut1)) (.slice Cp Cn Cc) LH) := Lib.hid (((HTC.out).keptAt (Nat.lt_succ_self M)).keptAt (Nat.lt_succ_self M))
 obtain ⟨V15, hW⟩ : ∃ W', ((z14).setCell ⟨M, 8, none⟩ (.int .i64 ut0)).setCell ⟨M, 9, none⟩ (.int .i64 ut1) = W' := ⟨_, rfl⟩
 rw [hW] at HB15 HX15 HTA HTB HTC ⊢
 clear hW HB14 HX14 HXs14_0 m_8 m_f8 m_9 m_f9 m_l
 have r_ := HX15.out _ (.tail _ (.tail _ (.head _)))
 have r_0 := r_.cell 0
 have r_1 := r_.cell 1
 have r_2 := r_.cell 2
 have r_3 := r_.cell 3
 simp at r_0 r_1 r_2 r_3
 clear r_
 go_wp2_with fail
 refine (CSE.out _ HB15.out).mono ?_
 rintro e z16 ⟨rfl, hq⟩
 have HB16 := Lib.hid (below_then HB15.out hq); have HX16 := Lib.hid (HX15.out.on hq)
 have HTA := Lib.hid (OwnPts.below HTA.out hq)
 have HTB := Lib.hid (OwnPts.below HTB.out hq)
 have HTC := Lib.hid (OwnPts.below HTC.out hq)
 clear hq HB15 HX15 r_0 r_1 r_2 r_3
 clear CSE
 have m_ := HX16.out _ (.head _)
 have m_12 := m_.cell 12
 have m_f12 := m_.frozen 12
 have m_13 := m_.cell 13
 have m_f13 := m_.frozen 13
 have m_l := m_.lt
 simp at m_12 m_f12 m_13 m_f13
 clear m_
 go_upto_region 10 with fail
 have HXs16_0 : Hid (Boxes ((z16).setCell ⟨M, 12, none⟩ (.int .i64 he0)) [(M, 35, #[.int .i64 idd, .int .i64 al, .int .i64 ah, .slice Ap An Ac, .slice Bp Bn Bc, .slice Cp Cn Cc, .int .i64 tr0, .int .i64 tr1, .int .i64 ut0, .int .i64 ut1, .int .i64 0, .int .i64 0, .int .i64 he0, .int .i64 0]), (G + 1, 35, #[.int .i64 0, .int .i64 0, .int .i64 0, .slice none 0 0, .slice none 0 0, .slice none 0 0, .int .i64 0, .int .i64 0, .int .i64 0, .int .i64 0, .int .i64 0, .int .i64 0, .int .i64 0, .int .i64 0]), (G, 24, #[.int .i64 id, .int .i64 fi, .slice S sn sc, .slice V vn vc])]) := Lib.hid (HX16.out.set1 HFAR.out 12 (.int .i64 he0) _ rfl)
 have HXs16_1 : Hid (Boxes (((z16).setCell ⟨M, 12, none⟩ (.int .i64 he0)).setCell ⟨M, 13, none⟩ (.int .i64 he1)) [(M, 35, #[.int .i64 idd, .int .i64 al, .int .i64 ah, .slice Ap An Ac, .slice Bp Bn Bc, .slice Cp Cn Cc, .int .i64 tr0, .int .i64 tr1, .int .i64 ut0, .int .i64 ut1, .int .i64 0, .int .i64 0, .int .i64 he0, .int .i64 he1]), (G + 1, 35, #[.int .i64 0, .int .i64 0, .int .i64 0, .slice none 0 0, .slice none 0 0, .slice none 0 0, .int .i64 0, .int .i64 0, .int .i64 0, .int .i64 0, .int .i64 0, .int .i64 0, .int .i64 0, .int .i64 0]), (G, 24, #[.int .i64 id, .int .i64 fi, .slice S sn sc, .slice V vn vc])]) := Lib.hid (HXs16_0.out.set1 HFAR.out 13 (.int .i64 he1) _ rfl)
 have HB17 : Hid (Below w.heap.size w (((z16).setCell ⟨M, 12, none⟩ (.int .i64 he0)).setCell ⟨M, 13, none⟩ (.int .i64 he1))) := Lib.hid (by
  have hm := HMG.out
  repeat (first | exact HB16.out | refine Below.setCell ?_ (by simp <;> omega) _))
 have HX17 := HXs16_1
 have HTA : Hid (OwnPts (M + 1) (((z16).setCell ⟨M, 12, none⟩ (.int .i64 he0)).setCell ⟨M, 13, none⟩ (.int .i64 he1)) (.slice Ap An Ac) LV) := Lib.hid (((HTA.out).keptAt (Nat.lt_succ_self M)).keptAt (Nat.lt_succ_self M))
 have HTB : Hid (OwnPts (M + 1) (((z16).setCell ⟨M, 12, none⟩ (.int .i64 he0)).setCell ⟨M, 13, none⟩ (.int .i64 he1)) (.slice Bp Bn Bc) LM) := Lib.hid (((HTB.out).keptAt (Nat.lt_succ_self M)).keptAt (Nat.lt_succ_self M))
 have HTC : Hid (OwnPts (M + 1) (((z16).setCell ⟨M, 12, none⟩ (.int .i64 he0)).setCell ⟨M, 13, none⟩ (.int .i64 he1)) (.slice Cp Cn Cc) LH) := Lib.hid (((HTC.out).keptAt (Nat.lt_succ_self M)).keptAt (Nat.lt_succ_self M))
 obtain ⟨V17, hW⟩ : ∃ W', ((z16).setCell ⟨M, 12, none⟩ (.int .i64 he0)).setCell ⟨M, 13, none⟩ (.int .i64 he1) = W' := ⟨_, rfl⟩
 rw [hW] at HB17 HX17 HTA HTB HTC ⊢
 clear hW HB16 HX16 HXs16_0 m_12 m_f12 m_13 m_f13 m_l
 obtain ⟨gv, cv, hsl, hg1, hg2, hg3⟩ := own_pts_mem HTA.out HLV0.out (by have := HX8.out; omega)
 injection hsl with e1 e2 e3
 subst e1 e2 e3
 obtain ⟨q0, q1, q2⟩ := hg3 0 _ HTOP.out
 simp at q0 q1 q2
 have k1 : (0 : Int) < (An : Int) := by have := HX8.out; omega
 have m_ := HX17.out _ (.head _)
 have m_3 := m_.cell 3
 simp at m_3
 clear m_
 go_upto_region 11 with fail
 have HXp := Lib.hid (HX17.out.new 110 #[.int .i64 x0, .int .i64 tl, .int .i64 th]); have HBp := Lib.hid (below_then HB17.out (below_alloc1 V17 (.cells #[.int .i64 x0, .int .i64 tl, .int .i64 th] 110)))
 have HTA := Lib.hid (OwnPts.below HTA.out (below_alloc1 V17 (.cells #[.int .i64 x0, .int .i64 tl, .int .i64 th] 110))); have HTB := Lib.hid (OwnPts.below HTB.out (below_alloc1 V17 (.cells #[.int .i64 x0, .int .i64 tl, .int .i64 th] 110))); have HTC := Lib.hid (OwnPts.below HTC.out (below_alloc1 V17 (.cells #[.int .i64 x0, .int .i64 tl, .int .i64 th] 110)))
 have HPM : Hid (M < V17.heap.size) := Lib.hid (HX17.out _ (.head _)).lt
 obtain ⟨Vp, hW⟩ : ∃ W', V17.alloc (.cells #[.int .i64 x0, .int .i64 tl, .int .i64 th] 110) = W' := ⟨_, rfl⟩
 rw [hW] at HXp HBp HTA HTB HTC ⊢
 clear hW
 obtain ⟨Np, hN⟩ : ∃ n, V17.heap.size = n := ⟨_, rfl⟩
 rw [hN] at HXp HPM ⊢
 clear hN m_3 q0 q1 q2 hg1 hg2 hg3 k1 HX17 HB17
 have hS0 : BB2 w [(Np, 110, #[.int .i64 x0, .int .i64 tl, .int .i64 th]), (G, 24, #[.int .i64 id, .int .i64 fi, .slice S sn sc, .slice V vn vc])] Vp.drew := ⟨HXp.out.sub (fun p hp => by
  simp only [List.mem_cons, List.not_mem_nil, or_false] at hp ⊢
  rcases hp with h | h <;> simp [h]), HBp.out.drew⟩
 have HW := Lib.hid (below_drew1 Vp)
 refine wp_region_held_drew (S := BB2 w [(Np, 110, #[.int .i64 x0, .int .i64 tl, .int .i64 th]), (G, 24, #[.int .i64 id, .int .i64 fi, .slice S sn sc, .slice V vn vc])]) (by kernel_rfl) hS0 (fun hHeld => ?_)
 obtain ⟨yq, hW⟩ : ∃ W', Vp.drew = W' := ⟨_, rfl⟩
 rw [hW] at hHeld HW ⊢
 clear hW hS0
 refine tK 48 (i := 0) (v := .pointer (some ⟨Np, 1, none⟩)) rfl rfl (by kernel_rfl) ?_ hHeld ?_
 ·intro w hSw; clear hSw; go_simp; try with_reducible rfl
 simp only [uZ, uS]
 refine tK 49 (i := 1) (v := .int .i64 tl) rfl rfl (by kernel_rfl) ?_ hHeld ?_
 ·intro w hSw; have cx := (hSw.1 _ (.head _)).cell 1; simp at cx; clear hSw; go_simp; try with_reducible rfl
 simp only [uZ, uS]
 refine tK 50 (i := 2) (v := .pointer (some ⟨G, 3, none⟩)) rfl rfl (by kernel_rfl) ?_ hHeld ?_
 ·intro w hSw; clear hSw; go_simp; try with_reducible rfl
 simp only [uZ, uS]
 refine tK 51 (i := 3) (v := .slice V vn vc) rfl rfl (by kernel_rfl) ?_ hHeld ?_
 ·intro w hSw; have cx := (hSw.1 _ (.tail _ (.head _))).cell 3; simp at cx; clear hSw; go_simp; try with_reducible rfl
 simp only [uZ, uS]
 refine tK 55 (i := 7) (v := .pointer (some ⟨Np, 2, none⟩)) rfl rfl (by kernel_rfl) ?_ hHeld ?_
 ·intro w hSw; clear hSw; go_simp; try with_reducible rfl
 simp only [uZ, uS]
 refine tK 56 (i := 8) (v := .int .i64 th) rfl rfl (by kernel_rfl) ?_ hHeld ?_
 ·intro w hSw; have cx := (hSw.1 _ (.head _)).cell 2; simp at cx; clear hSw; go_simp; try with_reducible rfl
 simp only [uZ, uS]
 refine tK 57 (i := 9) (v := .int .i64 t9) rfl rfl (by kernel_rfl) ?_ hHeld ?_
 ·intro w hSw; clear hSw; go_simp; first | done | exact w5
 simp only [uZ, uS]
 refine tK 58 (i := 10) (v := .pointer (some ⟨G, 3, none⟩)) rfl rfl (by kernel_rfl) ?_ hHeld ?_
 ·intro w hSw; clear hSw; go_simp; try with_reducible rfl
 simp only [uZ, uS]
 refine tK 59 (i := 11) (v := .slice V vn vc) rfl rfl (by kernel_rfl) ?_ hHeld ?_
 ·intro w hSw; have cx := (hSw.1 _ (.tail _ (.head _))).cell 3; simp at cx; clear hSw; go_simp; try with_reducible rfl
 simp only [uZ, uS]
 refine wpAnyH_ready (rs := [4]) (by kernel_rfl) (by simp) ?_
 refine AllReadyH.cons rfl (fun K hK => ?_) AllReadyH.nil
 go_simp
 (with_reducible refine (CP6.out _ hHeld.be2).mono ?_)
 rintro x y ⟨rfl, hq⟩
 have HW := Lib.hid (below_then HW.out hq)
 refine hK.out _ _ ⟨hHeld.1.on hq, below_then hHeld.2 hq⟩ (fun hHeld2 => ?_)
 clear hq
 try simp only [Act.put, uA, uZ, uS]
 clear hK K hHeld
 have hHeld := hHeld2
 clear hHeld2
 refine wpAnyH_ready (rs := [5]) (by kernel_rfl) (by simp) ?_
 refine AllReadyH.cons rfl (fun K hK => ?_) AllReadyH.nil
 go_simp
 (with_reducible refine (CM6.out _).mono ?_)
 rintro x y ⟨rfl, hq⟩
 have HW := Lib.hid (below_then HW.out hq)
 refine hK.out _ _ ⟨hHeld.1.on hq, below_then hHeld.2 hq⟩ (fun hHeld2 => ?_)
 clear hq
 try simp only [Act.put, uA, uZ, uS]
 clear hK K hHeld
 have hHeld := hHeld2
 clear hHeld2
 refine tK 54 (i := 6) (v := .int .i64 v0) rfl rfl (by kernel_rfl) ?_ hHeld ?_
 ·intro w hSw; clear hSw; go_simp; first | done | exact w4
 simp only [uZ, uS]
 refine wpAnyH_ready (rs := [12]) (by kernel_rfl) (by simp) ?_
 refine AllReadyH.cons rfl (fun K hK => ?_) AllReadyH.nil
 go_simp
 (with_reducible refine (CP7.out _ hHeld.be2).mono ?_)
 rintro x y ⟨rfl, hq⟩
 have HW := Lib.hid (below_then HW.out hq)
 refine hK.out _ _ ⟨hHeld.1.on hq, below_then hHeld.2 hq⟩ (fun hHeld2 => ?_)
 clear hq
 try simp only [Act.put, uA, uZ, uS]
 clear hK K hHeld
 have hHeld := hHeld2
 clear hHeld2
 refine wpAnyH_ready (rs := [13]) (by kernel_rfl) (by simp) ?_
 refine AllReadyH.cons rfl (fun K hK => ?_) AllReadyH.nil
 go_simp
 (with_reducible refine (CM7.out _).mono ?_)
 rintro x y ⟨rfl, hq⟩
 have HW := Lib.hid (below_then HW.out hq)
 refine hK.out _ _ ⟨hHeld.1.on hq, below_then hHeld.2 hq⟩ (fun hHeld2 => ?_)
 clear hq
 try simp only [Act.put, uA, uZ, uS]
 clear hK K hHeld
 have hHeld := hHeld2
 clear hHeld2
 refine tK 62 (i := 14) (v := .int .i64 v1) rfl rfl (by kernel_rfl) ?_ hHeld ?_
 ·intro w hSw; clear hSw; go_simp; first | done | exact w6
 simp only [uZ, uS]
 refine tK 63 (i := 15) (v := rv v0 v1) rfl rfl (by kernel_rfl) ?_ hHeld ?_
 ·intro w hSw; clear hSw; go_simp; try with_reducible rfl
 simp only [uZ, uS]
 refine tK 64 (i := 16) (v := .pointer (some ⟨M, 10, none⟩)) rfl rfl (by kernel_rfl) ?_ hHeld ?_
 ·intro w hSw; clear hSw; go_simp; try with_reducible rfl
 simp only [uZ, uS]
 rename World => Vq
 have HXq := Lib.hid ((HXp.out.on HW.out).sub (L' := [(M, 35, #[.int .i64 idd, .int .i64 al, .int .i64 ah, .slice (some ⟨gv, 0, none⟩) An Ac, .slice Bp Bn Bc, .slice Cp Cn Cc, .int .i64 tr0, .int .i64 tr1, .int .i64 ut0, .int .i64 ut1, .int .i64 0, .int .i64 0, .int .i64 he0, .int .i64 he1]), (G + 1, 35, #[.int .i64 0, .int .i64 0, .int .i64 0, .slice none 0 0, .slice none 0 0, .slice none 0 0, .int .i64 0, .int .i64 0, .int .i64 0, .int .i64 0, .int .i64 0, .int .i64 0, .int .i64 0, .int .i64 0]), (G, 24, #[.int .i64 id, .int .i64 fi, .slice S sn sc, .slice V vn vc])]) (fun p hp => .tail _ hp))
 have HTA := Lib.hid (OwnPts.below HTA.out HW.out); have HTB := Lib.hid (OwnPts.below HTB.out HW.out); have HTC := Lib.hid (OwnPts.below HTC.out HW.out)
 have HBq := Lib.hid hHeld.2
 have m_ := HXq.out _ (.head _)
 have m_10 := m_.cell 10
 have m_f10 := m_.frozen 10
 have m_11 := m_.cell 11
 have m_f11 := m_.frozen 11
 have m_l := m_.lt
 simp at m_10 m_f10 m_11 m_f11
 clear m_
 refine wpAnyH_ready (rs := [17]) (by kernel_rfl) (by simp) ?_
 refine AllReadyH.cons rfl (fun K hK => ?_) AllReadyH.nil
 go_simp
 have HXr : Hid (Boxes (Vq.setCell ⟨M, 10, none⟩ (.int .i64 v0)) [(M, 35, #[.int .i64 idd, .int .i64 al, .int .i64 ah, .slice (some ⟨gv, 0, none⟩) An Ac, .slice Bp Bn Bc, .slice Cp Cn Cc, .int .i64 tr0, .int .i64 tr1, .int .i64 ut0, .int .i64 ut1, .int .i64 v0, .int .i64 0, .int .i64 he0, .int .i64 he1]), (G + 1, 35, #[.int .i64 0, .int .i64 0, .int .i64 0, .slice none 0 0, .slice none 0 0, .slice none 0 0, .int .i64 0, .int .i64 0, .int .i64 0, .int .i64 0, .int .i64 0, .int .i64 0, .int .i64 0, .int .i64 0]), (G, 24, #[.int .i64 id, .int .i64 fi, .slice S sn sc, .slice V vn vc])]) := Lib.hid (HXq.out.set1 HFAR.out 10 (.int .i64 v0) _ rfl)
 have HXs : Hid (Boxes ((Vq.setCell ⟨M, 10, none⟩ (.int .i64 v0)).setCell ⟨M, 11, none⟩ (.int .i64 v1)) [(M, 35, #[.int .i64 idd, .int .i64 al, .int .i64 ah, .slice (some ⟨gv, 0, none⟩) An Ac, .slice Bp Bn Bc, .slice Cp Cn Cc, .int .i64 tr0, .int .i64 tr1, .int .i64 ut0, .int .i64 ut1, .int .i64 v0, .int .i64 v1, .int .i64 he0, .int .i64 he1]), (G + 1, 35, #[.int .i64 0, .int .i64 0, .int .i64 0, .slice none 0 0, .slice none 0 0, .slice none 0 0, .int .i64 0, .int .i64 0, .int .i64 0, .int .i64 0, .int .i64 0, .int .i64 0, .int .i64 0, .int .i64 0]), (G, 24, #[.int .i64 id, .int .i64 fi, .slice S sn sc, .slice V vn vc])]) := Lib.hid (HXr.out.set1 HFAR.out 11 (.int .i64 v1) _ rfl)
 have HBs : Hid (Below w.heap.size w ((Vq.setCell ⟨M, 10, none⟩ (.int .i64 v0)).setCell ⟨M, 11, none⟩ (.int .i64 v1))) := Lib.hid (by
  have hm := HMG.out
  repeat (first | exact HBq.out | refine Below.setCell ?_ (by simp <;> omega) _))
 have HTA := Lib.hid ((OwnPts.keptAt (i := 11) (u := .int .i64 v1) (OwnPts.keptAt (i := 10) (u := .int .i64 v0) HTA.out (Nat.lt_succ_self M)) (Nat.lt_succ_self M)))
 have HTB := Lib.hid ((OwnPts.keptAt (i := 11) (u := .int .i64 v1) (OwnPts.keptAt (i := 10) (u := .int .i64 v0) HTB.out (Nat.lt_succ_self M)) (Nat.lt_succ_self M)))
 have HTC := Lib.hid ((OwnPts.keptAt (i := 11) (u := .int .i64 v1) (OwnPts.keptAt (i := 10) (u := .int .i64 v0) HTC.out (Nat.lt_succ_self M)) (Nat.lt_succ_self M)))
 refine hK.out _ _ ⟨(hHeld.1.farRowless2 (by have := HPM.out; have := HMG.out; intro p hp; simp only [List.mem_cons, List.not_mem_nil, or_false] at hp; rcases hp with h | h <;> (rw [h]; dsimp only; omega)) 10 11 _ _), HBs.out⟩ (fun hHeld2 => ?_)
 try simp only [Act.put, uA, uZ, uS]
 clear hK K hHeld
 have hHeld := hHeld2
 clear hHeld2
 refine wpAnyH_done (by kernel_rfl) ?_ _
 clear hHeld HXr HXq HBq HW HXp HBp m_10 m_f10 m_11 m_f11 m_l
 obtain ⟨We, hW⟩ : ∃ W', ((Vq.setCell ⟨M, 10, none⟩ (.int .i64 v0)).setCell ⟨M, 11, none⟩ (.int .i64 v1)) = W' := ⟨_, rfl⟩
 rw [hW] at HXs HBs HTA HTB HTC ⊢
 clear hW
 have m_ := HXs.out _ (.head _)
 have m_0 := m_.cell 0
 have m_1 := m_.cell 1
 have m_2 := m_.cell 2
 have m_3 := m_.cell 3
 have m_4 := m_.cell 4
 have m_5 := m_.cell 5
 have m_6 := m_.cell 6
 have m_7 := m_.cell 7
 have m_8 := m_.cell 8
 have m_9 := m_.cell 9
 have m_10 := m_.cell 10
 have m_11 := m_.cell 11
 have m_12 := m_.cell 12
 have m_13 := m_.cell 13
 simp at m_0 m_1 m_2 m_3 m_4 m_5 m_6 m_7 m_8 m_9 m_10 m_11 m_12 m_13
 clear m_
 go_upto_region 12 with fail
 refine wp_region_lit ?_
 refine wpList_plain rfl (fun K hK => ?_)
 go_simp
 refine hK _ _ ?_
 clear hK K
 have HKR : Hid (Blk (We.setRow (G + 1) #[.int .i64 idd, .int .i64 al, .int .i64 ah, .slice (some ⟨gv, 0, none⟩) An Ac, .slice Bp Bn Bc, .slice Cp Cn Cc, .int .i64 tr0, .int .i64 tr1, .int .i64 ut0, .int .i64 ut1, .int .i64 v0, .int .i64 v1, .int .i64 he0, .int .i64 he1]) (G + 1) 35 #[.int .i64 idd, .int .i64 al, .int .i64 ah, .slice (some ⟨gv, 0, none⟩) An Ac, .slice Bp Bn Bc, .slice Cp Cn Cc, .int .i64 tr0, .int .i64 tr1, .int .i64 ut0, .int .i64 ut1, .int .i64 v0, .int .i64 v1, .int .i64 he0, .int .i64 he1]) := Lib.hid (setRow_heap We (G + 1) _ _ 35 _ (HXs.out _ (.tail _ (.head _))))
 have HE9 := Lib.hid (below_setRow HBs.out (show w.heap.size ≤ G + 1 by have := HMG.out; omega) #[.int .i64 idd, .int .i64 al, .int .i64 ah, .slice (some ⟨gv, 0, none⟩) An Ac, .slice Bp Bn Bc, .slice Cp Cn Cc, .int .i64 tr0, .int .i64 tr1, .int .i64 ut0, .int .i64 ut1, .int .i64 v0, .int .i64 v1, .int .i64 he0, .int .i64 he1])
 have HTA := Lib.hid (OwnPts.keptRow (cs := #[.int .i64 idd, .int .i64 al, .int .i64 ah, .slice (some ⟨gv, 0, none⟩) An Ac, .slice Bp Bn Bc, .slice Cp Cn Cc, .int .i64 tr0, .int .i64 tr1, .int .i64 ut0, .int .i64 ut1, .int .i64 v0, .int .i64 v1, .int .i64 he0, .int .i64 he1]) HTA.out (show G + 1 < M + 1 by have := HMG.out; omega))
 have HTB := Lib.hid (OwnPts.keptRow (cs := #[.int .i64 idd, .int .i64 al, .int .i64 ah, .slice (some ⟨gv, 0, none⟩) An Ac, .slice Bp Bn Bc, .slice Cp Cn Cc, .int .i64 tr0, .int .i64 tr1, .int .i64 ut0, .int .i64 ut1, .int .i64 v0, .int .i64 v1, .int .i64 he0, .int .i64 he1]) HTB.out (show G + 1 < M + 1 by have := HMG.out; omega))
 have HTC := Lib.hid (OwnPts.keptRow (cs := #[.int .i64 idd, .int .i64 al, .int .i64 ah, .slice (some ⟨gv, 0, none⟩) An Ac, .slice Bp Bn Bc, .slice Cp Cn Cc, .int .i64 tr0, .int .i64 tr1, .int .i64 ut0, .int .i64 ut1, .int .i64 v0, .int .i64 v1, .int .i64 he0, .int .i64 he1]) HTC.out (show G + 1 < M + 1 by have := HMG.out; omega))
 refine wpList_store_row rfl 35 (.tmp 2) (.tmp 65) rfl (G + 1) #[.int .i64 idd, .int .i64 al, .int .i64 ah, .slice (some ⟨gv, 0, none⟩) An Ac, .slice Bp Bn Bc, .slice Cp Cn Cc, .int .i64 tr0, .int .i64 tr1, .int .i64 ut0, .int .i64 ut1, .int .i64 v0, .int .i64 v1, .int .i64 he0, .int .i64 he1] rfl rfl 35 _ (HXs.out _ (.tail _ (.head _))) (by kernel_rfl) rfl (by kernel_rfl) ?_
 obtain ⟨W9, hW9⟩ : ∃ W9, We.setRow (G + 1) #[.int .i64 idd, .int .i64 al, .int .i64 ah, .slice (some ⟨gv, 0, none⟩) An Ac, .slice Bp Bn Bc, .slice Cp Cn Cc, .int .i64 tr0, .int .i64 tr1, .int .i64 ut0, .int .i64 ut1, .int .i64 v0, .int .i64 v1, .int .i64 he0, .int .i64 he1] = W9 := ⟨_, rfl⟩
 rw [hW9] at HKR HE9 HTA HTB HTC ⊢
 clear hW9
 go_wp2
 exact bodyPost_ret (v := .agg #[.int .i64 idd, .int .i64 al, .int .i64 ah, .slice (some ⟨gv, 0, none⟩) An Ac, .slice Bp Bn Bc, .slice Cp Cn Cc, .int .i64 tr0, .int .i64 tr1, .int .i64 ut0, .int .i64 ut1, .int .i64 v0, .int .i64 v1, .int .i64 he0, .int .i64 he1]) (results_cell_row Tryz.results13 _ _ (G + 1) 35 #[.int .i64 idd, .int .i64 al, .int .i64 ah, .slice (some ⟨gv, 0, none⟩) An Ac, .slice Bp Bn Bc, .slice Cp Cn Cc, .int .i64 tr0, .int .i64 tr1, .int .i64 ut0, .int .i64 ut1, .int .i64 v0, .int .i64 v1, .int .i64 he0, .int .i64 he1] (0, 0) _ rfl HKR.out Tryz.underlying35 rfl (by kernel_rfl)) rfl ⟨⟨⟨_, _, _, _, _, _, _, _, _⟩, rfl, own_tab HTA.out HLV.out, own_tab HTB.out HLM.out, own_tab HTC.out HLH.out⟩, HE9.out⟩
end

end Go.Proofs.YtemlaaipnhmcoaaGreat
