/- Tables that numbers choose: rows of points; free of the specification. Their conditions: the numbers lie in memory, and are not large. -/
import Derived.Deep.AppendLies
import Derived.Test.YtemlaaipnhmcoaaGreatR16
import Derived.Test.YtemlaaipnhmcoaaGreatR08
import Derived.Test.YtemlaaipnhmcoaaGreatR10
import Derived.Test.YtemlaaipnhmcoaaGreatQ98
set_option linter.unusedVariables false
set_option linter.unusedSimpArgs false
set_option linter.constructorNameAsVariable false
namespace Go.Proofs.YtemlaaipnhmcoaaGreat

section
open Go.RowKit

def rowsTo (xs : List Int) (f : Nat → Int × Int) : Nat → List P3
  | 0 => []
  | k + 1 => match xs[k]? with
    | some x => rowsTo xs f k ++ [(x, f k)]
    | none => rowsTo xs f k
theorem rowsTo_succ {xs : List Int} {f : Nat → Int × Int} {k : Nat} {x : Int} (h : xs[k]? = some x) : rowsTo xs f (k + 1) = rowsTo xs f k ++ [(x, f k)] := by rw [rowsTo, h]
theorem rowsTo_len (xs : List Int) (f : Nat → Int × Int) : ∀ k : Nat, k ≤ xs.length → (rowsTo xs f k).length = k
  | 0, _ => rfl
  | k + 1, h => by
    have q := rowsTo_len xs f k (by omega)
    rw [rowsTo, List.getElem?_eq_getElem (show k < xs.length by omega)]
    dsimp only
    rw [List.length_append, q]
    rfl
def GivesT (w : World) (L : List P3) (e : Ending) (w' : World) : Prop := ∃ v, e = .returned (.agg #[v]) ∧ OwnPts w.heap.size w' v L ∧ Below w.heap.size w w'
theorem addr_addY (b o i : Nat) : (⟨b, o, none⟩ : Addr).add i = ⟨b, o + i, none⟩ := by
  by_cases h : i = 0
  · subst h; simp [Addr.add]
  · simp [Addr.add, h]
theorem own_ints_mem {base : Nat} {w : World} {v : Value} {l : List Int} (h : OwnInts base w v l) (hp : 0 < l.length) : ∃ g cap, v = .slice (some ⟨g, 0, none⟩) l.length cap ∧ base ≤ g ∧ g < w.heap.size ∧ IntsMem w g 0 l := by
  have h' : w.ownsRow base 3 1 v l.length (ints l) := by
    have q := h
    unfold OwnInts at q
    rw [List.length_map] at q
    exact q
  obtain ⟨g, cap, rfl, h1, h2⟩ := h'.form hp
  refine ⟨g, cap, rfl, h1, h2, fun k x hx => ?_⟩
  have q := h'.cells (g := g) rfl k (.int .i64 x) (by simp [hx])
  rw [addr_addY] at q
  simpa using q
theorem own_ints_memN {base N : Nat} {w : World} {v : Value} {l : List Int} (h : OwnInts base w v l) (hN : l.length = N) (hp : 0 < N) : ∃ g cap, v = .slice (some ⟨g, 0, none⟩) N cap ∧ base ≤ g ∧ g < w.heap.size ∧ IntsMem w g 0 l := by
  subst hN; exact own_ints_mem h hp
theorem OwnPts.monoY {base base' : Nat} {w : World} {v : Value} {L : List P3} (h : w.ownsRow base 110 3 v L.length (ptCells L)) (hb : base' ≤ base) : OwnPts base' w v L := World.ownsRow.mono h hb
theorem own_push {base : Nat} {w : World} {v : Value} {L : List P3} {x : P3} (h : w.ownsRow base 110 3 v (L.length + 1) (ptCells L ++ [.int .i64 x.1, .int .i64 x.2.1, .int .i64 x.2.2])) : OwnPts base w v (L ++ [x]) := by
  unfold OwnPts
  rw [List.length_append, ptCells_snoc]
  exact h
theorem xsS_len (fi : Int) (st : List Int) : 2 ≤ (xsS fi st).length ∧ (xsS fi st).length ≤ 8 := by
  unfold xsS
  split
  · simp [xsTo]
  · have h := xsTo_len fi st (min st.length 7) (by omega)
    rw [h]; omega
def freeF (vs : List Int) (fr mo : Int) (k : Nat) : Int × Int := (pickS vs (fr + 2 * k) % mo, pickS vs (fr + 2 * k) % mo + pickS vs (fr + 2 * k + 1) % (mo / 4 + 1))

set_option maxRecDepth 100000 in
set_option maxHeartbeats 4000000 in
theorem sfree_to (r : RawD) (m : RawM) (fr mo : Int) (w : World) (hi : RawIn w r m) (h0 : 0 ≤ fr) (h1 : fr ≤ 1000) (g0 : 0 < mo) (g1 : mo ≤ 1000000) :
  Calls Tryz.prog 63 #[rawV r m, .int .i64 fr, .int .i64 mo] w (GivesT w (rowsTo (xsS r.fi r.st) (freeF r.vs fr mo) (xsS r.fi r.st).length)) := by
 obtain ⟨id, fi, st, vs⟩ := r
 obtain ⟨S, sn, sc, V, vn, vc⟩ := m
 obtain ⟨i0, i1, i2, i3, i4⟩ := info_parts Tryz.infoP
 dsimp only
 have HX2' := xsS_len fi st
 have CX' := fun W (hW : Below w.heap.size w W) => sxs_to ⟨id, fi, st, vs⟩ ⟨S, sn, sc, V, vn, vc⟩ W (hi.below hW)
 dsimp only at CX'
 obtain ⟨XS, hXS⟩ : ∃ l, xsS fi st = l := ⟨_, rfl⟩
 rw [hXS] at HX2' CX' ⊢
 obtain ⟨N, hN⟩ : ∃ N, XS.length = N := ⟨_, rfl⟩
 rw [hN] at HX2' ⊢
 have CX : Hid (∀ W, Below w.heap.size w W → Calls Tryz.prog 118 #[.agg #[.int .i64 id, .int .i64 fi, .slice S sn sc, .slice V vn vc]] W (GivesInts W XS)) := Lib.hid CX'
 have HV : Hid (∀ W i, Below w.heap.size w W → Calls Tryz.prog 61 #[.slice V vn vc, .int .i64 i] W fun e w' => e = .returned (.int .i64 (pickS vs i)) ∧ Below W.heap.size W w') := Lib.hid fun W i hW => spick_to V vn vc vs i W hi.2.2.2.1 hi.2.2.2.2.1 (hi.2.2.2.2.2.below hW)
 have HX2 := Lib.hid HX2'; have HN := Lib.hid hN
 clear hi HX2' CX' hXS hN
 have HE := Lib.hid (show Below w.heap.size w ((w.alloc (.cells #[.int .i64 id, .int .i64 fi, .slice S sn sc, .slice V vn vc] 24)).alloc (.cells #[.slice none 0 0] 33)) from below_a2 (Below.refl _ _))
 have HK := Lib.hid (boxes2' w 24 33 #[.int .i64 id, .int .i64 fi, .slice S sn sc, .slice V vn vc] #[.slice none 0 0])
 go_enter Tryz.func63, Tryz.ntmps63
 go_upto_region 1 with fail
 obtain ⟨W0, hW0⟩ : ∃ W0 : World, ((w.alloc (.cells #[.int .i64 id, .int .i64 fi, .slice S sn sc, .slice V vn vc] 24)).alloc (.cells #[.slice none 0 0] 33)) = W0 := ⟨_, rfl⟩
 rw [hW0] at HE HK ⊢
 clear hW0
 obtain ⟨G, hG⟩ : ∃ G, w.heap.size = G := ⟨_, rfl⟩
 rw [hG] at HK ⊢
 have HG := Lib.hid hG; clear hG
 have r_ := HK.out _ (.tail _ (.head _))
 have r_0 := r_.cell 0
 have r_1 := r_.cell 1
 have r_2 := r_.cell 2
 have r_3 := r_.cell 3
 simp at r_0 r_1 r_2 r_3
 clear r_
 go_wp2_with fail
 refine (CX.out _ HE.out).mono ?_
 rintro e y1 ⟨xv, rfl, hox, hq⟩
 have HE1 := Lib.hid (below_then HE.out hq); have HK1 := Lib.hid (HK.out.on hq)
 clear hq HE HK r_0 r_1 r_2 r_3 CX
 obtain ⟨xb, xc, rfl, _, xlt, hxm⟩ := own_ints_memN hox HN.out (by have := HX2.out; omega)
 have HXM := Lib.hid hxm; have HXL := Lib.hid xlt
 clear hxm xlt hox
 go_upto_region 3 with fail
 have HT2 := Lib.hid (Blk.new y1 33 #[.slice none 0 0]); have HB2 := Lib.hid (below_alloc1 y1 (.cells #[.slice none 0 0] 33))
 obtain ⟨W2, hW⟩ : ∃ W', y1.alloc (.cells #[.slice none 0 0] 33) = W' := ⟨_, rfl⟩
 rw [hW] at HT2 HB2 ⊢
 clear hW
 obtain ⟨M, hM⟩ : ∃ M, y1.heap.size = M := ⟨_, rfl⟩
 rw [hM] at HT2 ⊢
 have HMY := Lib.hid hM; clear hM
 go_wp2_with fail
 go_loopw [9] (fun i wr => ∃ (k : Nat) (v : Value), k ≤ N ∧ i = .int .i64 k ∧ Below y1.heap.size y1 wr ∧ Blk wr M 33 #[v] ∧ OwnPts (M + 1) wr v (rowsTo XS (freeF vs fr mo) k)) (fun i _ => N - (intOf i).toNat)
 case atStart => exact ⟨0, _, by omega, rfl, HB2.out, HT2.out, World.ownsRow_nil _ _ _ _⟩
 case round =>
  obtain ⟨k, v, hk, rfl, hB, hT, hO⟩ := hrel
  have HB := Lib.hid hB; have HT := Lib.hid hT; have HOWN := Lib.hid hO
  clear hB hT hO HT2 HB2
  have HX := Lib.hid (HK1.out.on HB.out); have HE := Lib.hid (below_then HE1.out HB.out)
  by_cases hlt : k < N
  ·skip
   have k1 : (k : Int) < (N : Int) := by omega
   have k3 : (0 : Int) ≤ (k : Int) := by omega
   have hk8 : k < 8 := by have := HX2.out; omega
   obtain ⟨x, hx⟩ : ∃ x, XS[k]? = some x := ⟨_, List.getElem?_eq_getElem (show k < XS.length by rw [HN.out]; exact hlt)⟩
   have HS := Lib.hid (rowsTo_succ (f := freeF vs fr mo) hx)
   have HCX : Hid (∀ W : World, Below y1.heap.size y1 W → W.cell? ⟨xb, k, none⟩ = some (.int .i64 x)) := Lib.hid fun W hW => by
    have q := HXM.out k x hx
    rw [← hW.cell (p := ⟨xb, 0 + k, none⟩) HXL.out] at q
    simpa using q
   have hln := rowsTo_len XS (freeF vs fr mo) k (by rw [HN.out]; exact hk)
   have HLN : Hid ((rowsTo XS (freeF vs fr mo) k).length ≤ 8) := Lib.hid (by omega)
   obtain ⟨LR, hLR⟩ : ∃ l, rowsTo XS (freeF vs fr mo) k = l := ⟨_, rfl⟩
   rw [hLR] at HS HOWN HLN
   clear hLR hln
   obtain ⟨j2, hj2⟩ : ∃ z, 2 * (k : Int) = z := ⟨_, rfl⟩
   have w1 : IntKind.i64.wrap (2 * (k : Int)) = j2 := by rw [IntWalk.i64_in _ ⟨by omega, by omega⟩]; exact hj2
   obtain ⟨a1, ha1⟩ : ∃ z, fr + j2 = z := ⟨_, rfl⟩
   have w2 : IntKind.i64.wrap (fr + j2) = a1 := by rw [IntWalk.i64_in _ ⟨by omega, by omega⟩]; exact ha1
   obtain ⟨a2, ha2⟩ : ∃ z, a1 + 1 = z := ⟨_, rfl⟩
   have w3 : IntKind.i64.wrap (a1 + 1) = a2 := by rw [IntWalk.i64_in _ ⟨by omega, by omega⟩]; exact ha2
   obtain ⟨b0, b1⟩ := emod_in (pickS vs a1) g0
   obtain ⟨q4, hq4⟩ : ∃ z, mo / 4 = z := ⟨_, rfl⟩
   have ht4 : mo.tdiv 4 = q4 := by rw [Int.tdiv_eq_ediv_of_nonneg (by omega)]; exact hq4
   have w4 : IntKind.i64.wrap (mo.tdiv 4) = q4 := by rw [ht4]; exact IntWalk.i64_in _ ⟨by omega, by omega⟩
   obtain ⟨q5, hq5⟩ : ∃ z, q4 + 1 = z := ⟨_, rfl⟩
   have w5 : IntKind.i64.wrap (q4 + 1) = q5 := by rw [IntWalk.i64_in _ ⟨by omega, by omega⟩]; exact hq5
   have hq50 : 0 < q5 ∧ q5 ≤ 1000000 := by omega
   obtain ⟨b2, b3⟩ := emod_in (pickS vs a2) hq50.1
   obtain ⟨P0, hP0⟩ : ∃ z, pickS vs a1 = z := ⟨_, rfl⟩
   obtain ⟨P1, hP1⟩ : ∃ z, pickS vs a2 = z := ⟨_, rfl⟩
   rw [hP0] at b0 b1
   rw [hP1] at b2 b3
   obtain ⟨lo, hlo⟩ : ∃ z, P0 % mo = z := ⟨_, rfl⟩
   obtain ⟨dd, hdd⟩ : ∃ z, P1 % q5 = z := ⟨_, rfl⟩
   rw [hlo] at b0 b1
   rw [hdd] at b2 b3
   obtain ⟨hi, hhi⟩ : ∃ z, lo + dd = z := ⟨_, rfl⟩
   have w6 : IntKind.i64.wrap (lo + dd) = hi := by rw [IntWalk.i64_in _ ⟨by omega, by omega⟩]; exact hhi
   have hF : freeF vs fr mo k = (lo, hi) := by
    unfold freeF
    rw [show fr + 2 * (k : Int) = a1 by omega, show a1 + 1 = a2 by omega, hP0, hP1, show mo / 4 + 1 = q5 by omega, hlo, hdd, hhi]
   rw [hF] at HS
   have CP0 : Hid (∀ W, Below w.heap.size w W → Calls Tryz.prog 61 #[.slice V vn vc, .int .i64 a1] W fun e w' => e = .returned (.int .i64 P0) ∧ Below W.heap.size W w') := Lib.hid fun W hW => int_to (HV.out W a1 hW) hP0
   have CP1 : Hid (∀ W, Below w.heap.size w W → Calls Tryz.prog 61 #[.slice V vn vc, .int .i64 a2] W fun e w' => e = .returned (.int .i64 P1) ∧ Below W.heap.size W w') := Lib.hid fun W hW => int_to (HV.out W a2 hW) hP1
   have CM0 : Hid (∀ W, Calls Tryz.prog 23 #[.int .i64 P0, .int .i64 mo] W fun e w' => e = .returned (.int .i64 lo) ∧ Below W.heap.size W w') := Lib.hid fun W => int_to (smod_to P0 mo W (by omega) (by omega)) hlo
   have CM1 : Hid (∀ W, Calls Tryz.prog 23 #[.int .i64 P1, .int .i64 q5] W fun e w' => e = .returned (.int .i64 dd) ∧ Below W.heap.size W w') := Lib.hid fun W => int_to (smod_to P1 q5 W (by omega) (by omega)) hdd
   clear hF hP0 hP1 hlo hdd hhi hq4 hq5 ht4 hj2 ha1 ha2 b0 b1 b2 b3 hq50 hx
   have r_ := HX.out _ (.tail _ (.head _))
   have r_3 := r_.cell 3
   simp at r_3
   clear r_
   go_wp2_with fail
   refine (CP0.out _ HE.out).mono ?_
   rintro e z1' ⟨rfl, hq⟩
   have HW := Lib.hid hq
   clear hq r_3
   go_wp2_with fail
   refine (CM0.out _).mono ?_
   rintro e z2' ⟨rfl, hq⟩
   have HW := Lib.hid (below_then HW.out hq)
   clear hq CP0 CM0
   go_upto_region 7 with fail
   have hS0 : Below y1.heap.size y1 z2'.drew := (below_then HB.out HW.out).drew
   have HW := Lib.hid HW.out.drew
   refine wp_region_held_drew (S := fun w' => Below y1.heap.size y1 w') (by kernel_rfl) hS0 (fun hHeld => ?_)
   obtain ⟨yq, hW⟩ : ∃ W', z2'.drew = W' := ⟨_, rfl⟩
   rw [hW] at hHeld HW ⊢
   clear hW hS0 HX HE
   refine tK 29 (i := 0) (v := .pointer (some ⟨M, 0, none⟩)) rfl rfl (by kernel_rfl) ?_ hHeld ?_
   ·intro w hSw; clear hSw; go_simp; try with_reducible rfl
   simp only [uZ, uS]
   refine tK 31 (i := 2) (v := .slice (some ⟨xb, 0, none⟩) N xc) rfl rfl (by kernel_rfl) ?_ hHeld ?_
   ·intro w hSw; clear hSw; go_simp; try with_reducible rfl
   simp only [uZ, uS]
   refine tK 32 (i := 3) (v := .int .i64 k) rfl rfl (by kernel_rfl) ?_ hHeld ?_
   ·intro w hSw; clear hSw; go_simp; try with_reducible rfl
   simp only [uZ, uS]
   refine tK 33 (i := 4) (v := .pointer (some ⟨xb, k, none⟩)) rfl rfl (by kernel_rfl) ?_ hHeld ?_
   ·intro w hSw; clear hSw; go_simp; try with_reducible rfl
   simp only [uZ, uS]
   refine tK 34 (i := 5) (v := .int .i64 x) rfl rfl (by kernel_rfl) ?_ hHeld ?_
   ·intro w hSw; have cx := HCX.out _ hSw; clear hSw; go_simp; try with_reducible rfl
   simp only [uZ, uS]
   refine tK 35 (i := 6) (v := .int .i64 lo) rfl rfl (by kernel_rfl) ?_ hHeld ?_
   ·intro w hSw; clear hSw; go_simp; try with_reducible rfl
   simp only [uZ, uS]
   refine tK 36 (i := 7) (v := .int .i64 lo) rfl rfl (by kernel_rfl) ?_ hHeld ?_
   ·intro w hSw; clear hSw; go_simp; try with_reducible rfl
   simp only [uZ, uS]
   refine tK 37 (i := 8) (v := .pointer (some ⟨G, 3, none⟩)) rfl rfl (by kernel_rfl) ?_ hHeld ?_
   ·intro w hSw; clear hSw; go_simp; try with_reducible rfl
   simp only [uZ, uS]
   refine tK 38 (i := 9) (v := .slice V vn vc) rfl rfl (by kernel_rfl) ?_ hHeld ?_
   ·intro w hSw; have hz := ((HK1.out.on hSw) _ (.tail _ (.head _))); have c3 := hz.cell 3; simp at c3; clear hz hSw; go_simp; try with_reducible rfl
   simp only [uZ, uS]
   refine tK 39 (i := 10) (v := .int .i64 fr) rfl rfl (by kernel_rfl) ?_ hHeld ?_
   ·intro w hSw; clear hSw; go_simp; try with_reducible rfl
   simp only [uZ, uS]
   refine tK 40 (i := 11) (v := .int .i64 k) rfl rfl (by kernel_rfl) ?_ hHeld ?_
   ·intro w hSw; clear hSw; go_simp; try with_reducible rfl
   simp only [uZ, uS]
   refine tK 41 (i := 12) (v := .int .i64 j2) rfl rfl (by kernel_rfl) ?_ hHeld ?_
   ·intro w hSw; clear hSw; go_simp; first | done | exact w1
   simp only [uZ, uS]
   refine tK 42 (i := 13) (v := .int .i64 a1) rfl rfl (by kernel_rfl) ?_ hHeld ?_
   ·intro w hSw; clear hSw; go_simp; first | done | exact w2
   simp only [uZ, uS]
   refine tK 43 (i := 14) (v := .int .i64 a2) rfl rfl (by kernel_rfl) ?_ hHeld ?_
   ·intro w hSw; clear hSw; go_simp; first | done | exact w3
   simp only [uZ, uS]
   refine tK 45 (i := 16) (v := .int .i64 mo) rfl rfl (by kernel_rfl) ?_ hHeld ?_
   ·intro w hSw; clear hSw; go_simp; try with_reducible rfl
   simp only [uZ, uS]
   refine tK 46 (i := 17) (v := .int .i64 q4) rfl rfl (by kernel_rfl) ?_ hHeld ?_
   ·intro w hSw; clear hSw; go_simp; first | done | exact w4
   simp only [uZ, uS]
   refine tK 47 (i := 18) (v := .int .i64 q5) rfl rfl (by kernel_rfl) ?_ hHeld ?_
   ·intro w hSw; clear hSw; go_simp; first | done | exact w5
   simp only [uZ, uS]
   refine wpAnyH_ready (rs := [1, 15]) (by kernel_rfl) (by simp) ?_
   refine AllReadyH.cons rfl (fun K hK => ?_) (AllReadyH.cons rfl (fun K hK => ?_) AllReadyH.nil)
   have c1 := (blkOn HT.out HW.out).cell 0
   simp at c1
   go_simp
   refine hK.out _ _ hHeld (fun hHeld2 => ?_)
   clear c1
   try simp only [Act.put, uA, uZ, uS]
   clear hK K hHeld
   have hHeld := hHeld2
   clear hHeld2
   refine wpAnyH_ready (rs := [15]) (by kernel_rfl) (by simp) ?_
   refine AllReadyH.cons rfl (fun K hK => ?_) AllReadyH.nil
   go_simp
   (with_reducible refine (CP1.out _ (below_then HE1.out hHeld)).mono ?_)
   rintro x y ⟨rfl, hq⟩
   have HW := Lib.hid (below_then HW.out hq)
   refine hK.out _ _ (below_then hHeld hq) (fun hHeld2 => ?_)
   clear hq
   try simp only [Act.put, uA, uZ, uS]
   clear hK K hHeld
   have hHeld := hHeld2
   clear hHeld2
   refine wpAnyH_ready (rs := [19]) (by kernel_rfl) (by simp) ?_
   refine AllReadyH.cons rfl (fun K hK => ?_) AllReadyH.nil
   go_simp
   (with_reducible refine (CM1.out _).mono ?_)
   rintro x y ⟨rfl, hq⟩
   have HW := Lib.hid (below_then HW.out hq)
   refine hK.out _ _ (below_then hHeld hq) (fun hHeld2 => ?_)
   clear hq
   try simp only [Act.put, uA, uZ, uS]
   clear hK K hHeld
   have hHeld := hHeld2
   clear hHeld2
   refine tK 49 (i := 20) (v := .int .i64 hi) rfl rfl (by kernel_rfl) ?_ hHeld ?_
   ·intro w hSw; clear hSw; go_simp; first | done | exact w6
   simp only [uZ, uS]
   refine tK 50 (i := 21) (v := .agg #[.int .i64 x, .int .i64 lo, .int .i64 hi]) rfl rfl (by kernel_rfl) ?_ hHeld ?_
   ·intro w hSw; clear hSw; go_simp; try with_reducible rfl
   simp only [uZ, uS]
   refine wpAnyH_ready (rs := [22]) (by kernel_rfl) (by simp) ?_
   refine AllReadyH.cons rfl (fun K hK => ?_) AllReadyH.nil
   rename World => yq
   go_simp
   have HNB := Lib.hid (World.news_of_block (cs := #[.int .i64 x, .int .i64 lo, .int .i64 hi]) (t := 110) (fr := (0, 0)) (heap_alloc_new yq (.cells #[.int .i64 x, .int .i64 lo, .int .i64 hi] 110)))
   have HYZ := Lib.hid (World.size_alloc yq (.cells #[.int .i64 x, .int .i64 lo, .int .i64 hi] 110))
   have HW := Lib.hid (below_then HW.out (below_alloc1 yq (.cells #[.int .i64 x, .int .i64 lo, .int .i64 hi] 110)))
   refine hK.out _ _ (below_then hHeld (below_alloc1 yq (.cells #[.int .i64 x, .int .i64 lo, .int .i64 hi] 110))) (fun hHeld2 => ?_)
   try simp only [Act.put, uA, uZ, uS]
   clear hK K hHeld
   have hHeld := hHeld2
   clear hHeld2
   obtain ⟨ya, hW⟩ : ∃ W', yq.alloc (.cells #[.int .i64 x, .int .i64 lo, .int .i64 hi] 110) = W' := ⟨_, rfl⟩
   rw [hW] at HW hHeld HNB HYZ ⊢
   clear hW
   obtain ⟨Z, hZ⟩ : ∃ Z, yq.heap.size = Z := ⟨_, rfl⟩
   rw [hZ] at HNB HYZ ⊢
   clear hZ
   rotate_left
   go_simp
   (with_reducible refine (CP1.out _ (below_then HE1.out hHeld)).mono ?_)
   rintro x y ⟨rfl, hq⟩
   have HW := Lib.hid (below_then HW.out hq)
   refine hK.out _ _ (below_then hHeld hq) (fun hHeld2 => ?_)
   clear hq
   try simp only [Act.put, uA, uZ, uS]
   clear hK K hHeld
   have hHeld := hHeld2
   clear hHeld2
   refine wpAnyH_ready (rs := [1, 19]) (by kernel_rfl) (by simp) ?_
   refine AllReadyH.cons rfl (fun K hK => ?_) (AllReadyH.cons rfl (fun K hK => ?_) AllReadyH.nil)
   have c1 := (blkOn HT.out HW.out).cell 0
   simp at c1
   go_simp
   refine hK.out _ _ hHeld (fun hHeld2 => ?_)
   clear c1
   try simp only [Act.put, uA, uZ, uS]
   clear hK K hHeld
   have hHeld := hHeld2
   clear hHeld2
   refine wpAnyH_ready (rs := [19]) (by kernel_rfl) (by simp) ?_
   refine AllReadyH.cons rfl (fun K hK => ?_) AllReadyH.nil
   go_simp
   (with_reducible refine (CM1.out _).mono ?_)
   rintro x y ⟨rfl, hq⟩
   have HW := Lib.hid (below_then HW.out hq)
   refine hK.out _ _ (below_then hHeld hq) (fun hHeld2 => ?_)
   clear hq
   try simp only [Act.put, uA, uZ, uS]
   clear hK K hHeld
   have hHeld := hHeld2
   clear hHeld2
   refine tK 49 (i := 20) (v := .int .i64 hi) rfl rfl (by kernel_rfl) ?_ hHeld ?_
   ·intro w hSw; clear hSw; go_simp; first | done | exact w6
   simp only [uZ, uS]
   refine tK 50 (i := 21) (v := .agg #[.int .i64 x, .int .i64 lo, .int .i64 hi]) rfl rfl (by kernel_rfl) ?_ hHeld ?_
   ·intro w hSw; clear hSw; go_simp; try with_reducible rfl
   simp only [uZ, uS]
   refine wpAnyH_ready (rs := [22]) (by kernel_rfl) (by simp) ?_
   refine AllReadyH.cons rfl (fun K hK => ?_) AllReadyH.nil
   rename World => yq
   go_simp
   have HNB := Lib.hid (World.news_of_block (cs := #[.int .i64 x, .int .i64 lo, .int .i64 hi]) (t := 110) (fr := (0, 0)) (heap_alloc_new yq (.cells #[.int .i64 x, .int .i64 lo, .int .i64 hi] 110)))
   have HYZ := Lib.hid (World.size_alloc yq (.cells #[.int .i64 x, .int .i64 lo, .int .i64 hi] 110))
   have HW := Lib.hid (below_then HW.out (below_alloc1 yq (.cells #[.int .i64 x, .int .i64 lo, .int .i64 hi] 110)))
   refine hK.out _ _ (below_then hHeld (below_alloc1 yq (.cells #[.int .i64 x, .int .i64 lo, .int .i64 hi] 110))) (fun hHeld2 => ?_)
   try simp only [Act.put, uA, uZ, uS]
   clear hK K hHeld
   have hHeld := hHeld2
   clear hHeld2
   obtain ⟨ya, hW⟩ : ∃ W', yq.alloc (.cells #[.int .i64 x, .int .i64 lo, .int .i64 hi] 110) = W' := ⟨_, rfl⟩
   rw [hW] at HW hHeld HNB HYZ ⊢
   clear hW
   obtain ⟨Z, hZ⟩ : ∃ Z, yq.heap.size = Z := ⟨_, rfl⟩
   rw [hZ] at HNB HYZ ⊢
   clear hZ
   rotate_left
   go_simp
   (with_reducible refine (CM1.out _).mono ?_)
   rintro x y ⟨rfl, hq⟩
   have HW := Lib.hid (below_then HW.out hq)
   refine hK.out _ _ (below_then hHeld hq) (fun hHeld2 => ?_)
   clear hq
   try simp only [Act.put, uA, uZ, uS]
   clear hK K hHeld
   have hHeld := hHeld2
   clear hHeld2
   refine tK 49 (i := 20) (v := .int .i64 hi) rfl rfl (by kernel_rfl) ?_ hHeld ?_
   ·intro w hSw; clear hSw; go_simp; first | done | exact w6
   simp only [uZ, uS]
   refine tK 50 (i := 21) (v := .agg #[.int .i64 x, .int .i64 lo, .int .i64 hi]) rfl rfl (by kernel_rfl) ?_ hHeld ?_
   ·intro w hSw; clear hSw; go_simp; try with_reducible rfl
   simp only [uZ, uS]
   refine wpAnyH_ready (rs := [1, 22]) (by kernel_rfl) (by simp) ?_
   refine AllReadyH.cons rfl (fun K hK => ?_) (AllReadyH.cons rfl (fun K hK => ?_) AllReadyH.nil)
   have c1 := (blkOn HT.out HW.out).cell 0
   simp at c1
   go_simp
   refine hK.out _ _ hHeld (fun hHeld2 => ?_)
   clear c1
   try simp only [Act.put, uA, uZ, uS]
   clear hK K hHeld
   have hHeld := hHeld2
   clear hHeld2
   refine wpAnyH_ready (rs := [22]) (by kernel_rfl) (by simp) ?_
   refine AllReadyH.cons rfl (fun K hK => ?_) AllReadyH.nil
   rename World => yq
   go_simp
   have HNB := Lib.hid (World.news_of_block (cs := #[.int .i64 x, .int .i64 lo, .int .i64 hi]) (t := 110) (fr := (0, 0)) (heap_alloc_new yq (.cells #[.int .i64 x, .int .i64 lo, .int .i64 hi] 110)))
   have HYZ := Lib.hid (World.size_alloc yq (.cells #[.int .i64 x, .int .i64 lo, .int .i64 hi] 110))
   have HW := Lib.hid (below_then HW.out (below_alloc1 yq (.cells #[.int .i64 x, .int .i64 lo, .int .i64 hi] 110)))
   refine hK.out _ _ (below_then hHeld (below_alloc1 yq (.cells #[.int .i64 x, .int .i64 lo, .int .i64 hi] 110))) (fun hHeld2 => ?_)
   try simp only [Act.put, uA, uZ, uS]
   clear hK K hHeld
   have hHeld := hHeld2
   clear hHeld2
   obtain ⟨ya, hW⟩ : ∃ W', yq.alloc (.cells #[.int .i64 x, .int .i64 lo, .int .i64 hi] 110) = W' := ⟨_, rfl⟩
   rw [hW] at HW hHeld HNB HYZ ⊢
   clear hW
   obtain ⟨Z, hZ⟩ : ∃ Z, yq.heap.size = Z := ⟨_, rfl⟩
   rw [hZ] at HNB HYZ ⊢
   clear hZ
   rotate_left
   rename World => yq
   go_simp
   have HNB := Lib.hid (World.news_of_block (cs := #[.int .i64 x, .int .i64 lo, .int .i64 hi]) (t := 110) (fr := (0, 0)) (heap_alloc_new yq (.cells #[.int .i64 x, .int .i64 lo, .int .i64 hi] 110)))
   have HYZ := Lib.hid (World.size_alloc yq (.cells #[.int .i64 x, .int .i64 lo, .int .i64 hi] 110))
   have HW := Lib.hid (below_then HW.out (below_alloc1 yq (.cells #[.int .i64 x, .int .i64 lo, .int .i64 hi] 110)))
   refine hK.out _ _ (below_then hHeld (below_alloc1 yq (.cells #[.int .i64 x, .int .i64 lo, .int .i64 hi] 110))) (fun hHeld2 => ?_)
   try simp only [Act.put, uA, uZ, uS]
   clear hK K hHeld
   have hHeld := hHeld2
   clear hHeld2
   obtain ⟨ya, hW⟩ : ∃ W', yq.alloc (.cells #[.int .i64 x, .int .i64 lo, .int .i64 hi] 110) = W' := ⟨_, rfl⟩
   rw [hW] at HW hHeld HNB HYZ ⊢
   clear hW
   obtain ⟨Z, hZ⟩ : ∃ Z, yq.heap.size = Z := ⟨_, rfl⟩
   rw [hZ] at HNB HYZ ⊢
   clear hZ
   refine wpAnyH_ready (rs := [1]) (by kernel_rfl) (by simp) ?_
   refine AllReadyH.cons rfl (fun K hK => ?_) AllReadyH.nil
   have c1 := (blkOn HT.out HW.out).cell 0
   simp at c1
   go_simp
   refine hK.out _ _ hHeld (fun hHeld2 => ?_)
   clear c1
   try simp only [Act.put, uA, uZ, uS]
   clear hK K hHeld
   have hHeld := hHeld2
   clear hHeld2
   rotate_left
   all_goals
    have HZB : Hid (M + 1 ≤ wr.heap.size) := Lib.hid HT.out.lt
    refine wpAnyH_ready (rs := [23]) (by kernel_rfl) (by simp) ?_
    refine AllReadyH.cons rfl (fun K hK => ?_) AllReadyH.nil
    have HOW := Lib.hid (HOWN.out.below HW.out)
    refine step_append_lies _ (by rfl) (.tmp 30) (.tmp 51) _ (by rfl) (M + 1) 110 i0 _ 3 24 Tryz.underlying31 i1 i2 i3 i4 rfl (by omega) v LR.length (ptCells LR) (by rfl) (by exact HOW.out) ⟨Z, 0, none⟩ 1 1 [.int .i64 x, .int .i64 lo, .int .i64 hi] (by rfl) (by rfl) (by exact HNB.out) (by simp [Value.oneCell']) (by omega) (by have := HLN.out; simp [maxLen]; omega) (by have := HLN.out; omega) (by have := HZB.out; have := HW.out.size; omega) (Z + 1) (by exact HYZ.out) ?_
    intro gg cap w5 hown1 hgrow hat hlt5
    have hrow : ∀ j, Value.ownBlock v = some j → (M + 1) ≤ j := fun j hj => (World.ownsRow.lt (show wr.ownsRow ((M + 1)) 110 3 v _ _ from HOWN.out) j hj).1
    have hT5 := (blkOn HT.out HW.out).grown hgrow (fun hj => by have := hrow _ hj.symm; omega)
    have hB5 := hHeld.grown hgrow (hHeld.size) (fun j hj => by have := hrow j hj; have := HMY.out; omega)
    have hf := hT5.frozen 0; have hl := hT5.lt; have hc := hT5.cell 0
    simp at hc
    refine hK.out _ _ hB5 (fun hHeld2 => ?_)
    try simp only [Act.put, uA, uZ, uS]
    clear hK K hHeld
    have hHeld := hHeld2
    clear hHeld2
    refine tK 53 (i := 24) (v := .pointer (some ⟨M, 0, none⟩)) rfl rfl (by kernel_rfl) ?_ hHeld ?_
    ·intro w hSw; clear hSw; go_simp; try with_reducible rfl
    simp only [uZ, uS]
    refine wpAnyH_ready (rs := [25]) (by kernel_rfl) (by simp) ?_
    refine AllReadyH.cons rfl (fun K hK => ?_) AllReadyH.nil
    go_simp
    have hB6 := hB5.setCell (p := ⟨M, 0, none⟩) (by have := HMY.out; simp; omega) (.slice (some ⟨gg, 0, none⟩) (LR.length + 1) cap)
    refine hK.out _ _ hB6 (fun hHeld2 => ?_)
    try simp only [Act.put, uA, uZ, uS]
    clear hK K hHeld
    have hHeld := hHeld2
    clear hHeld2
    refine wpAnyH_done (by kernel_rfl) ?_ _
    clear hHeld
    have hT6 := hT5.set_ 0 (.slice (some ⟨gg, 0, none⟩) (LR.length + 1) cap)
    have hgg : gg ≠ M := by
     rcases hat with hat | hat
     ·have := hrow _ hat; omega
     ·have := HZB.out; have := HW.out.size; have := HYZ.out; omega
    have hown2 := World.ownsRow.kept hown1 (grownBy_setCell' w5 M (.slice (some ⟨gg, 0, none⟩) (LR.length + 1) cap)) (.inr (by simp [Value.ownBlock]; exact hgg))
    have HT6 := Lib.hid hT6; have HB6 := Lib.hid hB6; have HO6 := Lib.hid (own_push (x := (x, lo, hi)) hown2)
    clear hT6 hB6 hown2 hT5 hB5 hf hl hc hown1 hgrow hat hlt5 hrow hgg HW HOW HNB HYZ
    go_wp2
    go_roundw
    case rel => exact ⟨k + 1, _, by omega, by go_num, HB6.out, HT6.out, by rw [HS.out]; exact HO6.out⟩
    case measure => simp [intOf]; omega
  have k1 : ¬ (k : Int) < (N : Int) := by omega
  have hkn : k = N := by omega
  subst hkn
  obtain ⟨vp, vn', vc', rfl⟩ := HOWN.out.slice
  have z_ := HX.out _ (.head _)
  have z_0 := z_.cell 0
  have z_f0 := z_.frozen 0
  have z_l := z_.lt
  simp at z_0 z_f0
  clear z_
  have m_ := HT.out.cell 0
  simp at m_
  clear hk hlt
  go_wp2
  have hg := HG.out; have hmy := HMY.out; have hb1 := (HK1.out _ (.head _)).lt
  refine bodyPost_ret (v := .agg #[.slice vp vn' vc']) (by simp [results, Tryz.results63, go_sem, z_0]) rfl ⟨_, rfl, ?_, ?_⟩
  ·refine OwnPts.monoY (World.ownsRow.kept (show wr.ownsRow (M + 1) 110 3 (.slice vp vn' vc') _ _ from HOWN.out) (grownBy_setCell' wr (G + 1) _) (.inr (fun hj => ?_))) (by have := HE1.out.size; omega)
   have := (World.ownsRow.lt (show wr.ownsRow (M + 1) 110 3 (.slice vp vn' vc') _ _ from HOWN.out) _ hj).1
   dsimp only at hb1
   omega
  ·exact HE.out.setCell (by simp <;> omega) _
end

end Go.Proofs.YtemlaaipnhmcoaaGreat
