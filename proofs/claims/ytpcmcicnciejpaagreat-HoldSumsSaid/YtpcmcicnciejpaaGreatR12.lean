/- Within of the specification where it is so; plain: what a fill in part of a valid hold tells has whatever is so. -/
import Derived.Test.YtpcmcicnciejpaaGreatR11
set_option linter.unusedVariables false
set_option linter.unusedSimpArgs false
set_option linter.constructorNameAsVariable false
set_option maxRecDepth 100000
set_option maxHeartbeats 4000000
namespace Go.Proofs.YtpcmcicnciejpaaGreat

section
open Go.RowKit

def rowsTo (xs : List Int) (f : Nat → Int × Int) : Nat → List P3
  | 0 => []
  | k + 1 => match xs[k]? with
    | some x => rowsTo xs f k ++ [(x, f k)]
    | none => rowsTo xs f k
theorem rowsTo_succ {xs : List Int} {f : Nat → Int × Int} {k : Nat} {x : Int} (h : xs[k]? = some x) : rowsTo xs f (k + 1) = rowsTo xs f k ++ [(x, f k)] := by rw [rowsTo, h]
theorem rowsTo_len (xs : List Int) (f : Nat → Int × Int) : ∀ k : Nat, k ≤ xs.length → (rowsTo xs f k).length = k
  | 0, _ => rfl
  | k + 1, h => by
    have q := rowsTo_len xs f k (by omega)
    rw [rowsTo, List.getElem?_eq_getElem (show k < xs.length by omega)]
    dsimp only
    rw [List.length_append, q]
    rfl
def GivesT (w : World) (L : List P3) (e : Ending) (w' : World) : Prop := ∃ v, e = .returned (.agg #[v]) ∧ OwnPts w.heap.size w' v L ∧ Below w.heap.size w w'
theorem addr_addY (b o i : Nat) : (⟨b, o, none⟩ : Addr).add i = ⟨b, o + i, none⟩ := by
  by_cases h : i = 0
  · subst h; simp [Addr.add]
  · simp [Addr.add, h]
theorem own_ints_mem {base : Nat} {w : World} {v : Value} {l : List Int} (h : OwnInts base w v l) (hp : 0 < l.length) : ∃ g cap, v = .slice (some ⟨g, 0, none⟩) l.length cap ∧ base ≤ g ∧ g < w.heap.size ∧ IntsMem w g 0 l := by
  have h' : w.ownsRow base 3 1 v l.length (ints l) := by
    have q := h
    unfold OwnInts at q
    rw [List.length_map] at q
    exact q
  obtain ⟨g, cap, rfl, h1, h2⟩ := h'.form hp
  refine ⟨g, cap, rfl, h1, h2, fun k x hx => ?_⟩
  have q := h'.cells (g := g) rfl k (.int .i64 x) (by simp [hx])
  rw [addr_addY] at q
  simpa using q
theorem own_ints_memN {base N : Nat} {w : World} {v : Value} {l : List Int} (h : OwnInts base w v l) (hN : l.length = N) (hp : 0 < N) : ∃ g cap, v = .slice (some ⟨g, 0, none⟩) N cap ∧ base ≤ g ∧ g < w.heap.size ∧ IntsMem w g 0 l := by
  subst hN; exact own_ints_mem h hp
theorem OwnPts.monoY {base base' : Nat} {w : World} {v : Value} {L : List P3} (h : w.ownsRow base 66 3 v L.length (ptCells L)) (hb : base' ≤ base) : OwnPts base' w v L := World.ownsRow.mono h hb
theorem own_push {base : Nat} {w : World} {v : Value} {L : List P3} {x : P3} (h : w.ownsRow base 66 3 v (L.length + 1) (ptCells L ++ [.int .i64 x.1, .int .i64 x.2.1, .int .i64 x.2.2])) : OwnPts base w v (L ++ [x]) := by
  unfold OwnPts
  rw [List.length_append, ptCells_snoc]
  exact h
theorem xsS_len (fi : Int) (st : List Int) : 2 ≤ (xsS fi st).length ∧ (xsS fi st).length ≤ 8 := by
  unfold xsS
  split
  · simp [xsTo]
  · have h := xsTo_len fi st (min st.length 7) (by omega)
    rw [h]; omega
def freeF (vs : List Int) (fr mo : Int) (k : Nat) : Int × Int := (pickS vs (fr + 2 * k) % mo, pickS vs (fr + 2 * k) % mo + pickS vs (fr + 2 * k + 1) % (mo / 4 + 1))

theorem sfree_to (r : RawD) (m : RawM) (fr mo : Int) (w : World) (hi : RawIn w r m) (h0 : 0 ≤ fr) (h1 : fr ≤ 1000) (g0 : 0 < mo) (g1 : mo ≤ 1000000) :
  Calls Tryz.prog 14 #[rawV r m, .int .i64 fr, .int .i64 mo] w (GivesT w (rowsTo (xsS r.fi r.st) (freeF r.vs fr mo) (xsS r.fi r.st).length)) := by
 obtain ⟨id, fi, st, vs⟩ := r
 obtain ⟨S, sn, sc, V, vn, vc⟩ := m
 obtain ⟨i0, i1, i2, i3, i4⟩ := info_parts Tryz.infoP
 dsimp only
 have HX2' := xsS_len fi st
 have CX' := fun W (hW : Below w.heap.size w W) => sxs_to ⟨id, fi, st, vs⟩ ⟨S, sn, sc, V, vn, vc⟩ W (hi.below hW)
 dsimp only at CX'
 obtain ⟨XS, hXS⟩ : ∃ l, xsS fi st = l := ⟨_, rfl⟩
 rw [hXS] at HX2' CX' ⊢
 obtain ⟨N, hN⟩ : ∃ N, XS.length = N := ⟨_, rfl⟩
 rw [hN] at HX2' ⊢
 have CX : Hid (∀ W, Below w.heap.size w W → Calls Tryz.prog 31 #[.agg #[.int .i64 id, .int .i64 fi, .slice S sn sc, .slice V vn vc]] W (GivesInts W XS)) := zH CX'
 have HV : Hid (∀ W i, Below w.heap.size w W → Calls Tryz.prog 12 #[.slice V vn vc, .int .i64 i] W fun e w' => e = .returned (.int .i64 (pickS vs i)) ∧ Below W.heap.size W w') := zH fun W i hW => spick_to V vn vc vs i W hi.2.2.2.1 hi.2.2.2.2.1 (hi.2.2.2.2.2.below hW)
 have HX2 := zH HX2'; have HN := zH hN
 clear hi HX2' CX' hXS hN
 have HE := zH (show Below w.heap.size w ((w.alloc (.cells #[.int .i64 id, .int .i64 fi, .slice S sn sc, .slice V vn vc] 32)).alloc (.cells #[.slice none 0 0] 38)) from below_a2 (Below.refl _ _))
 have HK := zH (boxes2' w 32 38 #[.int .i64 id, .int .i64 fi, .slice S sn sc, .slice V vn vc] #[.slice none 0 0])
 go_enter Tryz.func14, Tryz.ntmps14
 go_upto_region 1 with fail
 obtain ⟨W0, hW0⟩ : ∃ W0 : World, ((w.alloc (.cells #[.int .i64 id, .int .i64 fi, .slice S sn sc, .slice V vn vc] 32)).alloc (.cells #[.slice none 0 0] 38)) = W0 := ⟨_, rfl⟩
 rw [hW0] at HE HK ⊢
 clear hW0
 obtain ⟨G, hG⟩ : ∃ G, w.heap.size = G := ⟨_, rfl⟩
 rw [hG] at HK ⊢
 have HG := zH hG; clear hG
 have r_ := HK.out _ (.tail _ (.head _))
 have r_0 := r_.cell 0
 have r_1 := r_.cell 1
 have r_2 := r_.cell 2
 have r_3 := r_.cell 3
 simp at r_0 r_1 r_2 r_3
 clear r_
 go_wp2_with fail
 refine (CX.out _ HE.out).mono ?_
 rintro e y1 ⟨xv, rfl, hox, hq⟩
 have HE1 := zH (below_then HE.out hq); have HK1 := zH (HK.out.on hq)
 clear hq HE HK r_0 r_1 r_2 r_3 CX
 obtain ⟨xb, xc, rfl, _, xlt, hxm⟩ := own_ints_memN hox HN.out (by have := HX2.out; omega)
 have HXM := zH hxm; have HXL := zH xlt
 clear hxm xlt hox
 go_upto_region 3 with fail
 have HT2 := zH (Blk.new y1 38 #[.slice none 0 0]); have HB2 := zH (below_alloc1 y1 (.cells #[.slice none 0 0] 38))
 obtain ⟨W2, hW⟩ : ∃ W', y1.alloc (.cells #[.slice none 0 0] 38) = W' := ⟨_, rfl⟩
 rw [hW] at HT2 HB2 ⊢
 clear hW
 obtain ⟨M, hM⟩ : ∃ M, y1.heap.size = M := ⟨_, rfl⟩
 rw [hM] at HT2 ⊢
 have HMY := zH hM; clear hM
 go_wp2_with fail
 go_loopw [9] (fun i wr => ∃ (k : Nat) (v : Value), k ≤ N ∧ i = .int .i64 k ∧ Below y1.heap.size y1 wr ∧ Blk wr M 38 #[v] ∧ OwnPts (M + 1) wr v (rowsTo XS (freeF vs fr mo) k)) (fun i _ => N - (intOf i).toNat)
 case atStart => exact ⟨0, _, by omega, rfl, HB2.out, HT2.out, World.ownsRow_nil _ _ _ _⟩
 case round =>
  obtain ⟨k, v, hk, rfl, hB, hT, hO⟩ := hrel
  have HB := zH hB; have HT := zH hT; have HOWN := zH hO
  clear hB hT hO HT2 HB2
  have HX := zH (HK1.out.on HB.out); have HE := zH (below_then HE1.out HB.out)
  by_cases hlt : k < N
  ·skip
   have k1 : (k : Int) < (N : Int) := by omega
   have k3 : (0 : Int) ≤ (k : Int) := by omega
   have hk8 : k < 8 := by have := HX2.out; omega
   obtain ⟨x, hx⟩ : ∃ x, XS[k]? = some x := ⟨_, List.getElem?_eq_getElem (show k < XS.length by rw [HN.out]; exact hlt)⟩
   have HS := zH (rowsTo_succ (f := freeF vs fr mo) hx)
   have HCX : Hid (∀ W : World, Below y1.heap.size y1 W → W.cell? ⟨xb, k, none⟩ = some (.int .i64 x)) := zH fun W hW => by
    have q := HXM.out k x hx
    rw [← hW.cell (p := ⟨xb, 0 + k, none⟩) HXL.out] at q
    simpa using q
   have hln := rowsTo_len XS (freeF vs fr mo) k (by rw [HN.out]; exact hk)
   have HLN : Hid ((rowsTo XS (freeF vs fr mo) k).length ≤ 8) := zH (by omega)
   obtain ⟨LR, hLR⟩ : ∃ l, rowsTo XS (freeF vs fr mo) k = l := ⟨_, rfl⟩
   rw [hLR] at HS HOWN HLN
   clear hLR hln
   obtain ⟨j2, hj2⟩ : ∃ z, 2 * (k : Int) = z := ⟨_, rfl⟩
   have w1 : IntKind.i64.wrap (2 * (k : Int)) = j2 := by rw [IntWalk.i64_in _ ⟨by omega, by omega⟩]; exact hj2
   obtain ⟨a1, ha1⟩ : ∃ z, fr + j2 = z := ⟨_, rfl⟩
   have w2 : IntKind.i64.wrap (fr + j2) = a1 := by rw [IntWalk.i64_in _ ⟨by omega, by omega⟩]; exact ha1
   obtain ⟨a2, ha2⟩ : ∃ z, a1 + 1 = z := ⟨_, rfl⟩
   have w3 : IntKind.i64.wrap (a1 + 1) = a2 := by rw [IntWalk.i64_in _ ⟨by omega, by omega⟩]; exact ha2
   obtain ⟨b0, b1⟩ := emod_in (pickS vs a1) g0
   obtain ⟨q4, hq4⟩ : ∃ z, mo / 4 = z := ⟨_, rfl⟩
   have ht4 : mo.tdiv 4 = q4 := by rw [Int.tdiv_eq_ediv_of_nonneg (by omega)]; exact hq4
   have w4 : IntKind.i64.wrap (mo.tdiv 4) = q4 := by rw [ht4]; exact IntWalk.i64_in _ ⟨by omega, by omega⟩
   obtain ⟨q5, hq5⟩ : ∃ z, q4 + 1 = z := ⟨_, rfl⟩
   have w5 : IntKind.i64.wrap (q4 + 1) = q5 := by rw [IntWalk.i64_in _ ⟨by omega, by omega⟩]; exact hq5
   have hq50 : 0 < q5 ∧ q5 ≤ 1000000 := by omega
   obtain ⟨b2, b3⟩ := emod_in (pickS vs a2) hq50.1
   obtain ⟨P0, hP0⟩ : ∃ z, pickS vs a1 = z := ⟨_, rfl⟩
   obtain ⟨P1, hP1⟩ : ∃ z, pickS vs a2 = z := ⟨_, rfl⟩
   rw [hP0] at b0 b1
   rw [hP1] at b2 b3
   obtain ⟨lo, hlo⟩ : ∃ z, P0 % mo = z := ⟨_, rfl⟩
   obtain ⟨dd, hdd⟩ : ∃ z, P1 % q5 = z := ⟨_, rfl⟩
   rw [hlo] at b0 b1
   rw [hdd] at b2 b3
   obtain ⟨hi, hhi⟩ : ∃ z, lo + dd = z := ⟨_, rfl⟩
   have w6 : IntKind.i64.wrap (lo + dd) = hi := by rw [IntWalk.i64_in _ ⟨by omega, by omega⟩]; exact hhi
   have hF : freeF vs fr mo k = (lo, hi) := by
    unfold freeF
    rw [show fr + 2 * (k : Int) = a1 by omega, show a1 + 1 = a2 by omega, hP0, hP1, show mo / 4 + 1 = q5 by omega, hlo, hdd, hhi]
   rw [hF] at HS
   have CP0 : Hid (∀ W, Below w.heap.size w W → Calls Tryz.prog 12 #[.slice V vn vc, .int .i64 a1] W fun e w' => e = .returned (.int .i64 P0) ∧ Below W.heap.size W w') := zH fun W hW => int_to (HV.out W a1 hW) hP0
   have CP1 : Hid (∀ W, Below w.heap.size w W → Calls Tryz.prog 12 #[.slice V vn vc, .int .i64 a2] W fun e w' => e = .returned (.int .i64 P1) ∧ Below W.heap.size W w') := zH fun W hW => int_to (HV.out W a2 hW) hP1
   have CM0 : Hid (∀ W, Calls Tryz.prog 8 #[.int .i64 P0, .int .i64 mo] W fun e w' => e = .returned (.int .i64 lo) ∧ Below W.heap.size W w') := zH fun W => int_to (smod_to P0 mo W (by omega) (by omega)) hlo
   have CM1 : Hid (∀ W, Calls Tryz.prog 8 #[.int .i64 P1, .int .i64 q5] W fun e w' => e = .returned (.int .i64 dd) ∧ Below W.heap.size W w') := zH fun W => int_to (smod_to P1 q5 W (by omega) (by omega)) hdd
   clear hF hP0 hP1 hlo hdd hhi hq4 hq5 ht4 hj2 ha1 ha2 b0 b1 b2 b3 hq50 hx
   have r_ := HX.out _ (.tail _ (.head _))
   have r_3 := r_.cell 3
   simp at r_3
   clear r_
   go_wp2_with fail
   refine (CP0.out _ HE.out).mono ?_
   rintro e z1' ⟨rfl, hq⟩
   have HW := zH hq
   clear hq r_3
   go_wp2_with fail
   refine (CM0.out _).mono ?_
   rintro e z2' ⟨rfl, hq⟩
   have HW := zH (below_then HW.out hq)
   clear hq CP0 CM0
   go_upto_region 7 with fail
   have hS0 : Below y1.heap.size y1 z2'.drew := (below_then HB.out HW.out).drew
   have HW := zH HW.out.drew
   refine wp_region_held_drew (S := fun w' => Below y1.heap.size y1 w') (by kernel_rfl) hS0 (fun hHeld => ?_)
   obtain ⟨yq, hW⟩ : ∃ W', z2'.drew = W' := ⟨_, rfl⟩
   rw [hW] at hHeld HW ⊢
   clear hW hS0 HX HE
   refine tK 29 (i := 0) (v := .pointer (some ⟨M, 0, none⟩)) rfl rfl (by kernel_rfl) ?_ hHeld ?_
   ·intro w hSw; clear hSw; go_simp; try with_reducible rfl
   simp only [uZ, uS]
   refine tK 31 (i := 2) (v := .slice (some ⟨xb, 0, none⟩) N xc) rfl rfl (by kernel_rfl) ?_ hHeld ?_
   ·intro w hSw; clear hSw; go_simp; try with_reducible rfl
   simp only [uZ, uS]
   refine tK 32 (i := 3) (v := .int .i64 k) rfl rfl (by kernel_rfl) ?_ hHeld ?_
   ·intro w hSw; clear hSw; go_simp; try with_reducible rfl
   simp only [uZ, uS]
   refine tK 33 (i := 4) (v := .pointer (some ⟨xb, k, none⟩)) rfl rfl (by kernel_rfl) ?_ hHeld ?_
   ·intro w hSw; clear hSw; go_simp; try with_reducible rfl
   simp only [uZ, uS]
   refine tK 34 (i := 5) (v := .int .i64 x) rfl rfl (by kernel_rfl) ?_ hHeld ?_
   ·intro w hSw; have cx := HCX.out _ hSw; clear hSw; go_simp; try with_reducible rfl
   simp only [uZ, uS]
   refine tK 35 (i := 6) (v := .int .i64 lo) rfl rfl (by kernel_rfl) ?_ hHeld ?_
   ·intro w hSw; clear hSw; go_simp; try with_reducible rfl
   simp only [uZ, uS]
   refine tK 36 (i := 7) (v := .int .i64 lo) rfl rfl (by kernel_rfl) ?_ hHeld ?_
   ·intro w hSw; clear hSw; go_simp; try with_reducible rfl
   simp only [uZ, uS]
   refine tK 37 (i := 8) (v := .pointer (some ⟨G, 3, none⟩)) rfl rfl (by kernel_rfl) ?_ hHeld ?_
   ·intro w hSw; clear hSw; go_simp; try with_reducible rfl
   simp only [uZ, uS]
   refine tK 38 (i := 9) (v := .slice V vn vc) rfl rfl (by kernel_rfl) ?_ hHeld ?_
   ·intro w hSw; have hz := ((HK1.out.on hSw) _ (.tail _ (.head _))); have c3 := hz.cell 3; simp at c3; clear hz hSw; go_simp; try with_reducible rfl
   simp only [uZ, uS]
   refine tK 39 (i := 10) (v := .int .i64 fr) rfl rfl (by kernel_rfl) ?_ hHeld ?_
   ·intro w hSw; clear hSw; go_simp; try with_reducible rfl
   simp only [uZ, uS]
   refine tK 40 (i := 11) (v := .int .i64 k) rfl rfl (by kernel_rfl) ?_ hHeld ?_
   ·intro w hSw; clear hSw; go_simp; try with_reducible rfl
   simp only [uZ, uS]
   refine tK 41 (i := 12) (v := .int .i64 j2) rfl rfl (by kernel_rfl) ?_ hHeld ?_
   ·intro w hSw; clear hSw; go_simp; first | done | exact w1
   simp only [uZ, uS]
   refine tK 42 (i := 13) (v := .int .i64 a1) rfl rfl (by kernel_rfl) ?_ hHeld ?_
   ·intro w hSw; clear hSw; go_simp; first | done | exact w2
   simp only [uZ, uS]
   refine tK 43 (i := 14) (v := .int .i64 a2) rfl rfl (by kernel_rfl) ?_ hHeld ?_
   ·intro w hSw; clear hSw; go_simp; first | done | exact w3
   simp only [uZ, uS]
   refine tK 45 (i := 16) (v := .int .i64 mo) rfl rfl (by kernel_rfl) ?_ hHeld ?_
   ·intro w hSw; clear hSw; go_simp; try with_reducible rfl
   simp only [uZ, uS]
   refine tK 46 (i := 17) (v := .int .i64 q4) rfl rfl (by kernel_rfl) ?_ hHeld ?_
   ·intro w hSw; clear hSw; go_simp; first | done | exact w4
   simp only [uZ, uS]
   refine tK 47 (i := 18) (v := .int .i64 q5) rfl rfl (by kernel_rfl) ?_ hHeld ?_
   ·intro w hSw; clear hSw; go_simp; first | done | exact w5
   simp only [uZ, uS]
   refine wpAnyH_ready (rs := [1, 15]) (by kernel_rfl) (by simp) ?_
   refine AllReadyH.cons rfl (fun K hK => ?_) (AllReadyH.cons rfl (fun K hK => ?_) AllReadyH.nil)
   have c1 := (blkOn HT.out HW.out).cell 0
   simp at c1
   go_simp
   refine hK.out _ _ hHeld (fun θ => ?_)
   clear c1
   try simp only [Act.put, uA, uZ, uS]
   clear hK K hHeld
   have hHeld := θ
   clear θ
   refine rK 15 (by kernel_rfl) rfl (fun K hK => ?_)
   go_simp
   (with_reducible refine (CP1.out _ (below_then HE1.out hHeld)).mono ?_)
   rintro x y ⟨rfl, hq⟩
   have HW := zH (below_then HW.out hq)
   refine hK.out _ _ (below_then hHeld hq) (fun θ => ?_)
   clear hq
   try simp only [Act.put, uA, uZ, uS]
   clear hK K hHeld
   have hHeld := θ
   clear θ
   refine rK 19 (by kernel_rfl) rfl (fun K hK => ?_)
   go_simp
   (with_reducible refine (CM1.out _).mono ?_)
   rintro x y ⟨rfl, hq⟩
   have HW := zH (below_then HW.out hq)
   refine hK.out _ _ (below_then hHeld hq) (fun θ => ?_)
   clear hq
   try simp only [Act.put, uA, uZ, uS]
   clear hK K hHeld
   have hHeld := θ
   clear θ
   refine tK 49 (i := 20) (v := .int .i64 hi) rfl rfl (by kernel_rfl) ?_ hHeld ?_
   ·intro w hSw; clear hSw; go_simp; first | done | exact w6
   simp only [uZ, uS]
   refine tK 50 (i := 21) (v := .agg #[.int .i64 x, .int .i64 lo, .int .i64 hi]) rfl rfl (by kernel_rfl) ?_ hHeld ?_
   ·intro w hSw; clear hSw; go_simp; try with_reducible rfl
   simp only [uZ, uS]
   refine rK 22 (by kernel_rfl) rfl (fun K hK => ?_)
   rename World => yq
   go_simp
   have HNB := zH (World.news_of_block (cs := #[.int .i64 x, .int .i64 lo, .int .i64 hi]) (t := 66) (fr := (0, 0)) (heap_alloc_new yq (.cells #[.int .i64 x, .int .i64 lo, .int .i64 hi] 66)))
   have HYZ := zH (World.size_alloc yq (.cells #[.int .i64 x, .int .i64 lo, .int .i64 hi] 66))
   have HW := zH (below_then HW.out (below_alloc1 yq (.cells #[.int .i64 x, .int .i64 lo, .int .i64 hi] 66)))
   refine hK.out _ _ (below_then hHeld (below_alloc1 yq (.cells #[.int .i64 x, .int .i64 lo, .int .i64 hi] 66))) (fun θ => ?_)
   try simp only [Act.put, uA, uZ, uS]
   clear hK K hHeld
   have hHeld := θ
   clear θ
   obtain ⟨ya, hW⟩ : ∃ W', yq.alloc (.cells #[.int .i64 x, .int .i64 lo, .int .i64 hi] 66) = W' := ⟨_, rfl⟩
   rw [hW] at HW hHeld HNB HYZ ⊢
   clear hW
   obtain ⟨Z, hZ⟩ : ∃ Z, yq.heap.size = Z := ⟨_, rfl⟩
   rw [hZ] at HNB HYZ ⊢
   clear hZ
   rotate_left
   go_simp
   (with_reducible refine (CP1.out _ (below_then HE1.out hHeld)).mono ?_)
   rintro x y ⟨rfl, hq⟩
   have HW := zH (below_then HW.out hq)
   refine hK.out _ _ (below_then hHeld hq) (fun θ => ?_)
   clear hq
   try simp only [Act.put, uA, uZ, uS]
   clear hK K hHeld
   have hHeld := θ
   clear θ
   refine wpAnyH_ready (rs := [1, 19]) (by kernel_rfl) (by simp) ?_
   refine AllReadyH.cons rfl (fun K hK => ?_) (AllReadyH.cons rfl (fun K hK => ?_) AllReadyH.nil)
   have c1 := (blkOn HT.out HW.out).cell 0
   simp at c1
   go_simp
   refine hK.out _ _ hHeld (fun θ => ?_)
   clear c1
   try simp only [Act.put, uA, uZ, uS]
   clear hK K hHeld
   have hHeld := θ
   clear θ
   refine rK 19 (by kernel_rfl) rfl (fun K hK => ?_)
   go_simp
   (with_reducible refine (CM1.out _).mono ?_)
   rintro x y ⟨rfl, hq⟩
   have HW := zH (below_then HW.out hq)
   refine hK.out _ _ (below_then hHeld hq) (fun θ => ?_)
   clear hq
   try simp only [Act.put, uA, uZ, uS]
   clear hK K hHeld
   have hHeld := θ
   clear θ
   refine tK 49 (i := 20) (v := .int .i64 hi) rfl rfl (by kernel_rfl) ?_ hHeld ?_
   ·intro w hSw; clear hSw; go_simp; first | done | exact w6
   simp only [uZ, uS]
   refine tK 50 (i := 21) (v := .agg #[.int .i64 x, .int .i64 lo, .int .i64 hi]) rfl rfl (by kernel_rfl) ?_ hHeld ?_
   ·intro w hSw; clear hSw; go_simp; try with_reducible rfl
   simp only [uZ, uS]
   refine rK 22 (by kernel_rfl) rfl (fun K hK => ?_)
   rename World => yq
   go_simp
   have HNB := zH (World.news_of_block (cs := #[.int .i64 x, .int .i64 lo, .int .i64 hi]) (t := 66) (fr := (0, 0)) (heap_alloc_new yq (.cells #[.int .i64 x, .int .i64 lo, .int .i64 hi] 66)))
   have HYZ := zH (World.size_alloc yq (.cells #[.int .i64 x, .int .i64 lo, .int .i64 hi] 66))
   have HW := zH (below_then HW.out (below_alloc1 yq (.cells #[.int .i64 x, .int .i64 lo, .int .i64 hi] 66)))
   refine hK.out _ _ (below_then hHeld (below_alloc1 yq (.cells #[.int .i64 x, .int .i64 lo, .int .i64 hi] 66))) (fun θ => ?_)
   try simp only [Act.put, uA, uZ, uS]
   clear hK K hHeld
   have hHeld := θ
   clear θ
   obtain ⟨ya, hW⟩ : ∃ W', yq.alloc (.cells #[.int .i64 x, .int .i64 lo, .int .i64 hi] 66) = W' := ⟨_, rfl⟩
   rw [hW] at HW hHeld HNB HYZ ⊢
   clear hW
   obtain ⟨Z, hZ⟩ : ∃ Z, yq.heap.size = Z := ⟨_, rfl⟩
   rw [hZ] at HNB HYZ ⊢
   clear hZ
   rotate_left
   go_simp
   (with_reducible refine (CM1.out _).mono ?_)
   rintro x y ⟨rfl, hq⟩
   have HW := zH (below_then HW.out hq)
   refine hK.out _ _ (below_then hHeld hq) (fun θ => ?_)
   clear hq
   try simp only [Act.put, uA, uZ, uS]
   clear hK K hHeld
   have hHeld := θ
   clear θ
   refine tK 49 (i := 20) (v := .int .i64 hi) rfl rfl (by kernel_rfl) ?_ hHeld ?_
   ·intro w hSw; clear hSw; go_simp; first | done | exact w6
   simp only [uZ, uS]
   refine tK 50 (i := 21) (v := .agg #[.int .i64 x, .int .i64 lo, .int .i64 hi]) rfl rfl (by kernel_rfl) ?_ hHeld ?_
   ·intro w hSw; clear hSw; go_simp; try with_reducible rfl
   simp only [uZ, uS]
   refine wpAnyH_ready (rs := [1, 22]) (by kernel_rfl) (by simp) ?_
   refine AllReadyH.cons rfl (fun K hK => ?_) (AllReadyH.cons rfl (fun K hK => ?_) AllReadyH.nil)
   have c1 := (blkOn HT.out HW.out).cell 0
   simp at c1
   go_simp
   refine hK.out _ _ hHeld (fun θ => ?_)
   clear c1
   try simp only [Act.put, uA, uZ, uS]
   clear hK K hHeld
   have hHeld := θ
   clear θ
   refine rK 22 (by kernel_rfl) rfl (fun K hK => ?_)
   rename World => yq
   go_simp
   have HNB := zH (World.news_of_block (cs := #[.int .i64 x, .int .i64 lo, .int .i64 hi]) (t := 66) (fr := (0, 0)) (heap_alloc_new yq (.cells #[.int .i64 x, .int .i64 lo, .int .i64 hi] 66)))
   have HYZ := zH (World.size_alloc yq (.cells #[.int .i64 x, .int .i64 lo, .int .i64 hi] 66))
   have HW := zH (below_then HW.out (below_alloc1 yq (.cells #[.int .i64 x, .int .i64 lo, .int .i64 hi] 66)))
   refine hK.out _ _ (below_then hHeld (below_alloc1 yq (.cells #[.int .i64 x, .int .i64 lo, .int .i64 hi] 66))) (fun θ => ?_)
   try simp only [Act.put, uA, uZ, uS]
   clear hK K hHeld
   have hHeld := θ
   clear θ
   obtain ⟨ya, hW⟩ : ∃ W', yq.alloc (.cells #[.int .i64 x, .int .i64 lo, .int .i64 hi] 66) = W' := ⟨_, rfl⟩
   rw [hW] at HW hHeld HNB HYZ ⊢
   clear hW
   obtain ⟨Z, hZ⟩ : ∃ Z, yq.heap.size = Z := ⟨_, rfl⟩
   rw [hZ] at HNB HYZ ⊢
   clear hZ
   rotate_left
   rename World => yq
   go_simp
   have HNB := zH (World.news_of_block (cs := #[.int .i64 x, .int .i64 lo, .int .i64 hi]) (t := 66) (fr := (0, 0)) (heap_alloc_new yq (.cells #[.int .i64 x, .int .i64 lo, .int .i64 hi] 66)))
   have HYZ := zH (World.size_alloc yq (.cells #[.int .i64 x, .int .i64 lo, .int .i64 hi] 66))
   have HW := zH (below_then HW.out (below_alloc1 yq (.cells #[.int .i64 x, .int .i64 lo, .int .i64 hi] 66)))
   refine hK.out _ _ (below_then hHeld (below_alloc1 yq (.cells #[.int .i64 x, .int .i64 lo, .int .i64 hi] 66))) (fun θ => ?_)
   try simp only [Act.put, uA, uZ, uS]
   clear hK K hHeld
   have hHeld := θ
   clear θ
   obtain ⟨ya, hW⟩ : ∃ W', yq.alloc (.cells #[.int .i64 x, .int .i64 lo, .int .i64 hi] 66) = W' := ⟨_, rfl⟩
   rw [hW] at HW hHeld HNB HYZ ⊢
   clear hW
   obtain ⟨Z, hZ⟩ : ∃ Z, yq.heap.size = Z := ⟨_, rfl⟩
   rw [hZ] at HNB HYZ ⊢
   clear hZ
   refine rK 1 (by kernel_rfl) rfl (fun K hK => ?_)
   have c1 := (blkOn HT.out HW.out).cell 0
   simp at c1
   go_simp
   refine hK.out _ _ hHeld (fun θ => ?_)
   clear c1
   try simp only [Act.put, uA, uZ, uS]
   clear hK K hHeld
   have hHeld := θ
   clear θ
   rotate_left
   all_goals
    have HZB : Hid (M + 1 ≤ wr.heap.size) := zH HT.out.lt
    refine rK 23 (by kernel_rfl) rfl (fun K hK => ?_)
    have HOW := zH (HOWN.out.below HW.out)
    refine step_append_lies _ (by rfl) (.tmp 30) (.tmp 51) _ (by rfl) (M + 1) 66 i0 _ 3 24 Tryz.underlying36 i1 i2 i3 i4 rfl (by omega) v LR.length (ptCells LR) (by rfl) (by exact HOW.out) ⟨Z, 0, none⟩ 1 1 [.int .i64 x, .int .i64 lo, .int .i64 hi] (by rfl) (by rfl) (by exact HNB.out) (by simp [Value.oneCell']) (by omega) (by have := HLN.out; simp [maxLen]; omega) (by have := HLN.out; omega) (by have := HZB.out; have := HW.out.size; omega) (Z + 1) (by exact HYZ.out) ?_
    intro gg cap w5 hown1 hgrow hat hlt5
    have hrow : ∀ j, Value.ownBlock v = some j → (M + 1) ≤ j := fun j hj => (World.ownsRow.lt (show wr.ownsRow ((M + 1)) 66 3 v _ _ from HOWN.out) j hj).1
    have hT5 := (blkOn HT.out HW.out).grown hgrow (fun hj => by have := hrow _ hj.symm; omega)
    have hB5 := hHeld.grown hgrow (hHeld.size) (fun j hj => by have := hrow j hj; have := HMY.out; omega)
    have hf := hT5.frozen 0; have hl := hT5.lt; have hc := hT5.cell 0
    simp at hc
    refine hK.out _ _ hB5 (fun θ => ?_)
    try simp only [Act.put, uA, uZ, uS]
    clear hK K hHeld
    have hHeld := θ
    clear θ
    refine tK 53 (i := 24) (v := .pointer (some ⟨M, 0, none⟩)) rfl rfl (by kernel_rfl) ?_ hHeld ?_
    ·intro w hSw; clear hSw; go_simp; try with_reducible rfl
    simp only [uZ, uS]
    refine rK 25 (by kernel_rfl) rfl (fun K hK => ?_)
    go_simp
    have hB6 := hB5.setCell (p := ⟨M, 0, none⟩) (by have := HMY.out; simp; omega) (.slice (some ⟨gg, 0, none⟩) (LR.length + 1) cap)
    refine hK.out _ _ hB6 (fun θ => ?_)
    try simp only [Act.put, uA, uZ, uS]
    clear hK K hHeld
    have hHeld := θ
    clear θ
    refine wpAnyH_done (by kernel_rfl) ?_ _
    clear hHeld
    have hT6 := hT5.set_ 0 (.slice (some ⟨gg, 0, none⟩) (LR.length + 1) cap)
    have hgg : gg ≠ M := by
     rcases hat with hat | hat
     ·have := hrow _ hat; omega
     ·have := HZB.out; have := HW.out.size; have := HYZ.out; omega
    have hown2 := World.ownsRow.kept hown1 (grownBy_setCell' w5 M (.slice (some ⟨gg, 0, none⟩) (LR.length + 1) cap)) (.inr (by simp [Value.ownBlock]; exact hgg))
    have HT6 := zH hT6; have HB6 := zH hB6; have HO6 := zH (own_push (x := (x, lo, hi)) hown2)
    clear hT6 hB6 hown2 hT5 hB5 hf hl hc hown1 hgrow hat hlt5 hrow hgg HW HOW HNB HYZ
    go_wp2
    go_roundw
    case rel => exact ⟨k + 1, _, by omega, by go_num, HB6.out, HT6.out, by rw [HS.out]; exact HO6.out⟩
    case measure => simp [intOf]; omega
  have k1 : ¬ (k : Int) < (N : Int) := by omega
  have hkn : k = N := by omega
  subst hkn
  obtain ⟨vp, vn', vc', rfl⟩ := HOWN.out.slice
  have z_ := HX.out _ (.head _)
  have z_0 := z_.cell 0
  have z_f0 := z_.frozen 0
  have z_l := z_.lt
  simp at z_0 z_f0
  clear z_
  have m_ := HT.out.cell 0
  simp at m_
  clear hk hlt
  go_wp2
  have hg := HG.out; have hmy := HMY.out; have hb1 := (HK1.out _ (.head _)).lt
  refine bodyPost_ret (v := .agg #[.slice vp vn' vc']) (by simp [results, Tryz.results14, go_sem, z_0]) rfl ⟨_, rfl, ?_, ?_⟩
  ·refine OwnPts.monoY (World.ownsRow.kept (show wr.ownsRow (M + 1) 66 3 (.slice vp vn' vc') _ _ from HOWN.out) (grownBy_setCell' wr (G + 1) _) (.inr (fun hj => ?_))) (by have := HE1.out.size; omega)
   have := (World.ownsRow.lt (show wr.ownsRow (M + 1) 66 3 (.slice vp vn' vc') _ _ from HOWN.out) _ hj).1
   dsimp only at hb1
   omega
  ·exact HE.out.setCell (by simp <;> omega) _
end

section
open Go.RowKit
attribute [local go_sem ↓] run_minI run_maxI
def slopeF (vs : List Int) (fr mo : Int) : Nat → Int × Int
  | 0 => (pickS vs fr % 20, pickS vs fr % 20 + pickS vs (fr + 1) % 15)
  | k + 1 => ((slopeF vs fr mo k).1 + pickS vs (fr + 2 + 2 * k) % mo, max (slopeF vs fr mo k).2 ((slopeF vs fr mo k).1 + pickS vs (fr + 2 + 2 * k) % mo) + pickS vs (fr + 3 + 2 * k) % mo / 3)
theorem slopeF_in (vs : List Int) (fr : Int) {mo : Int} (g0 : 0 < mo) (g1 : mo ≤ 1000000) : ∀ k : Nat, k ≤ 9 → 0 ≤ (slopeF vs fr mo k).1 ∧ (slopeF vs fr mo k).1 ≤ (slopeF vs fr mo k).2 ∧ (slopeF vs fr mo k).2 ≤ 35 + 2000000 * k
  | 0, _ => by
    obtain ⟨h1, h2⟩ := emod_in (pickS vs fr) (show (0 : Int) < 20 by omega)
    obtain ⟨h3, h4⟩ := emod_in (pickS vs (fr + 1)) (show (0 : Int) < 15 by omega)
    unfold slopeF
    dsimp only
    exact ⟨by omega, by omega, by omega⟩
  | k + 1, h => by
    obtain ⟨h1, h2, h3⟩ := slopeF_in vs fr g0 g1 k (by omega)
    obtain ⟨h5, h6⟩ := emod_in (pickS vs (fr + 2 + 2 * k)) g0
    obtain ⟨h7, h8⟩ := emod_in (pickS vs (fr + 3 + 2 * k)) g0
    rw [slopeF]
    dsimp only
    refine ⟨by omega, by omega, ?_⟩
    push_cast
    omega
theorem own_pts_mem {base N : Nat} {w : World} {v : Value} {l : List P3} (h : OwnPts base w v l) (hN : l.length = N) (hp : 0 < N) : ∃ g cap, v = .slice (some ⟨g, 0, none⟩) N cap ∧ base ≤ g ∧ g < w.heap.size ∧ ∀ k p, l[k]? = some p → w.cell? ⟨g, k * 3, none⟩ = some (.int .i64 p.1) ∧ w.cell? ⟨g, k * 3 + 1, none⟩ = some (.int .i64 p.2.1) ∧ w.cell? ⟨g, k * 3 + 2, none⟩ = some (.int .i64 p.2.2) := by
  subst hN
  obtain ⟨g, cap, rfl, h1, h2, h3⟩ := h.pts hp
  refine ⟨g, cap, rfl, h1, h2, fun k p hk => ?_⟩
  have q := h3 k p hk
  simpa using q
theorem rowsTo_get {xs : List Int} {f : Nat → Int × Int} : ∀ (n k : Nat) (x : Int), n ≤ xs.length → k < n → xs[k]? = some x → (rowsTo xs f n)[k]? = some (x, f k)
  | 0, k, x, _, h, _ => by omega
  | n + 1, k, x, hn, hk, hx => by
    have hl := rowsTo_len xs f n (by omega)
    obtain ⟨y, hy⟩ : ∃ y, xs[n]? = some y := ⟨_, List.getElem?_eq_getElem (show n < xs.length by omega)⟩
    rw [rowsTo_succ hy]
    rcases Nat.lt_or_ge k n with c | c
    · rw [List.getElem?_append_left (by omega)]
      exact rowsTo_get n k x (by omega) c hx
    · have : k = n := by omega
      subst this
      rw [hx] at hy
      injection hy with hy
      subst hy
      rw [List.getElem?_append_right (by omega), hl]
      simp
def slopedL (vs : List Int) (fr mo : Int) (fl : Bool) (xs : List Int) (n : Nat) : List P3 := if fl = true then rowsTo xs (fun k => slopeF vs fr mo (n - 1 - k)) n else rowsTo xs (slopeF vs fr mo) n

theorem ssloped_to (r : RawD) (m : RawM) (fr mo : Int) (fl : Bool) (w : World) (hi : RawIn w r m) (h0 : 0 ≤ fr) (h1 : fr ≤ 1000) (g0 : 0 < mo) (g1 : mo ≤ 1000000) :
  Calls Tryz.prog 13 #[rawV r m, .int .i64 fr, .int .i64 mo, .bool fl] w (GivesT w (slopedL r.vs fr mo fl (xsS r.fi r.st) (xsS r.fi r.st).length)) := by
 obtain ⟨id, fi, st, vs⟩ := r
 obtain ⟨S, sn, sc, V, vn, vc⟩ := m
 obtain ⟨i0, i1, i2, i3, i4⟩ := info_parts Tryz.infoP
 dsimp only
 have HX2' := xsS_len fi st
 have CX' := fun W (hW : Below w.heap.size w W) => sxs_to ⟨id, fi, st, vs⟩ ⟨S, sn, sc, V, vn, vc⟩ W (hi.below hW)
 dsimp only at CX'
 obtain ⟨XS, hXS⟩ : ∃ l, xsS fi st = l := ⟨_, rfl⟩
 rw [hXS] at HX2' CX' ⊢
 obtain ⟨N, hN⟩ : ∃ N, XS.length = N := ⟨_, rfl⟩
 rw [hN] at HX2' ⊢
 have CX : Hid (∀ W, Below w.heap.size w W → Calls Tryz.prog 31 #[.agg #[.int .i64 id, .int .i64 fi, .slice S sn sc, .slice V vn vc]] W (GivesInts W XS)) := zH CX'
 have HV : Hid (∀ W i, Below w.heap.size w W → Calls Tryz.prog 12 #[.slice V vn vc, .int .i64 i] W fun e w' => e = .returned (.int .i64 (pickS vs i)) ∧ Below W.heap.size W w') := zH fun W i hW => spick_to V vn vc vs i W hi.2.2.2.1 hi.2.2.2.2.1 (hi.2.2.2.2.2.below hW)
 have HX2 := zH HX2'; have HN := zH hN
 clear hi HX2' CX' hXS hN
 have HE := zH (show Below w.heap.size w ((w.alloc (.cells #[.int .i64 id, .int .i64 fi, .slice S sn sc, .slice V vn vc] 32)).alloc (.cells #[.slice none 0 0] 38)) from below_a2 (Below.refl _ _))
 have HK := zH (boxes2' w 32 38 #[.int .i64 id, .int .i64 fi, .slice S sn sc, .slice V vn vc] #[.slice none 0 0])
 go_enter Tryz.func13, Tryz.ntmps13
 go_upto_region 1 with fail
 obtain ⟨W0, hW0⟩ : ∃ W0 : World, ((w.alloc (.cells #[.int .i64 id, .int .i64 fi, .slice S sn sc, .slice V vn vc] 32)).alloc (.cells #[.slice none 0 0] 38)) = W0 := ⟨_, rfl⟩
 rw [hW0] at HE HK ⊢
 clear hW0
 obtain ⟨G, hG⟩ : ∃ G, w.heap.size = G := ⟨_, rfl⟩
 rw [hG] at HK ⊢
 have HG := zH hG; clear hG
 have r_ := HK.out _ (.tail _ (.head _))
 have r_0 := r_.cell 0
 have r_1 := r_.cell 1
 have r_2 := r_.cell 2
 have r_3 := r_.cell 3
 simp at r_0 r_1 r_2 r_3
 clear r_
 go_wp2_with fail
 refine (CX.out _ HE.out).mono ?_
 rintro e y1 ⟨xv, rfl, hox, hq⟩
 have HE1 := zH (below_then HE.out hq); have HK1 := zH (HK.out.on hq)
 clear hq HE HK r_0 r_1 r_2 r_3 CX
 obtain ⟨xb, xc, rfl, _, xlt, hxm⟩ := own_ints_memN hox HN.out (by have := HX2.out; omega)
 have HXM := zH hxm; have HXL := zH xlt
 clear hxm xlt hox
 go_upto_region 3 with fail
 have HT2 := zH (Blk.new y1 38 #[.slice none 0 0]); have HB2 := zH (below_alloc1 y1 (.cells #[.slice none 0 0] 38))
 obtain ⟨W2, hW⟩ : ∃ W', y1.alloc (.cells #[.slice none 0 0] 38) = W' := ⟨_, rfl⟩
 rw [hW] at HT2 HB2 ⊢
 clear hW
 obtain ⟨M, hM⟩ : ∃ M, y1.heap.size = M := ⟨_, rfl⟩
 rw [hM] at HT2 ⊢
 have HMY := zH hM; clear hM
 have HXB := zH (HK1.out.on HB2.out); have HEB := zH (below_then HE1.out HB2.out)
 have hs0 := slopeF_in vs fr g0 g1 0 (by omega)
 obtain ⟨b0, b1⟩ := emod_in (pickS vs fr) (show (0 : Int) < 20 by omega)
 obtain ⟨b2, b3⟩ := emod_in (pickS vs (fr + 1)) (show (0 : Int) < 15 by omega)
 have hsl : slopeF vs fr mo 0 = (pickS vs fr % 20, pickS vs fr % 20 + pickS vs (fr + 1) % 15) := rfl
 obtain ⟨f1, hf1⟩ : ∃ z, fr + 1 = z := ⟨_, rfl⟩
 have w1 : IntKind.i64.wrap (fr + 1) = f1 := by rw [IntWalk.i64_in _ ⟨by omega, by omega⟩]; exact hf1
 rw [hf1] at b2 b3 hsl
 have CP0 : Hid (∀ W, Below w.heap.size w W → Calls Tryz.prog 12 #[.slice V vn vc, .int .i64 fr] W fun e w' => e = .returned (.int .i64 (pickS vs fr)) ∧ Below W.heap.size W w') := zH fun W hW => HV.out W fr hW
 have CP1 : Hid (∀ W, Below w.heap.size w W → Calls Tryz.prog 12 #[.slice V vn vc, .int .i64 f1] W fun e w' => e = .returned (.int .i64 (pickS vs f1)) ∧ Below W.heap.size W w') := zH fun W hW => HV.out W f1 hW
 obtain ⟨P0, hP0⟩ : ∃ z, pickS vs fr = z := ⟨_, rfl⟩
 obtain ⟨P1, hP1⟩ : ∃ z, pickS vs f1 = z := ⟨_, rfl⟩
 rw [hP0] at CP0 b0 b1 hsl
 rw [hP1] at CP1 b2 b3 hsl
 obtain ⟨q0, hq0⟩ : ∃ z, P0 % 20 = z := ⟨_, rfl⟩
 obtain ⟨q1, hq1⟩ : ∃ z, P1 % 15 = z := ⟨_, rfl⟩
 rw [hq0] at b0 b1 hsl
 rw [hq1] at b2 b3 hsl
 have wz : IntKind.i64.wrap (q0 + q1) = q0 + q1 := IntWalk.i64_in _ ⟨by omega, by omega⟩
 have CM0 : Hid (∀ W, Calls Tryz.prog 8 #[.int .i64 P0, .int .i64 20] W fun e w' => e = .returned (.int .i64 q0) ∧ Below W.heap.size W w') := zH fun W => int_to (smod_to P0 20 W (by omega) (by omega)) hq0
 have CM1 : Hid (∀ W, Calls Tryz.prog 8 #[.int .i64 P1, .int .i64 15] W fun e w' => e = .returned (.int .i64 q1) ∧ Below W.heap.size W w') := zH fun W => int_to (smod_to P1 15 W (by omega) (by omega)) hq1
 have HSL := zH hsl
 clear hP0 hP1 hq0 hq1 b0 b1 b2 b3 hs0 hsl hf1
 have HK9 := HK1; have HE9 := HE1
 have r_3 := (HXB.out _ (.tail _ (.head _))).cell 3
 simp at r_3
 go_wp2_with fail
 refine (CP0.out _ HEB.out).mono ?_
 rintro e a1 ⟨rfl, hq⟩
 have HA := zH hq
 clear hq r_3
 go_wp2_with fail
 refine (CM0.out _).mono ?_
 rintro e a2 ⟨rfl, hq⟩
 have HA := zH (below_then HA.out hq)
 clear hq CP0 CM0
 have r_3 := ((HXB.out.on HA.out) _ (.tail _ (.head _))).cell 3
 simp at r_3
 go_wp2_with fail
 refine (CP1.out _ (below_then HEB.out HA.out)).mono ?_
 rintro e a3 ⟨rfl, hq⟩
 have HA := zH (below_then HA.out hq)
 clear hq r_3
 go_wp2_with fail
 refine (CM1.out _).mono ?_
 rintro e a4 ⟨rfl, hq⟩
 have HA := zH (below_then HA.out hq)
 clear hq CP1 CM1 w1
 go_wp2_with fail
 go_loopw [11, 12, 13] (fun sl sh i wr => ∃ (k : Nat) (v : Value) (lo hi : Int), k ≤ N ∧ sl = .int .i64 lo ∧ sh = .int .i64 hi ∧ i = .int .i64 k ∧ slopeF vs fr mo k = (lo, hi) ∧ Below y1.heap.size y1 wr ∧ Blk wr M 38 #[v] ∧ OwnPts (M + 1) wr v (rowsTo XS (slopeF vs fr mo) k)) (fun _ _ i _ => N - (intOf i).toNat)
 case atStart => exact ⟨0, _, _, _, by omega, rfl, rfl, rfl, HSL.out, below_then HB2.out HA.out, blkOn HT2.out HA.out, World.ownsRow_nil _ _ _ _⟩
 case round =>
  obtain ⟨k, v, lo, hi, hk, rfl, rfl, rfl, hsf, hB, hT, hO⟩ := hrel
  have HB := zH hB; have HT := zH hT; have HOWN := zH hO; have HSF := zH hsf
  clear hB hT hO hsf HT2 HB2 HXB HEB HA
  have HE := zH (below_then HE1.out HB.out)
  by_cases hlt : k < N
  ·skip
   have k1 : (k : Int) < (N : Int) := by omega
   have k3 : (0 : Int) ≤ (k : Int) := by omega
   have hk8 : k < 8 := by have := HX2.out; omega
   obtain ⟨x, hx⟩ : ∃ x, XS[k]? = some x := ⟨_, List.getElem?_eq_getElem (show k < XS.length by rw [HN.out]; exact hlt)⟩
   have hs1 := rowsTo_succ (f := slopeF vs fr mo) hx
   rw [HSF.out] at hs1
   have HS := zH hs1
   have HCX : Hid (∀ W : World, Below y1.heap.size y1 W → W.cell? ⟨xb, k, none⟩ = some (.int .i64 x)) := zH fun W hW => by
    have q := HXM.out k x hx
    rw [← hW.cell (p := ⟨xb, 0 + k, none⟩) HXL.out] at q
    simpa using q
   have hln := rowsTo_len XS (slopeF vs fr mo) k (by rw [HN.out]; exact hk)
   have HLN : Hid ((rowsTo XS (slopeF vs fr mo) k).length ≤ 8) := zH (by omega)
   obtain ⟨LR, hLR⟩ : ∃ l, rowsTo XS (slopeF vs fr mo) k = l := ⟨_, rfl⟩
   rw [hLR] at HS HOWN HLN
   clear hLR hln hs1 hx
   have hin := slopeF_in vs fr g0 g1 k (by omega)
   rw [HSF.out] at hin
   dsimp only at hin
   obtain ⟨n1, n2, n3⟩ := hin
   obtain ⟨j2, hj2⟩ : ∃ z, 2 * (k : Int) = z := ⟨_, rfl⟩
   have w1 : IntKind.i64.wrap (2 * (k : Int)) = j2 := by rw [IntWalk.i64_in _ ⟨by omega, by omega⟩]; exact hj2
   obtain ⟨f2, hf2⟩ : ∃ z, fr + 2 = z := ⟨_, rfl⟩
   have w2 : IntKind.i64.wrap (fr + 2) = f2 := by rw [IntWalk.i64_in _ ⟨by omega, by omega⟩]; exact hf2
   obtain ⟨a1, ha1⟩ : ∃ z, f2 + j2 = z := ⟨_, rfl⟩
   have w3 : IntKind.i64.wrap (f2 + j2) = a1 := by rw [IntWalk.i64_in _ ⟨by omega, by omega⟩]; exact ha1
   obtain ⟨f3, hf3⟩ : ∃ z, fr + 3 = z := ⟨_, rfl⟩
   have w4 : IntKind.i64.wrap (fr + 3) = f3 := by rw [IntWalk.i64_in _ ⟨by omega, by omega⟩]; exact hf3
   obtain ⟨a2, ha2⟩ : ∃ z, f3 + j2 = z := ⟨_, rfl⟩
   have w5 : IntKind.i64.wrap (f3 + j2) = a2 := by rw [IntWalk.i64_in _ ⟨by omega, by omega⟩]; exact ha2
   obtain ⟨b0, b1⟩ := emod_in (pickS vs a1) g0
   obtain ⟨b2, b3⟩ := emod_in (pickS vs a2) g0
   obtain ⟨P0, hP0⟩ : ∃ z, pickS vs a1 = z := ⟨_, rfl⟩
   obtain ⟨P1, hP1⟩ : ∃ z, pickS vs a2 = z := ⟨_, rfl⟩
   rw [hP0] at b0 b1
   rw [hP1] at b2 b3
   obtain ⟨d0, hd0⟩ : ∃ z, P0 % mo = z := ⟨_, rfl⟩
   obtain ⟨d1, hd1⟩ : ∃ z, P1 % mo = z := ⟨_, rfl⟩
   rw [hd0] at b0 b1
   rw [hd1] at b2 b3
   obtain ⟨lo2, hlo2⟩ : ∃ z, lo + d0 = z := ⟨_, rfl⟩
   have w6 : IntKind.i64.wrap (lo + d0) = lo2 := by rw [IntWalk.i64_in _ ⟨by omega, by omega⟩]; exact hlo2
   obtain ⟨mx, hmx⟩ : ∃ z, max hi lo2 = z := ⟨_, rfl⟩
   obtain ⟨d3, hd3⟩ : ∃ z, d1 / 3 = z := ⟨_, rfl⟩
   have ht3 : d1.tdiv 3 = d3 := by rw [Int.tdiv_eq_ediv_of_nonneg (by omega)]; exact hd3
   have w7 : IntKind.i64.wrap (d1.tdiv 3) = d3 := by rw [ht3]; exact IntWalk.i64_in _ ⟨by omega, by omega⟩
   obtain ⟨hi2, hhi2⟩ : ∃ z, mx + d3 = z := ⟨_, rfl⟩
   have w8 : IntKind.i64.wrap (mx + d3) = hi2 := by rw [IntWalk.i64_in _ ⟨by omega, by omega⟩]; exact hhi2
   have hsn : slopeF vs fr mo (k + 1) = (lo2, hi2) := by
    rw [slopeF, HSF.out]
    dsimp only
    rw [show fr + 2 + 2 * (k : Int) = a1 by omega, show fr + 3 + 2 * (k : Int) = a2 by omega, hP0, hP1, hd0, hd1, hd3, hlo2, hmx, hhi2]
   have HSN := zH hsn
   have HMX := zH hmx
   have CP0 : Hid (∀ W, Below w.heap.size w W → Calls Tryz.prog 12 #[.slice V vn vc, .int .i64 a1] W fun e w' => e = .returned (.int .i64 P0) ∧ Below W.heap.size W w') := zH fun W hW => int_to (HV.out W a1 hW) hP0
   have CP1 : Hid (∀ W, Below w.heap.size w W → Calls Tryz.prog 12 #[.slice V vn vc, .int .i64 a2] W fun e w' => e = .returned (.int .i64 P1) ∧ Below W.heap.size W w') := zH fun W hW => int_to (HV.out W a2 hW) hP1
   have CM0 : Hid (∀ W, Calls Tryz.prog 8 #[.int .i64 P0, .int .i64 mo] W fun e w' => e = .returned (.int .i64 d0) ∧ Below W.heap.size W w') := zH fun W => int_to (smod_to P0 mo W (by omega) (by omega)) hd0
   have CM1 : Hid (∀ W, Calls Tryz.prog 8 #[.int .i64 P1, .int .i64 mo] W fun e w' => e = .returned (.int .i64 d1) ∧ Below W.heap.size W w') := zH fun W => int_to (smod_to P1 mo W (by omega) (by omega)) hd1
   clear hsn hP0 hP1 hd0 hd1 hlo2 hhi2 hd3 ht3 hmx hj2 hf2 hf3 ha1 ha2 b0 b1 b2 b3 n1 n2 n3
   go_upto_region 8 with fail
   have HW := zH (below_drew1 wr)
   have hS0 : Below y1.heap.size y1 wr.drew := HB.out.drew
   refine wp_region_held_drew (S := fun w' => Below y1.heap.size y1 w') (by kernel_rfl) hS0 (fun hHeld => ?_)
   obtain ⟨yq, hW⟩ : ∃ W', wr.drew = W' := ⟨_, rfl⟩
   rw [hW] at hHeld HW ⊢
   clear hW hS0
   refine tK 40 (i := 0) (v := .pointer (some ⟨M, 0, none⟩)) rfl rfl (by kernel_rfl) ?_ hHeld ?_
   ·intro w hSw; clear hSw; go_simp; try with_reducible rfl
   simp only [uZ, uS]
   refine tK 42 (i := 2) (v := .slice (some ⟨xb, 0, none⟩) N xc) rfl rfl (by kernel_rfl) ?_ hHeld ?_
   ·intro w hSw; clear hSw; go_simp; try with_reducible rfl
   simp only [uZ, uS]
   refine tK 43 (i := 3) (v := .int .i64 k) rfl rfl (by kernel_rfl) ?_ hHeld ?_
   ·intro w hSw; clear hSw; go_simp; try with_reducible rfl
   simp only [uZ, uS]
   refine tK 44 (i := 4) (v := .pointer (some ⟨xb, k, none⟩)) rfl rfl (by kernel_rfl) ?_ hHeld ?_
   ·intro w hSw; clear hSw; go_simp; try with_reducible rfl
   simp only [uZ, uS]
   refine tK 45 (i := 5) (v := .int .i64 x) rfl rfl (by kernel_rfl) ?_ hHeld ?_
   ·intro w hSw; have cx := HCX.out _ hSw; clear hSw; go_simp; try with_reducible rfl
   simp only [uZ, uS]
   refine tK 46 (i := 6) (v := .int .i64 lo) rfl rfl (by kernel_rfl) ?_ hHeld ?_
   ·intro w hSw; clear hSw; go_simp; try with_reducible rfl
   simp only [uZ, uS]
   refine tK 47 (i := 7) (v := .int .i64 hi) rfl rfl (by kernel_rfl) ?_ hHeld ?_
   ·intro w hSw; clear hSw; go_simp; try with_reducible rfl
   simp only [uZ, uS]
   refine tK 48 (i := 8) (v := .agg #[.int .i64 x, .int .i64 lo, .int .i64 hi]) rfl rfl (by kernel_rfl) ?_ hHeld ?_
   ·intro w hSw; clear hSw; go_simp; try with_reducible rfl
   simp only [uZ, uS]
   refine wpAnyH_ready (rs := [1, 9]) (by kernel_rfl) (by simp) ?_
   refine AllReadyH.cons rfl (fun K hK => ?_) (AllReadyH.cons rfl (fun K hK => ?_) AllReadyH.nil)
   have c1 := (blkOn HT.out HW.out).cell 0
   simp at c1
   go_simp
   refine hK.out _ _ hHeld (fun θ => ?_)
   clear c1
   try simp only [Act.put, uA, uZ, uS]
   clear hK K hHeld
   have hHeld := θ
   clear θ
   refine rK 9 (by kernel_rfl) rfl (fun K hK => ?_)
   rename World => yq
   go_simp
   have HNB := zH (World.news_of_block (cs := #[.int .i64 x, .int .i64 lo, .int .i64 hi]) (t := 66) (fr := (0, 0)) (heap_alloc_new yq (.cells #[.int .i64 x, .int .i64 lo, .int .i64 hi] 66)))
   have HYZ := zH (World.size_alloc yq (.cells #[.int .i64 x, .int .i64 lo, .int .i64 hi] 66))
   have HW := zH (below_then HW.out (below_alloc1 yq (.cells #[.int .i64 x, .int .i64 lo, .int .i64 hi] 66)))
   refine hK.out _ _ (below_then hHeld (below_alloc1 yq (.cells #[.int .i64 x, .int .i64 lo, .int .i64 hi] 66))) (fun θ => ?_)
   try simp only [Act.put, uA, uZ, uS]
   clear hK K hHeld
   have hHeld := θ
   clear θ
   obtain ⟨ya, hW⟩ : ∃ W', yq.alloc (.cells #[.int .i64 x, .int .i64 lo, .int .i64 hi] 66) = W' := ⟨_, rfl⟩
   rw [hW] at HW hHeld HNB HYZ ⊢
   clear hW
   obtain ⟨Z, hZ⟩ : ∃ Z, yq.heap.size = Z := ⟨_, rfl⟩
   rw [hZ] at HNB HYZ ⊢
   clear hZ
   rotate_left
   rename World => yq
   go_simp
   have HNB := zH (World.news_of_block (cs := #[.int .i64 x, .int .i64 lo, .int .i64 hi]) (t := 66) (fr := (0, 0)) (heap_alloc_new yq (.cells #[.int .i64 x, .int .i64 lo, .int .i64 hi] 66)))
   have HYZ := zH (World.size_alloc yq (.cells #[.int .i64 x, .int .i64 lo, .int .i64 hi] 66))
   have HW := zH (below_then HW.out (below_alloc1 yq (.cells #[.int .i64 x, .int .i64 lo, .int .i64 hi] 66)))
   refine hK.out _ _ (below_then hHeld (below_alloc1 yq (.cells #[.int .i64 x, .int .i64 lo, .int .i64 hi] 66))) (fun θ => ?_)
   try simp only [Act.put, uA, uZ, uS]
   clear hK K hHeld
   have hHeld := θ
   clear θ
   obtain ⟨ya, hW⟩ : ∃ W', yq.alloc (.cells #[.int .i64 x, .int .i64 lo, .int .i64 hi] 66) = W' := ⟨_, rfl⟩
   rw [hW] at HW hHeld HNB HYZ ⊢
   clear hW
   obtain ⟨Z, hZ⟩ : ∃ Z, yq.heap.size = Z := ⟨_, rfl⟩
   rw [hZ] at HNB HYZ ⊢
   clear hZ
   refine rK 1 (by kernel_rfl) rfl (fun K hK => ?_)
   have c1 := (blkOn HT.out HW.out).cell 0
   simp at c1
   go_simp
   refine hK.out _ _ hHeld (fun θ => ?_)
   clear c1
   try simp only [Act.put, uA, uZ, uS]
   clear hK K hHeld
   have hHeld := θ
   clear θ
   rotate_left
   all_goals
    have HZB : Hid (M + 1 ≤ wr.heap.size) := zH HT.out.lt
    refine rK 10 (by kernel_rfl) rfl (fun K hK => ?_)
    have HOW := zH (HOWN.out.below HW.out)
    refine step_append_lies _ (by rfl) (.tmp 41) (.tmp 49) _ (by rfl) (M + 1) 66 i0 _ 3 24 Tryz.underlying36 i1 i2 i3 i4 rfl (by omega) v LR.length (ptCells LR) (by rfl) (by exact HOW.out) ⟨Z, 0, none⟩ 1 1 [.int .i64 x, .int .i64 lo, .int .i64 hi] (by rfl) (by rfl) (by exact HNB.out) (by simp [Value.oneCell']) (by omega) (by have := HLN.out; simp [maxLen]; omega) (by have := HLN.out; omega) (by have := HZB.out; have := HW.out.size; omega) (Z + 1) (by exact HYZ.out) ?_
    intro gg cap w5 hown1 hgrow hat hlt5
    have hrow : ∀ j, Value.ownBlock v = some j → (M + 1) ≤ j := fun j hj => (World.ownsRow.lt (show wr.ownsRow ((M + 1)) 66 3 v _ _ from HOWN.out) j hj).1
    have hT5 := (blkOn HT.out HW.out).grown hgrow (fun hj => by have := hrow _ hj.symm; omega)
    have hB5 := hHeld.grown hgrow (hHeld.size) (fun j hj => by have := hrow j hj; have := HMY.out; omega)
    have hf := hT5.frozen 0; have hl := hT5.lt; have hc := hT5.cell 0
    simp at hc
    refine hK.out _ _ hB5 (fun θ => ?_)
    try simp only [Act.put, uA, uZ, uS]
    clear hK K hHeld
    have hHeld := θ
    clear θ
    refine tK 51 (i := 11) (v := .pointer (some ⟨M, 0, none⟩)) rfl rfl (by kernel_rfl) ?_ hHeld ?_
    ·intro w hSw; clear hSw; go_simp; try with_reducible rfl
    simp only [uZ, uS]
    refine rK 12 (by kernel_rfl) rfl (fun K hK => ?_)
    go_simp
    have hB6 := hB5.setCell (p := ⟨M, 0, none⟩) (by have := HMY.out; simp; omega) (.slice (some ⟨gg, 0, none⟩) (LR.length + 1) cap)
    refine hK.out _ _ hB6 (fun θ => ?_)
    try simp only [Act.put, uA, uZ, uS]
    clear hK K hHeld
    have hHeld := θ
    clear θ
    refine wpAnyH_done (by kernel_rfl) ?_ _
    clear hHeld
    have hT6 := hT5.set_ 0 (.slice (some ⟨gg, 0, none⟩) (LR.length + 1) cap)
    have hgg : gg ≠ M := by
     rcases hat with hat | hat
     ·have := hrow _ hat; omega
     ·have := HZB.out; have := HW.out.size; have := HYZ.out; omega
    have hown2 := World.ownsRow.kept hown1 (grownBy_setCell' w5 M (.slice (some ⟨gg, 0, none⟩) (LR.length + 1) cap)) (.inr (by simp [Value.ownBlock]; exact hgg))
    have HT6 := zH hT6; have HB6 := zH hB6; have HO6 := zH (own_push (x := (x, lo, hi)) hown2)
    clear hT6 hB6 hown2 hT5 hB5 hf hl hc hown1 hgrow hat hlt5 hrow hgg HW HOW HNB HYZ
    obtain ⟨W6, hW⟩ : ∃ W', w5.setCell ⟨M, 0, none⟩ (.slice (some ⟨gg, 0, none⟩) (LR.length + 1) cap) = W' := ⟨_, rfl⟩
    rw [hW] at HB6 HT6 HO6 ⊢
    clear hW HE
    have r_3 := ((HK1.out.on HB6.out) _ (.tail _ (.head _))).cell 3
    simp at r_3
    go_wp2_with fail
    refine (CP0.out _ (below_then HE1.out HB6.out)).mono ?_
    rintro e a1' ⟨rfl, hq⟩
    have HA := zH hq
    clear hq r_3
    go_wp2_with fail
    refine (CM0.out _).mono ?_
    rintro e a2' ⟨rfl, hq⟩
    have HA := zH (below_then HA.out hq)
    clear hq CP0 CM0
    have r_3 := ((HK1.out.on (below_then HB6.out HA.out)) _ (.tail _ (.head _))).cell 3
    simp at r_3
    have hmx := HMX.out
    go_wp2_with fail
    refine (CP1.out _ (below_then (below_then HE1.out HB6.out) HA.out)).mono ?_
    rintro e a3' ⟨rfl, hq⟩
    have HA := zH (below_then HA.out hq)
    clear hq r_3
    go_wp2_with fail
    refine (CM1.out _).mono ?_
    rintro e a4' ⟨rfl, hq⟩
    have HA := zH (below_then HA.out hq)
    clear hq CP1 CM1 hmx
    go_wp2
    go_roundw
    case rel => exact ⟨k + 1, _, _, _, by omega, rfl, rfl, by go_num, HSN.out, below_then HB6.out HA.out, blkOn HT6.out HA.out, by rw [HS.out]; exact OwnPts.below HO6.out HA.out⟩
    case measure => simp [intOf]; omega
  have k1 : ¬ (k : Int) < (N : Int) := by omega
  have hkn : k = N := by omega
  subst hkn
  have hk2 := HX2.out
  obtain ⟨vg, vc', rfl, hvb, hvl, hvm⟩ := own_pts_mem HOWN.out (rowsTo_len XS (slopeF vs fr mo) k (by rw [HN.out]; exact Nat.le_refl _)) (by omega)
  cases fl
  ·-- not falling: the table is handed back
   have z := (HK1.out.on HB.out) _ (.head _)
   have z_0 := z.cell 0
   have z_f0 := z.frozen 0
   have z_l := z.lt
   simp at z_0 z_f0 z_l
   clear z
   have m_ := HT.out.cell 0
   simp at m_
   have HVB := zH hvb
   clear hk hlt hvb hvl hvm
   go_wp2
   have hg := HG.out; have hmy := HMY.out; have hb1 := (HK1.out _ (.head _)).lt
   refine bodyPost_ret (v := .agg #[.slice (some ⟨vg, 0, none⟩) k vc']) (by simp [results, Tryz.results13, go_sem, z_0]) rfl ⟨_, rfl, ?_, ?_⟩
   ·rw [show slopedL vs fr mo false XS k = rowsTo XS (slopeF vs fr mo) k from rfl]
    refine OwnPts.monoY (World.ownsRow.kept (show wr.ownsRow (M + 1) 66 3 (.slice (some ⟨vg, 0, none⟩) k vc') _ _ from HOWN.out) (grownBy_setCell' wr (G + 1) _) (.inr (fun hj => ?_))) (by have := HE1.out.size; omega)
    have := (World.ownsRow.lt (show wr.ownsRow (M + 1) 66 3 (.slice (some ⟨vg, 0, none⟩) k vc') _ _ from HOWN.out) _ hj).1
    dsimp only at hb1
    omega
   ·exact HE.out.setCell (by simp <;> omega) _
  ·skip
   have HVM := zH hvm; have HVL := zH hvl
   clear hvb hvl hvm hlt hk HOWN HSF
   rename World => we
   go_upto_region 15 with fail
   have HT4 := zH (Blk.new we 38 #[.slice none 0 0]); have HB4 := zH (below_alloc1 we (.cells #[.slice none 0 0] 38))
   obtain ⟨W4, hW⟩ : ∃ W', we.alloc (.cells #[.slice none 0 0] 38) = W' := ⟨_, rfl⟩
   rw [hW] at HT4 HB4 ⊢
   clear hW
   obtain ⟨M2, hM⟩ : ∃ M, we.heap.size = M := ⟨_, rfl⟩
   rw [hM] at HT4 ⊢
   have HMY2 := zH hM; clear hM
   have HXE := zH (HK1.out.on HB.out)
   go_wp2_with fail
   go_loopw [16] (fun i wr => ∃ (q : Nat) (v : Value), q ≤ k ∧ i = .int .i64 q ∧ Below we.heap.size we wr ∧ Blk wr M2 38 #[v] ∧ OwnPts (M2 + 1) wr v (rowsTo XS (fun j => slopeF vs fr mo (k - 1 - j)) q)) (fun i _ => k - (intOf i).toNat)
   case atStart => exact ⟨0, _, by omega, rfl, HB4.out, HT4.out, World.ownsRow_nil _ _ _ _⟩
   case round =>
    obtain ⟨q, v, hq, rfl, hB, hT2, hO⟩ := hrel
    have HB3 := zH hB; have HT3 := zH hT2; have HOWN := zH hO
    clear hB hT2 hO HT4 HB4
    have HE3 := zH (below_then HE.out HB3.out)
    by_cases hlt2 : q < k
    ·skip
     have k4 : (q : Int) < (k : Int) := by omega
     have k5 : (0 : Int) ≤ (q : Int) := by omega
     have hk8 : q < 8 := by omega
     obtain ⟨x, hx⟩ : ∃ x, XS[q]? = some x := ⟨_, List.getElem?_eq_getElem (show q < XS.length by rw [HN.out]; exact hlt2)⟩
     obtain ⟨p, hp⟩ : ∃ p : Nat, k - 1 - q = p := ⟨_, rfl⟩
     obtain ⟨x', hx'⟩ : ∃ x, XS[p]? = some x := ⟨_, List.getElem?_eq_getElem (show p < XS.length by rw [HN.out]; omega)⟩
     obtain ⟨⟨lo, hi⟩, hF⟩ : ∃ y, slopeF vs fr mo p = y := ⟨_, rfl⟩
     have hs1 := rowsTo_succ (f := fun j => slopeF vs fr mo (k - 1 - j)) hx
     try dsimp only at hs1
     rw [hp, hF] at hs1
     have HS := zH hs1
     have hcell := HVM.out p _ (rowsTo_get k p x' (by rw [HN.out]; exact Nat.le_refl _) (by omega) hx')
     rw [hF] at hcell
     dsimp only at hcell
     obtain ⟨e0, e1, e2⟩ := hcell
     rw [← HB3.out.cell (p := ⟨vg, p * 3, none⟩) HVL.out] at e0
     rw [← HB3.out.cell (p := ⟨vg, p * 3 + 1, none⟩) HVL.out] at e1
     rw [← HB3.out.cell (p := ⟨vg, p * 3 + 2, none⟩) HVL.out] at e2
     have HCX : Hid (∀ W : World, Below y1.heap.size y1 W → W.cell? ⟨xb, q, none⟩ = some (.int .i64 x)) := zH fun W hW => by
      have q' := HXM.out q x hx
      rw [← hW.cell (p := ⟨xb, 0 + q, none⟩) HXL.out] at q'
      simpa using q'
     have hln := rowsTo_len XS (fun j => slopeF vs fr mo (k - 1 - j)) q (by rw [HN.out]; exact hq)
     have HLN : Hid ((rowsTo XS (fun j => slopeF vs fr mo (k - 1 - j)) q).length ≤ 8) := zH (by omega)
     obtain ⟨LR, hLR⟩ : ∃ l, rowsTo XS (fun j => slopeF vs fr mo (k - 1 - j)) q = l := ⟨_, rfl⟩
     rw [hLR] at HS HOWN HLN
     have w1 : IntKind.i64.wrap ((k : Int) - 1) = (k : Int) - 1 := IntWalk.i64_in _ ⟨by omega, by omega⟩
     have w2 : IntKind.i64.wrap ((k : Int) - 1 - (q : Int)) = (p : Int) := by rw [IntWalk.i64_in _ ⟨by omega, by omega⟩]; omega
     have k6 : (p : Int) < (k : Int) := by omega
     have k7 : (0 : Int) ≤ (p : Int) := by omega
     have m_ := (blkOn HT.out HB3.out).cell 0
     simp at m_
     clear hLR hln hs1 hx hx' hF
     go_upto_region 19 with fail
     have HTP := zH (Blk.new wr 66 #[.int .i64 x', .int .i64 lo, .int .i64 hi]); have HWa := zH (below_alloc1 wr (.cells #[.int .i64 x', .int .i64 lo, .int .i64 hi] 66))
     obtain ⟨wp, hW⟩ : ∃ W', wr.alloc (.cells #[.int .i64 x', .int .i64 lo, .int .i64 hi] 66) = W' := ⟨_, rfl⟩
     rw [hW] at HTP HWa ⊢
     clear hW
     obtain ⟨Np, hNp⟩ : ∃ n, wr.heap.size = n := ⟨_, rfl⟩
     rw [hNp] at HTP ⊢
     have HNP := zH hNp
     clear hNp e0 e1 e2 m_ w1 w2
     have HB5' := zH (below_then HB3.out HWa.out)
     have HTQ := zH (blkOn HT3.out HWa.out); have HOWQ := zH (OwnPts.below HOWN.out HWa.out)
     have HTNE : Hid (M2 < Np) := zH (by have := HT3.out.lt; have := HNP.out; omega)
     have HNEW : Hid (∀ j, Value.ownBlock v = some j → j < Np) := zH fun j hj => by have := (World.ownsRow.lt (show wr.ownsRow (M2 + 1) 66 3 v _ _ from HOWN.out) j hj).2; have := HNP.out; omega
     have HW := zH (below_drew1 wp)
     have hS0 : Below we.heap.size we wp.drew := HB5'.out.drew
     have hS1 : Blk wp.drew Np 66 #[.int .i64 x', .int .i64 lo, .int .i64 hi] := HTP.out
     refine wp_region_held_drew (S := fun w' => Below we.heap.size we w' ∧ Blk w' Np 66 #[.int .i64 x', .int .i64 lo, .int .i64 hi]) (by kernel_rfl) ⟨hS0, hS1⟩ (fun hHeld => ?_)
     obtain ⟨yq, hW⟩ : ∃ W', wp.drew = W' := ⟨_, rfl⟩
     rw [hW] at hHeld HW ⊢
     clear hW hS0 hS1
     refine tK 98 (i := 0) (v := .pointer (some ⟨M2, 0, none⟩)) rfl rfl (by kernel_rfl) ?_ hHeld ?_
     ·intro w hSw; clear hSw; go_simp; try with_reducible rfl
     simp only [uZ, uS]
     refine tK 100 (i := 2) (v := .slice (some ⟨xb, 0, none⟩) k xc) rfl rfl (by kernel_rfl) ?_ hHeld ?_
     ·intro w hSw; clear hSw; go_simp; try with_reducible rfl
     simp only [uZ, uS]
     refine tK 101 (i := 3) (v := .int .i64 q) rfl rfl (by kernel_rfl) ?_ hHeld ?_
     ·intro w hSw; clear hSw; go_simp; try with_reducible rfl
     simp only [uZ, uS]
     refine tK 102 (i := 4) (v := .pointer (some ⟨xb, q, none⟩)) rfl rfl (by kernel_rfl) ?_ hHeld ?_
     ·intro w hSw; clear hSw; go_simp; try with_reducible rfl
     simp only [uZ, uS]
     refine tK 103 (i := 5) (v := .int .i64 x) rfl rfl (by kernel_rfl) ?_ hHeld ?_
     ·intro w hSw; have cx := HCX.out _ (below_then HB.out hSw.1); clear hSw; go_simp; try with_reducible rfl
     simp only [uZ, uS]
     refine tK 104 (i := 6) (v := .pointer (some ⟨Np, 1, none⟩)) rfl rfl (by kernel_rfl) ?_ hHeld ?_
     ·intro w hSw; clear hSw; go_simp; try with_reducible rfl
     simp only [uZ, uS]
     refine tK 105 (i := 7) (v := .int .i64 lo) rfl rfl (by kernel_rfl) ?_ hHeld ?_
     ·intro w hSw; have cx := hSw.2.cell 1; simp at cx; clear hSw; go_simp; try with_reducible rfl
     simp only [uZ, uS]
     refine tK 106 (i := 8) (v := .pointer (some ⟨Np, 2, none⟩)) rfl rfl (by kernel_rfl) ?_ hHeld ?_
     ·intro w hSw; clear hSw; go_simp; try with_reducible rfl
     simp only [uZ, uS]
     refine tK 107 (i := 9) (v := .int .i64 hi) rfl rfl (by kernel_rfl) ?_ hHeld ?_
     ·intro w hSw; have cx := hSw.2.cell 2; simp at cx; clear hSw; go_simp; try with_reducible rfl
     simp only [uZ, uS]
     refine tK 108 (i := 10) (v := .agg #[.int .i64 x, .int .i64 lo, .int .i64 hi]) rfl rfl (by kernel_rfl) ?_ hHeld ?_
     ·intro w hSw; clear hSw; go_simp; try with_reducible rfl
     simp only [uZ, uS]
     refine wpAnyH_ready (rs := [1, 11]) (by kernel_rfl) (by simp) ?_
     refine AllReadyH.cons rfl (fun K hK => ?_) (AllReadyH.cons rfl (fun K hK => ?_) AllReadyH.nil)
     have c1 := (blkOn HTQ.out HW.out).cell 0
     simp at c1
     go_simp
     refine hK.out _ _ hHeld (fun θ => ?_)
     clear c1
     try simp only [Act.put, uA, uZ, uS]
     clear hK K hHeld
     have hHeld := θ
     clear θ
     refine rK 11 (by kernel_rfl) rfl (fun K hK => ?_)
     rename World => yq
     go_simp
     have HNB := zH (World.news_of_block (cs := #[.int .i64 x, .int .i64 lo, .int .i64 hi]) (t := 66) (fr := (0, 0)) (heap_alloc_new yq (.cells #[.int .i64 x, .int .i64 lo, .int .i64 hi] 66)))
     have HYZ := zH (World.size_alloc yq (.cells #[.int .i64 x, .int .i64 lo, .int .i64 hi] 66))
     have HW := zH (below_then HW.out (below_alloc1 yq (.cells #[.int .i64 x, .int .i64 lo, .int .i64 hi] 66)))
     refine hK.out _ _ (⟨below_then hHeld.1 (below_alloc1 yq (.cells #[.int .i64 x, .int .i64 lo, .int .i64 hi] 66)), blkOn hHeld.2 (below_alloc1 _ _)⟩) (fun θ => ?_)
     try simp only [Act.put, uA, uZ, uS]
     clear hK K hHeld
     have hHeld := θ
     clear θ
     obtain ⟨ya, hW⟩ : ∃ W', yq.alloc (.cells #[.int .i64 x, .int .i64 lo, .int .i64 hi] 66) = W' := ⟨_, rfl⟩
     rw [hW] at HW hHeld HNB HYZ ⊢
     clear hW
     obtain ⟨Z, hZ⟩ : ∃ Z, yq.heap.size = Z := ⟨_, rfl⟩
     rw [hZ] at HNB HYZ ⊢
     clear hZ
     rotate_left
     rename World => yq
     go_simp
     have HNB := zH (World.news_of_block (cs := #[.int .i64 x, .int .i64 lo, .int .i64 hi]) (t := 66) (fr := (0, 0)) (heap_alloc_new yq (.cells #[.int .i64 x, .int .i64 lo, .int .i64 hi] 66)))
     have HYZ := zH (World.size_alloc yq (.cells #[.int .i64 x, .int .i64 lo, .int .i64 hi] 66))
     have HW := zH (below_then HW.out (below_alloc1 yq (.cells #[.int .i64 x, .int .i64 lo, .int .i64 hi] 66)))
     refine hK.out _ _ (⟨below_then hHeld.1 (below_alloc1 yq (.cells #[.int .i64 x, .int .i64 lo, .int .i64 hi] 66)), blkOn hHeld.2 (below_alloc1 _ _)⟩) (fun θ => ?_)
     try simp only [Act.put, uA, uZ, uS]
     clear hK K hHeld
     have hHeld := θ
     clear θ
     obtain ⟨ya, hW⟩ : ∃ W', yq.alloc (.cells #[.int .i64 x, .int .i64 lo, .int .i64 hi] 66) = W' := ⟨_, rfl⟩
     rw [hW] at HW hHeld HNB HYZ ⊢
     clear hW
     obtain ⟨Z, hZ⟩ : ∃ Z, yq.heap.size = Z := ⟨_, rfl⟩
     rw [hZ] at HNB HYZ ⊢
     clear hZ
     refine rK 1 (by kernel_rfl) rfl (fun K hK => ?_)
     have c1 := (blkOn HTQ.out HW.out).cell 0
     simp at c1
     go_simp
     refine hK.out _ _ hHeld (fun θ => ?_)
     clear c1
     try simp only [Act.put, uA, uZ, uS]
     clear hK K hHeld
     have hHeld := θ
     clear θ
     rotate_left
     all_goals
      have HZB : Hid (M2 + 1 ≤ wp.heap.size) := zH HTQ.out.lt
      refine rK 12 (by kernel_rfl) rfl (fun K hK => ?_)
      have HOW := zH (HOWQ.out.below HW.out)
      refine step_append_lies _ (by rfl) (.tmp 99) (.tmp 109) _ (by rfl) (M2 + 1) 66 i0 _ 3 24 Tryz.underlying36 i1 i2 i3 i4 rfl (by omega) v LR.length (ptCells LR) (by rfl) (by exact HOW.out) ⟨Z, 0, none⟩ 1 1 [.int .i64 x, .int .i64 lo, .int .i64 hi] (by rfl) (by rfl) (by exact HNB.out) (by simp [Value.oneCell']) (by omega) (by have := HLN.out; simp [maxLen]; omega) (by have := HLN.out; omega) (by have := HZB.out; have := HW.out.size; omega) (Z + 1) (by exact HYZ.out) ?_
      intro gg cap w5 hown1 hgrow hat hlt5
      have hrow : ∀ j, Value.ownBlock v = some j → (M2 + 1) ≤ j := fun j hj => (World.ownsRow.lt (show wp.ownsRow ((M2 + 1)) 66 3 v _ _ from HOWQ.out) j hj).1
      have hT5 := (blkOn HTQ.out HW.out).grown hgrow (fun hj => by have := hrow _ hj.symm; omega)
      have hN5 := hHeld.2.grown hgrow (fun hj => by have q1 := hrow _ hj.symm; have q2 := HNEW.out _ hj.symm; omega)
      have hB5 := hHeld.1.grown hgrow (hHeld.1.size) (fun j hj => by have := hrow j hj; have := HMY2.out; omega)
      have hf := hT5.frozen 0; have hl := hT5.lt; have hc := hT5.cell 0
      simp at hc
      refine hK.out _ _ ⟨hB5, hN5⟩ (fun θ => ?_)
      try simp only [Act.put, uA, uZ, uS]
      clear hK K hHeld
      have hHeld := θ
      clear θ
      refine tK 111 (i := 13) (v := .pointer (some ⟨M2, 0, none⟩)) rfl rfl (by kernel_rfl) ?_ hHeld ?_
      ·intro w hSw; clear hSw; go_simp; try with_reducible rfl
      simp only [uZ, uS]
      refine rK 14 (by kernel_rfl) rfl (fun K hK => ?_)
      go_simp
      have hB6 := hB5.setCell (p := ⟨M2, 0, none⟩) (by have := HMY2.out; simp; omega) (.slice (some ⟨gg, 0, none⟩) (LR.length + 1) cap)
      refine hK.out _ _ ⟨hB6, hN5.far (p := ⟨M2, 0, none⟩) (by have q1 := HTNE.out; simp; omega) _⟩ (fun θ => ?_)
      try simp only [Act.put, uA, uZ, uS]
      clear hK K hHeld
      have hHeld := θ
      clear θ
      refine wpAnyH_done (by kernel_rfl) ?_ _
      clear hHeld
      have hT6 := hT5.set_ 0 (.slice (some ⟨gg, 0, none⟩) (LR.length + 1) cap)
      have hgg : gg ≠ M2 := by
       rcases hat with hat | hat
       ·have := hrow _ hat; omega
       ·have := HZB.out; have := HW.out.size; have := HYZ.out; omega
      have hown2 := World.ownsRow.kept hown1 (grownBy_setCell' w5 M2 (.slice (some ⟨gg, 0, none⟩) (LR.length + 1) cap)) (.inr (by simp [Value.ownBlock]; exact hgg))
      have HT6 := zH hT6; have HB6 := zH hB6; have HO6 := zH (own_push (x := (x, lo, hi)) hown2)
      clear hT6 hB6 hN5 hown2 hT5 hB5 hf hl hc hown1 hgrow hat hlt5 hrow hgg HW HOW HNB HYZ
      go_wp2
      go_roundw
      case rel => exact ⟨q + 1, _, by omega, by go_num, HB6.out, HT6.out, by rw [HS.out]; exact HO6.out⟩
      case measure => simp [intOf]; omega
    have k4 : ¬ (q : Int) < (k : Int) := by omega
    have hqk : k = q := by omega
    subst hqk
    obtain ⟨vp, vn', vc2, rfl⟩ := HOWN.out.slice
    have z := (HXE.out.on HB3.out) _ (.head _)
    have z_0 := z.cell 0
    have z_f0 := z.frozen 0
    have z_l := z.lt
    simp at z_0 z_f0 z_l
    clear z
    have m_ := HT3.out.cell 0
    simp at m_
    clear hq hlt2
    go_wp2
    have hg := HG.out; have hmy := HMY2.out; have hb1 := (HXE.out _ (.head _)).lt
    refine bodyPost_ret (v := .agg #[.slice vp vn' vc2]) (by simp [results, Tryz.results13, go_sem, z_0]) rfl ⟨_, rfl, ?_, ?_⟩
    ·rw [show slopedL vs fr mo true XS k = rowsTo XS (fun j => slopeF vs fr mo (k - 1 - j)) k from rfl]
     refine OwnPts.monoY (World.ownsRow.kept (show wr.ownsRow (M2 + 1) 66 3 (.slice vp vn' vc2) _ _ from HOWN.out) (grownBy_setCell' wr (G + 1) _) (.inr (fun hj => ?_))) (by have := HE.out.size; omega)
     have := (World.ownsRow.lt (show wr.ownsRow (M2 + 1) 66 3 (.slice vp vn' vc2) _ _ from HOWN.out) _ hj).1
     dsimp only at hb1
     omega
    ·exact HE3.out.setCell (by simp <;> omega) _
end

section
open Go.RowKit

theorem own_tab {base : Nat} {w : World} {p : Option Addr} {n c : Nat} {L : List P3} (ho : OwnPts base w (.slice p n c) L) (h40 : L.length ≤ 40) : TabIn w p n L := by
  rcases Nat.lt_or_ge 0 L.length with hl | hl
  · obtain ⟨g, cap, h, _, hg, hp⟩ := ho.pts hl
    injection h with h1 h2 h3
    subst h1 h2 h3
    exact ⟨rfl, by simp only [maxLen]; omega, .inr ⟨g, 0, rfl, hg, hp⟩⟩
  · obtain rfl : L = [] := List.eq_nil_of_length_eq_zero (by omega)
    rcases (show w.ownsRow base 66 3 (.slice p n c) 0 [] from ho).2 with ⟨h, _⟩ | ⟨g, cap, cur, h, _⟩
    · injection h with h1 h2 h3; subst h2; exact ⟨rfl, by simp only [maxLen]; omega, .inl rfl⟩
    · injection h with h1 h2 h3; subst h2; exact ⟨rfl, by simp only [maxLen]; omega, .inl rfl⟩
theorem grownBy_setCellY (w : World) (b i : Nat) (v : Value) : w.grownBy (w.setCell ⟨b, i, none⟩ v) (some b) := ⟨rfl, rfl, rfl, by simp [World.setCell], fun k _ hk => Below.heap_setCell _ _ _ _ (fun e => hk (by simp [e]))⟩
theorem grownBy_setRowY (w : World) (g : Nat) (cs : Array Value) : w.grownBy (w.setRow g cs) (some g) := ⟨rfl, rfl, rfl, by simp [World.setRow], fun k _ hk => setRow_other w g k _ (fun e => hk (by rw [e]))⟩
theorem OwnPts.keptAt {base g i : Nat} {w : World} {v u : Value} {L : List P3} (h : OwnPts base w v L) (hg : g < base) : OwnPts base (w.setCell ⟨g, i, none⟩ u) v L :=
  World.ownsRow.kept (show w.ownsRow base 66 3 v L.length (ptCells L) from h) (grownBy_setCellY w g i u) (.inr (fun e => by have := (World.ownsRow.lt (show w.ownsRow base 66 3 v L.length (ptCells L) from h) _ e).1; omega))
theorem OwnPts.keptRow {base g : Nat} {w : World} {v : Value} {L : List P3} {cs : Array Value} (h : OwnPts base w v L) (hg : g < base) : OwnPts base (w.setRow g cs) v L :=
  World.ownsRow.kept (show w.ownsRow base 66 3 v L.length (ptCells L) from h) (grownBy_setRowY w g cs) (.inr (fun e => by have := (World.ownsRow.lt (show w.ownsRow base 66 3 v L.length (ptCells L) from h) _ e).1; omega))
def BB2 (w0 : World) (L : List (Nat × TypeId × Array Value)) (w : World) : Prop := Boxes w L ∧ Below w0.heap.size w0 w
theorem BB2.be2 {w0 w : World} {L : List (Nat × TypeId × Array Value)} (h : BB2 w0 L w) : Below w0.heap.size w0 w := h.2
theorem Boxes.farRowless2 {W : World} {L : List (Nat × TypeId × Array Value)} (h : Boxes W L) {g : Nat} (hg : ∀ p ∈ L, p.1 ≠ g) (i j : Nat) (u v : Value) : Boxes ((W.setCell ⟨g, i, none⟩ u).setCell ⟨g, j, none⟩ v) L := fun p hp => ((h p hp).far (p := ⟨g, i, none⟩) (hg p hp) u).far (p := ⟨g, j, none⟩) (hg p hp) v
def madeH (r : RawD) : HoldD :=
  ⟨1 + r.id % 9, pickS r.vs 1 % 2001 - 1000, pickS r.vs 1 % 2001 - 1000 + pickS r.vs 2 % 30,
   slopedL r.vs 0 300 true (xsS r.fi r.st) (xsS r.fi r.st).length, rowsTo (xsS r.fi r.st) (freeF r.vs 5 800) (xsS r.fi r.st).length, slopedL r.vs 11 90 true (xsS r.fi r.st) (xsS r.fi r.st).length,
   (someS r.vs 3 200).1, (someS r.vs 3 200).2, (someS r.vs 4 400).1, (someS r.vs 4 400).2,
   (slopeF r.vs 0 300 ((xsS r.fi r.st).length - 1)).1 + pickS r.vs 6 % 9, (slopeF r.vs 0 300 ((xsS r.fi r.st).length - 1)).2 + 9 + pickS r.vs 7 % 9,
   (someS r.vs 8 900).1, (someS r.vs 8 900).2⟩
end

section
open Go.RowKit

def zeroFirst : List P3 → List P3
  | p :: r => (p.1, 0, 0) :: r
  | [] => []
def tankVol (r : RawD) : List P3 := if pickS r.vs 9 % 2 = 0 then zeroFirst (slopedL r.vs 3 300 false (xsS r.fi r.st) (xsS r.fi r.st).length) else slopedL r.vs 3 300 false (xsS r.fi r.st) (xsS r.fi r.st).length
def madeT (r : RawD) : TankD :=
  ⟨1 + r.id % 9, pickS r.vs 4 % 2001 - 1000, pickS r.vs 4 % 2001 - 1000 + pickS r.vs 5 % 30, tankVol r, rowsTo (xsS r.fi r.st) (freeF r.vs 2 500) (xsS r.fi r.st).length, slopedL r.vs 7 90 false (xsS r.fi r.st) (xsS r.fi r.st).length⟩
theorem zeroFirst_len (l : List P3) : (zeroFirst l).length = l.length := by cases l <;> rfl
theorem own_zero {base g n cap : Nat} {w : World} {l : List P3} (h : OwnPts base w (.slice (some ⟨g, 0, none⟩) n cap) l) (hl : l.length = n) (hp : 0 < n) : OwnPts base ((w.setCell ⟨g, 1, none⟩ (.int .i64 0)).setCell ⟨g, 2, none⟩ (.int .i64 0)) (.slice (some ⟨g, 0, none⟩) n cap) (zeroFirst l) := by
  have h' : w.ownsRow base 66 3 (.slice (some ⟨g, 0, none⟩) n cap) n (ptCells l) := by
    have q := h
    unfold OwnPts at q
    rw [hl] at q
    exact q
  have h1 := (h'.stored 1 (.int .i64 0)).1
  have h2 := (h1.stored 2 (.int .i64 0)).1
  unfold OwnPts
  rw [zeroFirst_len, hl]
  have e : ptCells (zeroFirst l) = ((ptCells l).set 1 (.int .i64 0)).set 2 (.int .i64 0) := by
    cases l with
    | nil => simp at hl; omega
    | cons p r => simp [zeroFirst, ptCells]
  rw [e]
  exact h2
theorem own_cells {base g n cap : Nat} {w : World} {l : List P3} (h : OwnPts base w (.slice (some ⟨g, 0, none⟩) n cap) l) (hl : l.length = n) (hp : 0 < n) : (∃ a, w.cell? ⟨g, 1, none⟩ = some a) ∧ (∃ a, w.cell? ⟨g, 2, none⟩ = some a) ∧ w.frozen? ⟨g, 1, none⟩ = false ∧ w.frozen? ⟨g, 2, none⟩ = false := by
  have h' : w.ownsRow base 66 3 (.slice (some ⟨g, 0, none⟩) n cap) n (ptCells l) := by
    have q := h
    unfold OwnPts at q
    rw [hl] at q
    exact q
  have hlen : (ptCells l).length = n * 3 := h'.1
  refine ⟨⟨_, (h'.cellAt 1 (by omega)).trans (List.getElem?_eq_getElem (show 1 < (ptCells l).length by omega))⟩, ⟨_, (h'.cellAt 2 (by omega)).trans (List.getElem?_eq_getElem (show 2 < (ptCells l).length by omega))⟩, h'.frozenAt 1, h'.frozenAt 2⟩
end

section
open Go.RowKit

theorem xsTo_get (fi : Int) (st : List Int) : ∀ k : Nat, k ≤ st.length → ∀ j, j ≤ k → (xsTo fi st k).1[j]? = some (xsTo fi st j).2
  | 0, _, j, hj => by
    obtain rfl : j = 0 := by omega
    rfl
  | k + 1, hk, j, hj => by
    have hl := xsTo_len fi st k (by omega)
    obtain ⟨s, hs⟩ : ∃ s, st[k]? = some s := ⟨_, List.getElem?_eq_getElem (show k < st.length by omega)⟩
    rw [xsTo_succ hs]
    rcases Nat.lt_or_ge j (k + 1) with c | c
    · rw [List.getElem?_append_left (by omega)]
      exact xsTo_get fi st k (by omega) j (by omega)
    · obtain rfl : j = k + 1 := by omega
      rw [List.getElem?_append_right (by omega), hl]
      rw [xsTo_succ hs]
      simp
def xAt (fi : Int) (st : List Int) (j : Nat) : Int := if st.length = 0 then fi % 50 + 10 * j else (xsTo fi st j).2
theorem xsS_n (fi : Int) (st : List Int) : (xsS fi st).length = if st.length = 0 then 2 else min st.length 7 + 1 := by
  unfold xsS
  split
  · rfl
  · rw [xsTo_len fi st _ (by omega)]
theorem xsS_get (fi : Int) (st : List Int) {j : Nat} (hj : j < (xsS fi st).length) : (xsS fi st)[j]? = some (xAt fi st j) := by
  have hn := xsS_n fi st
  unfold xAt
  by_cases h : st.length = 0
  · rw [if_pos h] at hn ⊢
    unfold xsS
    rw [if_pos h]
    rcases (show j = 0 ∨ j = 1 by omega) with rfl | rfl
    · simp [xsTo]
    · simp [xsTo]
  · rw [if_neg h] at hn ⊢
    unfold xsS
    rw [if_neg h]
    exact xsTo_get fi st _ (by omega) j (by omega)
theorem xAt_in (fi : Int) (st : List Int) {j : Nat} (hj : j < (xsS fi st).length) : 0 ≤ xAt fi st j ∧ xAt fi st j ≤ 1000 := by
  have hn := xsS_n fi st
  have h8 := xsS_len fi st
  unfold xAt
  split
  · obtain ⟨h1, h2⟩ := emod_in fi (show (0 : Int) < 50 by omega)
    omega
  · have := xsTo_in fi st j
    omega
theorem xAt_up (fi : Int) (st : List Int) {j : Nat} (hj : j + 1 < (xsS fi st).length) : xAt fi st j < xAt fi st (j + 1) := by
  have hn := xsS_n fi st
  unfold xAt
  by_cases h : st.length = 0
  · rw [if_pos h, if_pos h]; push_cast; omega
  · rw [if_neg h, if_neg h]
    rw [if_neg h] at hn
    obtain ⟨s, hs⟩ : ∃ s, st[j]? = some s := ⟨_, List.getElem?_eq_getElem (show j < st.length by omega)⟩
    rw [xsTo_succ hs]
    obtain ⟨h1, h2⟩ := emod_in s (show (0 : Int) < 40 by omega)
    dsimp only
    omega
theorem ptsOk_snoc : ∀ (ps : List P3) (last : Int) (p : P3), ptsOk last (ps ++ [p]) = (ptsOk last ps && ptOk ((ps.getLast?.map (·.1)).getD last) p)
  | [], last, p => by simp [ptsOk]
  | [a], last, p => by simp [ptsOk]
  | a :: b :: r, last, p => by
    have h := ptsOk_snoc (b :: r) a.1 p
    have e : ((a :: b :: r).getLast?.map (·.1)).getD last = ((b :: r).getLast?.map (·.1)).getD a.1 := by
      rw [List.getLast?_cons_cons]
      obtain ⟨z, hz⟩ : ∃ z, (b :: r).getLast? = some z := ⟨_, List.getLast?_eq_some_getLast (by simp)⟩
      rw [hz]; rfl
    show (ptOk last a && ptsOk a.1 ((b :: r) ++ [p])) = ((ptOk last a && ptsOk a.1 (b :: r)) && _)
    rw [h, e, Bool.and_assoc]
theorem rows_ok {xs : List Int} {f : Nat → Int × Int} {X : Nat → Int} {n : Nat} (hn : n = xs.length) (hx : ∀ j, j < n → xs[j]? = some (X j)) (h0 : ∀ j, j < n → 0 ≤ X j ∧ X j ≤ 1000) (hup : ∀ j, j + 1 < n → X j < X (j + 1))
    (hf : ∀ j, j < n → (f j).1 ≤ (f j).2 ∧ -1000000000 ≤ (f j).1 ∧ (f j).2 ≤ 1000000000) : ∀ k, k ≤ n → ptsOk (-1) (rowsTo xs f k) = true ∧ (∀ j, k = j + 1 → ((rowsTo xs f k).getLast?.map (·.1)) = some (X j))
  | 0, _ => ⟨rfl, fun j h => by omega⟩
  | k + 1, hk => by
    obtain ⟨h1, h2⟩ := rows_ok hn hx h0 hup hf k (by omega)
    have hs := rowsTo_succ (f := f) (hx k (by omega))
    rw [hs]
    refine ⟨?_, fun j hj => by
      have : j = k := by omega
      subst this
      rw [List.getLast?_append]; simp⟩
    rw [ptsOk_snoc, h1, Bool.true_and]
    obtain ⟨g1, g2⟩ := h0 k (by omega)
    obtain ⟨g3, g4, g5⟩ := hf k (by omega)
    have hlast : ((rowsTo xs f k).getLast?.map (·.1)).getD (-1) < X k := by
      cases k with
      | zero => simp [rowsTo]; omega
      | succ j =>
        rw [h2 j rfl]
        have := hup j (by omega)
        simpa using this
    unfold ptOk inB
    simp only [Bool.and_eq_true, decide_eq_true_eq]
    exact ⟨hlast, by omega, by omega⟩
theorem falls_of : ∀ (ps : List P3), (∀ k p q, ps[k]? = some p → ps[k + 1]? = some q → q.2.1 ≤ p.2.1 ∧ q.2.2 ≤ p.2.2) → fallsS ps = true
  | [], _ => rfl
  | [_], _ => rfl
  | p :: q :: r, h => by
    have h1 := h 0 p q rfl rfl
    have h2 := falls_of (q :: r) fun k a b ha hb => h (k + 1) a b ha hb
    rw [fallsS, h2]
    simp [h1.1, h1.2]
structure Rows3 (xs : List Int) (f : Nat → Int × Int) (n : Nat) : Prop where
  ok : tabOk (rowsTo xs f n) = true
  len : (rowsTo xs f n).length = n
  mem : ∀ p ∈ rowsTo xs f n, ∃ k x, k < n ∧ p = (x, f k)
  at_ : ∀ k p, (rowsTo xs f n)[k]? = some p → k < n ∧ p.2 = f k
theorem rows3 {fi : Int} {st : List Int} {f : Nat → Int × Int} {n : Nat} (hn : n = (xsS fi st).length) (hf : ∀ j, j < n → (f j).1 ≤ (f j).2 ∧ -1000000000 ≤ (f j).1 ∧ (f j).2 ≤ 1000000000) : Rows3 (xsS fi st) f n := by
  have h8 := xsS_len fi st
  have hl := rowsTo_len (xsS fi st) f n (by omega)
  have hat : ∀ k p, (rowsTo (xsS fi st) f n)[k]? = some p → k < n ∧ p.2 = f k := fun k p hp => by
    have hk : k < n := by have := (List.getElem?_eq_some_iff.1 hp).1; omega
    have q := rowsTo_get (f := f) n k _ (by omega) hk (xsS_get fi st (by omega))
    rw [q] at hp
    injection hp with hp
    subst hp
    exact ⟨hk, rfl⟩
  refine ⟨?_, hl, fun p hp => ?_, hat⟩
  · have h := (rows_ok (f := f) hn (X := xAt fi st) (fun j hj => xsS_get fi st (by omega)) (fun j hj => xAt_in fi st (by omega)) (fun j hj => xAt_up fi st (by omega)) hf n (Nat.le_refl _)).1
    unfold tabOk
    rw [h, hl]
    simp
    omega
  · obtain ⟨k, hk⟩ := List.getElem?_of_mem hp
    obtain ⟨h1, h2⟩ := hat k p hk
    exact ⟨k, p.1, h1, by rw [← h2]⟩
theorem rows_first {fi : Int} {st : List Int} {f : Nat → Int × Int} {n : Nat} (hn : n = (xsS fi st).length) : firstX (rowsTo (xsS fi st) f n) = xAt fi st 0 ∧ lastX (rowsTo (xsS fi st) f n) = xAt fi st (n - 1) := by
  have h8 := xsS_len fi st
  have hl := rowsTo_len (xsS fi st) f n (by omega)
  have g : ∀ j, j < n → (rowsTo (xsS fi st) f n)[j]? = some (xAt fi st j, f j) := fun j hj => rowsTo_get n j _ (by omega) hj (xsS_get fi st (by omega))
  constructor
  · unfold firstX; rw [List.head?_eq_getElem?, g 0 (by omega)]; rfl
  · unfold lastX; rw [List.getLast?_eq_getElem?, hl, g (n - 1) (by omega)]; rfl
theorem slope_up (vs : List Int) (fr : Int) {mo : Int} (g0 : 0 < mo) : ∀ (i k : Nat), (slopeF vs fr mo k).1 ≤ (slopeF vs fr mo (k + i)).1 ∧ (slopeF vs fr mo k).2 ≤ (slopeF vs fr mo (k + i)).2
  | 0, k => ⟨Int.le_refl _, Int.le_refl _⟩
  | i + 1, k => by
    obtain ⟨h1, h2⟩ := slope_up vs fr g0 i k
    obtain ⟨h5, h6⟩ := emod_in (pickS vs (fr + 2 + 2 * (k + i : Nat))) g0
    obtain ⟨h7, h8⟩ := emod_in (pickS vs (fr + 3 + 2 * (k + i : Nat))) g0
    rw [show k + (i + 1) = (k + i) + 1 by omega, slopeF]
    dsimp only
    constructor
    · omega
    · omega
theorem measures_rows {fi : Int} {st : List Int} {f : Nat → Int × Int} {n : Nat} (hn : n = (xsS fi st).length) (hf : ∀ j, j < n → 0 ≤ (f j).1 ∧ (f j).1 ≤ (f j).2 ∧ (f j).2 ≤ 1000000000) : measuresS (rowsTo (xsS fi st) f n) = true := by
  have h8 := xsS_len fi st
  have r := rows3 (f := f) hn (fun j hj => by have := hf j hj; omega)
  unfold measuresS
  rw [r.ok, r.len]
  simp only [Bool.true_and, Bool.and_eq_true, decide_eq_true_eq, List.all_eq_true]
  refine ⟨by omega, fun p hp => ?_⟩
  obtain ⟨k, x, hk, rfl⟩ := r.mem p hp
  exact (hf k hk).1
theorem free_in (vs : List Int) (fr : Int) {mo : Int} (g0 : 0 < mo) (g1 : mo ≤ 1000000) (k : Nat) : 0 ≤ (freeF vs fr mo k).1 ∧ (freeF vs fr mo k).1 ≤ (freeF vs fr mo k).2 ∧ (freeF vs fr mo k).2 ≤ 1000000000 := by
  obtain ⟨h1, h2⟩ := emod_in (pickS vs (fr + 2 * k)) g0
  obtain ⟨h3, h4⟩ := emod_in (pickS vs (fr + 2 * k + 1)) (show (0 : Int) < mo / 4 + 1 by omega)
  unfold freeF
  dsimp only
  omega
theorem slope_turn_in (vs : List Int) (fr : Int) {mo : Int} (g0 : 0 < mo) (g1 : mo ≤ 1000000) (n : Nat) (h8 : n ≤ 8) (j : Nat) (hj : j < n) : 0 ≤ (slopeF vs fr mo (n - 1 - j)).1 ∧ (slopeF vs fr mo (n - 1 - j)).1 ≤ (slopeF vs fr mo (n - 1 - j)).2 ∧ (slopeF vs fr mo (n - 1 - j)).2 ≤ 1000000000 := by
  obtain ⟨h1, h2, h3⟩ := slopeF_in vs fr g0 g1 (n - 1 - j) (by omega)
  omega
theorem some_in (vs : List Int) (fr : Int) {mo : Int} (g0 : 0 < mo) (g1 : mo ≤ 1000000) : 0 ≤ (someS vs fr mo).1 ∧ (someS vs fr mo).1 ≤ (someS vs fr mo).2 ∧ (someS vs fr mo).2 ≤ 1000000000 := by
  obtain ⟨h1, h2⟩ := emod_in (pickS vs fr) g0
  obtain ⟨h3, h4⟩ := emod_in (pickS vs (fr + 1)) (show (0 : Int) < 9 by omega)
  unfold someS
  dsimp only
  omega
theorem falls_turn (vs : List Int) (fr : Int) {mo : Int} (g0 : 0 < mo) {fi : Int} {st : List Int} {n : Nat} (hn : n = (xsS fi st).length) (g1 : mo ≤ 1000000) : fallsS (rowsTo (xsS fi st) (fun k => slopeF vs fr mo (n - 1 - k)) n) = true := by
  have h8 := xsS_len fi st
  have r := rows3 (f := fun k => slopeF vs fr mo (n - 1 - k)) hn (fun j hj => by have := slope_turn_in vs fr g0 g1 n (by omega) j hj; omega)
  refine falls_of _ fun k p q hp hq => ?_
  obtain ⟨k1, e1⟩ := r.at_ k p hp
  obtain ⟨k2, e2⟩ := r.at_ (k + 1) q hq
  rw [e1, e2]
  have := slope_up vs fr g0 1 (n - 1 - (k + 1))
  rw [show n - 1 - (k + 1) + 1 = n - 1 - k by omega] at this
  exact this
theorem made_valid (r : RawD) : holdS (madeH r) = true := by
  have h8 := xsS_len r.fi r.st
  obtain ⟨a1, a2⟩ := emod_in r.id (show (0 : Int) < 9 by omega)
  obtain ⟨b1, b2⟩ := emod_in (pickS r.vs 1) (show (0 : Int) < 2001 by omega)
  obtain ⟨c1, c2⟩ := emod_in (pickS r.vs 2) (show (0 : Int) < 30 by omega)
  obtain ⟨d1, d2⟩ := emod_in (pickS r.vs 6) (show (0 : Int) < 9 by omega)
  obtain ⟨e1, e2⟩ := emod_in (pickS r.vs 7) (show (0 : Int) < 9 by omega)
  obtain ⟨f1, f2, f3⟩ := slopeF_in r.vs 0 (mo := 300) (by omega) (by omega) ((xsS r.fi r.st).length - 1) (by omega)
  have s1 := some_in r.vs 3 (mo := 200) (by omega) (by omega)
  have s2 := some_in r.vs 4 (mo := 400) (by omega) (by omega)
  have s3 := some_in r.vs 8 (mo := 900) (by omega) (by omega)
  have mv : measuresS (rowsTo (xsS r.fi r.st) (fun k => slopeF r.vs 0 300 ((xsS r.fi r.st).length - 1 - k)) (xsS r.fi r.st).length) = true := measures_rows rfl fun j hj => slope_turn_in r.vs 0 (by omega) (by omega) _ (by omega) j hj
  have mh : measuresS (rowsTo (xsS r.fi r.st) (fun k => slopeF r.vs 11 90 ((xsS r.fi r.st).length - 1 - k)) (xsS r.fi r.st).length) = true := measures_rows rfl fun j hj => slope_turn_in r.vs 11 (by omega) (by omega) _ (by omega) j hj
  have mm : measuresS (rowsTo (xsS r.fi r.st) (freeF r.vs 5 800) (xsS r.fi r.st).length) = true := measures_rows rfl fun j hj => free_in r.vs 5 (by omega) (by omega) j
  have fv := falls_turn r.vs 0 (mo := 300) (fi := r.fi) (st := r.st) (by omega) rfl (by omega)
  have fh := falls_turn r.vs 11 (mo := 90) (fi := r.fi) (st := r.st) (by omega) rfl (by omega)
  obtain ⟨x1, y1⟩ := rows_first (fi := r.fi) (st := r.st) (f := fun k => slopeF r.vs 0 300 ((xsS r.fi r.st).length - 1 - k)) rfl
  obtain ⟨x2, y2⟩ := rows_first (fi := r.fi) (st := r.st) (f := fun k => slopeF r.vs 11 90 ((xsS r.fi r.st).length - 1 - k)) rfl
  obtain ⟨x3, y3⟩ := rows_first (fi := r.fi) (st := r.st) (f := freeF r.vs 5 800) rfl
  unfold holdS madeH amtRest ctRest alongS amountS inB slopedL
  dsimp only
  rw [if_pos rfl, if_pos rfl, mv, mh, mm, fv, fh, x1, x2, x3, y1, y2, y3]
  simp only [Bool.and_eq_true, decide_eq_true_eq, and_true, true_and]
  refine ⟨⟨?_, ?_⟩, ?_⟩
  all_goals omega
end

section
open Go.RowKit
attribute [local go_sem ↓] run_minI run_maxI
def spanS (a b x y : Int) : Int × Int := (a + x % (b - a + 1), a + x % (b - a + 1) + y % (min (b - (a + x % (b - a + 1))) 25 + 1))

theorem sspan_to (A : Option Addr) (n c : Nat) (ps : List P3) (x y : Int) (w : World) (hp : TabIn w A n ps) (h : tabOk ps = true) (hle : firstX ps ≤ lastX ps) (hlo : -1000000000 ≤ firstX ps) (hhi : lastX ps ≤ 1000000000) :
  Calls Tryz.prog 18 #[tv A n c, .int .i64 x, .int .i64 y] w fun e w' => e = .returned (rv (spanS (firstX ps) (lastX ps) x y).1 (spanS (firstX ps) (lastX ps) x y).2) ∧ Below w.heap.size w w' := by
 have FP : Hid (∀ W, Below w.heap.size w W → Calls Tryz.prog 33 #[tv A n c] W fun e w' => e = .returned (.int .i64 (firstX ps)) ∧ Below W.heap.size W w') := zH fun W hW => sFirst_tab A n c ps W (hp.below hW) h
 have LP : Hid (∀ W, Below w.heap.size w W → Calls Tryz.prog 19 #[tv A n c] W fun e w' => e = .returned (.int .i64 (lastX ps)) ∧ Below W.heap.size W w') := zH fun W hW => sLast_tab A n c ps W (hp.below hW) h
 clear hp h
 unfold spanS
 dsimp only
 generalize firstX ps = p at *
 generalize lastX ps = q at *
 have w1 : IntKind.i64.wrap (q - p) = q - p := IntWalk.i64_in _ ⟨by omega, by omega⟩
 obtain ⟨g, hg⟩ : ∃ g, q - p = g := ⟨_, rfl⟩
 replace w1 := w1.trans hg
 rw [hg]
 have w2 : IntKind.i64.wrap (g + 1) = g + 1 := IntWalk.i64_in _ ⟨by omega, by omega⟩
 obtain ⟨k, hk⟩ : ∃ k, g + 1 = k := ⟨_, rfl⟩
 replace w2 := w2.trans hk
 rw [hk]
 obtain ⟨b0, b1⟩ := emod_in x (show (0 : Int) < k by omega)
 obtain ⟨a, ha⟩ : ∃ z, x % k = z := ⟨_, rfl⟩
 rw [ha] at b0 b1 ⊢
 have w3 : IntKind.i64.wrap (p + a) = p + a := IntWalk.i64_in _ ⟨by omega, by omega⟩
 obtain ⟨t, ht⟩ : ∃ t, p + a = t := ⟨_, rfl⟩
 replace w3 := w3.trans ht
 rw [ht]
 have w4 : IntKind.i64.wrap (q - t) = q - t := IntWalk.i64_in _ ⟨by omega, by omega⟩
 obtain ⟨r, hr⟩ : ∃ r, q - t = r := ⟨_, rfl⟩
 replace w4 := w4.trans hr
 rw [hr]
 obtain ⟨u, hu⟩ : ∃ u, min r 25 = u := ⟨_, rfl⟩
 rw [hu]
 have w5 : IntKind.i64.wrap (u + 1) = u + 1 := IntWalk.i64_in _ ⟨by omega, by omega⟩
 obtain ⟨v, hv⟩ : ∃ v, u + 1 = v := ⟨_, rfl⟩
 replace w5 := w5.trans hv
 rw [hv]
 obtain ⟨b2, b3⟩ := emod_in y (show (0 : Int) < v by omega)
 obtain ⟨b, hb⟩ : ∃ z, y % v = z := ⟨_, rfl⟩
 rw [hb] at b2 b3 ⊢
 have w6 : IntKind.i64.wrap (t + b) = t + b := IntWalk.i64_in _ ⟨by omega, by omega⟩
 have CM0 : Hid (∀ W, Calls Tryz.prog 8 #[.int .i64 x, .int .i64 k] W fun e w' => e = .returned (.int .i64 a) ∧ Below W.heap.size W w') := zH fun W => int_to (smod_to x k W (by omega) (by omega)) ha
 have CM1 : Hid (∀ W, Calls Tryz.prog 8 #[.int .i64 y, .int .i64 v] W fun e w' => e = .returned (.int .i64 b) ∧ Below W.heap.size W w') := zH fun W => int_to (smod_to y v W (by omega) (by omega)) hb
 have HU := zH hu
 clear ha hb b0 b1 b2 b3 hv hr ht hk hg hle hlo hhi hu
 have HE := zH (show Below w.heap.size w ((w.alloc (.cells #[.slice A n c] 38)).alloc (.cells #[.int .i64 0, .int .i64 0] 35)) from below_a2 (Below.refl _ _))
 have HK := zH (boxes2' w 38 35 #[.slice A n c] #[.int .i64 0, .int .i64 0])
 go_enter Tryz.func18, Tryz.ntmps18
 go_upto_region 1 with fail
 obtain ⟨W0, hW0⟩ : ∃ W0 : World, ((w.alloc (.cells #[.slice A n c] 38)).alloc (.cells #[.int .i64 0, .int .i64 0] 35)) = W0 := ⟨_, rfl⟩
 rw [hW0] at HE HK ⊢
 clear hW0
 obtain ⟨G, hG⟩ : ∃ G, w.heap.size = G := ⟨_, rfl⟩
 rw [hG] at HK ⊢
 have HG := zH hG; clear hG
 have hS0 : Boxes W0.drew [(G + 1, 35, #[.int .i64 0, .int .i64 0]), (G, 38, #[.slice A n c])] := HK.out
 have HEd := zH HE.out.drew
 have HKd := zH hS0
 refine wp_region_held_drew (S := fun w' => Boxes w' [(G + 1, 35, #[.int .i64 0, .int .i64 0]), (G, 38, #[.slice A n c])]) (by kernel_rfl) hS0 (fun hHeld => ?_)
 obtain ⟨W1, hW⟩ : ∃ W', W0.drew = W' := ⟨_, rfl⟩
 rw [hW] at HEd HKd hHeld ⊢
 clear hW hS0 HE HK
 refine tK 9 (i := 0) (v := tv A n c) rfl rfl (by kernel_rfl) ?_ hHeld ?_
 ·intro w hSw; have hz := (hSw _ (.tail _ (.head _))); have c0 := hz.cell 0; simp at c0; clear hz hSw; go_simp; try with_reducible rfl
 simp only [uZ, uS]
 refine tK 11 (i := 2) (v := tv A n c) rfl rfl (by kernel_rfl) ?_ hHeld ?_
 ·intro w hSw; have hz := (hSw _ (.tail _ (.head _))); have c0 := hz.cell 0; simp at c0; clear hz hSw; go_simp; try with_reducible rfl
 simp only [uZ, uS]
 refine rK 1 (by kernel_rfl) rfl (fun K hK => ?_)
 go_simp
 (with_reducible refine (LP.out _ HEd.out).mono ?_)
 rintro e z1 ⟨rfl, hq⟩
 have HE_1 := zH (below_then HEd.out hq); have HK_1 := zH (HKd.out.on hq)
 have hS := hHeld.on hq
 clear hq
 refine hK.out _ _ (hS) (fun θ => ?_)
 try simp only [Act.put, uA, uZ, uS]
 clear hK K hHeld
 have hHeld := θ
 clear θ
 clear hS HEd HKd
 refine rK 3 (by kernel_rfl) rfl (fun K hK => ?_)
 go_simp
 (with_reducible refine (FP.out _ HE_1.out).mono ?_)
 rintro e z2 ⟨rfl, hq⟩
 have HE_2 := zH (below_then HE_1.out hq); have HK_2 := zH (HK_1.out.on hq)
 have hS := hHeld.on hq
 clear hq
 refine hK.out _ _ (hS) (fun θ => ?_)
 try simp only [Act.put, uA, uZ, uS]
 clear hK K hHeld
 have hHeld := θ
 clear θ
 clear hS HE_1 HK_1
 refine tK 13 (i := 4) (v := .int .i64 g) rfl rfl (by kernel_rfl) ?_ hHeld ?_
 ·intro w hSw; clear hSw; go_simp; first | done | exact w1
 simp only [uZ, uS]
 refine tK 14 (i := 5) (v := .int .i64 k) rfl rfl (by kernel_rfl) ?_ hHeld ?_
 ·intro w hSw; clear hSw; go_simp; first | done | exact w2
 simp only [uZ, uS]
 refine tK 7 (i := 6) (v := .int .i64 k) rfl rfl (by kernel_rfl) ?_ hHeld ?_
 ·intro w hSw; clear hSw; go_simp; try with_reducible rfl
 simp only [uZ, uS]
 refine wpAnyH_done (by kernel_rfl) ?_ _
 clear hHeld
 have t_ := HK_2.out _ (.tail _ (.head _))
 have t_0 := t_.cell 0
 simp at t_0
 clear t_
 go_wp2_with fail
 refine (FP.out _ HE_2.out).mono ?_
 rintro e y1 ⟨rfl, hq⟩
 have HE1 := zH (below_then HE_2.out hq); have HK1 := zH (HK_2.out.on hq)
 clear hq HE_2 HK_2 t_0 FP
 have t_ := HK1.out _ (.tail _ (.head _))
 have t_0 := t_.cell 0
 simp at t_0
 clear t_
 go_wp2_with fail
 refine (CM0.out _).mono ?_
 rintro e y2 ⟨rfl, hq⟩
 have HE2 := zH (below_then HE1.out hq); have HK2 := zH (HK1.out.on hq)
 clear hq HE1 HK1 t_0 CM0
 have t_ := HK2.out _ (.tail _ (.head _))
 have t_0 := t_.cell 0
 simp at t_0
 clear t_
 go_wp2_with fail
 refine (LP.out _ HE2.out).mono ?_
 rintro e y3 ⟨rfl, hq⟩
 have HE3 := zH (below_then HE2.out hq); have HK3 := zH (HK2.out.on hq)
 clear hq HE2 HK2 t_0 LP
 have hu := HU.out
 have t_ := HK3.out _ (.tail _ (.head _))
 have t_0 := t_.cell 0
 simp at t_0
 clear t_
 go_wp2_with fail
 refine (CM1.out _).mono ?_
 rintro e y4 ⟨rfl, hq⟩
 have HE4 := zH (below_then HE3.out hq); have HK4 := zH (HK3.out.on hq)
 clear hq HE3 HK3 t_0 CM1
 have t_ := HK4.out _ (.tail _ (.head _))
 have t_0 := t_.cell 0
 simp at t_0
 clear t_
 have z_ := HK4.out _ (.head _)
 have z_0 := z_.cell 0
 have z_f0 := z_.frozen 0
 have z_1 := z_.cell 1
 have z_f1 := z_.frozen 1
 have z_l := z_.lt
 simp at z_0 z_f0 z_1 z_f1
 clear z_
 go_wp2
 refine bodyPost_ret (v := rv t (t + b)) (by simp [results, Tryz.results18, go_sem, z_0, z_1]) rfl ⟨rfl, ?_⟩
 have hg := HG.out
 repeat (first | exact HE4.out | refine Below.setCell ?_ (by simp <;> omega) _)
end

section
open Go.RowKit

def stOf (x : Int) : Int := if 5 < x % 9 then 3 else x % 9
def madeF (h : HoldD) (x0 x1 x2 x3 x4 : Int) : FillD :=
  if stOf x0 = 0 then ⟨h.id, 0, 0, 0, 0, 0⟩
  else if 3 ≤ stOf x0 ∧ stOf x0 ≤ 5 then ⟨h.id, stOf x0, (spanS (firstX h.vol) (lastX h.vol) x1 x2).1, (spanS (firstX h.vol) (lastX h.vol) x1 x2).2, (densityS x3 x4).1, (densityS x3 x4).2⟩
  else ⟨h.id, stOf x0, 0, 0, (densityS x3 x4).1, (densityS x3 x4).2⟩
theorem stOf_in (x : Int) : 0 ≤ stOf x ∧ stOf x ≤ 5 := by
  obtain ⟨h1, h2⟩ := emod_in x (show (0 : Int) < 9 by omega)
  unfold stOf
  split <;> omega

theorem sfill_to (h : HoldD) (m : HoldM) (x0 x1 x2 x3 x4 : Int) (w : World) (hi : HoldIn w h m) (ht : tabOk h.vol = true) (hle : firstX h.vol ≤ lastX h.vol) (hlo : 0 ≤ firstX h.vol) (hhi : lastX h.vol ≤ 1000000) :
  Calls Tryz.prog 5 #[holdV h m, .agg #[.int .i64 x0, .int .i64 x1, .int .i64 x2, .int .i64 x3, .int .i64 x4]] w fun e w' => e = .returned (fillV (madeF h x0 x1 x2 x3 x4)) ∧ Below w.heap.size w w' := by
 have CSP : Hid (∀ W, Below w.heap.size w W → Calls Tryz.prog 18 #[tv m.A m.n m.c, .int .i64 x1, .int .i64 x2] W fun e w' => e = .returned (rv (spanS (firstX h.vol) (lastX h.vol) x1 x2).1 (spanS (firstX h.vol) (lastX h.vol) x1 x2).2) ∧ Below W.heap.size W w') := zH fun W hW => sspan_to m.A m.n m.c h.vol x1 x2 W (hi.1.below hW) ht hle (by omega) (by omega)
 have CDE : Hid (∀ W, Calls Tryz.prog 16 #[.int .i64 x3, .int .i64 x4] W fun e w' => e = .returned (rv (densityS x3 x4).1 (densityS x3 x4).2) ∧ Below W.heap.size W w') := zH fun W => sDensityN_to x3 x4 W
 clear hi ht hle hlo hhi
 have hR : madeF h x0 x1 x2 x3 x4 = if stOf x0 = 0 then ⟨h.id, 0, 0, 0, 0, 0⟩ else if 3 ≤ stOf x0 ∧ stOf x0 ≤ 5 then ⟨h.id, stOf x0, (spanS (firstX h.vol) (lastX h.vol) x1 x2).1, (spanS (firstX h.vol) (lastX h.vol) x1 x2).2, (densityS x3 x4).1, (densityS x3 x4).2⟩ else ⟨h.id, stOf x0, 0, 0, (densityS x3 x4).1, (densityS x3 x4).2⟩ := rfl
 obtain ⟨RR, hRR⟩ : ∃ R, madeF h x0 x1 x2 x3 x4 = R := ⟨_, rfl⟩
 rw [hRR] at hR ⊢
 clear hRR
 obtain ⟨⟨p0, p1⟩, hsp⟩ : ∃ y, spanS (firstX h.vol) (lastX h.vol) x1 x2 = y := ⟨_, rfl⟩
 obtain ⟨⟨d0, d1⟩, hde⟩ : ∃ y, densityS x3 x4 = y := ⟨_, rfl⟩
 rw [hsp] at CSP hR
 rw [hde] at CDE hR
 have hst := stOf_in x0
 obtain ⟨q0, hq0⟩ : ∃ z, x0 % 9 = z := ⟨_, rfl⟩
 obtain ⟨st, hs⟩ : ∃ z, stOf x0 = z := ⟨_, rfl⟩
 have hsq : (5 < q0 → st = 3) ∧ (¬ 5 < q0 → st = q0) := by
  rw [← hs, ← hq0]; unfold stOf
  exact ⟨fun g => if_pos g, fun g => if_neg g⟩
 rw [hs] at hR hst
 obtain ⟨id, al, ah, vol, mom, hei, t0, t1, u0, u1, v0, v1, h0, h1⟩ := h
 obtain ⟨A, n, c, B, mm, d, C, l, ee⟩ := m
 dsimp only at CSP CDE hR ⊢
 have CM0 : Hid (∀ W, Calls Tryz.prog 8 #[.int .i64 x0, .int .i64 9] W fun e w' => e = .returned (.int .i64 q0) ∧ Below W.heap.size W w') := zH fun W => int_to (smod_to x0 9 W (by omega) (by omega)) hq0
 have HR := zH hR; have HSQ := zH hsq
 clear hsp hde hs hq0 hR hsq
 have HE := zH (show Below w.heap.size w (((w.alloc (.cells #[.int .i64 id, .int .i64 al, .int .i64 ah, .slice A n c, .slice B mm d, .slice C l ee, .int .i64 t0, .int .i64 t1, .int .i64 u0, .int .i64 u1, .int .i64 v0, .int .i64 v1, .int .i64 h0, .int .i64 h1] 40)).alloc (.cells #[.int .i64 x0, .int .i64 x1, .int .i64 x2, .int .i64 x3, .int .i64 x4] 33)).alloc (.cells #[.int .i64 0, .int .i64 0, .int .i64 0, .int .i64 0, .int .i64 0, .int .i64 0] 43)) from below_a3 (Below.refl _ _))
 have HK := zH (boxes3' w 40 33 43 #[.int .i64 id, .int .i64 al, .int .i64 ah, .slice A n c, .slice B mm d, .slice C l ee, .int .i64 t0, .int .i64 t1, .int .i64 u0, .int .i64 u1, .int .i64 v0, .int .i64 v1, .int .i64 h0, .int .i64 h1] #[.int .i64 x0, .int .i64 x1, .int .i64 x2, .int .i64 x3, .int .i64 x4] #[.int .i64 0, .int .i64 0, .int .i64 0, .int .i64 0, .int .i64 0, .int .i64 0])
 go_enter Tryz.func5, Tryz.ntmps5
 go_upto_region 1 with fail
 obtain ⟨W0, hW0⟩ : ∃ W0 : World, (((w.alloc (.cells #[.int .i64 id, .int .i64 al, .int .i64 ah, .slice A n c, .slice B mm d, .slice C l ee, .int .i64 t0, .int .i64 t1, .int .i64 u0, .int .i64 u1, .int .i64 v0, .int .i64 v1, .int .i64 h0, .int .i64 h1] 40)).alloc (.cells #[.int .i64 x0, .int .i64 x1, .int .i64 x2, .int .i64 x3, .int .i64 x4] 33)).alloc (.cells #[.int .i64 0, .int .i64 0, .int .i64 0, .int .i64 0, .int .i64 0, .int .i64 0] 43)) = W0 := ⟨_, rfl⟩
 rw [hW0] at HE HK ⊢
 clear hW0
 obtain ⟨G, hG⟩ : ∃ G, w.heap.size = G := ⟨_, rfl⟩
 rw [hG] at HK ⊢
 have HG := zH hG; clear hG
 have HX_0 := HK
 go_cut [5] (fun s5 wx => ∃ N, s5 = .pointer (some ⟨N, 0, none⟩) ∧ Boxes wx ((N, 43, #[.int .i64 id, .int .i64 q0, .int .i64 0, .int .i64 0, .int .i64 0, .int .i64 0]) :: [(G + 1 + 1, 43, #[.int .i64 0, .int .i64 0, .int .i64 0, .int .i64 0, .int .i64 0, .int .i64 0]), (G + 1, 33, #[.int .i64 x0, .int .i64 x1, .int .i64 x2, .int .i64 x3, .int .i64 x4]), (G, 40, #[.int .i64 id, .int .i64 al, .int .i64 ah, .slice A n c, .slice B mm d, .slice C l ee, .int .i64 t0, .int .i64 t1, .int .i64 u0, .int .i64 u1, .int .i64 v0, .int .i64 v1, .int .i64 h0, .int .i64 h1])]) ∧ Below w.heap.size w wx ∧ G + 1 + 1 < N)
 case first =>
  obtain ⟨LB, hLB⟩ : ∃ x, ([(G + 1 + 1, 43, #[.int .i64 0, .int .i64 0, .int .i64 0, .int .i64 0, .int .i64 0, .int .i64 0]), (G + 1, 33, #[.int .i64 x0, .int .i64 x1, .int .i64 x2, .int .i64 x3, .int .i64 x4]), (G, 40, #[.int .i64 id, .int .i64 al, .int .i64 ah, .slice A n c, .slice B mm d, .slice C l ee, .int .i64 t0, .int .i64 t1, .int .i64 u0, .int .i64 u1, .int .i64 v0, .int .i64 v1, .int .i64 h0, .int .i64 h1])] : List (Nat × TypeId × Array Value)) = x := ⟨_, rfl⟩
  have hl0 : (G, 40, #[.int .i64 id, .int .i64 al, .int .i64 ah, .slice A n c, .slice B mm d, .slice C l ee, .int .i64 t0, .int .i64 t1, .int .i64 u0, .int .i64 u1, .int .i64 v0, .int .i64 v1, .int .i64 h0, .int .i64 h1]) ∈ LB ∧ (G + 1, 33, #[.int .i64 x0, .int .i64 x1, .int .i64 x2, .int .i64 x3, .int .i64 x4]) ∈ LB ∧ (G + 1 + 1, 43, #[.int .i64 0, .int .i64 0, .int .i64 0, .int .i64 0, .int .i64 0, .int .i64 0]) ∈ LB := by rw [← hLB]; simp
  have HL0 := zH hl0
  have hS0 : BB2 w LB W0.drew := ⟨by rw [← hLB]; exact HK.out, HE.out.drew⟩
  have HLB := zH hLB
  clear hLB hl0
  refine wp_region_held_drew (S := BB2 w LB) (by kernel_rfl) hS0 (fun hHeld => ?_)
  obtain ⟨yq, hW⟩ : ∃ W', W0.drew = W' := ⟨_, rfl⟩
  rw [hW] at hHeld ⊢
  clear hW hS0 HE HK HX_0
  refine tK 6 (i := 0) (v := .pointer (some ⟨G, 0, none⟩)) rfl rfl (by kernel_rfl) ?_ hHeld ?_
  ·intro w hSw; clear hSw; go_simp; try with_reducible rfl
  simp only [uZ, uS]
  refine tK 7 (i := 1) (v := .int .i64 id) rfl rfl (by kernel_rfl) ?_ hHeld ?_
  ·intro w hSw; have cx := (hSw.1 _ HL0.out.1).cell 0; simp at cx; clear hSw; go_simp; try with_reducible rfl
  simp only [uZ, uS]
  refine tK 8 (i := 2) (v := .pointer (some ⟨G + 1, 0, none⟩)) rfl rfl (by kernel_rfl) ?_ hHeld ?_
  ·intro w hSw; clear hSw; go_simp; try with_reducible rfl
  simp only [uZ, uS]
  refine tK 9 (i := 3) (v := .int .i64 x0) rfl rfl (by kernel_rfl) ?_ hHeld ?_
  ·intro w hSw; have cx := (hSw.1 _ HL0.out.2.1).cell 0; simp at cx; clear hSw; go_simp; try with_reducible rfl
  simp only [uZ, uS]
  refine wpAnyH_ready (rs := [4, 6]) (by kernel_rfl) (by simp) ?_
  refine AllReadyH.cons rfl (fun K hK => ?_) (AllReadyH.cons rfl (fun K hK => ?_) AllReadyH.nil)
  rotate_left
  rename World => yq
  go_simp
  have HDN := zH (boxes_lt hHeld.1); have HZN := zH hHeld.2.size; have HGN := zH (hHeld.1 _ HL0.out.2.2).lt; have HY := zH (hHeld.1.new 43 #[.int .i64 0, .int .i64 0, .int .i64 0, .int .i64 0, .int .i64 0, .int .i64 0])
  refine hK.out _ _ ⟨hHeld.1.on (below_alloc1 _ _), below_then hHeld.2 (below_alloc1 _ _)⟩ (fun θ => ?_)
  try simp only [Act.put, uA, uZ, uS]
  clear hK K hHeld
  have hHeld := θ
  clear θ
  obtain ⟨yr, hW⟩ : ∃ W', yq.alloc (.cells #[.int .i64 0, .int .i64 0, .int .i64 0, .int .i64 0, .int .i64 0, .int .i64 0] 43) = W' := ⟨_, rfl⟩
  rw [hW] at HY hHeld ⊢
  clear hW
  obtain ⟨N, hN⟩ : ∃ N, yq.heap.size = N := ⟨_, rfl⟩
  rw [hN] at HY HDN HZN HGN ⊢
  clear hN
  refine rK 4 (by kernel_rfl) rfl (fun K hK => ?_)
  go_simp
  (with_reducible refine (CM0.out _).mono ?_)
  rintro x y ⟨rfl, hq⟩
  have HY := zH (HY.out.on hq)
  refine hK.out _ _ ⟨hHeld.1.on hq, below_then hHeld.2 hq⟩ (fun θ => ?_)
  clear hq
  try simp only [Act.put, uA, uZ, uS]
  clear hK K hHeld
  have hHeld := θ
  clear θ
  refine tK 11 (i := 5) (v := .agg #[.int .i64 id, .int .i64 q0, .int .i64 0, .int .i64 0, .int .i64 0, .int .i64 0]) rfl rfl (by kernel_rfl) ?_ hHeld ?_
  ·intro w hSw; clear hSw; go_simp; try with_reducible rfl
  simp only [uZ, uS]
  rotate_left
  go_simp
  (with_reducible refine (CM0.out _).mono ?_)
  rintro x y ⟨rfl, hq⟩
  refine hK.out _ _ ⟨hHeld.1.on hq, below_then hHeld.2 hq⟩ (fun θ => ?_)
  clear hq
  try simp only [Act.put, uA, uZ, uS]
  clear hK K hHeld
  have hHeld := θ
  clear θ
  refine tK 11 (i := 5) (v := .agg #[.int .i64 id, .int .i64 q0, .int .i64 0, .int .i64 0, .int .i64 0, .int .i64 0]) rfl rfl (by kernel_rfl) ?_ hHeld ?_
  ·intro w hSw; clear hSw; go_simp; try with_reducible rfl
  simp only [uZ, uS]
  refine rK 6 (by kernel_rfl) rfl (fun K hK => ?_)
  rename World => yq
  go_simp
  have HDN := zH (boxes_lt hHeld.1); have HZN := zH hHeld.2.size; have HGN := zH (hHeld.1 _ HL0.out.2.2).lt; have HY := zH (hHeld.1.new 43 #[.int .i64 0, .int .i64 0, .int .i64 0, .int .i64 0, .int .i64 0, .int .i64 0])
  refine hK.out _ _ ⟨hHeld.1.on (below_alloc1 _ _), below_then hHeld.2 (below_alloc1 _ _)⟩ (fun θ => ?_)
  try simp only [Act.put, uA, uZ, uS]
  clear hK K hHeld
  have hHeld := θ
  clear θ
  obtain ⟨yr, hW⟩ : ∃ W', yq.alloc (.cells #[.int .i64 0, .int .i64 0, .int .i64 0, .int .i64 0, .int .i64 0, .int .i64 0] 43) = W' := ⟨_, rfl⟩
  rw [hW] at HY hHeld ⊢
  clear hW
  obtain ⟨N, hN⟩ : ∃ N, yq.heap.size = N := ⟨_, rfl⟩
  rw [hN] at HY HDN HZN HGN ⊢
  clear hN
  all_goals
   refine rK 7 (by kernel_rfl) rfl (fun K hK => ?_)
   rw [if_pos (by kernel_rfl)]
   rename World => yq
   have HXs : Hid (Boxes (yq.setRow N #[.int .i64 id, .int .i64 q0, .int .i64 0, .int .i64 0, .int .i64 0, .int .i64 0]) ((N, 43, #[.int .i64 id, .int .i64 q0, .int .i64 0, .int .i64 0, .int .i64 0, .int .i64 0]) :: LB)) := zH (Boxes.row HY.out (.head _) (fun p hp => ⟨.tail _ hp, HDN.out p hp⟩) #[.int .i64 id, .int .i64 q0, .int .i64 0, .int .i64 0, .int .i64 0, .int .i64 0])
   have HEs := zH (below_setRow hHeld.2 (show w.heap.size ≤ N from HZN.out) #[.int .i64 id, .int .i64 q0, .int .i64 0, .int .i64 0, .int .i64 0, .int .i64 0])
   refine wp_store_row 43 (.tmp 5) (.tmp 11) rfl N #[.int .i64 id, .int .i64 q0, .int .i64 0, .int .i64 0, .int .i64 0, .int .i64 0] rfl rfl 43 _ (HY.out _ (.head _)) (by kernel_rfl) rfl (by kernel_rfl) ?_
   refine hK.out _ _ ⟨hHeld.1.farRow (g := N) HDN.out _, HEs.out⟩ (fun θ => ?_)
   try simp only [Act.put, uA, uZ, uS]
   clear hK K hHeld
   have hHeld := θ
   clear θ
   refine wpAnyH_done (by kernel_rfl) ?_ _
   clear hHeld
   go_wp2_with fail
   go_meet
   rw [← HLB.out] at HXs
   exact ⟨N, rfl, HXs.out, HEs.out, HGN.out⟩
 obtain ⟨M, rfl, hX, hB, hM⟩ := hcut
 have HX0 := zH hX; have HB0 := zH hB
 have HMG : Hid (G + 1 + 1 < M ∧ w.heap.size ≤ G) := zH ⟨hM, by rw [HG.out]; exact Nat.le_refl _⟩
 clear hX hB hM HE HK HX_0 CM0
 rename World => V0
 have HFAR : Hid (∀ p ∈ ([(G + 1 + 1, 43, #[.int .i64 0, .int .i64 0, .int .i64 0, .int .i64 0, .int .i64 0, .int .i64 0]), (G + 1, 33, #[.int .i64 x0, .int .i64 x1, .int .i64 x2, .int .i64 x3, .int .i64 x4]), (G, 40, #[.int .i64 id, .int .i64 al, .int .i64 ah, .slice A n c, .slice B mm d, .slice C l ee, .int .i64 t0, .int .i64 t1, .int .i64 u0, .int .i64 u1, .int .i64 v0, .int .i64 v1, .int .i64 h0, .int .i64 h1])] : List (Nat × TypeId × Array Value)), p.1 ≠ M) := zH (fun p hp => by
  have hm := HMG.out
  simp only [List.mem_cons, List.not_mem_nil, or_false] at hp
  rcases hp with h | h | h <;> (rw [h]; dsimp only; omega))
 by_cases g5 : 5 < q0
 ·skip
  have m_ := HX0.out _ (.head _)
  have m_1 := m_.cell 1
  have m_f1 := m_.frozen 1
  have m_l := m_.lt
  simp at m_1 m_f1
  clear m_
  go_upto_region 4 with fail
  have HX1 : Hid (Boxes (V0.setCell ⟨M, 1, none⟩ (.int .i64 3)) [(M, 43, #[.int .i64 id, .int .i64 3, .int .i64 0, .int .i64 0, .int .i64 0, .int .i64 0]), (G + 1 + 1, 43, #[.int .i64 0, .int .i64 0, .int .i64 0, .int .i64 0, .int .i64 0, .int .i64 0]), (G + 1, 33, #[.int .i64 x0, .int .i64 x1, .int .i64 x2, .int .i64 x3, .int .i64 x4]), (G, 40, #[.int .i64 id, .int .i64 al, .int .i64 ah, .slice A n c, .slice B mm d, .slice C l ee, .int .i64 t0, .int .i64 t1, .int .i64 u0, .int .i64 u1, .int .i64 v0, .int .i64 v1, .int .i64 h0, .int .i64 h1])]) := zH (HX0.out.set1 HFAR.out 1 (.int .i64 3) _ rfl)
  have HB1 : Hid (Below w.heap.size w (V0.setCell ⟨M, 1, none⟩ (.int .i64 3))) := zH (by
   have hm := HMG.out
   exact HB0.out.setCell (by simp <;> omega) _)
  obtain ⟨V1, hW⟩ : ∃ W', V0.setCell ⟨M, 1, none⟩ (.int .i64 3) = W' := ⟨_, rfl⟩
  rw [hW] at HX1 HB1 ⊢
  clear hW HX0 HB0 m_1 m_f1 m_l
  obtain ⟨ss, hss⟩ : ∃ z, (3 : Int) = z := ⟨_, rfl⟩
  have HSS : Hid (st = ss) := zH ((HSQ.out.1 g5).trans hss)
  rw [hss] at HX1
  clear hss
  clear g5
  have m_ := HX1.out _ (.head _)
  have m_1 := m_.cell 1
  simp at m_1
  clear m_
  have hst' : 0 ≤ ss ∧ ss ≤ 5 := by rw [← HSS.out]; exact hst
  by_cases hs0 : ss = 0
  ·skip
   subst hs0
   have HV : Hid (RR = ⟨id, 0, 0, 0, 0, 0⟩) := zH (by rw [HR.out, if_pos HSS.out])
   have m_ := HX1.out _ (.head _)
   have m_0 := m_.cell 0
   have m_1 := m_.cell 1
   have m_2 := m_.cell 2
   have m_3 := m_.cell 3
   have m_4 := m_.cell 4
   have m_5 := m_.cell 5
   simp at m_0 m_1 m_2 m_3 m_4 m_5
   clear m_
   go_upto_region 5 with fail
   refine wp_region_lit ?_
   refine wpList_plain rfl (fun K hK => ?_)
   go_simp
   refine hK _ _ ?_
   clear hK K
   have HKR : Hid (Blk (V1.setRow (G + 1 + 1) #[.int .i64 id, .int .i64 0, .int .i64 0, .int .i64 0, .int .i64 0, .int .i64 0]) (G + 1 + 1) 43 #[.int .i64 id, .int .i64 0, .int .i64 0, .int .i64 0, .int .i64 0, .int .i64 0]) := zH (setRow_heap V1 (G + 1 + 1) _ _ 43 _ (HX1.out _ (.tail _ (.head _))))
   have HE9 := zH (below_setRow HB1.out (show w.heap.size ≤ G + 1 + 1 by have := HMG.out; omega) #[.int .i64 id, .int .i64 0, .int .i64 0, .int .i64 0, .int .i64 0, .int .i64 0])
   refine wpList_store_row rfl 43 (.tmp 4) (.tmp 19) rfl (G + 1 + 1) #[.int .i64 id, .int .i64 0, .int .i64 0, .int .i64 0, .int .i64 0, .int .i64 0] rfl rfl 43 _ (HX1.out _ (.tail _ (.head _))) (by kernel_rfl) rfl (by kernel_rfl) ?_
   obtain ⟨W9, hW9⟩ : ∃ W9, V1.setRow (G + 1 + 1) #[.int .i64 id, .int .i64 0, .int .i64 0, .int .i64 0, .int .i64 0, .int .i64 0] = W9 := ⟨_, rfl⟩
   rw [hW9] at HKR HE9 ⊢
   clear hW9
   have hv : fillV RR = .agg #[.int .i64 id, .int .i64 0, .int .i64 0, .int .i64 0, .int .i64 0, .int .i64 0] := by rw [HV.out]
   go_wp2
   exact bodyPost_ret (v := .agg #[.int .i64 id, .int .i64 0, .int .i64 0, .int .i64 0, .int .i64 0, .int .i64 0]) (results_cell_row Tryz.results5 _ _ (G + 1 + 1) 43 #[.int .i64 id, .int .i64 0, .int .i64 0, .int .i64 0, .int .i64 0, .int .i64 0] (0, 0) _ rfl HKR.out Tryz.underlying43 rfl (by kernel_rfl)) rfl ⟨by first | rfl | rw [hv], HE9.out⟩
  have b1 : (ss == 0) = false := beq_eq_false_iff_ne.2 hs0
  have x_ := HX1.out _ (.tail _ (.tail _ (.head _)))
  have x_3 := x_.cell 3
  have x_4 := x_.cell 4
  simp at x_3 x_4
  clear x_
  go_wp2_with fail
  refine (CDE.out _).mono ?_
  rintro e z2 ⟨rfl, hq⟩
  have HB2 := zH (below_then HB1.out hq); have HX2 := zH (HX1.out.on hq)
  clear hq HB1 HX1 x_3 x_4
  clear CDE m_1
  have m_ := HX2.out _ (.head _)
  have m_4 := m_.cell 4
  have m_f4 := m_.frozen 4
  have m_5 := m_.cell 5
  have m_f5 := m_.frozen 5
  have m_l := m_.lt
  simp at m_4 m_f4 m_5 m_f5
  clear m_
  go_upto_region 7 with fail
  have HXs2_0 : Hid (Boxes ((z2).setCell ⟨M, 4, none⟩ (.int .i64 d0)) [(M, 43, #[.int .i64 id, .int .i64 ss, .int .i64 0, .int .i64 0, .int .i64 d0, .int .i64 0]), (G + 1 + 1, 43, #[.int .i64 0, .int .i64 0, .int .i64 0, .int .i64 0, .int .i64 0, .int .i64 0]), (G + 1, 33, #[.int .i64 x0, .int .i64 x1, .int .i64 x2, .int .i64 x3, .int .i64 x4]), (G, 40, #[.int .i64 id, .int .i64 al, .int .i64 ah, .slice A n c, .slice B mm d, .slice C l ee, .int .i64 t0, .int .i64 t1, .int .i64 u0, .int .i64 u1, .int .i64 v0, .int .i64 v1, .int .i64 h0, .int .i64 h1])]) := zH (HX2.out.set1 HFAR.out 4 (.int .i64 d0) _ rfl)
  have HXs2_1 : Hid (Boxes (((z2).setCell ⟨M, 4, none⟩ (.int .i64 d0)).setCell ⟨M, 5, none⟩ (.int .i64 d1)) [(M, 43, #[.int .i64 id, .int .i64 ss, .int .i64 0, .int .i64 0, .int .i64 d0, .int .i64 d1]), (G + 1 + 1, 43, #[.int .i64 0, .int .i64 0, .int .i64 0, .int .i64 0, .int .i64 0, .int .i64 0]), (G + 1, 33, #[.int .i64 x0, .int .i64 x1, .int .i64 x2, .int .i64 x3, .int .i64 x4]), (G, 40, #[.int .i64 id, .int .i64 al, .int .i64 ah, .slice A n c, .slice B mm d, .slice C l ee, .int .i64 t0, .int .i64 t1, .int .i64 u0, .int .i64 u1, .int .i64 v0, .int .i64 v1, .int .i64 h0, .int .i64 h1])]) := zH (HXs2_0.out.set1 HFAR.out 5 (.int .i64 d1) _ rfl)
  have HB3 : Hid (Below w.heap.size w (((z2).setCell ⟨M, 4, none⟩ (.int .i64 d0)).setCell ⟨M, 5, none⟩ (.int .i64 d1))) := zH (by
   have hm := HMG.out
   repeat (first | exact HB2.out | refine Below.setCell ?_ (by simp <;> omega) _))
  have HX3 := HXs2_1
  obtain ⟨V3, hW⟩ : ∃ W', ((z2).setCell ⟨M, 4, none⟩ (.int .i64 d0)).setCell ⟨M, 5, none⟩ (.int .i64 d1) = W' := ⟨_, rfl⟩
  rw [hW] at HB3 HX3  ⊢
  clear hW HB2 HX2 HXs2_0 m_4 m_f4 m_5 m_f5 m_l
  have m_ := HX3.out _ (.head _)
  have m_1 := m_.cell 1
  simp at m_1
  clear m_
  have CFR : Hid (∀ W, Calls Tryz.prog 17 #[.int .i64 ss] W fun e w' => e = .returned (.bool (decide (3 ≤ ss ∧ ss ≤ 5))) ∧ Below W.heap.size W w') := zH fun W => sFree_to ss _ W rfl
  by_cases hf : 3 ≤ ss ∧ ss ≤ 5
  ·skip
   rw [decide_eq_true hf] at CFR
   go_wp2_with fail
   refine (CFR.out _).mono ?_
   rintro e z4 ⟨rfl, hq⟩
   have HB4 := zH (below_then HB3.out hq); have HX4 := zH (HX3.out.on hq)
   clear hq HB3 HX3 m_1
   clear CFR
   have h_ := HX4.out _ (.tail _ (.tail _ (.tail _ (.head _))))
   have h_3 := h_.cell 3
   simp at h_3
   clear h_
   have x_ := HX4.out _ (.tail _ (.tail _ (.head _)))
   have x_1 := x_.cell 1
   have x_2 := x_.cell 2
   simp at x_1 x_2
   clear x_
   go_wp2_with fail
   refine (CSP.out _ HB4.out).mono ?_
   rintro e z5 ⟨rfl, hq⟩
   have HB5 := zH (below_then HB4.out hq); have HX5 := zH (HX4.out.on hq)
   clear hq HB4 HX4 h_3 x_1 x_2
   clear CSP
   have m_ := HX5.out _ (.head _)
   have m_2 := m_.cell 2
   have m_f2 := m_.frozen 2
   have m_3 := m_.cell 3
   have m_f3 := m_.frozen 3
   have m_l := m_.lt
   simp at m_2 m_f2 m_3 m_f3
   clear m_
   go_upto_region 9 with fail
   have HXs5_0 : Hid (Boxes ((z5).setCell ⟨M, 2, none⟩ (.int .i64 p0)) [(M, 43, #[.int .i64 id, .int .i64 ss, .int .i64 p0, .int .i64 0, .int .i64 d0, .int .i64 d1]), (G + 1 + 1, 43, #[.int .i64 0, .int .i64 0, .int .i64 0, .int .i64 0, .int .i64 0, .int .i64 0]), (G + 1, 33, #[.int .i64 x0, .int .i64 x1, .int .i64 x2, .int .i64 x3, .int .i64 x4]), (G, 40, #[.int .i64 id, .int .i64 al, .int .i64 ah, .slice A n c, .slice B mm d, .slice C l ee, .int .i64 t0, .int .i64 t1, .int .i64 u0, .int .i64 u1, .int .i64 v0, .int .i64 v1, .int .i64 h0, .int .i64 h1])]) := zH (HX5.out.set1 HFAR.out 2 (.int .i64 p0) _ rfl)
   have HXs5_1 : Hid (Boxes (((z5).setCell ⟨M, 2, none⟩ (.int .i64 p0)).setCell ⟨M, 3, none⟩ (.int .i64 p1)) [(M, 43, #[.int .i64 id, .int .i64 ss, .int .i64 p0, .int .i64 p1, .int .i64 d0, .int .i64 d1]), (G + 1 + 1, 43, #[.int .i64 0, .int .i64 0, .int .i64 0, .int .i64 0, .int .i64 0, .int .i64 0]), (G + 1, 33, #[.int .i64 x0, .int .i64 x1, .int .i64 x2, .int .i64 x3, .int .i64 x4]), (G, 40, #[.int .i64 id, .int .i64 al, .int .i64 ah, .slice A n c, .slice B mm d, .slice C l ee, .int .i64 t0, .int .i64 t1, .int .i64 u0, .int .i64 u1, .int .i64 v0, .int .i64 v1, .int .i64 h0, .int .i64 h1])]) := zH (HXs5_0.out.set1 HFAR.out 3 (.int .i64 p1) _ rfl)
   have HB6 : Hid (Below w.heap.size w (((z5).setCell ⟨M, 2, none⟩ (.int .i64 p0)).setCell ⟨M, 3, none⟩ (.int .i64 p1))) := zH (by
    have hm := HMG.out
    repeat (first | exact HB5.out | refine Below.setCell ?_ (by simp <;> omega) _))
   have HX6 := HXs5_1
   obtain ⟨V6, hW⟩ : ∃ W', ((z5).setCell ⟨M, 2, none⟩ (.int .i64 p0)).setCell ⟨M, 3, none⟩ (.int .i64 p1) = W' := ⟨_, rfl⟩
   rw [hW] at HB6 HX6  ⊢
   clear hW HB5 HX5 HXs5_0 m_2 m_f2 m_3 m_f3 m_l
   have HV : Hid (RR = ⟨id, ss, p0, p1, d0, d1⟩) := zH (by rw [HR.out, HSS.out, if_neg hs0, if_pos hf])
   have m_ := HX6.out _ (.head _)
   have m_0 := m_.cell 0
   have m_1 := m_.cell 1
   have m_2 := m_.cell 2
   have m_3 := m_.cell 3
   have m_4 := m_.cell 4
   have m_5 := m_.cell 5
   simp at m_0 m_1 m_2 m_3 m_4 m_5
   clear m_
   go_upto_region 9 with fail
   refine wp_region_lit ?_
   refine wpList_plain rfl (fun K hK => ?_)
   go_simp
   refine hK _ _ ?_
   clear hK K
   have HKR : Hid (Blk (V6.setRow (G + 1 + 1) #[.int .i64 id, .int .i64 ss, .int .i64 p0, .int .i64 p1, .int .i64 d0, .int .i64 d1]) (G + 1 + 1) 43 #[.int .i64 id, .int .i64 ss, .int .i64 p0, .int .i64 p1, .int .i64 d0, .int .i64 d1]) := zH (setRow_heap V6 (G + 1 + 1) _ _ 43 _ (HX6.out _ (.tail _ (.head _))))
   have HE9 := zH (below_setRow HB6.out (show w.heap.size ≤ G + 1 + 1 by have := HMG.out; omega) #[.int .i64 id, .int .i64 ss, .int .i64 p0, .int .i64 p1, .int .i64 d0, .int .i64 d1])
   refine wpList_store_row rfl 43 (.tmp 4) (.tmp 37) rfl (G + 1 + 1) #[.int .i64 id, .int .i64 ss, .int .i64 p0, .int .i64 p1, .int .i64 d0, .int .i64 d1] rfl rfl 43 _ (HX6.out _ (.tail _ (.head _))) (by kernel_rfl) rfl (by kernel_rfl) ?_
   obtain ⟨W9, hW9⟩ : ∃ W9, V6.setRow (G + 1 + 1) #[.int .i64 id, .int .i64 ss, .int .i64 p0, .int .i64 p1, .int .i64 d0, .int .i64 d1] = W9 := ⟨_, rfl⟩
   rw [hW9] at HKR HE9 ⊢
   clear hW9
   have hv : fillV RR = .agg #[.int .i64 id, .int .i64 ss, .int .i64 p0, .int .i64 p1, .int .i64 d0, .int .i64 d1] := by rw [HV.out]
   go_wp2
   exact bodyPost_ret (v := .agg #[.int .i64 id, .int .i64 ss, .int .i64 p0, .int .i64 p1, .int .i64 d0, .int .i64 d1]) (results_cell_row Tryz.results5 _ _ (G + 1 + 1) 43 #[.int .i64 id, .int .i64 ss, .int .i64 p0, .int .i64 p1, .int .i64 d0, .int .i64 d1] (0, 0) _ rfl HKR.out Tryz.underlying43 rfl (by kernel_rfl)) rfl ⟨by first | rfl | rw [hv], HE9.out⟩
  rw [decide_eq_false hf] at CFR
  go_wp2_with fail
  refine (CFR.out _).mono ?_
  rintro e z4 ⟨rfl, hq⟩
  have HB4 := zH (below_then HB3.out hq); have HX4 := zH (HX3.out.on hq)
  clear hq HB3 HX3 m_1
  clear CFR
  go_upto_region 9 with fail
  have HV : Hid (RR = ⟨id, ss, 0, 0, d0, d1⟩) := zH (by rw [HR.out, HSS.out, if_neg hs0, if_neg hf])
  have m_ := HX4.out _ (.head _)
  have m_0 := m_.cell 0
  have m_1 := m_.cell 1
  have m_2 := m_.cell 2
  have m_3 := m_.cell 3
  have m_4 := m_.cell 4
  have m_5 := m_.cell 5
  simp at m_0 m_1 m_2 m_3 m_4 m_5
  clear m_
  refine wp_region_lit ?_
  refine wpList_plain rfl (fun K hK => ?_)
  go_simp
  refine hK _ _ ?_
  clear hK K
  have HKR : Hid (Blk (z4.setRow (G + 1 + 1) #[.int .i64 id, .int .i64 ss, .int .i64 0, .int .i64 0, .int .i64 d0, .int .i64 d1]) (G + 1 + 1) 43 #[.int .i64 id, .int .i64 ss, .int .i64 0, .int .i64 0, .int .i64 d0, .int .i64 d1]) := zH (setRow_heap z4 (G + 1 + 1) _ _ 43 _ (HX4.out _ (.tail _ (.head _))))
  have HE9 := zH (below_setRow HB4.out (show w.heap.size ≤ G + 1 + 1 by have := HMG.out; omega) #[.int .i64 id, .int .i64 ss, .int .i64 0, .int .i64 0, .int .i64 d0, .int .i64 d1])
  refine wpList_store_row rfl 43 (.tmp 4) (.tmp 37) rfl (G + 1 + 1) #[.int .i64 id, .int .i64 ss, .int .i64 0, .int .i64 0, .int .i64 d0, .int .i64 d1] rfl rfl 43 _ (HX4.out _ (.tail _ (.head _))) (by kernel_rfl) rfl (by kernel_rfl) ?_
  obtain ⟨W9, hW9⟩ : ∃ W9, z4.setRow (G + 1 + 1) #[.int .i64 id, .int .i64 ss, .int .i64 0, .int .i64 0, .int .i64 d0, .int .i64 d1] = W9 := ⟨_, rfl⟩
  rw [hW9] at HKR HE9 ⊢
  clear hW9
  have hv : fillV RR = .agg #[.int .i64 id, .int .i64 ss, .int .i64 0, .int .i64 0, .int .i64 d0, .int .i64 d1] := by rw [HV.out]
  go_wp2
  exact bodyPost_ret (v := .agg #[.int .i64 id, .int .i64 ss, .int .i64 0, .int .i64 0, .int .i64 d0, .int .i64 d1]) (results_cell_row Tryz.results5 _ _ (G + 1 + 1) 43 #[.int .i64 id, .int .i64 ss, .int .i64 0, .int .i64 0, .int .i64 d0, .int .i64 d1] (0, 0) _ rfl HKR.out Tryz.underlying43 rfl (by kernel_rfl)) rfl ⟨by first | rfl | rw [hv], HE9.out⟩
 have m_ := HX0.out _ (.head _)
 have m_1 := m_.cell 1
 have m_f1 := m_.frozen 1
 have m_l := m_.lt
 simp at m_1 m_f1
 clear m_
 go_upto_region 4 with fail
 have HX1 := HX0; have HB1 := HB0
 rename World => V1
 have HSS : Hid (st = q0) := zH (HSQ.out.2 g5)
 clear HX0 HB0 m_1 m_f1 m_l g5
 obtain ⟨ss, hss⟩ : ∃ z, q0 = z := ⟨_, rfl⟩
 rw [hss] at HX1 HSS
 clear hss
 have m_ := HX1.out _ (.head _)
 have m_1 := m_.cell 1
 simp at m_1
 clear m_
 have hst' : 0 ≤ ss ∧ ss ≤ 5 := by rw [← HSS.out]; exact hst
 by_cases hs0 : ss = 0
 ·skip
  subst hs0
  have HV : Hid (RR = ⟨id, 0, 0, 0, 0, 0⟩) := zH (by rw [HR.out, if_pos HSS.out])
  have m_ := HX1.out _ (.head _)
  have m_0 := m_.cell 0
  have m_1 := m_.cell 1
  have m_2 := m_.cell 2
  have m_3 := m_.cell 3
  have m_4 := m_.cell 4
  have m_5 := m_.cell 5
  simp at m_0 m_1 m_2 m_3 m_4 m_5
  clear m_
  go_upto_region 5 with fail
  refine wp_region_lit ?_
  refine wpList_plain rfl (fun K hK => ?_)
  go_simp
  refine hK _ _ ?_
  clear hK K
  have HKR : Hid (Blk (V1.setRow (G + 1 + 1) #[.int .i64 id, .int .i64 0, .int .i64 0, .int .i64 0, .int .i64 0, .int .i64 0]) (G + 1 + 1) 43 #[.int .i64 id, .int .i64 0, .int .i64 0, .int .i64 0, .int .i64 0, .int .i64 0]) := zH (setRow_heap V1 (G + 1 + 1) _ _ 43 _ (HX1.out _ (.tail _ (.head _))))
  have HE9 := zH (below_setRow HB1.out (show w.heap.size ≤ G + 1 + 1 by have := HMG.out; omega) #[.int .i64 id, .int .i64 0, .int .i64 0, .int .i64 0, .int .i64 0, .int .i64 0])
  refine wpList_store_row rfl 43 (.tmp 4) (.tmp 19) rfl (G + 1 + 1) #[.int .i64 id, .int .i64 0, .int .i64 0, .int .i64 0, .int .i64 0, .int .i64 0] rfl rfl 43 _ (HX1.out _ (.tail _ (.head _))) (by kernel_rfl) rfl (by kernel_rfl) ?_
  obtain ⟨W9, hW9⟩ : ∃ W9, V1.setRow (G + 1 + 1) #[.int .i64 id, .int .i64 0, .int .i64 0, .int .i64 0, .int .i64 0, .int .i64 0] = W9 := ⟨_, rfl⟩
  rw [hW9] at HKR HE9 ⊢
  clear hW9
  have hv : fillV RR = .agg #[.int .i64 id, .int .i64 0, .int .i64 0, .int .i64 0, .int .i64 0, .int .i64 0] := by rw [HV.out]
  go_wp2
  exact bodyPost_ret (v := .agg #[.int .i64 id, .int .i64 0, .int .i64 0, .int .i64 0, .int .i64 0, .int .i64 0]) (results_cell_row Tryz.results5 _ _ (G + 1 + 1) 43 #[.int .i64 id, .int .i64 0, .int .i64 0, .int .i64 0, .int .i64 0, .int .i64 0] (0, 0) _ rfl HKR.out Tryz.underlying43 rfl (by kernel_rfl)) rfl ⟨by first | rfl | rw [hv], HE9.out⟩
 have b1 : (ss == 0) = false := beq_eq_false_iff_ne.2 hs0
 have x_ := HX1.out _ (.tail _ (.tail _ (.head _)))
 have x_3 := x_.cell 3
 have x_4 := x_.cell 4
 simp at x_3 x_4
 clear x_
 go_wp2_with fail
 refine (CDE.out _).mono ?_
 rintro e z2 ⟨rfl, hq⟩
 have HB2 := zH (below_then HB1.out hq); have HX2 := zH (HX1.out.on hq)
 clear hq HB1 HX1 x_3 x_4
 clear CDE m_1
 have m_ := HX2.out _ (.head _)
 have m_4 := m_.cell 4
 have m_f4 := m_.frozen 4
 have m_5 := m_.cell 5
 have m_f5 := m_.frozen 5
 have m_l := m_.lt
 simp at m_4 m_f4 m_5 m_f5
 clear m_
 go_upto_region 7 with fail
 have HXs2_0 : Hid (Boxes ((z2).setCell ⟨M, 4, none⟩ (.int .i64 d0)) [(M, 43, #[.int .i64 id, .int .i64 ss, .int .i64 0, .int .i64 0, .int .i64 d0, .int .i64 0]), (G + 1 + 1, 43, #[.int .i64 0, .int .i64 0, .int .i64 0, .int .i64 0, .int .i64 0, .int .i64 0]), (G + 1, 33, #[.int .i64 x0, .int .i64 x1, .int .i64 x2, .int .i64 x3, .int .i64 x4]), (G, 40, #[.int .i64 id, .int .i64 al, .int .i64 ah, .slice A n c, .slice B mm d, .slice C l ee, .int .i64 t0, .int .i64 t1, .int .i64 u0, .int .i64 u1, .int .i64 v0, .int .i64 v1, .int .i64 h0, .int .i64 h1])]) := zH (HX2.out.set1 HFAR.out 4 (.int .i64 d0) _ rfl)
 have HXs2_1 : Hid (Boxes (((z2).setCell ⟨M, 4, none⟩ (.int .i64 d0)).setCell ⟨M, 5, none⟩ (.int .i64 d1)) [(M, 43, #[.int .i64 id, .int .i64 ss, .int .i64 0, .int .i64 0, .int .i64 d0, .int .i64 d1]), (G + 1 + 1, 43, #[.int .i64 0, .int .i64 0, .int .i64 0, .int .i64 0, .int .i64 0, .int .i64 0]), (G + 1, 33, #[.int .i64 x0, .int .i64 x1, .int .i64 x2, .int .i64 x3, .int .i64 x4]), (G, 40, #[.int .i64 id, .int .i64 al, .int .i64 ah, .slice A n c, .slice B mm d, .slice C l ee, .int .i64 t0, .int .i64 t1, .int .i64 u0, .int .i64 u1, .int .i64 v0, .int .i64 v1, .int .i64 h0, .int .i64 h1])]) := zH (HXs2_0.out.set1 HFAR.out 5 (.int .i64 d1) _ rfl)
 have HB3 : Hid (Below w.heap.size w (((z2).setCell ⟨M, 4, none⟩ (.int .i64 d0)).setCell ⟨M, 5, none⟩ (.int .i64 d1))) := zH (by
  have hm := HMG.out
  repeat (first | exact HB2.out | refine Below.setCell ?_ (by simp <;> omega) _))
 have HX3 := HXs2_1
 obtain ⟨V3, hW⟩ : ∃ W', ((z2).setCell ⟨M, 4, none⟩ (.int .i64 d0)).setCell ⟨M, 5, none⟩ (.int .i64 d1) = W' := ⟨_, rfl⟩
 rw [hW] at HB3 HX3  ⊢
 clear hW HB2 HX2 HXs2_0 m_4 m_f4 m_5 m_f5 m_l
 have m_ := HX3.out _ (.head _)
 have m_1 := m_.cell 1
 simp at m_1
 clear m_
 have CFR : Hid (∀ W, Calls Tryz.prog 17 #[.int .i64 ss] W fun e w' => e = .returned (.bool (decide (3 ≤ ss ∧ ss ≤ 5))) ∧ Below W.heap.size W w') := zH fun W => sFree_to ss _ W rfl
 by_cases hf : 3 ≤ ss ∧ ss ≤ 5
 ·skip
  rw [decide_eq_true hf] at CFR
  go_wp2_with fail
  refine (CFR.out _).mono ?_
  rintro e z4 ⟨rfl, hq⟩
  have HB4 := zH (below_then HB3.out hq); have HX4 := zH (HX3.out.on hq)
  clear hq HB3 HX3 m_1
  clear CFR
  have h_ := HX4.out _ (.tail _ (.tail _ (.tail _ (.head _))))
  have h_3 := h_.cell 3
  simp at h_3
  clear h_
  have x_ := HX4.out _ (.tail _ (.tail _ (.head _)))
  have x_1 := x_.cell 1
  have x_2 := x_.cell 2
  simp at x_1 x_2
  clear x_
  go_wp2_with fail
  refine (CSP.out _ HB4.out).mono ?_
  rintro e z5 ⟨rfl, hq⟩
  have HB5 := zH (below_then HB4.out hq); have HX5 := zH (HX4.out.on hq)
  clear hq HB4 HX4 h_3 x_1 x_2
  clear CSP
  have m_ := HX5.out _ (.head _)
  have m_2 := m_.cell 2
  have m_f2 := m_.frozen 2
  have m_3 := m_.cell 3
  have m_f3 := m_.frozen 3
  have m_l := m_.lt
  simp at m_2 m_f2 m_3 m_f3
  clear m_
  go_upto_region 9 with fail
  have HXs5_0 : Hid (Boxes ((z5).setCell ⟨M, 2, none⟩ (.int .i64 p0)) [(M, 43, #[.int .i64 id, .int .i64 ss, .int .i64 p0, .int .i64 0, .int .i64 d0, .int .i64 d1]), (G + 1 + 1, 43, #[.int .i64 0, .int .i64 0, .int .i64 0, .int .i64 0, .int .i64 0, .int .i64 0]), (G + 1, 33, #[.int .i64 x0, .int .i64 x1, .int .i64 x2, .int .i64 x3, .int .i64 x4]), (G, 40, #[.int .i64 id, .int .i64 al, .int .i64 ah, .slice A n c, .slice B mm d, .slice C l ee, .int .i64 t0, .int .i64 t1, .int .i64 u0, .int .i64 u1, .int .i64 v0, .int .i64 v1, .int .i64 h0, .int .i64 h1])]) := zH (HX5.out.set1 HFAR.out 2 (.int .i64 p0) _ rfl)
  have HXs5_1 : Hid (Boxes (((z5).setCell ⟨M, 2, none⟩ (.int .i64 p0)).setCell ⟨M, 3, none⟩ (.int .i64 p1)) [(M, 43, #[.int .i64 id, .int .i64 ss, .int .i64 p0, .int .i64 p1, .int .i64 d0, .int .i64 d1]), (G + 1 + 1, 43, #[.int .i64 0, .int .i64 0, .int .i64 0, .int .i64 0, .int .i64 0, .int .i64 0]), (G + 1, 33, #[.int .i64 x0, .int .i64 x1, .int .i64 x2, .int .i64 x3, .int .i64 x4]), (G, 40, #[.int .i64 id, .int .i64 al, .int .i64 ah, .slice A n c, .slice B mm d, .slice C l ee, .int .i64 t0, .int .i64 t1, .int .i64 u0, .int .i64 u1, .int .i64 v0, .int .i64 v1, .int .i64 h0, .int .i64 h1])]) := zH (HXs5_0.out.set1 HFAR.out 3 (.int .i64 p1) _ rfl)
  have HB6 : Hid (Below w.heap.size w (((z5).setCell ⟨M, 2, none⟩ (.int .i64 p0)).setCell ⟨M, 3, none⟩ (.int .i64 p1))) := zH (by
   have hm := HMG.out
   repeat (first | exact HB5.out | refine Below.setCell ?_ (by simp <;> omega) _))
  have HX6 := HXs5_1
  obtain ⟨V6, hW⟩ : ∃ W', ((z5).setCell ⟨M, 2, none⟩ (.int .i64 p0)).setCell ⟨M, 3, none⟩ (.int .i64 p1) = W' := ⟨_, rfl⟩
  rw [hW] at HB6 HX6  ⊢
  clear hW HB5 HX5 HXs5_0 m_2 m_f2 m_3 m_f3 m_l
  have HV : Hid (RR = ⟨id, ss, p0, p1, d0, d1⟩) := zH (by rw [HR.out, HSS.out, if_neg hs0, if_pos hf])
  have m_ := HX6.out _ (.head _)
  have m_0 := m_.cell 0
  have m_1 := m_.cell 1
  have m_2 := m_.cell 2
  have m_3 := m_.cell 3
  have m_4 := m_.cell 4
  have m_5 := m_.cell 5
  simp at m_0 m_1 m_2 m_3 m_4 m_5
  clear m_
  go_upto_region 9 with fail
  refine wp_region_lit ?_
  refine wpList_plain rfl (fun K hK => ?_)
  go_simp
  refine hK _ _ ?_
  clear hK K
  have HKR : Hid (Blk (V6.setRow (G + 1 + 1) #[.int .i64 id, .int .i64 ss, .int .i64 p0, .int .i64 p1, .int .i64 d0, .int .i64 d1]) (G + 1 + 1) 43 #[.int .i64 id, .int .i64 ss, .int .i64 p0, .int .i64 p1, .int .i64 d0, .int .i64 d1]) := zH (setRow_heap V6 (G + 1 + 1) _ _ 43 _ (HX6.out _ (.tail _ (.head _))))
  have HE9 := zH (below_setRow HB6.out (show w.heap.size ≤ G + 1 + 1 by have := HMG.out; omega) #[.int .i64 id, .int .i64 ss, .int .i64 p0, .int .i64 p1, .int .i64 d0, .int .i64 d1])
  refine wpList_store_row rfl 43 (.tmp 4) (.tmp 37) rfl (G + 1 + 1) #[.int .i64 id, .int .i64 ss, .int .i64 p0, .int .i64 p1, .int .i64 d0, .int .i64 d1] rfl rfl 43 _ (HX6.out _ (.tail _ (.head _))) (by kernel_rfl) rfl (by kernel_rfl) ?_
  obtain ⟨W9, hW9⟩ : ∃ W9, V6.setRow (G + 1 + 1) #[.int .i64 id, .int .i64 ss, .int .i64 p0, .int .i64 p1, .int .i64 d0, .int .i64 d1] = W9 := ⟨_, rfl⟩
  rw [hW9] at HKR HE9 ⊢
  clear hW9
  have hv : fillV RR = .agg #[.int .i64 id, .int .i64 ss, .int .i64 p0, .int .i64 p1, .int .i64 d0, .int .i64 d1] := by rw [HV.out]
  go_wp2
  exact bodyPost_ret (v := .agg #[.int .i64 id, .int .i64 ss, .int .i64 p0, .int .i64 p1, .int .i64 d0, .int .i64 d1]) (results_cell_row Tryz.results5 _ _ (G + 1 + 1) 43 #[.int .i64 id, .int .i64 ss, .int .i64 p0, .int .i64 p1, .int .i64 d0, .int .i64 d1] (0, 0) _ rfl HKR.out Tryz.underlying43 rfl (by kernel_rfl)) rfl ⟨by first | rfl | rw [hv], HE9.out⟩
 rw [decide_eq_false hf] at CFR
 go_wp2_with fail
 refine (CFR.out _).mono ?_
 rintro e z4 ⟨rfl, hq⟩
 have HB4 := zH (below_then HB3.out hq); have HX4 := zH (HX3.out.on hq)
 clear hq HB3 HX3 m_1
 clear CFR
 go_upto_region 9 with fail
 have HV : Hid (RR = ⟨id, ss, 0, 0, d0, d1⟩) := zH (by rw [HR.out, HSS.out, if_neg hs0, if_neg hf])
 have m_ := HX4.out _ (.head _)
 have m_0 := m_.cell 0
 have m_1 := m_.cell 1
 have m_2 := m_.cell 2
 have m_3 := m_.cell 3
 have m_4 := m_.cell 4
 have m_5 := m_.cell 5
 simp at m_0 m_1 m_2 m_3 m_4 m_5
 clear m_
 refine wp_region_lit ?_
 refine wpList_plain rfl (fun K hK => ?_)
 go_simp
 refine hK _ _ ?_
 clear hK K
 have HKR : Hid (Blk (z4.setRow (G + 1 + 1) #[.int .i64 id, .int .i64 ss, .int .i64 0, .int .i64 0, .int .i64 d0, .int .i64 d1]) (G + 1 + 1) 43 #[.int .i64 id, .int .i64 ss, .int .i64 0, .int .i64 0, .int .i64 d0, .int .i64 d1]) := zH (setRow_heap z4 (G + 1 + 1) _ _ 43 _ (HX4.out _ (.tail _ (.head _))))
 have HE9 := zH (below_setRow HB4.out (show w.heap.size ≤ G + 1 + 1 by have := HMG.out; omega) #[.int .i64 id, .int .i64 ss, .int .i64 0, .int .i64 0, .int .i64 d0, .int .i64 d1])
 refine wpList_store_row rfl 43 (.tmp 4) (.tmp 37) rfl (G + 1 + 1) #[.int .i64 id, .int .i64 ss, .int .i64 0, .int .i64 0, .int .i64 d0, .int .i64 d1] rfl rfl 43 _ (HX4.out _ (.tail _ (.head _))) (by kernel_rfl) rfl (by kernel_rfl) ?_
 obtain ⟨W9, hW9⟩ : ∃ W9, z4.setRow (G + 1 + 1) #[.int .i64 id, .int .i64 ss, .int .i64 0, .int .i64 0, .int .i64 d0, .int .i64 d1] = W9 := ⟨_, rfl⟩
 rw [hW9] at HKR HE9 ⊢
 clear hW9
 have hv : fillV RR = .agg #[.int .i64 id, .int .i64 ss, .int .i64 0, .int .i64 0, .int .i64 d0, .int .i64 d1] := by rw [HV.out]
 go_wp2
 exact bodyPost_ret (v := .agg #[.int .i64 id, .int .i64 ss, .int .i64 0, .int .i64 0, .int .i64 d0, .int .i64 d1]) (results_cell_row Tryz.results5 _ _ (G + 1 + 1) 43 #[.int .i64 id, .int .i64 ss, .int .i64 0, .int .i64 0, .int .i64 d0, .int .i64 d1] (0, 0) _ rfl HKR.out Tryz.underlying43 rfl (by kernel_rfl)) rfl ⟨by first | rfl | rw [hv], HE9.out⟩
end

section
open Go.RowKit

theorem madeF_ok {h : HoldD} (e : holdS h = true) (hle : firstX h.vol ≤ lastX h.vol) (x0 x1 x2 x3 x4 : Int) : fillErr h (madeF h x0 x1 x2 x3 x4) = 0 := by
  have hs := stOf_in x0
  obtain ⟨a1, a2⟩ := emod_in x1 (show (0 : Int) < lastX h.vol - firstX h.vol + 1 by omega)
  obtain ⟨a3, a4⟩ := emod_in x2 (show (0 : Int) < min (lastX h.vol - (firstX h.vol + x1 % (lastX h.vol - firstX h.vol + 1))) 25 + 1 by omega)
  obtain ⟨b1, b2⟩ := emod_in x3 (show (0 : Int) < 900 by omega)
  obtain ⟨b3, b4⟩ := emod_in x4 (show (0 : Int) < 200 by omega)
  unfold fillErr
  rw [if_pos e]
  have : fillS h (madeF h x0 x1 x2 x3 x4) = true := by
    unfold fillS madeF stateS densS inB
    split
    · rename_i h0
      simp
    · rename_i h0
      split
      · rename_i h1
        unfold spanS densityS
        simp only [Bool.and_eq_true, Bool.or_eq_true, decide_eq_true_eq]
        refine ⟨by trivial, .inr (.inr ⟨h1, ?_, ?_⟩)⟩ <;> omega
      · rename_i h1
        unfold densityS
        simp only [Bool.and_eq_true, Bool.or_eq_true, decide_eq_true_eq]
        refine ⟨by trivial, .inr (.inl ⟨by omega, ?_, ?_⟩)⟩
        · decide
        · omega
  rw [if_pos this]
theorem tab_places {ps : List P3} (ht : tabOk ps = true) : 0 ≤ firstX ps ∧ lastX ps ≤ 1000000 := by
  have hm := okp_of ps (-1) (tabOk_pts ht) (by omega)
  have hl := tabOk_len ht
  constructor
  · unfold firstX
    rw [List.head?_eq_getElem?, List.getElem?_eq_getElem (show 0 < ps.length by omega)]
    have := (hm _ (List.getElem_mem (show 0 < ps.length by omega))).1
    unfold Okp at this
    simpa using this.1
  · unfold lastX
    rw [List.getLast?_eq_getElem?, List.getElem?_eq_getElem (show ps.length - 1 < ps.length by omega)]
    have := (hm _ (List.getElem_mem (show ps.length - 1 < ps.length by omega))).1
    unfold Okp at this
    simpa using this.2.1
end

end Go.Proofs.YtpcmcicnciejpaaGreat
