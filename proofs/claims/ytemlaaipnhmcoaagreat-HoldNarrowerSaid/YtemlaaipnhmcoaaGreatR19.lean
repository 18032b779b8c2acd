/- Plain: four, five, six blocks laid one by one. No conditions. -/
import Derived.Test.YtemlaaipnhmcoaaGreatR17
import Derived.Test.YtemlaaipnhmcoaaGreatR05
import Derived.Test.YtemlaaipnhmcoaaGreatR18
import Derived.Test.YtemlaaipnhmcoaaGreatR10
import Derived.Test.YtemlaaipnhmcoaaGreatQ98
set_option linter.unusedVariables false
set_option linter.unusedSimpArgs false
set_option linter.constructorNameAsVariable false
namespace Go.Proofs.YtemlaaipnhmcoaaGreat

section
open Go.RowKit
attribute [local go_sem ↓] run_minI run_maxI
def slopeF (vs : List Int) (fr mo : Int) : Nat → Int × Int
  | 0 => (pickS vs fr % 20, pickS vs fr % 20 + pickS vs (fr + 1) % 15)
  | k + 1 => ((slopeF vs fr mo k).1 + pickS vs (fr + 2 + 2 * k) % mo, max (slopeF vs fr mo k).2 ((slopeF vs fr mo k).1 + pickS vs (fr + 2 + 2 * k) % mo) + pickS vs (fr + 3 + 2 * k) % mo / 3)
theorem slopeF_in (vs : List Int) (fr : Int) {mo : Int} (g0 : 0 < mo) (g1 : mo ≤ 1000000) : ∀ k : Nat, k ≤ 9 → 0 ≤ (slopeF vs fr mo k).1 ∧ (slopeF vs fr mo k).1 ≤ (slopeF vs fr mo k).2 ∧ (slopeF vs fr mo k).2 ≤ 35 + 2000000 * k
  | 0, _ => by
    obtain ⟨h1, h2⟩ := emod_in (pickS vs fr) (show (0 : Int) < 20 by omega)
    obtain ⟨h3, h4⟩ := emod_in (pickS vs (fr + 1)) (show (0 : Int) < 15 by omega)
    unfold slopeF
    dsimp only
    exact ⟨by omega, by omega, by omega⟩
  | k + 1, h => by
    obtain ⟨h1, h2, h3⟩ := slopeF_in vs fr g0 g1 k (by omega)
    obtain ⟨h5, h6⟩ := emod_in (pickS vs (fr + 2 + 2 * k)) g0
    obtain ⟨h7, h8⟩ := emod_in (pickS vs (fr + 3 + 2 * k)) g0
    rw [slopeF]
    dsimp only
    refine ⟨by omega, by omega, ?_⟩
    push_cast
    omega
theorem own_pts_mem {base N : Nat} {w : World} {v : Value} {l : List P3} (h : OwnPts base w v l) (hN : l.length = N) (hp : 0 < N) : ∃ g cap, v = .slice (some ⟨g, 0, none⟩) N cap ∧ base ≤ g ∧ g < w.heap.size ∧ ∀ k p, l[k]? = some p → w.cell? ⟨g, k * 3, none⟩ = some (.int .i64 p.1) ∧ w.cell? ⟨g, k * 3 + 1, none⟩ = some (.int .i64 p.2.1) ∧ w.cell? ⟨g, k * 3 + 2, none⟩ = some (.int .i64 p.2.2) := by
  subst hN
  obtain ⟨g, cap, rfl, h1, h2, h3⟩ := h.pts hp
  refine ⟨g, cap, rfl, h1, h2, fun k p hk => ?_⟩
  have q := h3 k p hk
  simpa using q
theorem rowsTo_get {xs : List Int} {f : Nat → Int × Int} : ∀ (n k : Nat) (x : Int), n ≤ xs.length → k < n → xs[k]? = some x → (rowsTo xs f n)[k]? = some (x, f k)
  | 0, k, x, _, h, _ => by omega
  | n + 1, k, x, hn, hk, hx => by
    have hl := rowsTo_len xs f n (by omega)
    obtain ⟨y, hy⟩ : ∃ y, xs[n]? = some y := ⟨_, List.getElem?_eq_getElem (show n < xs.length by omega)⟩
    rw [rowsTo_succ hy]
    rcases Nat.lt_or_ge k n with c | c
    · rw [List.getElem?_append_left (by omega)]
      exact rowsTo_get n k x (by omega) c hx
    · have : k = n := by omega
      subst this
      rw [hx] at hy
      injection hy with hy
      subst hy
      rw [List.getElem?_append_right (by omega), hl]
      simp
def slopedL (vs : List Int) (fr mo : Int) (fl : Bool) (xs : List Int) (n : Nat) : List P3 := if fl = true then rowsTo xs (fun k => slopeF vs fr mo (n - 1 - k)) n else rowsTo xs (slopeF vs fr mo) n

set_option maxRecDepth 100000 in
set_option maxHeartbeats 4000000 in
theorem ssloped_to (r : RawD) (m : RawM) (fr mo : Int) (fl : Bool) (w : World) (hi : RawIn w r m) (h0 : 0 ≤ fr) (h1 : fr ≤ 1000) (g0 : 0 < mo) (g1 : mo ≤ 1000000) :
  Calls Tryz.prog 62 #[rawV r m, .int .i64 fr, .int .i64 mo, .bool fl] w (GivesT w (slopedL r.vs fr mo fl (xsS r.fi r.st) (xsS r.fi r.st).length)) := by
 obtain ⟨id, fi, st, vs⟩ := r
 obtain ⟨S, sn, sc, V, vn, vc⟩ := m
 obtain ⟨i0, i1, i2, i3, i4⟩ := info_parts Tryz.infoP
 dsimp only
 have HX2' := xsS_len fi st
 have CX' := fun W (hW : Below w.heap.size w W) => sxs_to ⟨id, fi, st, vs⟩ ⟨S, sn, sc, V, vn, vc⟩ W (hi.below hW)
 dsimp only at CX'
 obtain ⟨XS, hXS⟩ : ∃ l, xsS fi st = l := ⟨_, rfl⟩
 rw [hXS] at HX2' CX' ⊢
 obtain ⟨N, hN⟩ : ∃ N, XS.length = N := ⟨_, rfl⟩
 rw [hN] at HX2' ⊢
 have CX : Hid (∀ W, Below w.heap.size w W → Calls Tryz.prog 118 #[.agg #[.int .i64 id, .int .i64 fi, .slice S sn sc, .slice V vn vc]] W (GivesInts W XS)) := Lib.hid CX'
 have HV : Hid (∀ W i, Below w.heap.size w W → Calls Tryz.prog 61 #[.slice V vn vc, .int .i64 i] W fun e w' => e = .returned (.int .i64 (pickS vs i)) ∧ Below W.heap.size W w') := Lib.hid fun W i hW => spick_to V vn vc vs i W hi.2.2.2.1 hi.2.2.2.2.1 (hi.2.2.2.2.2.below hW)
 have HX2 := Lib.hid HX2'; have HN := Lib.hid hN
 clear hi HX2' CX' hXS hN
 have HE := Lib.hid (show Below w.heap.size w ((w.alloc (.cells #[.int .i64 id, .int .i64 fi, .slice S sn sc, .slice V vn vc] 24)).alloc (.cells #[.slice none 0 0] 33)) from below_a2 (Below.refl _ _))
 have HK := Lib.hid (boxes2' w 24 33 #[.int .i64 id, .int .i64 fi, .slice S sn sc, .slice V vn vc] #[.slice none 0 0])
 go_enter Tryz.func62, Tryz.ntmps62
 go_upto_region 1 with fail
 obtain ⟨W0, hW0⟩ : ∃ W0 : World, ((w.alloc (.cells #[.int .i64 id, .int .i64 fi, .slice S sn sc, .slice V vn vc] 24)).alloc (.cells #[.slice none 0 0] 33)) = W0 := ⟨_, rfl⟩
 rw [hW0] at HE HK ⊢
 clear hW0
 obtain ⟨G, hG⟩ : ∃ G, w.heap.size = G := ⟨_, rfl⟩
 rw [hG] at HK ⊢
 have HG := Lib.hid hG; clear hG
 have r_ := HK.out _ (.tail _ (.head _))
 have r_0 := r_.cell 0
 have r_1 := r_.cell 1
 have r_2 := r_.cell 2
 have r_3 := r_.cell 3
 simp at r_0 r_1 r_2 r_3
 clear r_
 go_wp2_with fail
 refine (CX.out _ HE.out).mono ?_
 rintro e y1 ⟨xv, rfl, hox, hq⟩
 have HE1 := Lib.hid (below_then HE.out hq); have HK1 := Lib.hid (HK.out.on hq)
 clear hq HE HK r_0 r_1 r_2 r_3 CX
 obtain ⟨xb, xc, rfl, _, xlt, hxm⟩ := own_ints_memN hox HN.out (by have := HX2.out; omega)
 have HXM := Lib.hid hxm; have HXL := Lib.hid xlt
 clear hxm xlt hox
 go_upto_region 3 with fail
 have HT2 := Lib.hid (Blk.new y1 33 #[.slice none 0 0]); have HB2 := Lib.hid (below_alloc1 y1 (.cells #[.slice none 0 0] 33))
 obtain ⟨W2, hW⟩ : ∃ W', y1.alloc (.cells #[.slice none 0 0] 33) = W' := ⟨_, rfl⟩
 rw [hW] at HT2 HB2 ⊢
 clear hW
 obtain ⟨M, hM⟩ : ∃ M, y1.heap.size = M := ⟨_, rfl⟩
 rw [hM] at HT2 ⊢
 have HMY := Lib.hid hM; clear hM
 have HXB := Lib.hid (HK1.out.on HB2.out); have HEB := Lib.hid (below_then HE1.out HB2.out)
 have hs0 := slopeF_in vs fr g0 g1 0 (by omega)
 obtain ⟨b0, b1⟩ := emod_in (pickS vs fr) (show (0 : Int) < 20 by omega)
 obtain ⟨b2, b3⟩ := emod_in (pickS vs (fr + 1)) (show (0 : Int) < 15 by omega)
 have hsl : slopeF vs fr mo 0 = (pickS vs fr % 20, pickS vs fr % 20 + pickS vs (fr + 1) % 15) := rfl
 obtain ⟨f1, hf1⟩ : ∃ z, fr + 1 = z := ⟨_, rfl⟩
 have w1 : IntKind.i64.wrap (fr + 1) = f1 := by rw [IntWalk.i64_in _ ⟨by omega, by omega⟩]; exact hf1
 rw [hf1] at b2 b3 hsl
 have CP0 : Hid (∀ W, Below w.heap.size w W → Calls Tryz.prog 61 #[.slice V vn vc, .int .i64 fr] W fun e w' => e = .returned (.int .i64 (pickS vs fr)) ∧ Below W.heap.size W w') := Lib.hid fun W hW => HV.out W fr hW
 have CP1 : Hid (∀ W, Below w.heap.size w W → Calls Tryz.prog 61 #[.slice V vn vc, .int .i64 f1] W fun e w' => e = .returned (.int .i64 (pickS vs f1)) ∧ Below W.heap.size W w') := Lib.hid fun W hW => HV.out W f1 hW
 obtain ⟨P0, hP0⟩ : ∃ z, pickS vs fr = z := ⟨_, rfl⟩
 obtain ⟨P1, hP1⟩ : ∃ z, pickS vs f1 = z := ⟨_, rfl⟩
 rw [hP0] at CP0 b0 b1 hsl
 rw [hP1] at CP1 b2 b3 hsl
 obtain ⟨q0, hq0⟩ : ∃ z, P0 % 20 = z := ⟨_, rfl⟩
 obtain ⟨q1, hq1⟩ : ∃ z, P1 % 15 = z := ⟨_, rfl⟩
 rw [hq0] at b0 b1 hsl
 rw [hq1] at b2 b3 hsl
 have wz : IntKind.i64.wrap (q0 + q1) = q0 + q1 := IntWalk.i64_in _ ⟨by omega, by omega⟩
 have CM0 : Hid (∀ W, Calls Tryz.prog 23 #[.int .i64 P0, .int .i64 20] W fun e w' => e = .returned (.int .i64 q0) ∧ Below W.heap.size W w') := Lib.hid fun W => int_to (smod_to P0 20 W (by omega) (by omega)) hq0
 have CM1 : Hid (∀ W, Calls Tryz.prog 23 #[.int .i64 P1, .int .i64 15] W fun e w' => e = .returned (.int .i64 q1) ∧ Below W.heap.size W w') := Lib.hid fun W => int_to (smod_to P1 15 W (by omega) (by omega)) hq1
 have HSL := Lib.hid hsl
 clear hP0 hP1 hq0 hq1 b0 b1 b2 b3 hs0 hsl hf1
 have HK9 := HK1; have HE9 := HE1
 have r_3 := (HXB.out _ (.tail _ (.head _))).cell 3
 simp at r_3
 go_wp2_with fail
 refine (CP0.out _ HEB.out).mono ?_
 rintro e a1 ⟨rfl, hq⟩
 have HA := Lib.hid hq
 clear hq r_3
 go_wp2_with fail
 refine (CM0.out _).mono ?_
 rintro e a2 ⟨rfl, hq⟩
 have HA := Lib.hid (below_then HA.out hq)
 clear hq CP0 CM0
 have r_3 := ((HXB.out.on HA.out) _ (.tail _ (.head _))).cell 3
 simp at r_3
 go_wp2_with fail
 refine (CP1.out _ (below_then HEB.out HA.out)).mono ?_
 rintro e a3 ⟨rfl, hq⟩
 have HA := Lib.hid (below_then HA.out hq)
 clear hq r_3
 go_wp2_with fail
 refine (CM1.out _).mono ?_
 rintro e a4 ⟨rfl, hq⟩
 have HA := Lib.hid (below_then HA.out hq)
 clear hq CP1 CM1 w1
 go_wp2_with fail
 go_loopw [11, 12, 13] (fun sl sh i wr => ∃ (k : Nat) (v : Value) (lo hi : Int), k ≤ N ∧ sl = .int .i64 lo ∧ sh = .int .i64 hi ∧ i = .int .i64 k ∧ slopeF vs fr mo k = (lo, hi) ∧ Below y1.heap.size y1 wr ∧ Blk wr M 33 #[v] ∧ OwnPts (M + 1) wr v (rowsTo XS (slopeF vs fr mo) k)) (fun _ _ i _ => N - (intOf i).toNat)
 case atStart => exact ⟨0, _, _, _, by omega, rfl, rfl, rfl, HSL.out, below_then HB2.out HA.out, blkOn HT2.out HA.out, World.ownsRow_nil _ _ _ _⟩
 case round =>
  obtain ⟨k, v, lo, hi, hk, rfl, rfl, rfl, hsf, hB, hT, hO⟩ := hrel
  have HB := Lib.hid hB; have HT := Lib.hid hT; have HOWN := Lib.hid hO; have HSF := Lib.hid hsf
  clear hB hT hO hsf HT2 HB2 HXB HEB HA
  have HE := Lib.hid (below_then HE1.out HB.out)
  by_cases hlt : k < N
  ·skip
   have k1 : (k : Int) < (N : Int) := by omega
   have k3 : (0 : Int) ≤ (k : Int) := by omega
   have hk8 : k < 8 := by have := HX2.out; omega
   obtain ⟨x, hx⟩ : ∃ x, XS[k]? = some x := ⟨_, List.getElem?_eq_getElem (show k < XS.length by rw [HN.out]; exact hlt)⟩
   have hs1 := rowsTo_succ (f := slopeF vs fr mo) hx
   rw [HSF.out] at hs1
   have HS := Lib.hid hs1
   have HCX : Hid (∀ W : World, Below y1.heap.size y1 W → W.cell? ⟨xb, k, none⟩ = some (.int .i64 x)) := Lib.hid fun W hW => by
    have q := HXM.out k x hx
    rw [← hW.cell (p := ⟨xb, 0 + k, none⟩) HXL.out] at q
    simpa using q
   have hln := rowsTo_len XS (slopeF vs fr mo) k (by rw [HN.out]; exact hk)
   have HLN : Hid ((rowsTo XS (slopeF vs fr mo) k).length ≤ 8) := Lib.hid (by omega)
   obtain ⟨LR, hLR⟩ : ∃ l, rowsTo XS (slopeF vs fr mo) k = l := ⟨_, rfl⟩
   rw [hLR] at HS HOWN HLN
   clear hLR hln hs1 hx
   have hin := slopeF_in vs fr g0 g1 k (by omega)
   rw [HSF.out] at hin
   dsimp only at hin
   obtain ⟨n1, n2, n3⟩ := hin
   obtain ⟨j2, hj2⟩ : ∃ z, 2 * (k : Int) = z := ⟨_, rfl⟩
   have w1 : IntKind.i64.wrap (2 * (k : Int)) = j2 := by rw [IntWalk.i64_in _ ⟨by omega, by omega⟩]; exact hj2
   obtain ⟨f2, hf2⟩ : ∃ z, fr + 2 = z := ⟨_, rfl⟩
   have w2 : IntKind.i64.wrap (fr + 2) = f2 := by rw [IntWalk.i64_in _ ⟨by omega, by omega⟩]; exact hf2
   obtain ⟨a1, ha1⟩ : ∃ z, f2 + j2 = z := ⟨_, rfl⟩
   have w3 : IntKind.i64.wrap (f2 + j2) = a1 := by rw [IntWalk.i64_in _ ⟨by omega, by omega⟩]; exact ha1
   obtain ⟨f3, hf3⟩ : ∃ z, fr + 3 = z := ⟨_, rfl⟩
   have w4 : IntKind.i64.wrap (fr + 3) = f3 := by rw [IntWalk.i64_in _ ⟨by omega, by omega⟩]; exact hf3
   obtain ⟨a2, ha2⟩ : ∃ z, f3 + j2 = z := ⟨_, rfl⟩
   have w5 : IntKind.i64.wrap (f3 + j2) = a2 := by rw [IntWalk.i64_in _ ⟨by omega, by omega⟩]; exact ha2
   obtain ⟨b0, b1⟩ := emod_in (pickS vs a1) g0
   obtain ⟨b2, b3⟩ := emod_in (pickS vs a2) g0
   obtain ⟨P0, hP0⟩ : ∃ z, pickS vs a1 = z := ⟨_, rfl⟩
   obtain ⟨P1, hP1⟩ : ∃ z, pickS vs a2 = z := ⟨_, rfl⟩
   rw [hP0] at b0 b1
   rw [hP1] at b2 b3
   obtain ⟨d0, hd0⟩ : ∃ z, P0 % mo = z := ⟨_, rfl⟩
   obtain ⟨d1, hd1⟩ : ∃ z, P1 % mo = z := ⟨_, rfl⟩
   rw [hd0] at b0 b1
   rw [hd1] at b2 b3
   obtain ⟨lo2, hlo2⟩ : ∃ z, lo + d0 = z := ⟨_, rfl⟩
   have w6 : IntKind.i64.wrap (lo + d0) = lo2 := by rw [IntWalk.i64_in _ ⟨by omega, by omega⟩]; exact hlo2
   obtain ⟨mx, hmx⟩ : ∃ z, max hi lo2 = z := ⟨_, rfl⟩
   obtain ⟨d3, hd3⟩ : ∃ z, d1 / 3 = z := ⟨_, rfl⟩
   have ht3 : d1.tdiv 3 = d3 := by rw [Int.tdiv_eq_ediv_of_nonneg (by omega)]; exact hd3
   have w7 : IntKind.i64.wrap (d1.tdiv 3) = d3 := by rw [ht3]; exact IntWalk.i64_in _ ⟨by omega, by omega⟩
   obtain ⟨hi2, hhi2⟩ : ∃ z, mx + d3 = z := ⟨_, rfl⟩
   have w8 : IntKind.i64.wrap (mx + d3) = hi2 := by rw [IntWalk.i64_in _ ⟨by omega, by omega⟩]; exact hhi2
   have hsn : slopeF vs fr mo (k + 1) = (lo2, hi2) := by
    rw [slopeF, HSF.out]
    dsimp only
    rw [show fr + 2 + 2 * (k : Int) = a1 by omega, show fr + 3 + 2 * (k : Int) = a2 by omega, hP0, hP1, hd0, hd1, hd3, hlo2, hmx, hhi2]
   have HSN := Lib.hid hsn
   have HMX := Lib.hid hmx
   have CP0 : Hid (∀ W, Below w.heap.size w W → Calls Tryz.prog 61 #[.slice V vn vc, .int .i64 a1] W fun e w' => e = .returned (.int .i64 P0) ∧ Below W.heap.size W w') := Lib.hid fun W hW => int_to (HV.out W a1 hW) hP0
   have CP1 : Hid (∀ W, Below w.heap.size w W → Calls Tryz.prog 61 #[.slice V vn vc, .int .i64 a2] W fun e w' => e = .returned (.int .i64 P1) ∧ Below W.heap.size W w') := Lib.hid fun W hW => int_to (HV.out W a2 hW) hP1
   have CM0 : Hid (∀ W, Calls Tryz.prog 23 #[.int .i64 P0, .int .i64 mo] W fun e w' => e = .returned (.int .i64 d0) ∧ Below W.heap.size W w') := Lib.hid fun W => int_to (smod_to P0 mo W (by omega) (by omega)) hd0
   have CM1 : Hid (∀ W, Calls Tryz.prog 23 #[.int .i64 P1, .int .i64 mo] W fun e w' => e = .returned (.int .i64 d1) ∧ Below W.heap.size W w') := Lib.hid fun W => int_to (smod_to P1 mo W (by omega) (by omega)) hd1
   clear hsn hP0 hP1 hd0 hd1 hlo2 hhi2 hd3 ht3 hmx hj2 hf2 hf3 ha1 ha2 b0 b1 b2 b3 n1 n2 n3
   go_upto_region 8 with fail
   have HW := Lib.hid (below_drew1 wr)
   have hS0 : Below y1.heap.size y1 wr.drew := HB.out.drew
   refine wp_region_held_drew (S := fun w' => Below y1.heap.size y1 w') (by kernel_rfl) hS0 (fun hHeld => ?_)
   obtain ⟨yq, hW⟩ : ∃ W', wr.drew = W' := ⟨_, rfl⟩
   rw [hW] at hHeld HW ⊢
   clear hW hS0
   refine tK 40 (i := 0) (v := .pointer (some ⟨M, 0, none⟩)) rfl rfl (by kernel_rfl) ?_ hHeld ?_
   ·intro w hSw; clear hSw; go_simp; try with_reducible rfl
   simp only [uZ, uS]
   refine tK 42 (i := 2) (v := .slice (some ⟨xb, 0, none⟩) N xc) rfl rfl (by kernel_rfl) ?_ hHeld ?_
   ·intro w hSw; clear hSw; go_simp; try with_reducible rfl
   simp only [uZ, uS]
   refine tK 43 (i := 3) (v := .int .i64 k) rfl rfl (by kernel_rfl) ?_ hHeld ?_
   ·intro w hSw; clear hSw; go_simp; try with_reducible rfl
   simp only [uZ, uS]
   refine tK 44 (i := 4) (v := .pointer (some ⟨xb, k, none⟩)) rfl rfl (by kernel_rfl) ?_ hHeld ?_
   ·intro w hSw; clear hSw; go_simp; try with_reducible rfl
   simp only [uZ, uS]
   refine tK 45 (i := 5) (v := .int .i64 x) rfl rfl (by kernel_rfl) ?_ hHeld ?_
   ·intro w hSw; have cx := HCX.out _ hSw; clear hSw; go_simp; try with_reducible rfl
   simp only [uZ, uS]
   refine tK 46 (i := 6) (v := .int .i64 lo) rfl rfl (by kernel_rfl) ?_ hHeld ?_
   ·intro w hSw; clear hSw; go_simp; try with_reducible rfl
   simp only [uZ, uS]
   refine tK 47 (i := 7) (v := .int .i64 hi) rfl rfl (by kernel_rfl) ?_ hHeld ?_
   ·intro w hSw; clear hSw; go_simp; try with_reducible rfl
   simp only [uZ, uS]
   refine tK 48 (i := 8) (v := .agg #[.int .i64 x, .int .i64 lo, .int .i64 hi]) rfl rfl (by kernel_rfl) ?_ hHeld ?_
   ·intro w hSw; clear hSw; go_simp; try with_reducible rfl
   simp only [uZ, uS]
   refine wpAnyH_ready (rs := [1, 9]) (by kernel_rfl) (by simp) ?_
   refine AllReadyH.cons rfl (fun K hK => ?_) (AllReadyH.cons rfl (fun K hK => ?_) AllReadyH.nil)
   have c1 := (blkOn HT.out HW.out).cell 0
   simp at c1
   go_simp
   refine hK.out _ _ hHeld (fun hHeld2 => ?_)
   clear c1
   try simp only [Act.put, uA, uZ, uS]
   clear hK K hHeld
   have hHeld := hHeld2
   clear hHeld2
   refine wpAnyH_ready (rs := [9]) (by kernel_rfl) (by simp) ?_
   refine AllReadyH.cons rfl (fun K hK => ?_) AllReadyH.nil
   rename World => yq
   go_simp
   have HNB := Lib.hid (World.news_of_block (cs := #[.int .i64 x, .int .i64 lo, .int .i64 hi]) (t := 110) (fr := (0, 0)) (heap_alloc_new yq (.cells #[.int .i64 x, .int .i64 lo, .int .i64 hi] 110)))
   have HYZ := Lib.hid (World.size_alloc yq (.cells #[.int .i64 x, .int .i64 lo, .int .i64 hi] 110))
   have HW := Lib.hid (below_then HW.out (below_alloc1 yq (.cells #[.int .i64 x, .int .i64 lo, .int .i64 hi] 110)))
   refine hK.out _ _ (below_then hHeld (below_alloc1 yq (.cells #[.int .i64 x, .int .i64 lo, .int .i64 hi] 110))) (fun hHeld2 => ?_)
   try simp only [Act.put, uA, uZ, uS]
   clear hK K hHeld
   have hHeld := hHeld2
   clear hHeld2
   obtain ⟨ya, hW⟩ : ∃ W', yq.alloc (.cells #[.int .i64 x, .int .i64 lo, .int .i64 hi] 110) = W' := ⟨_, rfl⟩
   rw [hW] at HW hHeld HNB HYZ ⊢
   clear hW
   obtain ⟨Z, hZ⟩ : ∃ Z, yq.heap.size = Z := ⟨_, rfl⟩
   rw [hZ] at HNB HYZ ⊢
   clear hZ
   rotate_left
   rename World => yq
   go_simp
   have HNB := Lib.hid (World.news_of_block (cs := #[.int .i64 x, .int .i64 lo, .int .i64 hi]) (t := 110) (fr := (0, 0)) (heap_alloc_new yq (.cells #[.int .i64 x, .int .i64 lo, .int .i64 hi] 110)))
   have HYZ := Lib.hid (World.size_alloc yq (.cells #[.int .i64 x, .int .i64 lo, .int .i64 hi] 110))
   have HW := Lib.hid (below_then HW.out (below_alloc1 yq (.cells #[.int .i64 x, .int .i64 lo, .int .i64 hi] 110)))
   refine hK.out _ _ (below_then hHeld (below_alloc1 yq (.cells #[.int .i64 x, .int .i64 lo, .int .i64 hi] 110))) (fun hHeld2 => ?_)
   try simp only [Act.put, uA, uZ, uS]
   clear hK K hHeld
   have hHeld := hHeld2
   clear hHeld2
   obtain ⟨ya, hW⟩ : ∃ W', yq.alloc (.cells #[.int .i64 x, .int .i64 lo, .int .i64 hi] 110) = W' := ⟨_, rfl⟩
   rw [hW] at HW hHeld HNB HYZ ⊢
   clear hW
   obtain ⟨Z, hZ⟩ : ∃ Z, yq.heap.size = Z := ⟨_, rfl⟩
   rw [hZ] at HNB HYZ ⊢
   clear hZ
   refine wpAnyH_ready (rs := [1]) (by kernel_rfl) (by simp) ?_
   refine AllReadyH.cons rfl (fun K hK => ?_) AllReadyH.nil
   have c1 := (blkOn HT.out HW.out).cell 0
   simp at c1
   go_simp
   refine hK.out _ _ hHeld (fun hHeld2 => ?_)
   clear c1
   try simp only [Act.put, uA, uZ, uS]
   clear hK K hHeld
   have hHeld := hHeld2
   clear hHeld2
   rotate_left
   all_goals
    have HZB : Hid (M + 1 ≤ wr.heap.size) := Lib.hid HT.out.lt
    refine wpAnyH_ready (rs := [10]) (by kernel_rfl) (by simp) ?_
    refine AllReadyH.cons rfl (fun K hK => ?_) AllReadyH.nil
    have HOW := Lib.hid (HOWN.out.below HW.out)
    refine step_append_lies _ (by rfl) (.tmp 41) (.tmp 49) _ (by rfl) (M + 1) 110 i0 _ 3 24 Tryz.underlying31 i1 i2 i3 i4 rfl (by omega) v LR.length (ptCells LR) (by rfl) (by exact HOW.out) ⟨Z, 0, none⟩ 1 1 [.int .i64 x, .int .i64 lo, .int .i64 hi] (by rfl) (by rfl) (by exact HNB.out) (by simp [Value.oneCell']) (by omega) (by have := HLN.out; simp [maxLen]; omega) (by have := HLN.out; omega) (by have := HZB.out; have := HW.out.size; omega) (Z + 1) (by exact HYZ.out) ?_
    intro gg cap w5 hown1 hgrow hat hlt5
    have hrow : ∀ j, Value.ownBlock v = some j → (M + 1) ≤ j := fun j hj => (World.ownsRow.lt (show wr.ownsRow ((M + 1)) 110 3 v _ _ from HOWN.out) j hj).1
    have hT5 := (blkOn HT.out HW.out).grown hgrow (fun hj => by have := hrow _ hj.symm; omega)
    have hB5 := hHeld.grown hgrow (hHeld.size) (fun j hj => by have := hrow j hj; have := HMY.out; omega)
    have hf := hT5.frozen 0; have hl := hT5.lt; have hc := hT5.cell 0
    simp at hc
    refine hK.out _ _ hB5 (fun hHeld2 => ?_)
    try simp only [Act.put, uA, uZ, uS]
    clear hK K hHeld
    have hHeld := hHeld2
    clear hHeld2
    refine tK 51 (i := 11) (v := .pointer (some ⟨M, 0, none⟩)) rfl rfl (by kernel_rfl) ?_ hHeld ?_
    ·intro w hSw; clear hSw; go_simp; try with_reducible rfl
    simp only [uZ, uS]
    refine wpAnyH_ready (rs := [12]) (by kernel_rfl) (by simp) ?_
    refine AllReadyH.cons rfl (fun K hK => ?_) AllReadyH.nil
    go_simp
    have hB6 := hB5.setCell (p := ⟨M, 0, none⟩) (by have := HMY.out; simp; omega) (.slice (some ⟨gg, 0, none⟩) (LR.length + 1) cap)
    refine hK.out _ _ hB6 (fun hHeld2 => ?_)
    try simp only [Act.put, uA, uZ, uS]
    clear hK K hHeld
    have hHeld := hHeld2
    clear hHeld2
    refine wpAnyH_done (by kernel_rfl) ?_ _
    clear hHeld
    have hT6 := hT5.set_ 0 (.slice (some ⟨gg, 0, none⟩) (LR.length + 1) cap)
    have hgg : gg ≠ M := by
     rcases hat with hat | hat
     ·have := hrow _ hat; omega
     ·have := HZB.out; have := HW.out.size; have := HYZ.out; omega
    have hown2 := World.ownsRow.kept hown1 (grownBy_setCell' w5 M (.slice (some ⟨gg, 0, none⟩) (LR.length + 1) cap)) (.inr (by simp [Value.ownBlock]; exact hgg))
    have HT6 := Lib.hid hT6; have HB6 := Lib.hid hB6; have HO6 := Lib.hid (own_push (x := (x, lo, hi)) hown2)
    clear hT6 hB6 hown2 hT5 hB5 hf hl hc hown1 hgrow hat hlt5 hrow hgg HW HOW HNB HYZ
    obtain ⟨W6, hW⟩ : ∃ W', w5.setCell ⟨M, 0, none⟩ (.slice (some ⟨gg, 0, none⟩) (LR.length + 1) cap) = W' := ⟨_, rfl⟩
    rw [hW] at HB6 HT6 HO6 ⊢
    clear hW HE
    have r_3 := ((HK1.out.on HB6.out) _ (.tail _ (.head _))).cell 3
    simp at r_3
    go_wp2_with fail
    refine (CP0.out _ (below_then HE1.out HB6.out)).mono ?_
    rintro e a1' ⟨rfl, hq⟩
    have HA := Lib.hid hq
    clear hq r_3
    go_wp2_with fail
    refine (CM0.out _).mono ?_
    rintro e a2' ⟨rfl, hq⟩
    have HA := Lib.hid (below_then HA.out hq)
    clear hq CP0 CM0
    have r_3 := ((HK1.out.on (below_then HB6.out HA.out)) _ (.tail _ (.head _))).cell 3
    simp at r_3
    have hmx := HMX.out
    go_wp2_with fail
    refine (CP1.out _ (below_then (below_then HE1.out HB6.out) HA.out)).mono ?_
    rintro e a3' ⟨rfl, hq⟩
    have HA := Lib.hid (below_then HA.out hq)
    clear hq r_3
    go_wp2_with fail
    refine (CM1.out _).mono ?_
    rintro e a4' ⟨rfl, hq⟩
    have HA := Lib.hid (below_then HA.out hq)
    clear hq CP1 CM1 hmx
    go_wp2
    go_roundw
    case rel => exact ⟨k + 1, _, _, _, by omega, rfl, rfl, by go_num, HSN.out, below_then HB6.out HA.out, blkOn HT6.out HA.out, by rw [HS.out]; exact OwnPts.below HO6.out HA.out⟩
    case measure => simp [intOf]; omega
  have k1 : ¬ (k : Int) < (N : Int) := by omega
  have hkn : k = N := by omega
  subst hkn
  have hk2 := HX2.out
  obtain ⟨vg, vc', rfl, hvb, hvl, hvm⟩ := own_pts_mem HOWN.out (rowsTo_len XS (slopeF vs fr mo) k (by rw [HN.out]; exact Nat.le_refl _)) (by omega)
  cases fl
  ·-- not falling: the table is handed back
   have z := (HK1.out.on HB.out) _ (.head _)
   have z_0 := z.cell 0
   have z_f0 := z.frozen 0
   have z_l := z.lt
   simp at z_0 z_f0 z_l
   clear z
   have m_ := HT.out.cell 0
   simp at m_
   have HVB := Lib.hid hvb
   clear hk hlt hvb hvl hvm
   go_wp2
   have hg := HG.out; have hmy := HMY.out; have hb1 := (HK1.out _ (.head _)).lt
   refine bodyPost_ret (v := .agg #[.slice (some ⟨vg, 0, none⟩) k vc']) (by simp [results, Tryz.results62, go_sem, z_0]) rfl ⟨_, rfl, ?_, ?_⟩
   ·rw [show slopedL vs fr mo false XS k = rowsTo XS (slopeF vs fr mo) k from rfl]
    refine OwnPts.monoY (World.ownsRow.kept (show wr.ownsRow (M + 1) 110 3 (.slice (some ⟨vg, 0, none⟩) k vc') _ _ from HOWN.out) (grownBy_setCell' wr (G + 1) _) (.inr (fun hj => ?_))) (by have := HE1.out.size; omega)
    have := (World.ownsRow.lt (show wr.ownsRow (M + 1) 110 3 (.slice (some ⟨vg, 0, none⟩) k vc') _ _ from HOWN.out) _ hj).1
    dsimp only at hb1
    omega
   ·exact HE.out.setCell (by simp <;> omega) _
  ·skip
   have HVM := Lib.hid hvm; have HVL := Lib.hid hvl
   clear hvb hvl hvm hlt hk HOWN HSF
   rename World => we
   go_upto_region 15 with fail
   have HT4 := Lib.hid (Blk.new we 33 #[.slice none 0 0]); have HB4 := Lib.hid (below_alloc1 we (.cells #[.slice none 0 0] 33))
   obtain ⟨W4, hW⟩ : ∃ W', we.alloc (.cells #[.slice none 0 0] 33) = W' := ⟨_, rfl⟩
   rw [hW] at HT4 HB4 ⊢
   clear hW
   obtain ⟨M2, hM⟩ : ∃ M, we.heap.size = M := ⟨_, rfl⟩
   rw [hM] at HT4 ⊢
   have HMY2 := Lib.hid hM; clear hM
   have HXE := Lib.hid (HK1.out.on HB.out)
   go_wp2_with fail
   go_loopw [16] (fun i wr => ∃ (q : Nat) (v : Value), q ≤ k ∧ i = .int .i64 q ∧ Below we.heap.size we wr ∧ Blk wr M2 33 #[v] ∧ OwnPts (M2 + 1) wr v (rowsTo XS (fun j => slopeF vs fr mo (k - 1 - j)) q)) (fun i _ => k - (intOf i).toNat)
   case atStart => exact ⟨0, _, by omega, rfl, HB4.out, HT4.out, World.ownsRow_nil _ _ _ _⟩
   case round =>
    obtain ⟨q, v, hq, rfl, hB, hT2, hO⟩ := hrel
    have HB3 := Lib.hid hB; have HT3 := Lib.hid hT2; have HOWN := Lib.hid hO
    clear hB hT2 hO HT4 HB4
    have HE3 := Lib.hid (below_then HE.out HB3.out)
    by_cases hlt2 : q < k
    ·skip
     have k4 : (q : Int) < (k : Int) := by omega
     have k5 : (0 : Int) ≤ (q : Int) := by omega
     have hk8 : q < 8 := by omega
     obtain ⟨x, hx⟩ : ∃ x, XS[q]? = some x := ⟨_, List.getElem?_eq_getElem (show q < XS.length by rw [HN.out]; exact hlt2)⟩
     obtain ⟨p, hp⟩ : ∃ p : Nat, k - 1 - q = p := ⟨_, rfl⟩
     obtain ⟨x', hx'⟩ : ∃ x, XS[p]? = some x := ⟨_, List.getElem?_eq_getElem (show p < XS.length by rw [HN.out]; omega)⟩
     obtain ⟨⟨lo, hi⟩, hF⟩ : ∃ y, slopeF vs fr mo p = y := ⟨_, rfl⟩
     have hs1 := rowsTo_succ (f := fun j => slopeF vs fr mo (k - 1 - j)) hx
     try dsimp only at hs1
     rw [hp, hF] at hs1
     have HS := Lib.hid hs1
     have hcell := HVM.out p _ (rowsTo_get k p x' (by rw [HN.out]; exact Nat.le_refl _) (by omega) hx')
     rw [hF] at hcell
     dsimp only at hcell
     obtain ⟨e0, e1, e2⟩ := hcell
     rw [← HB3.out.cell (p := ⟨vg, p * 3, none⟩) HVL.out] at e0
     rw [← HB3.out.cell (p := ⟨vg, p * 3 + 1, none⟩) HVL.out] at e1
     rw [← HB3.out.cell (p := ⟨vg, p * 3 + 2, none⟩) HVL.out] at e2
     have HCX : Hid (∀ W : World, Below y1.heap.size y1 W → W.cell? ⟨xb, q, none⟩ = some (.int .i64 x)) := Lib.hid fun W hW => by
      have q' := HXM.out q x hx
      rw [← hW.cell (p := ⟨xb, 0 + q, none⟩) HXL.out] at q'
      simpa using q'
     have hln := rowsTo_len XS (fun j => slopeF vs fr mo (k - 1 - j)) q (by rw [HN.out]; exact hq)
     have HLN : Hid ((rowsTo XS (fun j => slopeF vs fr mo (k - 1 - j)) q).length ≤ 8) := Lib.hid (by omega)
     obtain ⟨LR, hLR⟩ : ∃ l, rowsTo XS (fun j => slopeF vs fr mo (k - 1 - j)) q = l := ⟨_, rfl⟩
     rw [hLR] at HS HOWN HLN
     have w1 : IntKind.i64.wrap ((k : Int) - 1) = (k : Int) - 1 := IntWalk.i64_in _ ⟨by omega, by omega⟩
     have w2 : IntKind.i64.wrap ((k : Int) - 1 - (q : Int)) = (p : Int) := by rw [IntWalk.i64_in _ ⟨by omega, by omega⟩]; omega
     have k6 : (p : Int) < (k : Int) := by omega
     have k7 : (0 : Int) ≤ (p : Int) := by omega
     have m_ := (blkOn HT.out HB3.out).cell 0
     simp at m_
     clear hLR hln hs1 hx hx' hF
     go_upto_region 19 with fail
     have HTP := Lib.hid (Blk.new wr 110 #[.int .i64 x', .int .i64 lo, .int .i64 hi]); have HWa := Lib.hid (below_alloc1 wr (.cells #[.int .i64 x', .int .i64 lo, .int .i64 hi] 110))
     obtain ⟨wp, hW⟩ : ∃ W', wr.alloc (.cells #[.int .i64 x', .int .i64 lo, .int .i64 hi] 110) = W' := ⟨_, rfl⟩
     rw [hW] at HTP HWa ⊢
     clear hW
     obtain ⟨Np, hNp⟩ : ∃ n, wr.heap.size = n := ⟨_, rfl⟩
     rw [hNp] at HTP ⊢
     have HNP := Lib.hid hNp
     clear hNp e0 e1 e2 m_ w1 w2
     have HB5' := Lib.hid (below_then HB3.out HWa.out)
     have HTQ := Lib.hid (blkOn HT3.out HWa.out); have HOWQ := Lib.hid (OwnPts.below HOWN.out HWa.out)
     have HTNE : Hid (M2 < Np) := Lib.hid (by have := HT3.out.lt; have := HNP.out; omega)
     have HNEW : Hid (∀ j, Value.ownBlock v = some j → j < Np) := Lib.hid fun j hj => by have := (World.ownsRow.lt (show wr.ownsRow (M2 + 1) 110 3 v _ _ from HOWN.out) j hj).2; have := HNP.out; omega
     have HW := Lib.hid (below_drew1 wp)
     have hS0 : Below we.heap.size we wp.drew := HB5'.out.drew
     have hS1 : Blk wp.drew Np 110 #[.int .i64 x', .int .i64 lo, .int .i64 hi] := HTP.out
     refine wp_region_held_drew (S := fun w' => Below we.heap.size we w' ∧ Blk w' Np 110 #[.int .i64 x', .int .i64 lo, .int .i64 hi]) (by kernel_rfl) ⟨hS0, hS1⟩ (fun hHeld => ?_)
     obtain ⟨yq, hW⟩ : ∃ W', wp.drew = W' := ⟨_, rfl⟩
     rw [hW] at hHeld HW ⊢
     clear hW hS0 hS1
     refine tK 98 (i := 0) (v := .pointer (some ⟨M2, 0, none⟩)) rfl rfl (by kernel_rfl) ?_ hHeld ?_
     ·intro w hSw; clear hSw; go_simp; try with_reducible rfl
     simp only [uZ, uS]
     refine tK 100 (i := 2) (v := .slice (some ⟨xb, 0, none⟩) k xc) rfl rfl (by kernel_rfl) ?_ hHeld ?_
     ·intro w hSw; clear hSw; go_simp; try with_reducible rfl
     simp only [uZ, uS]
     refine tK 101 (i := 3) (v := .int .i64 q) rfl rfl (by kernel_rfl) ?_ hHeld ?_
     ·intro w hSw; clear hSw; go_simp; try with_reducible rfl
     simp only [uZ, uS]
     refine tK 102 (i := 4) (v := .pointer (some ⟨xb, q, none⟩)) rfl rfl (by kernel_rfl) ?_ hHeld ?_
     ·intro w hSw; clear hSw; go_simp; try with_reducible rfl
     simp only [uZ, uS]
     refine tK 103 (i := 5) (v := .int .i64 x) rfl rfl (by kernel_rfl) ?_ hHeld ?_
     ·intro w hSw; have cx := HCX.out _ (below_then HB.out hSw.1); clear hSw; go_simp; try with_reducible rfl
     simp only [uZ, uS]
     refine tK 104 (i := 6) (v := .pointer (some ⟨Np, 1, none⟩)) rfl rfl (by kernel_rfl) ?_ hHeld ?_
     ·intro w hSw; clear hSw; go_simp; try with_reducible rfl
     simp only [uZ, uS]
     refine tK 105 (i := 7) (v := .int .i64 lo) rfl rfl (by kernel_rfl) ?_ hHeld ?_
     ·intro w hSw; have cx := hSw.2.cell 1; simp at cx; clear hSw; go_simp; try with_reducible rfl
     simp only [uZ, uS]
     refine tK 106 (i := 8) (v := .pointer (some ⟨Np, 2, none⟩)) rfl rfl (by kernel_rfl) ?_ hHeld ?_
     ·intro w hSw; clear hSw; go_simp; try with_reducible rfl
     simp only [uZ, uS]
     refine tK 107 (i := 9) (v := .int .i64 hi) rfl rfl (by kernel_rfl) ?_ hHeld ?_
     ·intro w hSw; have cx := hSw.2.cell 2; simp at cx; clear hSw; go_simp; try with_reducible rfl
     simp only [uZ, uS]
     refine tK 108 (i := 10) (v := .agg #[.int .i64 x, .int .i64 lo, .int .i64 hi]) rfl rfl (by kernel_rfl) ?_ hHeld ?_
     ·intro w hSw; clear hSw; go_simp; try with_reducible rfl
     simp only [uZ, uS]
     refine wpAnyH_ready (rs := [1, 11]) (by kernel_rfl) (by simp) ?_
     refine AllReadyH.cons rfl (fun K hK => ?_) (AllReadyH.cons rfl (fun K hK => ?_) AllReadyH.nil)
     have c1 := (blkOn HTQ.out HW.out).cell 0
     simp at c1
     go_simp
     refine hK.out _ _ hHeld (fun hHeld2 => ?_)
     clear c1
     try simp only [Act.put, uA, uZ, uS]
     clear hK K hHeld
     have hHeld := hHeld2
     clear hHeld2
     refine wpAnyH_ready (rs := [11]) (by kernel_rfl) (by simp) ?_
     refine AllReadyH.cons rfl (fun K hK => ?_) AllReadyH.nil
     rename World => yq
     go_simp
     have HNB := Lib.hid (World.news_of_block (cs := #[.int .i64 x, .int .i64 lo, .int .i64 hi]) (t := 110) (fr := (0, 0)) (heap_alloc_new yq (.cells #[.int .i64 x, .int .i64 lo, .int .i64 hi] 110)))
     have HYZ := Lib.hid (World.size_alloc yq (.cells #[.int .i64 x, .int .i64 lo, .int .i64 hi] 110))
     have HW := Lib.hid (below_then HW.out (below_alloc1 yq (.cells #[.int .i64 x, .int .i64 lo, .int .i64 hi] 110)))
     refine hK.out _ _ (⟨below_then hHeld.1 (below_alloc1 yq (.cells #[.int .i64 x, .int .i64 lo, .int .i64 hi] 110)), blkOn hHeld.2 (below_alloc1 _ _)⟩) (fun hHeld2 => ?_)
     try simp only [Act.put, uA, uZ, uS]
     clear hK K hHeld
     have hHeld := hHeld2
     clear hHeld2
     obtain ⟨ya, hW⟩ : ∃ W', yq.alloc (.cells #[.int .i64 x, .int .i64 lo, .int .i64 hi] 110) = W' := ⟨_, rfl⟩
     rw [hW] at HW hHeld HNB HYZ ⊢
     clear hW
     obtain ⟨Z, hZ⟩ : ∃ Z, yq.heap.size = Z := ⟨_, rfl⟩
     rw [hZ] at HNB HYZ ⊢
     clear hZ
     rotate_left
     rename World => yq
     go_simp
     have HNB := Lib.hid (World.news_of_block (cs := #[.int .i64 x, .int .i64 lo, .int .i64 hi]) (t := 110) (fr := (0, 0)) (heap_alloc_new yq (.cells #[.int .i64 x, .int .i64 lo, .int .i64 hi] 110)))
     have HYZ := Lib.hid (World.size_alloc yq (.cells #[.int .i64 x, .int .i64 lo, .int .i64 hi] 110))
     have HW := Lib.hid (below_then HW.out (below_alloc1 yq (.cells #[.int .i64 x, .int .i64 lo, .int .i64 hi] 110)))
     refine hK.out _ _ (⟨below_then hHeld.1 (below_alloc1 yq (.cells #[.int .i64 x, .int .i64 lo, .int .i64 hi] 110)), blkOn hHeld.2 (below_alloc1 _ _)⟩) (fun hHeld2 => ?_)
     try simp only [Act.put, uA, uZ, uS]
     clear hK K hHeld
     have hHeld := hHeld2
     clear hHeld2
     obtain ⟨ya, hW⟩ : ∃ W', yq.alloc (.cells #[.int .i64 x, .int .i64 lo, .int .i64 hi] 110) = W' := ⟨_, rfl⟩
     rw [hW] at HW hHeld HNB HYZ ⊢
     clear hW
     obtain ⟨Z, hZ⟩ : ∃ Z, yq.heap.size = Z := ⟨_, rfl⟩
     rw [hZ] at HNB HYZ ⊢
     clear hZ
     refine wpAnyH_ready (rs := [1]) (by kernel_rfl) (by simp) ?_
     refine AllReadyH.cons rfl (fun K hK => ?_) AllReadyH.nil
     have c1 := (blkOn HTQ.out HW.out).cell 0
     simp at c1
     go_simp
     refine hK.out _ _ hHeld (fun hHeld2 => ?_)
     clear c1
     try simp only [Act.put, uA, uZ, uS]
     clear hK K hHeld
     have hHeld := hHeld2
     clear hHeld2
     rotate_left
     all_goals
      have HZB : Hid (M2 + 1 ≤ wp.heap.size) := Lib.hid HTQ.out.lt
      refine wpAnyH_ready (rs := [12]) (by kernel_rfl) (by simp) ?_
      refine AllReadyH.cons rfl (fun K hK => ?_) AllReadyH.nil
      have HOW := Lib.hid (HOWQ.out.below HW.out)
      refine step_append_lies _ (by rfl) (.tmp 99) (.tmp 109) _ (by rfl) (M2 + 1) 110 i0 _ 3 24 Tryz.underlying31 i1 i2 i3 i4 rfl (by omega) v LR.length (ptCells LR) (by rfl) (by exact HOW.out) ⟨Z, 0, none⟩ 1 1 [.int .i64 x, .int .i64 lo, .int .i64 hi] (by rfl) (by rfl) (by exact HNB.out) (by simp [Value.oneCell']) (by omega) (by have := HLN.out; simp [maxLen]; omega) (by have := HLN.out; omega) (by have := HZB.out; have := HW.out.size; omega) (Z + 1) (by exact HYZ.out) ?_
      intro gg cap w5 hown1 hgrow hat hlt5
      have hrow : ∀ j, Value.ownBlock v = some j → (M2 + 1) ≤ j := fun j hj => (World.ownsRow.lt (show wp.ownsRow ((M2 + 1)) 110 3 v _ _ from HOWQ.out) j hj).1
      have hT5 := (blkOn HTQ.out HW.out).grown hgrow (fun hj => by have := hrow _ hj.symm; omega)
      have hN5 := hHeld.2.grown hgrow (fun hj => by have q1 := hrow _ hj.symm; have q2 := HNEW.out _ hj.symm; omega)
      have hB5 := hHeld.1.grown hgrow (hHeld.1.size) (fun j hj => by have := hrow j hj; have := HMY2.out; omega)
      have hf := hT5.frozen 0; have hl := hT5.lt; have hc := hT5.cell 0
      simp at hc
      refine hK.out _ _ ⟨hB5, hN5⟩ (fun hHeld2 => ?_)
      try simp only [Act.put, uA, uZ, uS]
      clear hK K hHeld
      have hHeld := hHeld2
      clear hHeld2
      refine tK 111 (i := 13) (v := .pointer (some ⟨M2, 0, none⟩)) rfl rfl (by kernel_rfl) ?_ hHeld ?_
      ·intro w hSw; clear hSw; go_simp; try with_reducible rfl
      simp only [uZ, uS]
      refine wpAnyH_ready (rs := [14]) (by kernel_rfl) (by simp) ?_
      refine AllReadyH.cons rfl (fun K hK => ?_) AllReadyH.nil
      go_simp
      have hB6 := hB5.setCell (p := ⟨M2, 0, none⟩) (by have := HMY2.out; simp; omega) (.slice (some ⟨gg, 0, none⟩) (LR.length + 1) cap)
      refine hK.out _ _ ⟨hB6, hN5.far (p := ⟨M2, 0, none⟩) (by have q1 := HTNE.out; simp; omega) _⟩ (fun hHeld2 => ?_)
      try simp only [Act.put, uA, uZ, uS]
      clear hK K hHeld
      have hHeld := hHeld2
      clear hHeld2
      refine wpAnyH_done (by kernel_rfl) ?_ _
      clear hHeld
      have hT6 := hT5.set_ 0 (.slice (some ⟨gg, 0, none⟩) (LR.length + 1) cap)
      have hgg : gg ≠ M2 := by
       rcases hat with hat | hat
       ·have := hrow _ hat; omega
       ·have := HZB.out; have := HW.out.size; have := HYZ.out; omega
      have hown2 := World.ownsRow.kept hown1 (grownBy_setCell' w5 M2 (.slice (some ⟨gg, 0, none⟩) (LR.length + 1) cap)) (.inr (by simp [Value.ownBlock]; exact hgg))
      have HT6 := Lib.hid hT6; have HB6 := Lib.hid hB6; have HO6 := Lib.hid (own_push (x := (x, lo, hi)) hown2)
      clear hT6 hB6 hN5 hown2 hT5 hB5 hf hl hc hown1 hgrow hat hlt5 hrow hgg HW HOW HNB HYZ
      go_wp2
      go_roundw
      case rel => exact ⟨q + 1, _, by omega, by go_num, HB6.out, HT6.out, by rw [HS.out]; exact HO6.out⟩
      case measure => simp [intOf]; omega
    have k4 : ¬ (q : Int) < (k : Int) := by omega
    have hqk : k = q := by omega
    subst hqk
    obtain ⟨vp, vn', vc2, rfl⟩ := HOWN.out.slice
    have z := (HXE.out.on HB3.out) _ (.head _)
    have z_0 := z.cell 0
    have z_f0 := z.frozen 0
    have z_l := z.lt
    simp at z_0 z_f0 z_l
    clear z
    have m_ := HT3.out.cell 0
    simp at m_
    clear hq hlt2
    go_wp2
    have hg := HG.out; have hmy := HMY2.out; have hb1 := (HXE.out _ (.head _)).lt
    refine bodyPost_ret (v := .agg #[.slice vp vn' vc2]) (by simp [results, Tryz.results62, go_sem, z_0]) rfl ⟨_, rfl, ?_, ?_⟩
    ·rw [show slopedL vs fr mo true XS k = rowsTo XS (fun j => slopeF vs fr mo (k - 1 - j)) k from rfl]
     refine OwnPts.monoY (World.ownsRow.kept (show wr.ownsRow (M2 + 1) 110 3 (.slice vp vn' vc2) _ _ from HOWN.out) (grownBy_setCell' wr (G + 1) _) (.inr (fun hj => ?_))) (by have := HE.out.size; omega)
     have := (World.ownsRow.lt (show wr.ownsRow (M2 + 1) 110 3 (.slice vp vn' vc2) _ _ from HOWN.out) _ hj).1
     dsimp only at hb1
     omega
    ·exact HE3.out.setCell (by simp <;> omega) _
end

section
open Go.RowKit

theorem below_a4 {w w1 : World} {o0 o1 o2 o3 : Obj} (hb : Below ((((w.alloc o0).alloc o1).alloc o2).alloc o3).heap.size ((((w.alloc o0).alloc o1).alloc o2).alloc o3) w1) : Below w.heap.size w w1 := below_a1 (below_a3 hb)
theorem below_a5 {w w1 : World} {o0 o1 o2 o3 o4 : Obj} (hb : Below (((((w.alloc o0).alloc o1).alloc o2).alloc o3).alloc o4).heap.size (((((w.alloc o0).alloc o1).alloc o2).alloc o3).alloc o4) w1) : Below w.heap.size w w1 := below_a1 (below_a4 hb)
theorem boxes4' (w : World) (t1 t2 t3 t4 : TypeId) (c1 c2 c3 c4 : Array Value) : Boxes ((((w.alloc (.cells c1 t1)).alloc (.cells c2 t2)).alloc (.cells c3 t3)).alloc (.cells c4 t4)) [(w.heap.size + 1 + 1 + 1, t4, c4), (w.heap.size + 1 + 1, t3, c3), (w.heap.size + 1, t2, c2), (w.heap.size, t1, c1)] := by
  have h2 := (boxes3' w t1 t2 t3 c1 c2 c3).new t4 c4
  simp only [World.size_alloc] at h2
  exact h2
theorem boxes5' (w : World) (t1 t2 t3 t4 t5 : TypeId) (c1 c2 c3 c4 c5 : Array Value) : Boxes (((((w.alloc (.cells c1 t1)).alloc (.cells c2 t2)).alloc (.cells c3 t3)).alloc (.cells c4 t4)).alloc (.cells c5 t5)) [(w.heap.size + 1 + 1 + 1 + 1, t5, c5), (w.heap.size + 1 + 1 + 1, t4, c4), (w.heap.size + 1 + 1, t3, c3), (w.heap.size + 1, t2, c2), (w.heap.size, t1, c1)] := by
  have h2 := (boxes4' w t1 t2 t3 t4 c1 c2 c3 c4).new t5 c5
  simp only [World.size_alloc] at h2
  exact h2
end

end Go.Proofs.YtemlaaipnhmcoaaGreat
