/- Plain: what the chapter's examples are. No conditions. -/
import Derived.Test.YtemlaaipnhmcoaaGreatR33
import Derived.Test.YtemlaaipnhmcoaaGreatR22
import Derived.Test.YtemlaaipnhmcoaaGreatR05
import Derived.Test.YtemlaaipnhmcoaaGreatR26
set_option linter.unusedVariables false
set_option linter.unusedSimpArgs false
set_option linter.constructorNameAsVariable false
namespace Go.Proofs.YtemlaaipnhmcoaaGreat

section
open Go.RowKit
attribute [local go_sem ↓] run_minI run_maxI
set_option maxRecDepth 100000 in
set_option maxHeartbeats 4000000 in
theorem worst1_to (ra rb : Int) (fh st x0 x1 d0 d1 : Int) (Bf : Nat) (t : Bool) (w : World) (hF : Blk w Bf 55 #[.int .i64 fh, .int .i64 st, .int .i64 x0, .int .i64 x1, .int .i64 d0, .int .i64 d1]) (ht : decide (x0 ≤ rb) = t) :
  Calls Tryz.prog 127 #[rv ra rb, .pointer (some ⟨Bf, 0, none⟩)] w fun e w' => e = .returned (.bool t) ∧ Below w.heap.size w w' := by
 have hx : ((x0 ≤ rb) ∧ t = true) ∨ (¬ (x0 ≤ rb) ∧ t = false) := by
  by_cases q : x0 ≤ rb
  ·exact .inl ⟨q, by rw [← ht]; exact decide_eq_true q⟩
  ·exact .inr ⟨q, by rw [← ht]; exact decide_eq_false q⟩
 clear ht
 have c2 := hF.cell 2
 have lf := hF.lt
 have ln : Bf ≠ w.heap.size := Nat.ne_of_lt lf
 simp at c2
 clear hF
 rcases hx with ⟨h, rfl⟩ | ⟨h, rfl⟩
 all_goals
  go_enter Tryz.func127, Tryz.ntmps127
  go_wp2
  go_ret
  exact ⟨rfl, below_alloc1 _ _⟩

set_option maxRecDepth 100000 in
set_option maxHeartbeats 4000000 in
theorem indexFunc_w (b o n c Bf k : Nat) (L : List (Int × Int)) (r : Int × Int) (fh st x0 x1 d0 d1 : Int) (w : World) (hn : n = L.length) (h40 : n ≤ 1000000) (hb : b < w.heap.size) (hc : RunsMem w b o L) (hF : Blk w Bf 55 #[.int .i64 fh, .int .i64 st, .int .i64 x0, .int .i64 x1, .int .i64 d0, .int .i64 d1])
  (hk : L[k]? = some r) (hr : x0 ≤ r.2) (hlo : ∀ j z, j < k → L[j]? = some z → z.2 < x0) :
  Calls Tryz.prog 126 #[.slice (some ⟨b, o, none⟩) n c, .func (.func 127) #[] #[.pointer (some ⟨Bf, 0, none⟩)]] w fun e w' => e = .returned (.int .i64 k) ∧ Below w.heap.size w w' := by
 have hkn : k < n := by have := (List.getElem?_eq_some_iff.1 hk).1; omega
 have HN := Lib.hid hn; have HC := Lib.hid hc; have HF := Lib.hid hF; have HK := Lib.hid hk; have HL := Lib.hid hlo
 clear hn hc hF hk hlo
 go_enter Tryz.func126, Tryz.ntmps126
 go_wp2_with fail
 go_loopw [8] (fun i wr => ∃ j : Nat, j ≤ k ∧ i = .int .i64 j ∧ Below w.heap.size w wr) (fun i _ => k - (intOf i).toNat)
 case atStart => exact ⟨0, by omega, rfl, Below.refl _ _⟩
 case round =>
  obtain ⟨j, hj, rfl, hB⟩ := hrel
  have k1 : (j : Int) < (n : Int) := by omega
  have k2 : j < n := by omega
  obtain ⟨z, hz⟩ : ∃ z, L[j]? = some z := ⟨_, List.getElem?_eq_getElem (show j < L.length by rw [← HN.out]; omega)⟩
  obtain ⟨c0, c1⟩ := HC.out j z hz
  rw [← hB.cell (p := ⟨b, o + j * 2, none⟩) hb] at c0
  rw [← hB.cell (p := ⟨b, o + j * 2 + 1, none⟩) hb] at c1
  have lb : b < wr.heap.size := Nat.lt_of_lt_of_le hb hB.size
  have HB := Lib.hid hB
  obtain ⟨za, zb⟩ := z
  dsimp only at c0 c1
  by_cases g : j = k
  ·have ht : decide (x0 ≤ zb) = true := by
    rw [g, HK.out] at hz; injection hz with hz
    rw [hz] at hr
    exact decide_eq_true hr
   have CC := Lib.hid (worst1_to za zb fh st x0 x1 d0 d1 Bf true wr (blkOn HF.out hB) ht)
   subst g
   clear hz ht hB hr
   go_wp2_with fail
   refine CC.out.mono ?_
   rintro e w1 ⟨rfl, hb1⟩
   have HB1 := Lib.hid (below_then HB.out hb1)
   clear hb1 CC
   go_wp2
   go_ret
   exact ⟨rfl, HB1.out⟩
  ·have ht : decide (x0 ≤ zb) = false := decide_eq_false (by have := HL.out j (za, zb) (by omega) hz; dsimp only at this; omega)
   have CC := Lib.hid (worst1_to za zb fh st x0 x1 d0 d1 Bf false wr (blkOn HF.out hB) ht)
   clear hz ht hB
   go_wp2_with fail
   refine CC.out.mono ?_
   rintro e w1 ⟨rfl, hb1⟩
   have HB1 := Lib.hid (below_then HB.out hb1)
   clear hb1 CC
   go_wp2
   go_roundw
   case rel => exact ⟨j + 1, by omega, by go_num, HB1.out⟩
   case measure => simp [intOf]; omega

abbrev it (r : Int × Int × Int) : Value := .tuple #[.int .i64 r.1, .int .i64 r.2.1, .int .i64 r.2.2]
def worstS (h : HoldD) (f : FillD) (ra : Int) : Int × Int × Int := if fillErr h f = 0 then (if f.st = 3 then (max ra f.x0, (momS h f).2, 0) else (0, (momS h f).2, 0)) else (0, 0, fillErr h f)

set_option maxRecDepth 100000 in
set_option maxHeartbeats 4000000 in
theorem worst_of (h : HoldD) (m : HoldM) (f : FillD) (L : List (Int × Int)) (k : Nat) (r : Int × Int) (w : World) (hi : HoldIn w h m)
  (hL : fillErr h f = 0 → f.st = 3 → L.length ≤ 1000000 ∧ whereE h.mom (momS h f).2 1000000000 = 0 ∧ runsF (whereS (momS h f).2 1000000000) (prs h.mom) = L ∧ L[k]? = some r ∧ f.x0 ≤ r.2 ∧ (∀ j z, j < k → L[j]? = some z → z.2 < f.x0)) :
  Calls Tryz.prog 72 #[holdV h m, fillV f] w fun e w' => e = .returned (it (worstS h f r.1)) ∧ Below w.heap.size w w' := by
 have CM : Hid (∀ W, Below w.heap.size w W → Calls Tryz.prog 33 #[holdV h m, fillV f] W fun e w' => e = .returned (rt (tellS h f (momS h f))) ∧ Below W.heap.size W w') := Lib.hid fun W hW => hMoment_any h m f W (hi.below hW)
 obtain ⟨R, hR⟩ : ∃ R, worstS h f r.1 = R := ⟨_, rfl⟩
 obtain ⟨E, hE⟩ : ∃ E, fillErr h f = E := ⟨_, rfl⟩
 obtain ⟨⟨pa, pb⟩, hP⟩ : ∃ p, momS h f = p := ⟨_, rfl⟩
 have hT : tellS h f (momS h f) = if E = 0 then (pa, pb, 0) else (0, 0, E) := by unfold tellS; rw [hE, hP]
 rw [hT] at CM
 have HR := Lib.hid hR
 rw [hR]
 unfold worstS at HR
 rw [hE, hP] at HR
 rw [hE, hP] at hL
 dsimp only at HR hL
 clear hR hE hP hT
 obtain ⟨id, al, ah, vol, mom, hei, t0, t1, u0, u1, v0, v1, h0, h1⟩ := h
 obtain ⟨A, n, c, B, mm, d, C, l, ee⟩ := m
 obtain ⟨fh, st, x0, x1, d0, d1⟩ := f
 obtain ⟨i1, i2, i3⟩ := hi
 dsimp only at i1 i2 i3 HR hL
 obtain ⟨ra, rb⟩ := r
 dsimp only at HR hL
 have HE := Lib.hid (show Below w.heap.size w ((w.alloc (.cells #[.int .i64 id, .int .i64 al, .int .i64 ah, .slice A n c, .slice B mm d, .slice C l ee, .int .i64 t0, .int .i64 t1, .int .i64 u0, .int .i64 u1, .int .i64 v0, .int .i64 v1, .int .i64 h0, .int .i64 h1] 35)).alloc (.cells #[.int .i64 fh, .int .i64 st, .int .i64 x0, .int .i64 x1, .int .i64 d0, .int .i64 d1] 55)) from below_a2 (Below.refl _ _))
 have HK := Lib.hid (boxes2' w 35 55 #[.int .i64 id, .int .i64 al, .int .i64 ah, .slice A n c, .slice B mm d, .slice C l ee, .int .i64 t0, .int .i64 t1, .int .i64 u0, .int .i64 u1, .int .i64 v0, .int .i64 v1, .int .i64 h0, .int .i64 h1] #[.int .i64 fh, .int .i64 st, .int .i64 x0, .int .i64 x1, .int .i64 d0, .int .i64 d1])
 have CW : Hid (E = 0 → st = 3 → ∀ W, Below w.heap.size w W → Calls Tryz.prog 125 #[tv B mm d, rv pb 1000000000] W (RunsE W L 0)) := Lib.hid fun e s W hW => by
  obtain ⟨_, q1, q2, _⟩ := hL e s
  have := where_all B mm d mom pb 1000000000 W i2.1 i2.2.1 (i2.below hW).2.2
  rwa [q1, if_pos rfl, q2] at this
 have CI : Hid (E = 0 → st = 3 → ∀ W Bf A' c', RunsP W A' L → Blk W Bf 55 #[.int .i64 fh, .int .i64 st, .int .i64 x0, .int .i64 x1, .int .i64 d0, .int .i64 d1] → Calls Tryz.prog 126 #[.slice A' L.length c', .func (.func 127) #[] #[.pointer (some ⟨Bf, 0, none⟩)]] W fun e w' => e = .returned (.int .i64 k) ∧ Below W.heap.size W w') := Lib.hid fun e s W Bf A' c' hp hB => by
  obtain ⟨q0, _, _, q3, q4, q5⟩ := hL e s
  rcases hp with hp | ⟨b, o, rfl, hb, hc⟩
  ·rw [hp] at q3; simp at q3
  ·exact indexFunc_w b o L.length c' Bf k L (ra, rb) fh st x0 x1 d0 d1 W rfl q0 hb hc hB q3 q4 q5
 have HL := Lib.hid hL
 clear hL i1 i2 i3
 go_enter Tryz.func72, Tryz.ntmps72
 go_wp2_with fail
 obtain ⟨W0, hW0⟩ : ∃ W0, ((w.alloc (.cells #[.int .i64 id, .int .i64 al, .int .i64 ah, .slice A n c, .slice B mm d, .slice C l ee, .int .i64 t0, .int .i64 t1, .int .i64 u0, .int .i64 u1, .int .i64 v0, .int .i64 v1, .int .i64 h0, .int .i64 h1] 35)).alloc (.cells #[.int .i64 fh, .int .i64 st, .int .i64 x0, .int .i64 x1, .int .i64 d0, .int .i64 d1] 55)) = W0 := ⟨_, rfl⟩
 rw [hW0] at HE HK ⊢
 clear hW0
 obtain ⟨G, hG⟩ : ∃ G, w.heap.size = G := ⟨_, rfl⟩
 rw [hG] at HK ⊢
 have HG := Lib.hid hG; clear hG
 refine (CM.out _ HE.out).mono ?_
 rintro e w1 ⟨rfl, hb⟩
 by_cases g : E = 0
 ·rw [if_pos g]
  have HE1 := Lib.hid (below_then (below_then HE.out hb) (below_alloc1 w1 (.cells #[.int .i64 pa, .int .i64 pb] 30))); have HK1 := Lib.hid ((HK.out.on hb).new 30 #[.int .i64 pa, .int .i64 pb])
  have CX := Lib.hid (CW.out g)
  have CY := Lib.hid (CI.out g)
  have HM := Lib.hid (HL.out g)
  rw [if_pos g] at HR
  clear hb HE HK CM CW CI HL
  subst g
  go_upto_region 2 with fail
  obtain ⟨W1, hW1⟩ : ∃ W1, w1.alloc (.cells #[.int .i64 pa, .int .i64 pb] 30) = W1 := ⟨_, rfl⟩
  rw [hW1] at HE1 HK1 ⊢
  clear hW1
  obtain ⟨N, hN⟩ : ∃ N, w1.heap.size = N := ⟨_, rfl⟩
  rw [hN] at HK1 ⊢
  clear hN
  have p := HK1.out _ (.head _)
  have p0 := p.cell 0
  have p1 := p.cell 1
  simp at p0 p1
  clear p
  have f := HK1.out _ (.tail _ (.head _))
  have f1 := f.cell 1
  have f2 := f.cell 2
  simp at f1 f2
  clear f
  by_cases s : st = 3
  ·rw [if_pos s] at HR
   have CX' := Lib.hid (CX.out s)
   have CY' := Lib.hid (CY.out s)
   obtain ⟨_, _, _, q3, _⟩ := HM.out s
   have hkn := (List.getElem?_eq_some_iff.1 q3).1
   have Q3 := Lib.hid q3
   have sb : (st == 3) = true := by simp [s]
   have eR := HR.out.symm
   subst eR
   clear HR HM CX CY s
   have hc := HK1.out _ (.tail _ (.tail _ (.head _)))
   have hc0 := hc.cell 0
   have hc1 := hc.cell 1
   have hc2 := hc.cell 2
   have hc3 := hc.cell 3
   have hc4 := hc.cell 4
   have hc5 := hc.cell 5
   have hc6 := hc.cell 6
   have hc7 := hc.cell 7
   have hc8 := hc.cell 8
   have hc9 := hc.cell 9
   have hc10 := hc.cell 10
   have hc11 := hc.cell 11
   have hc12 := hc.cell 12
   have hc13 := hc.cell 13
   simp at hc0 hc1 hc2 hc3 hc4 hc5 hc6 hc7 hc8 hc9 hc10 hc11 hc12 hc13
   clear hc
   go_wp2_with fail
   refine (CX'.out _ HE1.out).mono ?_
   rintro e w2 ⟨A', c', rfl, hP, hb⟩
   have HE2 := Lib.hid (below_then HE1.out hb); have HK2 := Lib.hid (HK1.out.on hb)
   have CI := Lib.hid (CY'.out w2 (G + 1) A' c' hP (HK2.out _ (.tail _ (.head _))))
   rcases hP with hP | ⟨bb, oo, rfl, hbb, hcc⟩
   ·rw [hP] at hkn; simp at hkn
   obtain ⟨r0, r1⟩ := hcc k (ra, rb) Q3.out
   dsimp only at r0 r1
   have HR0 := Lib.hid r0
   have HLB := Lib.hid hbb
   clear hb HE1 HK1 CX' CY' p0 p1 f1 f2 hc0 hc1 hc2 hc3 hc4 hc5 hc6 hc7 hc8 hc9 hc10 hc11 hc12 hc13 hbb hcc r0 r1
   go_wp2_with fail
   refine CI.out.mono ?_
   rintro e w3 ⟨rfl, hb⟩
   have HE3 := Lib.hid (below_then HE2.out hb); have HK3 := Lib.hid (HK2.out.on hb)
   have r0 := (hb.cell (p := ⟨bb, oo + k * 2, none⟩) HLB.out).trans HR0.out
   have lbb := Nat.lt_of_lt_of_le HLB.out hb.size
   clear hb HE2 HK2 CI HR0 HLB
   have p := HK3.out _ (.head _)
   have p1 := p.cell 1
   simp at p1
   clear p
   have f := HK3.out _ (.tail _ (.head _))
   have f2 := f.cell 2
   simp at f2
   clear f
   have k1 : (k : Int) < (L.length : Int) := by omega
   have k2 : k < L.length := hkn
   go_upto_region 8 with fail
   go_region
   go_wp2
   refine bodyPost_ret (v := it (max ra x0, pb, 0)) (by simp [results, Tryz.results72, go_sem]) rfl ⟨rfl, HE3.out.drew⟩
  ·rw [if_neg s] at HR
   have eR := HR.out.symm
   subst eR
   have sb : (st == 3) = false := beq_eq_false_iff_ne.2 s
   clear HR HM CX CY
   go_upto_region 5 with fail
   go_region
   go_wp2
   refine bodyPost_ret (v := it (0, pb, 0)) (by simp [results, Tryz.results72, go_sem]) rfl ⟨rfl, HE1.out.drew⟩
 ·rw [if_neg g]
  rw [if_neg g] at HR
  have eR := HR.out.symm
  subst eR
  clear HR HL CW CI
  have HE1 := Lib.hid (below_then HE.out hb)
  clear hb HE HK CM
  go_wp2
  refine bodyPost_ret (v := it (0, 0, E)) (by simp [results, Tryz.results72, go_sem]) rfl ⟨rfl, ?_⟩
  repeat (first | exact HE1.out | refine Below.alloc ?_ (by have := HE1.out.size; omega) _)
end

section
open Go.RowKit

theorem ex_fill : fillErr exH exF = 0 := by decide +kernel
theorem ex_tab : tabOk exH.vol = true := by decide +kernel
theorem ex_le : firstX exH.vol ≤ lastX exH.vol := by decide +kernel
theorem ex_mass : tellS exH exF (denS exH exF (volS exH exF)) = (320, 480, 0) := by decide +kernel
theorem ex_heel : tellS exH exF (denS exH exF (momS exH exF)) = (256, 400, 0) := by decide +kernel
theorem ex_ullage : UllageS exH 400 400 800 800 = (49, 51, 0) := by decide +kernel
theorem ex_massErr : massErr 80 80 800 800 = 0 := by decide +kernel
theorem ex_over : overS exH.vol 40 60 = (400, 600, 0) := by decide +kernel
theorem ex_litres : litresS 80 80 800 800 = (100, 100) := by decide +kernel
theorem ex_mix : mixS 800 800 800 800 = (800, 800) := by decide +kernel
theorem ex_ull : ullS exH.vol 500 700 = (29, 51, 0) := by decide +kernel
theorem ex_meet : meetS 29 51 0 60 = (29, 51, 0) := by decide +kernel
theorem ex_moved : movedS exH.vol 1 500 700 0 60 800 800 = (⟨1, 3, 29, 51, 800, 800⟩, 0) := by
  unfold movedS; rw [ex_ull]; dsimp only; rw [ex_meet]; rfl
theorem ex_mom : momS exH exF = (320, 500) := by decide +kernel
theorem ex_prs : prs exMom = [⟨((0, 0, 0), (50, 400, 500)), by unfold Okp; decide⟩, ⟨((50, 400, 500), (100, 0, 0)), by unfold Okp; decide⟩] := by
  have h := prs_pcs (ps := exMom) (by decide +kernel)
  refine (List.map_inj_right (f := Subtype.val) (fun a b e => Subtype.ext e)).1 ?_
  rw [h]; rfl
theorem ex_runs : runsF (whereS 500 1000000000) (prs exMom) = [(50, 50)] := by rw [ex_prs]; decide +kernel
theorem ex_where : whereE exMom 500 1000000000 = 0 := by decide +kernel
theorem ex_worst : worstS exH exF 50 = (50, 500, 0) := by decide +kernel
end

end Go.Proofs.YtemlaaipnhmcoaaGreat
