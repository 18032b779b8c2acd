/- The contract of heavy (the specification of layer 2): for numbers from 0 on whose products are small. -/
import Derived.Test.YtekkiedlajhaiaaGreatQ17
import Derived.Test.YtekkiedlajhaiaaGreatQ09
import Derived.Test.YtekkiedlajhaiaaGreatQ07
import Derived.Deep.DeepCutAuto
import Derived.Test.YtekkiedlajhaiaaGreatQ04
import Derived.Deep.RegionHeld3
import Derived.Test.YtekkiedlajhaiaaGreatQ25
import Derived.Test.YtekkiedlajhaiaaGreatQ10
set_option linter.unusedVariables false
set_option linter.unusedSimpArgs false
set_option linter.constructorNameAsVariable false
namespace Go.Proofs.YtekkiedlajhaiaaGreat

section
open Go.RowKit

abbrev bt (r : Int × Int × Bool) : Value := .tuple #[.int .i64 r.1, .int .i64 r.2.1, .bool r.2.2]
end

section
open Go.RowKit
attribute [local go_sem ↓] run_minI run_maxI
theorem OwnRuns.slice {base : Nat} {X : World} {v : Value} {L : List (Int × Int)} (ho : OwnRuns base X v L) : ∃ p c, v = .slice p L.length c := by
  obtain ⟨A, c, h, _⟩ := ho.runsP
  exact ⟨A, c, h⟩
end

section
open Go.RowKit
attribute [local go_sem ↓] run_minI run_maxI
def mm (s r : Int × Int) : Int × Int := (min s.1 r.1, max s.2 r.2)
theorem mm_comm (s t r : Int × Int) : mm (mm s t) r = mm (mm s r) t := by unfold mm; ext <;> dsimp only <;> omega
theorem fold_mm : ∀ (l : List (Int × Int)) (s t : Int × Int), l.foldl mm (mm s t) = mm (l.foldl mm s) t
  | [], s, t => rfl
  | r :: l, s, t => by rw [List.foldl_cons, List.foldl_cons, mm_comm, fold_mm l]
theorem foldG_mm : ∀ (l : List (Int × Int)) (s : Int × Int), l.foldl stepG (s.1, s.2, true) = ((l.foldl mm s).1, (l.foldl mm s).2, true)
  | [], s => rfl
  | r :: l, s => by
    rw [List.foldl_cons, List.foldl_cons]
    have e : stepG (s.1, s.2, true) r = ((mm s r).1, (mm s r).2, true) := rfl
    rw [e, foldG_mm l]
def preR (ps : List P3) (x y : Int) (k : Nat) : Int × Int := (((ps.take k).filter fun p => decide (x < p.1) && decide (p.1 < y)).map (·.2)).foldl mm (mm (atS ps x) (atS ps y))
theorem preR_succ {ps : List P3} {x y : Int} {k : Nat} {p : P3} (h : ps[k]? = some p) : preR ps x y (k + 1) = if x < p.1 ∧ p.1 < y then mm (preR ps x y k) p.2 else preR ps x y k := by
  unfold preR
  rw [take_snocP' h, List.filter_append]
  by_cases c : x < p.1 ∧ p.1 < y
  · rw [if_pos c]
    have : (decide (x < p.1) && decide (p.1 < y)) = true := by rw [decide_eq_true c.1, decide_eq_true c.2]; rfl
    simp [List.filter_cons, this]
  · rw [if_neg c]
    have : (decide (x < p.1) && decide (p.1 < y)) = false := by
      cases h1 : decide (x < p.1) <;> cases h2 : decide (p.1 < y) <;> first | rfl | exact absurd ⟨of_decide_eq_true h1, of_decide_eq_true h2⟩ c
    simp [List.filter_cons, this]
theorem preR_all {ps : List P3} {x y : Int} (ht : tabOk ps = true) (hxy : x ≤ y) : preR ps x y ps.length = ((overGood ps x y).1, (overGood ps x y).2.1) := by
  unfold preR overGood foldG cornersS
  rw [List.take_length, List.cons_append, List.map_cons, List.foldl_cons]
  have e : stepG (0, 0, false) (atS ps x) = ((atS ps x).1, (atS ps x).2, true) := rfl
  rw [e, foldG_mm, List.map_append, List.foldl_append]
  have hm : (List.map (atS ps) (List.map (·.1) (ps.filter fun p => decide (x < p.1) && decide (p.1 < y)))) = (ps.filter fun p => decide (x < p.1) && decide (p.1 < y)).map (·.2) := by
    rw [List.map_map]
    refine List.map_congr_left fun p hp => ?_
    exact atS_point ht (List.mem_filter.1 hp).1
  rw [hm]
  by_cases c : x < y
  · rw [if_pos c]
    simp only [List.map_cons, List.map_nil, List.foldl_cons, List.foldl_nil]
    rw [fold_mm]
  · rw [if_neg c]
    have hx : x = y := by omega
    subst hx
    have h0 : (ps.filter fun p => decide (x < p.1) && decide (p.1 < x)) = [] := by
      rw [List.filter_eq_nil_iff]
      intro p _
      simp; omega
    rw [h0]
    simp [mm]

set_option maxRecDepth 100000 in
set_option maxHeartbeats 8000000 in
theorem rover_good (b o n c : Nat) (ps : List P3) (x y : Int) (w : World) (hn : n = ps.length) (hb : b < w.heap.size) (ht : tabOk ps = true) (hr : vR x y = true) (hpl : placesS ps x y = 0) (hc : PtsAt w b o ps) :
  Calls Tryz.prog 119 #[tv (some ⟨b, o, none⟩) n c, rv x y] w fun e w' => e = .returned (.tuple #[rv (overGood ps x y).1 (overGood ps x y).2.1, .int .i64 0]) ∧ Below w.heap.size w w' := by
 have h1 := (tabOk_len ht).1
 have h40 := (tabOk_len ht).2
 obtain ⟨_, hxy, hf, hl⟩ := places_ok hpl
 have hall := preR_all (x := x) (y := y) ht hxy
 rw [← hn] at hall
 have e1 := congrArg Prod.fst hall
 have e2 := congrArg Prod.snd hall
 dsimp only at e1 e2
 rw [← e1, ← e2]
 clear hall e1 e2
 have hE : Below w.heap.size w (((w.alloc (.cells #[.slice (some ⟨b, o, none⟩) n c] 48)).alloc (.cells #[.int .i64 x, .int .i64 y] 30)).alloc (.cells #[.int .i64 0, .int .i64 0] 30)) := below_a3 (Below.refl _ _)
 have hK : Boxes (((w.alloc (.cells #[.slice (some ⟨b, o, none⟩) n c] 48)).alloc (.cells #[.int .i64 x, .int .i64 y] 30)).alloc (.cells #[.int .i64 0, .int .i64 0] 30)) [(w.heap.size + 1 + 1, 30, #[.int .i64 0, .int .i64 0]), (w.heap.size + 1, 30, #[.int .i64 x, .int .i64 y]), (w.heap.size, 48, #[.slice (some ⟨b, o, none⟩) n c])] := by
  have h1 : Boxes (w.alloc (.cells #[.slice (some ⟨b, o, none⟩) n c] 48)) [(w.heap.size, 48, #[.slice (some ⟨b, o, none⟩) n c])] := fun p hp => by
   have := List.mem_singleton.1 hp; subst this; exact Blk.new w _ _
  have h2 := (h1.new 30 #[.int .i64 x, .int .i64 y]).new 30 #[.int .i64 0, .int .i64 0]
  simp only [World.size_alloc] at h2
  exact h2
 have CV : Hid (∀ W, Below w.heap.size w W → Calls Tryz.prog 161 #[tv (some ⟨b, o, none⟩) n c] W fun e w' => e = .returned (.bool true) ∧ Below W.heap.size W w') := Lib.hid fun W hW => by
  have h := validTable_any _ n c ps W hn (by unfold maxLen; omega) ((hc.below hW hb).pts (Nat.lt_of_lt_of_le hb hW.size))
  rw [ht] at h; exact h
 have VR : Hid (∀ W, Calls Tryz.prog 162 #[rv x y] W fun e w' => e = .returned (.bool true) ∧ Below W.heap.size W w') := Lib.hid fun W => rValid_to x y true W hr
 have CI : Hid (∀ W z, Below w.heap.size w W → firstX ps ≤ z → z ≤ lastX ps → Calls Tryz.prog 163 #[tv (some ⟨b, o, none⟩) n c, .int .i64 z] W fun e w' => e = .returned (.bool true) ∧ Below W.heap.size W w') := Lib.hid fun W z hW g1 g2 =>
  bool_to (inside_any b o n c ps z W hn (by omega) (by omega) (Nat.lt_of_lt_of_le hb hW.size) (hc.below hW hb)) (by simp [insideS]; omega)
 obtain ⟨ra, rb, hra⟩ : ∃ ra rb, atS ps x = (ra, rb) := ⟨_, _, rfl⟩
 obtain ⟨rc, rd, hrc⟩ : ∃ ra rb, atS ps y = (ra, rb) := ⟨_, _, rfl⟩
 have CA : Hid (∀ W, Below w.heap.size w W → Calls Tryz.prog 164 #[tv (some ⟨b, o, none⟩) n c, .int .i64 x] W fun e w' => e = .returned (rv ra rb) ∧ Below W.heap.size W w') := Lib.hid fun W hW =>
  rAt_to b o n c ps x ra rb W hn (Nat.lt_of_lt_of_le hb hW.size) ht hf (by omega) (hc.below hW hb) hra
 have CB : Hid (∀ W, Below w.heap.size w W → Calls Tryz.prog 164 #[tv (some ⟨b, o, none⟩) n c, .int .i64 y] W fun e w' => e = .returned (rv rc rd) ∧ Below W.heap.size W w') := Lib.hid fun W hW =>
  rAt_to b o n c ps y rc rd W hn (Nat.lt_of_lt_of_le hb hW.size) ht (by omega) hl (hc.below hW hb) hrc
 have h0 : preR ps x y 0 = (min ra rc, max rb rd) := by unfold preR; rw [hra, hrc]; rfl
 have hn40 : n ≤ 40 := by omega
 have HE := Lib.hid hE; have HK := Lib.hid hK; have HC := Lib.hid hc; have HN := Lib.hid hn; have H0 := Lib.hid h0; have HF := Lib.hid (And.intro hf hl)
 clear hE hK hc hn h0 hra hrc hf hl ht hr hpl h1 h40
 go_enter Tryz.func119, Tryz.ntmps119
 go_wp2_with fail
 obtain ⟨W0, hW0⟩ : ∃ W0, ((w.alloc (.cells #[.slice (some ⟨b, o, none⟩) n c] 48)).alloc (.cells #[.int .i64 x, .int .i64 y] 30)).alloc (.cells #[.int .i64 0, .int .i64 0] 30) = W0 := ⟨_, rfl⟩
 rw [hW0] at HE HK ⊢
 clear hW0
 obtain ⟨G, hG⟩ : ∃ G, w.heap.size = G := ⟨_, rfl⟩
 rw [hG] at HK ⊢
 have HG := Lib.hid hG; clear hG
 refine (CV.out _ HE.out).mono ?_
 rintro e w1 ⟨rfl, hb1⟩
 have HK1 := Lib.hid (HK.out.on hb1); have HE1 := Lib.hid (below_then HE.out hb1)
 clear hb1 HK HE
 have q0 := (HK1.out _ (.tail _ (.head _))).cell 0
 have q1 := (HK1.out _ (.tail _ (.head _))).cell 1
 simp at q0 q1
 go_wp2_with fail
 refine (VR.out _).mono ?_
 rintro e w2 ⟨rfl, hb1⟩
 have HK2 := Lib.hid (HK1.out.on hb1); have HE2 := Lib.hid (below_then HE1.out hb1)
 clear hb1 HK1 HE1 q0 q1
 have q0 := (HK2.out _ (.tail _ (.head _))).cell 0
 have q2 := (HK2.out _ (.tail _ (.tail _ (.head _)))).cell 0
 simp at q0 q2
 go_wp2_with fail
 refine (CI.out _ x HE2.out HF.out.1 (by have := HF.out.2; omega)).mono ?_
 rintro e w3 ⟨rfl, hb1⟩
 have HK3 := Lib.hid (HK2.out.on hb1); have HE3 := Lib.hid (below_then HE2.out hb1)
 clear hb1 HK2 HE2 q0 q2
 have q0 := (HK3.out _ (.tail _ (.head _))).cell 1
 have q2 := (HK3.out _ (.tail _ (.tail _ (.head _)))).cell 0
 simp at q0 q2
 go_wp2_with fail
 refine (CI.out _ y HE3.out (by have := HF.out.1; omega) HF.out.2).mono ?_
 rintro e w4 ⟨rfl, hb1⟩
 have HK4 := Lib.hid (HK3.out.on hb1); have HE4 := Lib.hid (below_then HE3.out hb1)
 clear hb1 HK3 HE3 q0 q2
 have q0 := (HK4.out _ (.tail _ (.head _))).cell 0
 have q2 := (HK4.out _ (.tail _ (.tail _ (.head _)))).cell 0
 simp at q0 q2
 go_wp2_with fail
 refine (CA.out _ HE4.out).mono ?_
 rintro e w5 ⟨rfl, hb1⟩
 have HK5 := Lib.hid ((HK4.out.on hb1).new 30 #[.int .i64 ra, .int .i64 rb]); have HE5 := Lib.hid (below_then (below_then HE4.out hb1) (below_alloc1 w5 (.cells #[.int .i64 ra, .int .i64 rb] 30)))
 clear hb1 HK4 HE4 q0 q2
 have q0 := (HK5.out _ (.tail _ (.tail _ (.head _)))).cell 1
 have q2 := (HK5.out _ (.tail _ (.tail _ (.tail _ (.head _))))).cell 0
 simp at q0 q2
 go_upto_region 8 with fail
 clear q0 q2
 obtain ⟨B5, hB⟩ : ∃ B, w5.heap.size = B := ⟨_, rfl⟩
 obtain ⟨W5, hW⟩ : ∃ W, w5.alloc (.cells #[.int .i64 ra, .int .i64 rb] 30) = W := ⟨_, rfl⟩
 rw [hW] at HK5 HE5 ⊢
 rw [hB] at HK5 ⊢
 clear hW hB
 have q0 := (HK5.out _ (.tail _ (.tail _ (.head _)))).cell 1
 have q2 := (HK5.out _ (.tail _ (.tail _ (.tail _ (.head _))))).cell 0
 simp at q0 q2
 go_wp2_with fail
 refine (CB.out _ HE5.out).mono ?_
 rintro e w6 ⟨rfl, hb1⟩
 have HK6 := Lib.hid ((HK5.out.on hb1).new 30 #[.int .i64 rc, .int .i64 rd]); have HE6 := Lib.hid (below_then (below_then HE5.out hb1) (below_alloc1 w6 (.cells #[.int .i64 rc, .int .i64 rd] 30)))
 clear hb1 HK5 HE5 q0 q2
 go_upto_region 9 with fail
 obtain ⟨B6, hB⟩ : ∃ B, w6.heap.size = B := ⟨_, rfl⟩
 obtain ⟨W6, hW⟩ : ∃ W, w6.alloc (.cells #[.int .i64 rc, .int .i64 rd] 30) = W := ⟨_, rfl⟩
 rw [hW] at HK6 HE6 ⊢
 rw [hB] at HK6 ⊢
 clear hW hB
 obtain ⟨M0, hM0⟩ : ∃ M, min ra rc = M := ⟨_, rfl⟩
 obtain ⟨N0, hN0⟩ : ∃ M, max rb rd = M := ⟨_, rfl⟩
 have H1 := Lib.hid (show preR ps x y 0 = (M0, N0) by rw [H0.out, hM0, hN0])
 have a0 := (HK6.out _ (.tail _ (.head _))).cell 0
 have a1 := (HK6.out _ (.tail _ (.head _))).cell 1
 have b0 := (HK6.out _ (.head _)).cell 0
 have b1 := (HK6.out _ (.head _)).cell 1
 simp at a0 a1 b0 b1
 have l2 := (HK6.out _ (.tail _ (.tail _ (.head _)))).lt
 have l3 := (HK6.out _ (.tail _ (.tail _ (.tail _ (.head _))))).lt
 have l4 := (HK6.out _ (.tail _ (.tail _ (.tail _ (.tail _ (.head _)))))).lt
 simp at l2 l3 l4
 have HK7 := Lib.hid (HK6.out.new 30 #[.int .i64 M0, .int .i64 N0]); have HE7 := Lib.hid (below_then HE6.out (below_alloc1 W6 (.cells #[.int .i64 M0, .int .i64 N0] 30)))
 clear HK6 HE6
 go_upto_region 10 with fail
 clear a0 a1 b0 b1 hM0 hN0
 obtain ⟨B7, hB⟩ : ∃ B, W6.heap.size = B := ⟨_, rfl⟩
 obtain ⟨W7, hW⟩ : ∃ W, W6.alloc (.cells #[.int .i64 M0, .int .i64 N0] 30) = W := ⟨_, rfl⟩
 have hsz : W7.heap.size = B7 + 1 := by rw [← hW, ← hB]; simp
 rw [hW] at HK7 HE7 ⊢
 rw [hB] at HK7 l2 l3 l4 ⊢
 clear hW hB
 have q2 := (HK7.out _ (.tail _ (.tail _ (.tail _ (.tail _ (.tail _ (.head _))))))).cell 0
 simp at q2
 go_wp2_with fail
 clear q2
 go_loopw [54] (fun i wr => ∃ k : Nat, k ≤ n ∧ i = .int .i64 k ∧ Blk wr B7 30 #[.int .i64 (preR ps x y k).1, .int .i64 (preR ps x y k).2] ∧ Only B7 W7 wr) (fun i _ => n - (intOf i).toNat)
 case atStart => exact ⟨0, by omega, rfl, by rw [H1.out]; exact HK7.out _ (.head _), Only.refl _ _⟩
 case round =>
  obtain ⟨k, hk, rfl, hB, hO⟩ := hrel
  have hGw := HG.out
  have hBw : Below w.heap.size w wr := hO.below HE7.out (by rw [hGw]; omega)
  have hOs := hO.size
  have r0 := (hO.cells.1 (G + 1) 0 (by omega) (by omega)).trans ((HK7.out _ (.tail _ (.tail _ (.tail _ (.tail _ (.head _)))))).cell 0)
  have r1 := (hO.cells.1 (G + 1) 1 (by omega) (by omega)).trans ((HK7.out _ (.tail _ (.tail _ (.tail _ (.tail _ (.head _)))))).cell 1)
  simp at r0 r1
  by_cases hlt : k < n
  ·obtain ⟨p, hp⟩ : ∃ p, ps[k]? = some p := ⟨_, List.getElem?_eq_getElem (show k < ps.length by rw [← HN.out]; exact hlt)⟩
   obtain ⟨c0, c1, c2⟩ := HC.out k p hp
   rw [← hBw.cell (p := ⟨b, o + k * 3, none⟩) hb] at c0
   rw [← hBw.cell (p := ⟨b, o + k * 3 + 1, none⟩) hb] at c1
   rw [← hBw.cell (p := ⟨b, o + k * 3 + 2, none⟩) hb] at c2
   have hsu := preR_succ (x := x) (y := y) hp
   obtain ⟨px, plo, phi⟩ := p
   dsimp only at c0 c1 c2 hsu
   have m0 := hB.cell 0
   have m1 := hB.cell 1
   have f0 := hB.frozen 0
   have f1 := hB.frozen 1
   have lB := hB.lt
   have lG : G + 1 < wr.heap.size := by omega
   have lb : b < wr.heap.size := Nat.lt_of_lt_of_le hb hBw.size
   simp at m0 m1
   have HBA := Lib.hid (hB.alloc (.cells #[.int .i64 px, .int .i64 plo, .int .i64 phi] 93))
   have HOA := Lib.hid (hO.alloc (.cells #[.int .i64 px, .int .i64 plo, .int .i64 phi] 93))
   have HSU := Lib.hid hsu; have HB0 := Lib.hid hB; have HO0 := Lib.hid hO
   clear hsu hB hO hBw hp
   by_cases hc : x < px ∧ px < y
   ·obtain ⟨h1, h2⟩ := hc
    obtain ⟨u, hu⟩ : ∃ u, (preR ps x y k).1 = u := ⟨_, rfl⟩
    obtain ⟨v, hv⟩ : ∃ u, (preR ps x y k).2 = u := ⟨_, rfl⟩
    obtain ⟨mn, hmn⟩ : ∃ r, min u plo = r := ⟨_, rfl⟩
    obtain ⟨mx, hmx⟩ : ∃ r, max v phi = r := ⟨_, rfl⟩
    have HS2 := Lib.hid (show preR ps x y (k + 1) = (mn, mx) by rw [HSU.out, if_pos ⟨h1, h2⟩]; unfold mm; dsimp only; rw [hu, hv, hmn, hmx])
    rw [hu] at m0
    rw [hv] at m1
    have HBB : Hid (Blk (((wr.setCell ⟨B7, 0, none⟩ (.int .i64 mn)).setCell ⟨B7, 1, none⟩ (.int .i64 mx)).alloc (.cells #[.int .i64 px, .int .i64 plo, .int .i64 phi] 93)) B7 30 #[.int .i64 mn, .int .i64 mx]) := Lib.hid ((blk2 HB0.out mn mx).alloc _)
    have HOO : Hid (Only B7 W7 (((wr.setCell ⟨B7, 0, none⟩ (.int .i64 mn)).setCell ⟨B7, 1, none⟩ (.int .i64 mx)).alloc (.cells #[.int .i64 px, .int .i64 plo, .int .i64 phi] 93))) := Lib.hid (((HO0.out.setCell (p := ⟨B7, 0, none⟩) (.inl rfl) _).setCell (p := ⟨B7, 1, none⟩) (.inl rfl) _).alloc _)
    clear hu hv HSU HBA HOA
    go_wp2
    go_roundw
    case rel => exact ⟨k + 1, by omega, by go_num, by rw [HS2.out]; exact HBB.out, HOO.out⟩
    case measure => simp [intOf]; omega
   ·have HS2 := Lib.hid (show preR ps x y (k + 1) = preR ps x y k by rw [HSU.out, if_neg hc])
    have hx' : ¬ x < px ∨ (x < px ∧ ¬ px < y) := by omega
    clear HSU hc m0 m1
    rcases hx' with h1 | ⟨h1, h2⟩
    all_goals
     go_wp2
     go_roundw
     case rel => exact ⟨k + 1, by omega, by go_num, by rw [HS2.out]; exact HBA.out, HOA.out⟩
     case measure => simp [intOf]; omega
  ·have hkn : k = n := by omega
   subst hkn
   obtain ⟨u, hu⟩ : ∃ u, (preR ps x y k).1 = u := ⟨_, rfl⟩
   obtain ⟨v, hv⟩ : ∃ u, (preR ps x y k).2 = u := ⟨_, rfl⟩
   rw [hu, hv] at hB
   have HUV := Lib.hid (And.intro hu hv)
   have m0 := hB.cell 0
   have m1 := hB.cell 1
   have q := HK7.out _ (.tail _ (.tail _ (.tail _ (.head _))))
   have s0 := (hO.cells.1 (G + 1 + 1) 0 (by omega) (by omega)).trans (q.cell 0)
   have s1 := (hO.cells.1 (G + 1 + 1) 1 (by omega) (by omega)).trans (q.cell 1)
   have f0 := (hO.cells.2 (G + 1 + 1) 0 (by omega) (by omega)).trans (q.frozen 0)
   have f1 := (hO.cells.2 (G + 1 + 1) 1 (by omega) (by omega)).trans (q.frozen 1)
   have lB : G + 1 + 1 < wr.heap.size := by omega
   simp at m0 m1 s0 s1
   have HBW := Lib.hid hBw
   clear hB hO hBw q hu hv
   go_wp2
   refine bodyPost_ret (v := .tuple #[rv u v, .int .i64 0]) (by simp [results, Tryz.results119, go_sem, s0, s1, lB]) rfl ⟨by rw [HUV.out.1, HUV.out.2], ?_⟩
   exact (HBW.out.setCell (p := ⟨G + 1 + 1, 0, none⟩) (by rw [hGw]; show G ≤ G + 1 + 1; omega) _).setCell (p := ⟨G + 1 + 1, 1, none⟩) (by rw [hGw]; show G ≤ G + 1 + 1; omega) _
end

section
open Go.RowKit

theorem OwnPts.pts {base : Nat} {w : World} {v : Value} {L : List P3} (ho : OwnPts base w v L) (hne : 0 < L.length) :
    ∃ g cap, v = .slice (some ⟨g, 0, none⟩) L.length cap ∧ base ≤ g ∧ g < w.heap.size ∧ PtsAt w g 0 L := by
  have ho' : w.ownsRow base 93 3 v L.length (ptCells L) := ho
  obtain ⟨g, cap, rfl, h1, h2⟩ := ho'.form hne
  refine ⟨g, cap, rfl, h1, h2, fun k p hp => ?_⟩
  have hk : k < L.length := (List.getElem?_eq_some_iff.1 hp).1
  have hcell : ∀ i, i < 3 → (ptCells L)[k * 3 + i]? = [Value.int .i64 p.1, .int .i64 p.2.1, .int .i64 p.2.2][i]? := by
    intro i hi
    clear ho ho' h1 h2 hne
    induction L generalizing k with
    | nil => cases hp
    | cons q L ih =>
      cases k with
      | zero =>
        simp at hp; subst hp
        have : i = 0 ∨ i = 1 ∨ i = 2 := by omega
        rcases this with rfl | rfl | rfl <;> simp [ptCells]
      | succ k =>
        have e : ptCells (q :: L) = [Value.int .i64 q.1, .int .i64 q.2.1, .int .i64 q.2.2] ++ ptCells L := by simp [ptCells]
        rw [e, List.getElem?_append_right (by simp; omega)]
        have := ih k (by simpa using hp) (by simpa using hk)
        rw [← this]
        congr 1
        simp; omega
  have c := fun i (hi : i < 3) => (ho'.cellAt (k * 3 + i) (by omega)).trans (hcell i hi)
  refine ⟨?_, ?_, ?_⟩
  · rw [Nat.zero_add]; exact c 0 (by omega)
  · rw [Nat.zero_add]; exact c 1 (by omega)
  · rw [Nat.zero_add]; exact c 2 (by omega)
end

section
open Go.RowKit
attribute [local go_sem ↓] eqlRange neqRange
end

section
open Go.RowKit

set_option maxRecDepth 100000 in
set_option maxHeartbeats 4000000 in
theorem rover_bad (A : Option Addr) (n c : Nat) (ps : List P3) (x y : Int) (w : World) (hn : n = ps.length) (hm : n ≤ maxLen) (hp : Pts w A ps) (h0 : overE ps x y ≠ 0) :
  Calls Tryz.prog 119 #[tv A n c, rv x y] w fun e w' => e = .returned (.tuple #[rv 0 0, .int .i64 (overE ps x y)]) ∧ Below w.heap.size w w' := by
 have hE : Below w.heap.size w (((w.alloc (.cells #[.slice A n c] 48)).alloc (.cells #[.int .i64 x, .int .i64 y] 30)).alloc (.cells #[.int .i64 0, .int .i64 0] 30)) := below_a3 (Below.refl _ _)
 have hK : Boxes (((w.alloc (.cells #[.slice A n c] 48)).alloc (.cells #[.int .i64 x, .int .i64 y] 30)).alloc (.cells #[.int .i64 0, .int .i64 0] 30)) [(w.heap.size + 1 + 1, 30, #[.int .i64 0, .int .i64 0]), (w.heap.size + 1, 30, #[.int .i64 x, .int .i64 y]), (w.heap.size, 48, #[.slice A n c])] := by
  have h1 : Boxes (w.alloc (.cells #[.slice A n c] 48)) [(w.heap.size, 48, #[.slice A n c])] := fun p hp => by
   have := List.mem_singleton.1 hp; subst this; exact Blk.new w _ _
  have h2 := (h1.new 30 #[.int .i64 x, .int .i64 y]).new 30 #[.int .i64 0, .int .i64 0]
  simp only [World.size_alloc] at h2
  exact h2
 have CV : Hid (∀ W t, Below w.heap.size w W → tabOk ps = t → Calls Tryz.prog 161 #[tv A n c] W fun e w' => e = .returned (.bool t) ∧ Below W.heap.size W w') := Lib.hid fun W t hW h => by
  have := validTable_any A n c ps W hn hm (hp.below hW)
  rw [h] at this; exact this
 have CI : Hid (∀ W z t, Below w.heap.size w W → tabOk ps = true → insideS ps z = t → Calls Tryz.prog 163 #[tv A n c, .int .i64 z] W fun e w' => e = .returned (.bool t) ∧ Below W.heap.size W w') := Lib.hid fun W z t hW ht h => by
  obtain ⟨b, o, rfl, hb, hc⟩ := hp.block (tabOk_len ht).1
  exact bool_to (inside_any b o n c ps z W hn (by rw [hn]; exact (tabOk_len ht).1) (by rw [hn]; exact (tabOk_len ht).2) (Nat.lt_of_lt_of_le hb hW.size) (hc.below hW hb)) h
 have HE := Lib.hid hE; have HK := Lib.hid hK
 clear hE hK hp hn
 by_cases ht : tabOk ps = true
 ·by_cases hr : vR x y = true
  ·have he : overE ps x y = 4 := by
    unfold overE at h0 ⊢
    rw [if_pos ht, if_pos hr] at h0 ⊢
    exact (placesS_cases ps x y ht).resolve_left h0
   have hpl : placesS ps x y = 4 := by unfold overE at he; rw [if_pos ht, if_pos hr] at he; exact he
   have hxy := ((vR_iff x y).1 hr).1
   rw [he]
   have hbad : insideS ps x = false ∨ (insideS ps x = true ∧ insideS ps y = false) := by
    cases c2 : insideS ps x
    ·exact .inl rfl
    ·cases c3 : insideS ps y
     ·exact .inr ⟨rfl, rfl⟩
     ·exfalso
      simp only [insideS, Bool.and_eq_true, decide_eq_true_eq] at c2 c3
      unfold placesS at hpl
      rw [if_pos ht, if_pos (inB_yes hxy c2.1 c3.2)] at hpl
      cases hpl
   have HTT := Lib.hid ht; have HR := Lib.hid hr
   clear ht hr h0 he hpl hxy
   rcases hbad with hbad | ⟨hbad0, hbad⟩
   ·have HBD := Lib.hid hbad
    clear hbad
    go_enter Tryz.func119, Tryz.ntmps119
    go_wp2_with fail
    obtain ⟨W0, hW0⟩ : ∃ W0, ((w.alloc (.cells #[.slice A n c] 48)).alloc (.cells #[.int .i64 x, .int .i64 y] 30)).alloc (.cells #[.int .i64 0, .int .i64 0] 30) = W0 := ⟨_, rfl⟩
    rw [hW0] at HE HK ⊢
    clear hW0
    refine (CV.out _ true HE.out HTT.out).mono ?_
    rintro e w1 ⟨rfl, hb1⟩
    have HK1 := Lib.hid (HK.out.on hb1); have HE1 := Lib.hid (below_then HE.out hb1)
    clear hb1 HK HE
    have HK := HK1; have HE := HE1
    have q0 := (HK1.out _ (.tail _ (.head _))).cell 0
    have q1 := (HK1.out _ (.tail _ (.head _))).cell 1
    simp at q0 q1
    go_wp2_with fail
    refine (rValid_to x y true _ HR.out).mono ?_
    rintro e w2 ⟨rfl, hb1⟩
    have HK2 := Lib.hid (HK1.out.on hb1); have HE2 := Lib.hid (below_then HE1.out hb1)
    clear hb1 HK1 HE1 q0 q1 HK HE
    have HK := HK2; have HE := HE2
    have q0 := (HK2.out _ (.tail _ (.head _))).cell 0
    have q1 := (HK2.out _ (.tail _ (.tail _ (.head _)))).cell 0
    simp at q0 q1
    go_wp2_with fail
    refine (CI.out _ x false HE2.out HTT.out HBD.out).mono ?_
    rintro e w9 ⟨rfl, hb1⟩
    have hO := (HK.out.on hb1) _ (.head _)
    have HE9 := Lib.hid (below_then HE.out hb1)
    have r0 := hO.cell 0
    have r1 := hO.cell 1
    have f0 := hO.frozen 0
    have f1 := hO.frozen 1
    have lT := hO.lt
    simp at r0 r1
    clear hb1 hO
    go_wp2
    refine bodyPost_ret (v := .tuple #[rv 0 0, .int .i64 4]) (by simp [results, Tryz.results119, go_sem, r0, r1, lT]) rfl ⟨rfl, ?_⟩
    exact (HE9.out.setCell (p := ⟨w.heap.size + 1 + 1, 0, none⟩) (by simp; omega) _).setCell (p := ⟨w.heap.size + 1 + 1, 1, none⟩) (by simp; omega) _
   ·have HBD := Lib.hid (And.intro hbad0 hbad)
    clear hbad hbad0
    go_enter Tryz.func119, Tryz.ntmps119
    go_wp2_with fail
    obtain ⟨W0, hW0⟩ : ∃ W0, ((w.alloc (.cells #[.slice A n c] 48)).alloc (.cells #[.int .i64 x, .int .i64 y] 30)).alloc (.cells #[.int .i64 0, .int .i64 0] 30) = W0 := ⟨_, rfl⟩
    rw [hW0] at HE HK ⊢
    clear hW0
    refine (CV.out _ true HE.out HTT.out).mono ?_
    rintro e w1 ⟨rfl, hb1⟩
    have HK1 := Lib.hid (HK.out.on hb1); have HE1 := Lib.hid (below_then HE.out hb1)
    clear hb1 HK HE
    have HK := HK1; have HE := HE1
    have q0 := (HK1.out _ (.tail _ (.head _))).cell 0
    have q1 := (HK1.out _ (.tail _ (.head _))).cell 1
    simp at q0 q1
    go_wp2_with fail
    refine (rValid_to x y true _ HR.out).mono ?_
    rintro e w2 ⟨rfl, hb1⟩
    have HK2 := Lib.hid (HK1.out.on hb1); have HE2 := Lib.hid (below_then HE1.out hb1)
    clear hb1 HK1 HE1 q0 q1 HK HE
    have HK := HK2; have HE := HE2
    have q0 := (HK2.out _ (.tail _ (.head _))).cell 0
    have q1 := (HK2.out _ (.tail _ (.tail _ (.head _)))).cell 0
    simp at q0 q1
    go_wp2_with fail
    refine (CI.out _ x true HE2.out HTT.out HBD.out.1).mono ?_
    rintro e w3 ⟨rfl, hb1⟩
    have HK3 := Lib.hid (HK2.out.on hb1); have HE3 := Lib.hid (below_then HE2.out hb1)
    clear hb1 HK2 HE2 q0 q1 HK HE
    have HK := HK3; have HE := HE3
    have HE2 := HE3
    have q0 := (HK3.out _ (.tail _ (.head _))).cell 1
    have q1 := (HK3.out _ (.tail _ (.tail _ (.head _)))).cell 0
    simp at q0 q1
    go_wp2_with fail
    refine (CI.out _ y false HE2.out HTT.out HBD.out.2).mono ?_
    rintro e w9 ⟨rfl, hb1⟩
    have hO := (HK.out.on hb1) _ (.head _)
    have HE9 := Lib.hid (below_then HE.out hb1)
    have r0 := hO.cell 0
    have r1 := hO.cell 1
    have f0 := hO.frozen 0
    have f1 := hO.frozen 1
    have lT := hO.lt
    simp at r0 r1
    clear hb1 hO
    go_wp2
    refine bodyPost_ret (v := .tuple #[rv 0 0, .int .i64 4]) (by simp [results, Tryz.results119, go_sem, r0, r1, lT]) rfl ⟨rfl, ?_⟩
    exact (HE9.out.setCell (p := ⟨w.heap.size + 1 + 1, 0, none⟩) (by simp; omega) _).setCell (p := ⟨w.heap.size + 1 + 1, 1, none⟩) (by simp; omega) _
  ·have hr' : vR x y = false := by simpa using hr
   have he : overE ps x y = 10 := by unfold overE; rw [if_pos ht, if_neg hr]
   rw [he]
   have HTT := Lib.hid ht; have HR := Lib.hid hr'
   clear ht hr hr' h0 he
   ·skip
    go_enter Tryz.func119, Tryz.ntmps119
    go_wp2_with fail
    obtain ⟨W0, hW0⟩ : ∃ W0, ((w.alloc (.cells #[.slice A n c] 48)).alloc (.cells #[.int .i64 x, .int .i64 y] 30)).alloc (.cells #[.int .i64 0, .int .i64 0] 30) = W0 := ⟨_, rfl⟩
    rw [hW0] at HE HK ⊢
    clear hW0
    refine (CV.out _ true HE.out HTT.out).mono ?_
    rintro e w1 ⟨rfl, hb1⟩
    have HK1 := Lib.hid (HK.out.on hb1); have HE1 := Lib.hid (below_then HE.out hb1)
    clear hb1 HK HE
    have HK := HK1; have HE := HE1
    have q0 := (HK1.out _ (.tail _ (.head _))).cell 0
    have q1 := (HK1.out _ (.tail _ (.head _))).cell 1
    simp at q0 q1
    go_wp2_with fail
    refine (rValid_to x y false _ HR.out).mono ?_
    rintro e w9 ⟨rfl, hb1⟩
    have hO := (HK.out.on hb1) _ (.head _)
    have HE9 := Lib.hid (below_then HE.out hb1)
    have r0 := hO.cell 0
    have r1 := hO.cell 1
    have f0 := hO.frozen 0
    have f1 := hO.frozen 1
    have lT := hO.lt
    simp at r0 r1
    clear hb1 hO
    go_wp2
    refine bodyPost_ret (v := .tuple #[rv 0 0, .int .i64 10]) (by simp [results, Tryz.results119, go_sem, r0, r1, lT]) rfl ⟨rfl, ?_⟩
    exact (HE9.out.setCell (p := ⟨w.heap.size + 1 + 1, 0, none⟩) (by simp; omega) _).setCell (p := ⟨w.heap.size + 1 + 1, 1, none⟩) (by simp; omega) _
 ·have ht' : tabOk ps = false := by simpa using ht
  have he : overE ps x y = 11 := by unfold overE; rw [if_neg ht]
  rw [he]
  have HTT := Lib.hid ht'
  clear ht ht' h0 he
  ·skip
   ·skip
    go_enter Tryz.func119, Tryz.ntmps119
    go_wp2_with fail
    obtain ⟨W0, hW0⟩ : ∃ W0, ((w.alloc (.cells #[.slice A n c] 48)).alloc (.cells #[.int .i64 x, .int .i64 y] 30)).alloc (.cells #[.int .i64 0, .int .i64 0] 30) = W0 := ⟨_, rfl⟩
    rw [hW0] at HE HK ⊢
    clear hW0
    refine (CV.out _ false HE.out HTT.out).mono ?_
    rintro e w9 ⟨rfl, hb1⟩
    have hO := (HK.out.on hb1) _ (.head _)
    have HE9 := Lib.hid (below_then HE.out hb1)
    have r0 := hO.cell 0
    have r1 := hO.cell 1
    have f0 := hO.frozen 0
    have f1 := hO.frozen 1
    have lT := hO.lt
    simp at r0 r1
    clear hb1 hO
    go_wp2
    refine bodyPost_ret (v := .tuple #[rv 0 0, .int .i64 11]) (by simp [results, Tryz.results119, go_sem, r0, r1, lT]) rfl ⟨rfl, ?_⟩
    exact (HE9.out.setCell (p := ⟨w.heap.size + 1 + 1, 0, none⟩) (by simp; omega) _).setCell (p := ⟨w.heap.size + 1 + 1, 1, none⟩) (by simp; omega) _
theorem rover_all (A : Option Addr) (n c : Nat) (ps : List P3) (x y : Int) (w : World) (hn : n = ps.length) (hm : n ≤ maxLen) (hp : Pts w A ps) :
    Calls Tryz.prog 119 #[tv A n c, rv x y] w fun e w' => e = .returned (rt (overS ps x y)) ∧ Below w.heap.size w w' := by
  by_cases h0 : overE ps x y = 0
  · have ht : tabOk ps = true := by
      cases h : tabOk ps
      · unfold overE at h0; rw [h] at h0; simp at h0
      · rfl
    have hr : vR x y = true := by
      cases h : vR x y
      · unfold overE at h0; rw [if_pos ht, h] at h0; simp at h0
      · rfl
    have hpl : placesS ps x y = 0 := by unfold overE at h0; rw [if_pos ht, if_pos hr] at h0; exact h0
    obtain ⟨b, o, rfl, hb, hc⟩ := hp.block (tabOk_len ht).1
    unfold overS
    rw [if_pos h0]
    exact rover_good b o n c ps x y w hn hb ht hr hpl hc
  · unfold overS
    rw [if_neg h0]
    exact rover_bad A n c ps x y w hn hm hp h0
end

section
open Go.RowKit

set_option maxRecDepth 100000 in
set_option maxHeartbeats 2000000 in
theorem sover_any (A : Option Addr) (n c : Nat) (ps : List P3) (x y : Int) (w : World) (hp : TabIn w A n ps) :
  Calls Tryz.prog 77 #[tv A n c, rv x y] w fun e w' => e = .returned (rv (overS ps x y).1 (overS ps x y).2.1) ∧ Below w.heap.size w w' := by
 have HE := Lib.hid (show Below w.heap.size w (((w.alloc (.cells #[.slice A n c] 48)).alloc (.cells #[.int .i64 x, .int .i64 y] 30)).alloc (.cells #[.int .i64 0, .int .i64 0] 30)) from below_a3 (Below.refl _ _))
 have HK := Lib.hid (boxes3' w 48 30 30 #[.slice A n c] #[.int .i64 x, .int .i64 y] #[.int .i64 0, .int .i64 0])
 have C : Hid (∀ W, Below w.heap.size w W → Calls Tryz.prog 119 #[tv A n c, rv x y] W fun e w' => e = .returned (rt (overS ps x y)) ∧ Below W.heap.size W w') := Lib.hid fun W hW => rover_all A n c ps x y W hp.1 hp.2.1 (hp.2.2.below hW)
 clear hp
 generalize overS ps x y = r at *
 obtain ⟨a, b, e⟩ := r
 go_enter Tryz.func77, Tryz.ntmps77
 go_wp2_with fail
 obtain ⟨W0, hW0⟩ : ∃ W0, (((w.alloc (.cells #[.slice A n c] 48)).alloc (.cells #[.int .i64 x, .int .i64 y] 30)).alloc (.cells #[.int .i64 0, .int .i64 0] 30)) = W0 := ⟨_, rfl⟩
 rw [hW0] at HE HK ⊢
 clear hW0
 refine (C.out _ HE.out).mono ?_
 rintro e1 w1 ⟨rfl, hb⟩
 have HE1 := Lib.hid (below_then HE.out hb)
 have HE2 := Lib.hid (below_then HE1.out (below_alloc1 w1 (.cells #[.int .i64 a, .int .i64 b] 30)))
 have HKN := Lib.hid ((HK.out.on hb).new 30 #[.int .i64 a, .int .i64 b])
 have z := HKN.out _ (.tail _ (.head _))
 have z0 := z.cell 0
 have z1 := z.cell 1
 have f0 := z.frozen 0
 have f1 := z.frozen 1
 have l0 := (HK.out.on hb _ (.head _)).lt
 simp at z0 z1 f0 f1 l0
 have hl : w.heap.size + 1 + 1 ≠ w1.heap.size := by omega
 have hl2 : w1.heap.size ≠ w.heap.size + 1 + 1 := by omega
 clear hb HE C z l0 HE1
 go_wp2
 refine bodyPost_ret (v := rv a b) (by simp [results, Tryz.results77, go_sem, z0, z1, hl, hl2]) rfl ⟨rfl, ?_⟩
 repeat (first | exact HE2.out | refine Below.setCell ?_ (by simp <;> omega) _)

set_option maxRecDepth 100000 in
set_option maxHeartbeats 4000000 in
theorem svol_to (h : HoldD) (m : HoldM) (f : FillD) (w : World) (hi : HoldIn w h m) (q0 : 0 ≤ f.st) (q5 : f.st ≤ 5) :
  Calls Tryz.prog 72 #[holdV h m, fillV f] w fun e w' => e = .returned (rv (volS h f).1 (volS h f).2) ∧ Below w.heap.size w w' := by
 obtain ⟨⟨ra, rb⟩, hR⟩ : ∃ r, volS h f = r := ⟨_, rfl⟩
 rw [hR]
 have HR := Lib.hid hR
 unfold volS at HR
 clear hR
 obtain ⟨id, al, ah, vol, mom, hei, t0, t1, u0, u1, v0, v1, h0, h1⟩ := h
 obtain ⟨A, n, c, B, mm, d, C, l, ee⟩ := m
 obtain ⟨fh, st, x0, x1, d0, d1⟩ := f
 obtain ⟨i1, i2, i3⟩ := hi
 dsimp only at i1 i2 i3 q0 q5 HR
 have HE := Lib.hid (show Below w.heap.size w (((w.alloc (.cells #[.int .i64 id, .int .i64 al, .int .i64 ah, .slice A n c, .slice B mm d, .slice C l ee, .int .i64 t0, .int .i64 t1, .int .i64 u0, .int .i64 u1, .int .i64 v0, .int .i64 v1, .int .i64 h0, .int .i64 h1] 50)).alloc (.cells #[.int .i64 fh, .int .i64 st, .int .i64 x0, .int .i64 x1, .int .i64 d0, .int .i64 d1] 53)).alloc (.cells #[.int .i64 0, .int .i64 0] 30)) from below_a3 (Below.refl _ _))
 have HK := Lib.hid (boxes3' w 50 53 30 #[.int .i64 id, .int .i64 al, .int .i64 ah, .slice A n c, .slice B mm d, .slice C l ee, .int .i64 t0, .int .i64 t1, .int .i64 u0, .int .i64 u1, .int .i64 v0, .int .i64 v1, .int .i64 h0, .int .i64 h1] #[.int .i64 fh, .int .i64 st, .int .i64 x0, .int .i64 x1, .int .i64 d0, .int .i64 d1] #[.int .i64 0, .int .i64 0])
 have CO : Hid (∀ W, Below w.heap.size w W → Calls Tryz.prog 77 #[tv A n c, rv x0 x1] W fun e w' => e = .returned (rv (overS vol x0 x1).1 (overS vol x0 x1).2.1) ∧ Below W.heap.size W w') := Lib.hid fun W hW => sover_any A n c vol x0 x1 W (i1.below hW)
 clear i1 i2 i3
 generalize overS vol x0 x1 = Q at *
 obtain ⟨qa, qb, qe⟩ := Q
 dsimp only at HR CO
 by_cases s0 : st = 0
 ·have e := HR.out
  rw [if_pos s0] at e
  injection e with e1 e2
  subst e1 e2
  have b0 : (st == 0) = true := by simp [s0]
  clear HR CO s0 HK
  go_enter Tryz.func72, Tryz.ntmps72
  go_wp2
  refine bodyPost_ret (v := rv 0 0) (by simp [results, Tryz.results72, go_sem]) rfl ⟨rfl, ?_⟩
  repeat (first | exact HE.out | exact Below.refl _ _ | refine Below.setCell ?_ (by simp <;> omega) _ | refine Below.alloc ?_ (by simp <;> omega) _)
 have b0 : (st == 0) = false := beq_eq_false_iff_ne.2 s0
 by_cases s2 : st ≤ 2
 ·have e := HR.out
  rw [if_neg s0, if_pos s2] at e
  injection e with e1 e2
  subst e1 e2
  have C1 := Lib.hid (fun W => sFilled_to st true W (decide_eq_true ⟨by omega, s2⟩))
  clear HR CO s0
  go_enter Tryz.func72, Tryz.ntmps72
  go_wp2_with fail
  obtain ⟨W0, hW0⟩ : ∃ W0, (((w.alloc (.cells #[.int .i64 id, .int .i64 al, .int .i64 ah, .slice A n c, .slice B mm d, .slice C l ee, .int .i64 t0, .int .i64 t1, .int .i64 u0, .int .i64 u1, .int .i64 v0, .int .i64 v1, .int .i64 h0, .int .i64 h1] 50)).alloc (.cells #[.int .i64 fh, .int .i64 st, .int .i64 x0, .int .i64 x1, .int .i64 d0, .int .i64 d1] 53)).alloc (.cells #[.int .i64 0, .int .i64 0] 30)) = W0 := ⟨_, rfl⟩
  rw [hW0] at HE HK ⊢
  clear hW0
  obtain ⟨G, hG⟩ : ∃ G, w.heap.size = G := ⟨_, rfl⟩
  rw [hG] at HK ⊢
  have HG := Lib.hid hG; clear hG
  refine (C1.out _).mono ?_
  rintro e w1 ⟨rfl, hb⟩
  have HE1 := Lib.hid (below_then HE.out hb); have HK1 := Lib.hid (HK.out.on hb)
  clear hb HE HK C1
  have p := HK1.out _ (.tail _ (.tail _ (.head _)))
  have p10 := p.cell 10
  have p11 := p.cell 11
  simp at p10 p11
  clear p
  have z := HK1.out _ (.head _)
  have z0 := z.cell 0
  have zf0 := z.frozen 0
  have z1 := z.cell 1
  have zf1 := z.frozen 1
  have zl := z.lt
  simp at z0 zf0 z1 zf1
  clear z
  go_wp2
  refine bodyPost_ret (v := rv v0 v1) (by simp [results, Tryz.results72, go_sem, z0, z1]) rfl ⟨rfl, ?_⟩
  have hg := HG.out
  repeat (first | exact HE1.out | refine Below.setCell ?_ (by simp <;> omega) _)
 ·have e := HR.out
  rw [if_neg s0, if_neg s2] at e
  injection e with e1 e2
  subst e1 e2
  have C1 := Lib.hid (fun W => sFilled_to st false W (decide_eq_false (by omega)))
  clear HR s0
  go_enter Tryz.func72, Tryz.ntmps72
  go_wp2_with fail
  obtain ⟨W0, hW0⟩ : ∃ W0, (((w.alloc (.cells #[.int .i64 id, .int .i64 al, .int .i64 ah, .slice A n c, .slice B mm d, .slice C l ee, .int .i64 t0, .int .i64 t1, .int .i64 u0, .int .i64 u1, .int .i64 v0, .int .i64 v1, .int .i64 h0, .int .i64 h1] 50)).alloc (.cells #[.int .i64 fh, .int .i64 st, .int .i64 x0, .int .i64 x1, .int .i64 d0, .int .i64 d1] 53)).alloc (.cells #[.int .i64 0, .int .i64 0] 30)) = W0 := ⟨_, rfl⟩
  rw [hW0] at HE HK ⊢
  clear hW0
  obtain ⟨G, hG⟩ : ∃ G, w.heap.size = G := ⟨_, rfl⟩
  rw [hG] at HK ⊢
  have HG := Lib.hid hG; clear hG
  refine (C1.out _).mono ?_
  rintro e w1 ⟨rfl, hb⟩
  have HE1 := Lib.hid (below_then HE.out hb); have HK1 := Lib.hid (HK.out.on hb)
  clear hb HE HK C1
  have p := HK1.out _ (.tail _ (.tail _ (.head _)))
  have p3 := p.cell 3
  simp at p3
  clear p
  have f := HK1.out _ (.tail _ (.head _))
  have f1 := f.cell 1
  have f2 := f.cell 2
  have f3 := f.cell 3
  simp at f1 f2 f3
  clear f
  go_wp2_with fail
  refine (CO.out _ HE1.out).mono ?_
  rintro e y1 ⟨rfl, hb⟩
  have HE9 := Lib.hid (below_then (below_then HE1.out hb) (below_alloc1 y1 (.cells #[.int .i64 qa, .int .i64 qb] 30))); have HK9 := Lib.hid ((HK1.out.on hb).new 30 #[.int .i64 qa, .int .i64 qb])
  clear hb HE1 HK1 p3 f1 f2 f3 CO
  go_upto_region 6 with fail
  obtain ⟨W9, hW⟩ : ∃ W9, y1.alloc (.cells #[.int .i64 qa, .int .i64 qb] 30) = W9 := ⟨_, rfl⟩
  rw [hW] at HE9 HK9 ⊢
  clear hW
  obtain ⟨N9, hN⟩ : ∃ N, y1.heap.size = N := ⟨_, rfl⟩
  rw [hN] at HK9 ⊢
  clear hN
  have a := HK9.out _ (.head _)
  have a0 := a.cell 0
  have a1 := a.cell 1
  simp at a0 a1
  clear a
  have z := HK9.out _ (.tail _ (.head _))
  have z0 := z.cell 0
  have zf0 := z.frozen 0
  have z1 := z.cell 1
  have zf1 := z.frozen 1
  have zl := z.lt
  simp at z0 zf0 z1 zf1
  clear z
  go_wp2
  refine bodyPost_ret (v := rv qa qb) (by simp [results, Tryz.results72, go_sem, z0, z1]) rfl ⟨rfl, ?_⟩
  have hg := HG.out
  repeat (first | exact HE9.out | refine Below.setCell ?_ (by simp <;> omega) _)

set_option maxRecDepth 100000 in
set_option maxHeartbeats 4000000 in
theorem shei_to (h : HoldD) (m : HoldM) (f : FillD) (w : World) (hi : HoldIn w h m) (q0 : 0 ≤ f.st) (q5 : f.st ≤ 5) :
  Calls Tryz.prog 74 #[holdV h m, fillV f] w fun e w' => e = .returned (rv (heiS h f).1 (heiS h f).2) ∧ Below w.heap.size w w' := by
 obtain ⟨⟨ra, rb⟩, hR⟩ : ∃ r, heiS h f = r := ⟨_, rfl⟩
 rw [hR]
 have HR := Lib.hid hR
 unfold heiS at HR
 clear hR
 obtain ⟨id, al, ah, vol, mom, hei, t0, t1, u0, u1, v0, v1, h0, h1⟩ := h
 obtain ⟨A, n, c, B, mm, d, C, l, ee⟩ := m
 obtain ⟨fh, st, x0, x1, d0, d1⟩ := f
 obtain ⟨i1, i2, i3⟩ := hi
 dsimp only at i1 i2 i3 q0 q5 HR
 have HE := Lib.hid (show Below w.heap.size w (((w.alloc (.cells #[.int .i64 id, .int .i64 al, .int .i64 ah, .slice A n c, .slice B mm d, .slice C l ee, .int .i64 t0, .int .i64 t1, .int .i64 u0, .int .i64 u1, .int .i64 v0, .int .i64 v1, .int .i64 h0, .int .i64 h1] 50)).alloc (.cells #[.int .i64 fh, .int .i64 st, .int .i64 x0, .int .i64 x1, .int .i64 d0, .int .i64 d1] 53)).alloc (.cells #[.int .i64 0, .int .i64 0] 30)) from below_a3 (Below.refl _ _))
 have HK := Lib.hid (boxes3' w 50 53 30 #[.int .i64 id, .int .i64 al, .int .i64 ah, .slice A n c, .slice B mm d, .slice C l ee, .int .i64 t0, .int .i64 t1, .int .i64 u0, .int .i64 u1, .int .i64 v0, .int .i64 v1, .int .i64 h0, .int .i64 h1] #[.int .i64 fh, .int .i64 st, .int .i64 x0, .int .i64 x1, .int .i64 d0, .int .i64 d1] #[.int .i64 0, .int .i64 0])
 have CO : Hid (∀ W, Below w.heap.size w W → Calls Tryz.prog 77 #[tv C l ee, rv x0 x1] W fun e w' => e = .returned (rv (overS hei x0 x1).1 (overS hei x0 x1).2.1) ∧ Below W.heap.size W w') := Lib.hid fun W hW => sover_any C l ee hei x0 x1 W (i3.below hW)
 clear i1 i2 i3
 generalize overS hei x0 x1 = Q at *
 obtain ⟨qa, qb, qe⟩ := Q
 dsimp only at HR CO
 by_cases s0 : st = 0
 ·have e := HR.out
  rw [if_pos s0] at e
  injection e with e1 e2
  subst e1 e2
  have b0 : (st == 0) = true := by simp [s0]
  clear HR CO s0 HK
  go_enter Tryz.func74, Tryz.ntmps74
  go_wp2
  refine bodyPost_ret (v := rv 0 0) (by simp [results, Tryz.results74, go_sem]) rfl ⟨rfl, ?_⟩
  repeat (first | exact HE.out | exact Below.refl _ _ | refine Below.setCell ?_ (by simp <;> omega) _ | refine Below.alloc ?_ (by simp <;> omega) _)
 have b0 : (st == 0) = false := beq_eq_false_iff_ne.2 s0
 by_cases s2 : st ≤ 2
 ·have e := HR.out
  rw [if_neg s0, if_pos s2] at e
  injection e with e1 e2
  subst e1 e2
  have C1 := Lib.hid (fun W => sFilled_to st true W (decide_eq_true ⟨by omega, s2⟩))
  clear HR CO s0
  go_enter Tryz.func74, Tryz.ntmps74
  go_wp2_with fail
  obtain ⟨W0, hW0⟩ : ∃ W0, (((w.alloc (.cells #[.int .i64 id, .int .i64 al, .int .i64 ah, .slice A n c, .slice B mm d, .slice C l ee, .int .i64 t0, .int .i64 t1, .int .i64 u0, .int .i64 u1, .int .i64 v0, .int .i64 v1, .int .i64 h0, .int .i64 h1] 50)).alloc (.cells #[.int .i64 fh, .int .i64 st, .int .i64 x0, .int .i64 x1, .int .i64 d0, .int .i64 d1] 53)).alloc (.cells #[.int .i64 0, .int .i64 0] 30)) = W0 := ⟨_, rfl⟩
  rw [hW0] at HE HK ⊢
  clear hW0
  obtain ⟨G, hG⟩ : ∃ G, w.heap.size = G := ⟨_, rfl⟩
  rw [hG] at HK ⊢
  have HG := Lib.hid hG; clear hG
  refine (C1.out _).mono ?_
  rintro e w1 ⟨rfl, hb⟩
  have HE1 := Lib.hid (below_then HE.out hb); have HK1 := Lib.hid (HK.out.on hb)
  clear hb HE HK C1
  have p := HK1.out _ (.tail _ (.tail _ (.head _)))
  have p12 := p.cell 12
  have p13 := p.cell 13
  simp at p12 p13
  clear p
  have z := HK1.out _ (.head _)
  have z0 := z.cell 0
  have zf0 := z.frozen 0
  have z1 := z.cell 1
  have zf1 := z.frozen 1
  have zl := z.lt
  simp at z0 zf0 z1 zf1
  clear z
  go_wp2
  refine bodyPost_ret (v := rv h0 h1) (by simp [results, Tryz.results74, go_sem, z0, z1]) rfl ⟨rfl, ?_⟩
  have hg := HG.out
  repeat (first | exact HE1.out | refine Below.setCell ?_ (by simp <;> omega) _)
 ·have e := HR.out
  rw [if_neg s0, if_neg s2] at e
  injection e with e1 e2
  subst e1 e2
  have C1 := Lib.hid (fun W => sFilled_to st false W (decide_eq_false (by omega)))
  clear HR s0
  go_enter Tryz.func74, Tryz.ntmps74
  go_wp2_with fail
  obtain ⟨W0, hW0⟩ : ∃ W0, (((w.alloc (.cells #[.int .i64 id, .int .i64 al, .int .i64 ah, .slice A n c, .slice B mm d, .slice C l ee, .int .i64 t0, .int .i64 t1, .int .i64 u0, .int .i64 u1, .int .i64 v0, .int .i64 v1, .int .i64 h0, .int .i64 h1] 50)).alloc (.cells #[.int .i64 fh, .int .i64 st, .int .i64 x0, .int .i64 x1, .int .i64 d0, .int .i64 d1] 53)).alloc (.cells #[.int .i64 0, .int .i64 0] 30)) = W0 := ⟨_, rfl⟩
  rw [hW0] at HE HK ⊢
  clear hW0
  obtain ⟨G, hG⟩ : ∃ G, w.heap.size = G := ⟨_, rfl⟩
  rw [hG] at HK ⊢
  have HG := Lib.hid hG; clear hG
  refine (C1.out _).mono ?_
  rintro e w1 ⟨rfl, hb⟩
  have HE1 := Lib.hid (below_then HE.out hb); have HK1 := Lib.hid (HK.out.on hb)
  clear hb HE HK C1
  have p := HK1.out _ (.tail _ (.tail _ (.head _)))
  have p5 := p.cell 5
  simp at p5
  clear p
  have f := HK1.out _ (.tail _ (.head _))
  have f1 := f.cell 1
  have f2 := f.cell 2
  have f3 := f.cell 3
  simp at f1 f2 f3
  clear f
  go_wp2_with fail
  refine (CO.out _ HE1.out).mono ?_
  rintro e y1 ⟨rfl, hb⟩
  have HE9 := Lib.hid (below_then (below_then HE1.out hb) (below_alloc1 y1 (.cells #[.int .i64 qa, .int .i64 qb] 30))); have HK9 := Lib.hid ((HK1.out.on hb).new 30 #[.int .i64 qa, .int .i64 qb])
  clear hb HE1 HK1 p5 f1 f2 f3 CO
  go_upto_region 6 with fail
  obtain ⟨W9, hW⟩ : ∃ W9, y1.alloc (.cells #[.int .i64 qa, .int .i64 qb] 30) = W9 := ⟨_, rfl⟩
  rw [hW] at HE9 HK9 ⊢
  clear hW
  obtain ⟨N9, hN⟩ : ∃ N, y1.heap.size = N := ⟨_, rfl⟩
  rw [hN] at HK9 ⊢
  clear hN
  have a := HK9.out _ (.head _)
  have a0 := a.cell 0
  have a1 := a.cell 1
  simp at a0 a1
  clear a
  have z := HK9.out _ (.tail _ (.head _))
  have z0 := z.cell 0
  have zf0 := z.frozen 0
  have z1 := z.cell 1
  have zf1 := z.frozen 1
  have zl := z.lt
  simp at z0 zf0 z1 zf1
  clear z
  go_wp2
  refine bodyPost_ret (v := rv qa qb) (by simp [results, Tryz.results74, go_sem, z0, z1]) rfl ⟨rfl, ?_⟩
  have hg := HG.out
  repeat (first | exact HE9.out | refine Below.setCell ?_ (by simp <;> omega) _)

set_option maxRecDepth 100000 in
set_option maxHeartbeats 4000000 in
theorem smom_to (h : HoldD) (m : HoldM) (f : FillD) (w : World) (hi : HoldIn w h m) (q0 : 0 ≤ f.st) (q5 : f.st ≤ 5) :
  Calls Tryz.prog 75 #[holdV h m, fillV f] w fun e w' => e = .returned (rv (momS h f).1 (momS h f).2) ∧ Below w.heap.size w w' := by
 obtain ⟨⟨ra, rb⟩, hR⟩ : ∃ r, momS h f = r := ⟨_, rfl⟩
 rw [hR]
 have HR := Lib.hid hR
 unfold momS at HR
 clear hR
 obtain ⟨id, al, ah, vol, mom, hei, t0, t1, u0, u1, v0, v1, h0, h1⟩ := h
 obtain ⟨A, n, c, B, mm, d, C, l, ee⟩ := m
 obtain ⟨fh, st, x0, x1, d0, d1⟩ := f
 obtain ⟨i1, i2, i3⟩ := hi
 dsimp only at i1 i2 i3 q0 q5 HR
 have HE := Lib.hid (show Below w.heap.size w (((w.alloc (.cells #[.int .i64 id, .int .i64 al, .int .i64 ah, .slice A n c, .slice B mm d, .slice C l ee, .int .i64 t0, .int .i64 t1, .int .i64 u0, .int .i64 u1, .int .i64 v0, .int .i64 v1, .int .i64 h0, .int .i64 h1] 50)).alloc (.cells #[.int .i64 fh, .int .i64 st, .int .i64 x0, .int .i64 x1, .int .i64 d0, .int .i64 d1] 53)).alloc (.cells #[.int .i64 0, .int .i64 0] 30)) from below_a3 (Below.refl _ _))
 have HK := Lib.hid (boxes3' w 50 53 30 #[.int .i64 id, .int .i64 al, .int .i64 ah, .slice A n c, .slice B mm d, .slice C l ee, .int .i64 t0, .int .i64 t1, .int .i64 u0, .int .i64 u1, .int .i64 v0, .int .i64 v1, .int .i64 h0, .int .i64 h1] #[.int .i64 fh, .int .i64 st, .int .i64 x0, .int .i64 x1, .int .i64 d0, .int .i64 d1] #[.int .i64 0, .int .i64 0])
 have CO : Hid (∀ W, Below w.heap.size w W → Calls Tryz.prog 77 #[tv B mm d, rv x0 x1] W fun e w' => e = .returned (rv (overS mom x0 x1).1 (overS mom x0 x1).2.1) ∧ Below W.heap.size W w') := Lib.hid fun W hW => sover_any B mm d mom x0 x1 W (i2.below hW)
 clear i1 i2 i3
 generalize overS mom x0 x1 = Q at *
 obtain ⟨qa, qb, qe⟩ := Q
 dsimp only at HR CO
 rcases st_cases q0 q5 with rfl | rfl | rfl | rfl | rfl | rfl
 ·have e : ((0 : Int), (0 : Int)) = (ra, rb) := HR.out
  injection e with e1 e2
  subst e1 e2
  clear HR CO HK
  go_enter Tryz.func75, Tryz.ntmps75
  go_wp2
  refine bodyPost_ret (v := rv 0 0) (by simp [results, Tryz.results75, go_sem]) rfl ⟨rfl, ?_⟩
  repeat (first | exact HE.out | exact Below.refl _ _ | refine Below.setCell ?_ (by simp <;> omega) _ | refine Below.alloc ?_ (by simp <;> omega) _)
 ·have e : ((t0 : Int), (t1 : Int)) = (ra, rb) := HR.out
  injection e with e1 e2
  subst e1 e2
  clear HR CO HK
  go_enter Tryz.func75, Tryz.ntmps75
  go_wp2
  refine bodyPost_ret (v := rv t0 t1) (by simp [results, Tryz.results75, go_sem]) rfl ⟨rfl, ?_⟩
  repeat (first | exact HE.out | exact Below.refl _ _ | refine Below.setCell ?_ (by simp <;> omega) _ | refine Below.alloc ?_ (by simp <;> omega) _)
 ·have e : ((u0 : Int), (u1 : Int)) = (ra, rb) := HR.out
  injection e with e1 e2
  subst e1 e2
  clear HR CO HK
  go_enter Tryz.func75, Tryz.ntmps75
  go_wp2
  refine bodyPost_ret (v := rv u0 u1) (by simp [results, Tryz.results75, go_sem]) rfl ⟨rfl, ?_⟩
  repeat (first | exact HE.out | exact Below.refl _ _ | refine Below.setCell ?_ (by simp <;> omega) _ | refine Below.alloc ?_ (by simp <;> omega) _)
 ·have e : ((qa : Int), (qb : Int)) = (ra, rb) := HR.out
  injection e with e1 e2
  subst e1 e2
  clear HR
  go_enter Tryz.func75, Tryz.ntmps75
  go_upto_region 1 with fail
  obtain ⟨W0, hW0⟩ : ∃ W0, (((w.alloc (.cells #[.int .i64 id, .int .i64 al, .int .i64 ah, .slice A n c, .slice B mm d, .slice C l ee, .int .i64 t0, .int .i64 t1, .int .i64 u0, .int .i64 u1, .int .i64 v0, .int .i64 v1, .int .i64 h0, .int .i64 h1] 50)).alloc (.cells #[.int .i64 fh, .int .i64 3, .int .i64 x0, .int .i64 x1, .int .i64 d0, .int .i64 d1] 53)).alloc (.cells #[.int .i64 0, .int .i64 0] 30)) = W0 := ⟨_, rfl⟩
  rw [hW0] at HE HK ⊢
  clear hW0
  obtain ⟨G, hG⟩ : ∃ G, w.heap.size = G := ⟨_, rfl⟩
  rw [hG] at HK ⊢
  have HG := Lib.hid hG; clear hG
  have p := HK.out _ (.tail _ (.tail _ (.head _)))
  have p4 := p.cell 4
  simp at p4
  clear p
  have f := HK.out _ (.tail _ (.head _))
  have f1 := f.cell 1
  have f2 := f.cell 2
  have f3 := f.cell 3
  simp at f1 f2 f3
  clear f
  go_wp2_with fail
  refine (CO.out _ HE.out).mono ?_
  rintro e y1 ⟨rfl, hb⟩
  have HE9 := Lib.hid (below_then (below_then HE.out hb) (below_alloc1 y1 (.cells #[.int .i64 qa, .int .i64 qb] 30))); have HK9 := Lib.hid ((HK.out.on hb).new 30 #[.int .i64 qa, .int .i64 qb])
  clear hb HE HK p4 f1 f2 f3 CO
  go_upto_region 7 with fail
  obtain ⟨W9, hW⟩ : ∃ W9, y1.alloc (.cells #[.int .i64 qa, .int .i64 qb] 30) = W9 := ⟨_, rfl⟩
  rw [hW] at HE9 HK9 ⊢
  clear hW
  obtain ⟨N9, hN⟩ : ∃ N, y1.heap.size = N := ⟨_, rfl⟩
  rw [hN] at HK9 ⊢
  clear hN
  have a := HK9.out _ (.head _)
  have a0 := a.cell 0
  have a1 := a.cell 1
  simp at a0 a1
  clear a
  have z := HK9.out _ (.tail _ (.head _))
  have z0 := z.cell 0
  have zf0 := z.frozen 0
  have z1 := z.cell 1
  have zf1 := z.frozen 1
  have zl := z.lt
  simp at z0 zf0 z1 zf1
  clear z
  go_wp2
  refine bodyPost_ret (v := rv qa qb) (by simp [results, Tryz.results75, go_sem, z0, z1]) rfl ⟨rfl, ?_⟩
  have hg := HG.out
  repeat (first | exact HE9.out | refine Below.setCell ?_ (by simp <;> omega) _)
 ·have e : ((0 : Int), (0 : Int)) = (ra, rb) := HR.out
  injection e with e1 e2
  subst e1 e2
  clear HR CO HK
  go_enter Tryz.func75, Tryz.ntmps75
  go_wp2
  refine bodyPost_ret (v := rv 0 0) (by simp [results, Tryz.results75, go_sem]) rfl ⟨rfl, ?_⟩
  repeat (first | exact HE.out | exact Below.refl _ _ | refine Below.setCell ?_ (by simp <;> omega) _ | refine Below.alloc ?_ (by simp <;> omega) _)
 ·have e : ((0 : Int), (0 : Int)) = (ra, rb) := HR.out
  injection e with e1 e2
  subst e1 e2
  clear HR CO HK
  go_enter Tryz.func75, Tryz.ntmps75
  go_wp2
  refine bodyPost_ret (v := rv 0 0) (by simp [results, Tryz.results75, go_sem]) rfl ⟨rfl, ?_⟩
  repeat (first | exact HE.out | exact Below.refl _ _ | refine Below.setCell ?_ (by simp <;> omega) _ | refine Below.alloc ?_ (by simp <;> omega) _)
end

section
open Go.RowKit

def heavyS (a b c d : Int) : Int × Int := ((a * c) / 1000, (b * d + 999) / 1000)
set_option maxRecDepth 100000 in
set_option maxHeartbeats 2000000 in
theorem sheavy_any (a b c d : Int) (w : World) (h1 : 0 ≤ a * c ∧ a * c ≤ 1000000000000000) (h2 : 0 ≤ b * d ∧ b * d ≤ 1000000000000000) :
  Calls Tryz.prog 73 #[rv a b, rv c d] w fun e w' => e = .returned (rv (heavyS a b c d).1 (heavyS a b c d).2) ∧ Below w.heap.size w w' := by
 have hE : Below w.heap.size w (((w.alloc (.cells #[.int .i64 a, .int .i64 b] 30)).alloc (.cells #[.int .i64 c, .int .i64 d] 30)).alloc (.cells #[.int .i64 ((a * c) / 1000), .int .i64 ((b * d + 999) / 1000)] 30)) := below_a3 (Below.refl _ _)
 unfold heavyS
 generalize hp1 : a * c = p1 at *
 generalize hp2 : b * d = p2 at *
 have k1 : IntKind.i64.wrap (a * c) = p1 := by rw [hp1]; exact IntWalk.i64_in _ ⟨by omega, by omega⟩
 have k2 : IntKind.i64.wrap (b * d) = p2 := by rw [hp2]; exact IntWalk.i64_in _ ⟨by omega, by omega⟩
 have k3 : IntKind.i64.wrap (p2 + 999) = p2 + 999 := IntWalk.i64_in _ ⟨by omega, by omega⟩
 have q1 : p1.tdiv 1000 = p1 / 1000 := Int.tdiv_eq_ediv_of_nonneg (by omega)
 have q2 : (p2 + 999).tdiv 1000 = (p2 + 999) / 1000 := Int.tdiv_eq_ediv_of_nonneg (by omega)
 have k4 : wrap64 (p1 / 1000) = p1 / 1000 := IntWalk.wrap64_in _ ⟨by omega, by omega⟩
 have k5 : wrap64 ((p2 + 999) / 1000) = (p2 + 999) / 1000 := IntWalk.wrap64_in _ ⟨by omega, by omega⟩
 rw [← q1] at k4
 rw [← q2] at k5
 have H := Lib.hid (And.intro q1 (And.intro q2 (And.intro k4 k5)))
 have HE := Lib.hid hE
 clear h1 h2 hp1 hp2 q1 q2 k4 k5 hE
 go_enter Tryz.func73, Tryz.ntmps73
 go_wp2_with fail
 obtain ⟨q1, q2, k4, k5⟩ := H.out
 rw [k4, k5, q1, q2]
 exact bodyPost_ret (v := rv (p1 / 1000) ((p2 + 999) / 1000)) (by simp [results, Tryz.results73, go_sem]) rfl ⟨rfl, HE.out⟩
end

end Go.Proofs.YtekkiedlajhaiaaGreat
