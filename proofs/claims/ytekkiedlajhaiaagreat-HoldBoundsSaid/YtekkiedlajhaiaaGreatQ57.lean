/- The walk of HoldBounds: whatever numbers come in, the law returns true. Its conditions: the lists lie in memory and have no more than 2 ^ 62 numbers each. -/
import Derived.Test.YtekkiedlajhaiaaGreatQ56
import Derived.Test.YtekkiedlajhaiaaGreatQ29
import Derived.Test.YtekkiedlajhaiaaGreatQ51
import Derived.Test.YtekkiedlajhaiaaGreatQ50
import Derived.Test.YtekkiedlajhaiaaGreatQ98
set_option linter.unusedVariables false
set_option linter.unusedSimpArgs false
set_option linter.constructorNameAsVariable false
namespace Go.Proofs.YtekkiedlajhaiaaGreat

section
open Go.RowKit
section
attribute [local go_sem ↓] eqRange9
set_option maxRecDepth 100000 in
set_option maxHeartbeats 4000000 in
theorem eqWeight (a b c e f g : Int) (w : World) : (Op.equalIn 10000 63 (.agg #[.int .i64 a, .int .i64 b, .int .i64 c, .int .i64 e, .int .i64 f, .int .i64 g]) (.agg #[.int .i64 a, .int .i64 b, .int .i64 c, .int .i64 e, .int .i64 f, .int .i64 g])).run Tryz.prog w = .ok true w := by
  have u3 := Tryz.underlying3
  have hS : Tryz.prog.underlying 63 = some (.struct (Tryz.prog.fieldsOf 63)) := by kernel_rfl
  have hp : Tryz.prog.stoodInHeld 63 = false := by kernel_rfl
  rw [show (10000 : Nat) = 9999 + 1 from rfl, run_equalIn_agg w 9999 63 _ _ hS hp]
  clear hS hp
  simp only [Program.fieldsOf, Tryz.underlying63]
  go_simp
end
@[go_sem] theorem eqGuardWeight (op : BinOp) (x y : Operand) (xs ys : Array Value) (w : World) : (eqGuard op 63 x y (.agg xs) (.agg ys)).run Tryz.prog w = .ok () w :=
  run_eqGuard_agg w op 63 x y xs ys (by kernel_rfl)
theorem eqlWeight (a b c e f g : Int) (w : World) : (binOp .eql 63 (.agg #[.int .i64 a, .int .i64 b, .int .i64 c, .int .i64 e, .int .i64 f, .int .i64 g]) (.agg #[.int .i64 a, .int .i64 b, .int .i64 c, .int .i64 e, .int .i64 f, .int .i64 g])).run Tryz.prog w = .ok (.bool true) w := by
  rw [run_eql_struct, eqWeight]; rfl
attribute [local go_sem ↓] eqlRange neqRange eqlWeight
theorem hold_first {h : HoldD} (e : holdS h = true) : firstX h.vol ≤ lastX h.vol := by
  have ht := hold_tab e
  have hr := rising_pts h.vol (-1) (tabOk_pts ht) (by omega)
  have hl := tabOk_len ht
  have q1 : firstX h.vol = (h.vol[0]'(by omega)).1 := by unfold firstX; rw [List.head?_eq_getElem?, List.getElem?_eq_getElem (show 0 < h.vol.length by omega)]; rfl
  have q2 : lastX h.vol = (h.vol[h.vol.length - 1]'(by omega)).1 := by unfold lastX; rw [List.getLast?_eq_getElem?, List.getElem?_eq_getElem (show h.vol.length - 1 < h.vol.length by omega)]; rfl
  rw [q1, q2]
  rcases Nat.lt_or_ge 1 h.vol.length with g | g
  · exact Int.le_of_lt (List.pairwise_iff_getElem.1 hr 0 (h.vol.length - 1) (by omega) (by omega) (by omega))
  · have : h.vol.length = 1 := by omega
    simp [this]
theorem tell_okY {h : HoldD} {f : FillD} (e : fillErr h f = 0) (v : Int × Int) : tellS h f v = (v.1, v.2, 0) := by unfold tellS; rw [if_pos e]
def WgtY (v : Int × Int) : Prop := 0 ≤ v.1 ∧ v.1 ≤ v.2 ∧ v.2 ≤ 2000000001
theorem heavy_wgtY {v : Int × Int} {c d : Int} (hv : Amt v) (h4 : 0 ≤ c) (h5 : c ≤ d) (h6 : d ≤ 2000) : WgtY (heavyS v.1 v.2 c d) := by
  obtain ⟨h1, h2, h3⟩ := hv
  have e1 : v.1 * c ≤ v.1 * d := Int.mul_le_mul_of_nonneg_left h5 h1
  have e4 : v.1 * d ≤ v.2 * d := Int.mul_le_mul_of_nonneg_right h2 (by omega)
  have e5 : 0 ≤ v.1 * c := Int.mul_nonneg h1 h4
  have e6 : v.2 * d ≤ 1000000000 * 2000 := Int.mul_le_mul h3 h6 (by omega) (by omega)
  unfold heavyS WgtY
  dsimp only
  refine ⟨?_, ?_, ?_⟩ <;> omega
theorem prod_le {a b A B : Int} (h1 : 0 ≤ a) (h2 : a ≤ A) (h3 : 0 ≤ b) (h4 : b ≤ B) : 0 ≤ a * b ∧ a * b ≤ A * B := ⟨Int.mul_nonneg h1 h3, Int.mul_le_mul h2 h4 h3 (by omega)⟩
theorem bounds_all {h : HoldD} {f : FillD} {u d n1 e1 n2 e2 n3 e3 : Int} {c1 c2 c3 : List Int} (e : fillErr h f = 0) (s3 : 3 ≤ f.st ∧ f.st ≤ 5) (hu : f.x0 ≤ u ∧ u ≤ f.x1) (hd : f.d0 ≤ d ∧ d ≤ f.d1)
    (i1 : InTab h.vol c1) (V1 : ValOf h.vol c1 u n1 e1) (i2 : InTab h.mom c2) (V2 : ValOf h.mom c2 u n2 e2) (i3 : InTab h.hei c3) (V3 : ValOf h.hei c3 u n3 e3) :
    ∃ M, (if f.st = 3 then n2 else 0) = M ∧ ((volS h f).1 * e1 ≤ n1 ∧ n1 ≤ (volS h f).2 * e1) ∧ ((denS h f (volS h f)).1 * (1000 * e1) ≤ n1 * d ∧ n1 * d ≤ (denS h f (volS h f)).2 * (1000 * e1)) ∧ ((momS h f).1 * e2 ≤ M ∧ M ≤ (momS h f).2 * e2) ∧
      ((denS h f (momS h f)).1 * (1000 * e2) ≤ M * d ∧ M * d ≤ (denS h f (momS h f)).2 * (1000 * e2)) ∧ ((heiS h f).1 * e3 ≤ n3 ∧ n3 ≤ (heiS h f).2 * e3) ∧
      (0 < e1 ∧ e1 ≤ 1000000) ∧ (0 < e2 ∧ e2 ≤ 1000000) ∧ (0 < e3 ∧ e3 ≤ 1000000) ∧ Amt (volS h f) ∧ Amt (momS h f) ∧ Amt (heiS h f) ∧ WgtY (denS h f (volS h f)) ∧ WgtY (denS h f (momS h f)) ∧ 0 ≤ d ∧ d ≤ 2000 := by
  obtain ⟨hS, hF⟩ := fill_zero e
  obtain ⟨⟨a1, a2, a3, a4⟩, ⟨m1, m2, m3⟩, ⟨l1, l2⟩, _⟩ := hold_parts hS
  have pl := fill_place e s3.1
  obtain ⟨d1, d2, d3⟩ := fill_dens e
  obtain ⟨p1, p2, p3, p4⟩ := overS_has (measures_ok m1) i1 V1 pl hu.1 hu.2
  obtain ⟨q1, q2, q3, q4⟩ := overS_has (measures_ok m2) i2 V2 (along_in l1 pl) hu.1 hu.2
  obtain ⟨r1, r2, r3, r4⟩ := overS_has (measures_ok m3) i3 V3 (along_in l2 pl) hu.1 hu.2
  have hvS : volS h f = ((overS h.vol f.x0 f.x1).1, (overS h.vol f.x0 f.x1).2.1) := by unfold volS; rw [if_neg (by omega), if_neg (by omega)]
  have hhS : heiS h f = ((overS h.hei f.x0 f.x1).1, (overS h.hei f.x0 f.x1).2.1) := by unfold heiS; rw [if_neg (by omega), if_neg (by omega)]
  have hA := vol_amt e
  have hB := mom_amt e
  have hC : Amt (heiS h f) := by rw [hhS]; exact over_in m3 (along_in l2 pl)
  have hm : (momS h f).1 * e2 ≤ (if f.st = 3 then n2 else 0) ∧ (if f.st = 3 then n2 else 0) ≤ (momS h f).2 * e2 := by
    by_cases g : f.st = 3
    · have hmS : momS h f = ((overS h.mom f.x0 f.x1).1, (overS h.mom f.x0 f.x1).2.1) := by unfold momS; rw [if_neg (by omega), if_neg (by omega), if_neg (by omega), if_pos g]
      rw [hmS, if_pos g]
      exact ⟨q3, q4⟩
    · have hmS : momS h f = (0, 0) := by unfold momS; rw [if_neg (by omega), if_neg (by omega), if_neg (by omega), if_neg g]
      rw [hmS, if_neg g]
      simp
  refine ⟨_, rfl, by rw [hvS]; exact ⟨p3, p4⟩, ?_, hm, ?_, by rw [hhS]; exact ⟨r3, r4⟩, ⟨p1, p2⟩, ⟨q1, q2⟩, ⟨r1, r2⟩, hA, hB, hC, ?_, ?_, by omega, by omega⟩
  · rw [← den_heavy e hA]
    exact heavy_has hA p1 (by rw [hvS]; exact p3) (by rw [hvS]; exact p4) d1 hd.1 hd.2 d3
  · rw [← den_heavy e hB]
    exact heavy_has hB q1 hm.1 hm.2 d1 hd.1 hd.2 d3
  · rw [← den_heavy e hA]; exact heavy_wgtY hA d1 d2 d3
  · rw [← den_heavy e hB]; exact heavy_wgtY hB d1 d2 d3
end

section
open Go.RowKit
attribute [local go_sem ↓] eqlRange neqRange eqlWeight
set_option maxRecDepth 100000 in
set_option maxHeartbeats 4000000 in
theorem holdBounds_walk (r : RawD) (m : RawM) (x0 x1 x2 x3 x4 : Int) (Ca Cb Cc : Option Addr) (na ca nb cb nc cc : Nat) (k0 k1 k2 : List Int) (pl de : Int) (w : World) (hi : RawIn w r m) (hka : na = k0.length ∧ na ≤ 4611686018427387904 ∧ IntsP w Ca k0) (hkb : nb = k1.length ∧ nb ≤ 4611686018427387904 ∧ IntsP w Cb k1) (hkc : nc = k2.length ∧ nc ≤ 4611686018427387904 ∧ IntsP w Cc k2) :
  Calls Tryz.prog 4 #[rawV r m, .agg #[.int .i64 x0, .int .i64 x1, .int .i64 x2, .int .i64 x3, .int .i64 x4], .agg #[.slice Ca na ca, .slice Cb nb cb, .slice Cc nc cc, .int .i64 pl, .int .i64 de]] w fun e w' => e = .returned (.bool true) ∧ Below w.heap.size w w' := by
 obtain ⟨h, hh⟩ : ∃ h, madeH r = h := ⟨_, rfl⟩
 have hS : holdS h = true := by rw [← hh]; exact made_valid r
 have C1 := fun (W : World) (hW : Below w.heap.size w W) => smadeHold r m W (hi.below hW)
 rw [hh] at C1
 have hle := hold_first hS
 have htv := hold_tab hS
 have hpl := tab_places htv
 have hf := madeF_ok hS hle x0 x1 x2 x3 x4
 have CF := fun (W : World) (mm : HoldM) (hm : HoldIn W h mm) => sfill_to h mm x0 x1 x2 x3 x4 W hm htv hle hpl.1 hpl.2
 obtain ⟨f, hff⟩ : ∃ f, madeF h x0 x1 x2 x3 x4 = f := ⟨_, rfl⟩
 rw [hff] at hf CF
 obtain ⟨id, fi, st, vs⟩ := r
 obtain ⟨S, sn, sc, V, vn, vc⟩ := m
 have HKA := Lib.hid hka; have HKB := Lib.hid hkb; have HKC := Lib.hid hkc; have HSV := Lib.hid hS; have HF0 := Lib.hid hf
 have C1 := Lib.hid C1; have CF := Lib.hid CF

 clear hi hka hkb hkc hh hle htv hpl hff hS hf
 have HE := Lib.hid (show Below w.heap.size w (((w.alloc (.cells #[.int .i64 id, .int .i64 fi, .slice S sn sc, .slice V vn vc] 41)).alloc (.cells #[.int .i64 x0, .int .i64 x1, .int .i64 x2, .int .i64 x3, .int .i64 x4] 42)).alloc (.cells #[.slice Ca na ca, .slice Cb nb cb, .slice Cc nc cc, .int .i64 pl, .int .i64 de] 45)) from below_a3 (Below.refl _ _))
 have HK := Lib.hid (boxes3' w 41 42 45 #[.int .i64 id, .int .i64 fi, .slice S sn sc, .slice V vn vc] #[.int .i64 x0, .int .i64 x1, .int .i64 x2, .int .i64 x3, .int .i64 x4] #[.slice Ca na ca, .slice Cb nb cb, .slice Cc nc cc, .int .i64 pl, .int .i64 de])
 go_enter Tryz.func4, Tryz.ntmps4
 go_upto_region 1 with fail
 obtain ⟨W0, hW0⟩ : ∃ W0 : World, (((w.alloc (.cells #[.int .i64 id, .int .i64 fi, .slice S sn sc, .slice V vn vc] 41)).alloc (.cells #[.int .i64 x0, .int .i64 x1, .int .i64 x2, .int .i64 x3, .int .i64 x4] 42)).alloc (.cells #[.slice Ca na ca, .slice Cb nb cb, .slice Cc nc cc, .int .i64 pl, .int .i64 de] 45)) = W0 := ⟨_, rfl⟩
 rw [hW0] at HE HK ⊢
 clear hW0
 obtain ⟨G, hG⟩ : ∃ G, w.heap.size = G := ⟨_, rfl⟩
 rw [hG] at HK ⊢
 have HG := Lib.hid hG; clear hG
 have r_ := HK.out _ (.tail _ (.tail _ (.head _)))
 have r_0 := r_.cell 0
 have r_1 := r_.cell 1
 have r_2 := r_.cell 2
 have r_3 := r_.cell 3
 simp at r_0 r_1 r_2 r_3
 clear r_
 go_wp2_with fail
 refine (C1.out _ HE.out).mono ?_
 rintro e y1 ⟨⟨mm, rfl, hin⟩, hq⟩
 have HIH : Hid (∀ W, Below y1.heap.size y1 W → HoldIn W h mm) := Lib.hid fun W hW => hin.below hW
 have C2 : Hid (∀ W, Below y1.heap.size y1 W → Calls Tryz.prog 12 #[holdV h mm, .agg #[.int .i64 x0, .int .i64 x1, .int .i64 x2, .int .i64 x3, .int .i64 x4]] W fun e w' => e = .returned (fillV f) ∧ Below W.heap.size W w') := Lib.hid fun W hW => CF.out W mm (hin.below hW)
 have D0 : Hid (∀ W, Below y1.heap.size y1 W → Calls Tryz.prog 18 #[holdV h mm, fillV f] W fun e w' => e = .returned (.tuple #[rv (volS h f).1 (volS h f).2, .int .i64 0]) ∧ Below W.heap.size W w') := Lib.hid fun W hW => by
  have q := hVolume_any h mm f W (hin.below hW)
  rw [tell_okY HF0.out] at q
  exact q
 have D1 : Hid (∀ W, Below y1.heap.size y1 W → Calls Tryz.prog 19 #[holdV h mm, fillV f] W fun e w' => e = .returned (.tuple #[rv (denS h f (volS h f)).1 (denS h f (volS h f)).2, .int .i64 0]) ∧ Below W.heap.size W w') := Lib.hid fun W hW => by
  have q := hMass_any h mm f W (hin.below hW)
  rw [tell_okY HF0.out] at q
  exact q
 have D2 : Hid (∀ W, Below y1.heap.size y1 W → Calls Tryz.prog 20 #[holdV h mm, fillV f] W fun e w' => e = .returned (.tuple #[rv (momS h f).1 (momS h f).2, .int .i64 0]) ∧ Below W.heap.size W w') := Lib.hid fun W hW => by
  have q := hMoment_any h mm f W (hin.below hW)
  rw [tell_okY HF0.out] at q
  exact q
 have D3 : Hid (∀ W, Below y1.heap.size y1 W → Calls Tryz.prog 21 #[holdV h mm, fillV f] W fun e w' => e = .returned (.tuple #[rv (denS h f (momS h f)).1 (denS h f (momS h f)).2, .int .i64 0]) ∧ Below W.heap.size W w') := Lib.hid fun W hW => by
  have q := hHeel_any h mm f W (hin.below hW)
  rw [tell_okY HF0.out] at q
  exact q
 have D4 : Hid (∀ W, Below y1.heap.size y1 W → Calls Tryz.prog 22 #[holdV h mm, fillV f] W fun e w' => e = .returned (.tuple #[rv (heiS h f).1 (heiS h f).2, .int .i64 0]) ∧ Below W.heap.size W w') := Lib.hid fun W hW => by
  have q := hHeight_any h mm f W (hin.below hW)
  rw [tell_okY HF0.out] at q
  exact q
 have D5 : Hid (∀ W, Below y1.heap.size y1 W → Calls Tryz.prog 23 #[holdV h mm, fillV f] W fun e w' => e = .returned (wt (denS h f (volS h f)).1 (denS h f (volS h f)).2 h.al h.ah (heiS h f).1 (heiS h f).2 0) ∧ Below W.heap.size W w') := Lib.hid fun W hW => by
  have q := hWeight_any h mm f W (hin.below hW)
  unfold weightV at q
  rw [if_pos HF0.out] at q
  exact q
 have htt0 : tabOk h.vol = true := measures_ok (hold_parts HSV.out).2.1.1
 have hl2_0 : 2 ≤ h.vol.length := by
  have q := (hold_parts HSV.out).2.1.1
  unfold measuresS at q
  simp only [Bool.and_eq_true, decide_eq_true_eq] at q
  exact q.1.2
 have K0 : Hid (∀ W, Below y1.heap.size y1 W → Calls Tryz.prog 17 #[tv mm.A mm.n mm.c, .slice Ca na ca] W (GivesInts W (curveTo h.vol k0 mm.n))) := Lib.hid fun W hW => scurve_to mm.A Ca mm.n mm.c na ca h.vol k0 W ((hin.below hW).1) (by have := ((hin.below hW).1).1; have := (tabOk_len htt0).2; omega) (tab_wide htt0) HKA.out.1 HKA.out.2.1 (HKA.out.2.2.below (below_then HE.out (below_then hq hW)))
 have L0 : Hid (∀ (W : World) (u : Int) (cb : Nat) (cc' : Nat), Below y1.heap.size y1 W → IntsP W (some ⟨cb, 0, none⟩) (curveTo h.vol k0 mm.n) → firstX h.vol ≤ u → u ≤ lastX h.vol → Calls Tryz.prog 16 #[tv mm.A mm.n mm.c, .slice (some ⟨cb, 0, none⟩) mm.n cc', .int .i64 u] W fun e w' => (∃ num den, e = .returned (.tuple #[.int .i64 num, .int .i64 den]) ∧ ValOf h.vol (curveTo h.vol k0 mm.n) u num den) ∧ Below W.heap.size W w') := Lib.hid fun W u cb cc' hW hc g1 g2 => by
  have hT := (hin.below hW).1
  exact svalue_to mm.A (some ⟨cb, 0, none⟩) mm.n mm.c mm.n cc' h.vol (curveTo h.vol k0 mm.n) u W hT htt0 (by have := hT.1; omega) (by rw [curveTo_len _ _ _ (Nat.le_of_eq hT.1)]) hc (curve_inTabS k0 htt0 hT.1) g1 g2
 have I0 : Hid (InTab h.vol (curveTo h.vol k0 mm.n) ∧ (curveTo h.vol k0 mm.n).length = mm.n ∧ 0 < mm.n) := Lib.hid ⟨curve_inTabS k0 htt0 hin.1.1, curveTo_len _ _ _ (Nat.le_of_eq hin.1.1), by have := hin.1.1; omega⟩
 have htt1 : tabOk h.mom = true := measures_ok (hold_parts HSV.out).2.1.2.1
 have hl2_1 : 2 ≤ h.mom.length := by
  have q := (hold_parts HSV.out).2.1.2.1
  unfold measuresS at q
  simp only [Bool.and_eq_true, decide_eq_true_eq] at q
  exact q.1.2
 have K1 : Hid (∀ W, Below y1.heap.size y1 W → Calls Tryz.prog 17 #[tv mm.B mm.m mm.d, .slice Cb nb cb] W (GivesInts W (curveTo h.mom k1 mm.m))) := Lib.hid fun W hW => scurve_to mm.B Cb mm.m mm.d nb cb h.mom k1 W ((hin.below hW).2.1) (by have := ((hin.below hW).2.1).1; have := (tabOk_len htt1).2; omega) (tab_wide htt1) HKB.out.1 HKB.out.2.1 (HKB.out.2.2.below (below_then HE.out (below_then hq hW)))
 have L1 : Hid (∀ (W : World) (u : Int) (cb : Nat) (cc' : Nat), Below y1.heap.size y1 W → IntsP W (some ⟨cb, 0, none⟩) (curveTo h.mom k1 mm.m) → firstX h.mom ≤ u → u ≤ lastX h.mom → Calls Tryz.prog 16 #[tv mm.B mm.m mm.d, .slice (some ⟨cb, 0, none⟩) mm.m cc', .int .i64 u] W fun e w' => (∃ num den, e = .returned (.tuple #[.int .i64 num, .int .i64 den]) ∧ ValOf h.mom (curveTo h.mom k1 mm.m) u num den) ∧ Below W.heap.size W w') := Lib.hid fun W u cb cc' hW hc g1 g2 => by
  have hT := (hin.below hW).2.1
  exact svalue_to mm.B (some ⟨cb, 0, none⟩) mm.m mm.d mm.m cc' h.mom (curveTo h.mom k1 mm.m) u W hT htt1 (by have := hT.1; omega) (by rw [curveTo_len _ _ _ (Nat.le_of_eq hT.1)]) hc (curve_inTabS k1 htt1 hT.1) g1 g2
 have I1 : Hid (InTab h.mom (curveTo h.mom k1 mm.m) ∧ (curveTo h.mom k1 mm.m).length = mm.m ∧ 0 < mm.m) := Lib.hid ⟨curve_inTabS k1 htt1 hin.2.1.1, curveTo_len _ _ _ (Nat.le_of_eq hin.2.1.1), by have := hin.2.1.1; omega⟩
 have htt2 : tabOk h.hei = true := measures_ok (hold_parts HSV.out).2.1.2.2
 have hl2_2 : 2 ≤ h.hei.length := by
  have q := (hold_parts HSV.out).2.1.2.2
  unfold measuresS at q
  simp only [Bool.and_eq_true, decide_eq_true_eq] at q
  exact q.1.2
 have K2 : Hid (∀ W, Below y1.heap.size y1 W → Calls Tryz.prog 17 #[tv mm.C mm.l mm.e, .slice Cc nc cc] W (GivesInts W (curveTo h.hei k2 mm.l))) := Lib.hid fun W hW => scurve_to mm.C Cc mm.l mm.e nc cc h.hei k2 W ((hin.below hW).2.2) (by have := ((hin.below hW).2.2).1; have := (tabOk_len htt2).2; omega) (tab_wide htt2) HKC.out.1 HKC.out.2.1 (HKC.out.2.2.below (below_then HE.out (below_then hq hW)))
 have L2 : Hid (∀ (W : World) (u : Int) (cb : Nat) (cc' : Nat), Below y1.heap.size y1 W → IntsP W (some ⟨cb, 0, none⟩) (curveTo h.hei k2 mm.l) → firstX h.hei ≤ u → u ≤ lastX h.hei → Calls Tryz.prog 16 #[tv mm.C mm.l mm.e, .slice (some ⟨cb, 0, none⟩) mm.l cc', .int .i64 u] W fun e w' => (∃ num den, e = .returned (.tuple #[.int .i64 num, .int .i64 den]) ∧ ValOf h.hei (curveTo h.hei k2 mm.l) u num den) ∧ Below W.heap.size W w') := Lib.hid fun W u cb cc' hW hc g1 g2 => by
  have hT := (hin.below hW).2.2
  exact svalue_to mm.C (some ⟨cb, 0, none⟩) mm.l mm.e mm.l cc' h.hei (curveTo h.hei k2 mm.l) u W hT htt2 (by have := hT.1; omega) (by rw [curveTo_len _ _ _ (Nat.le_of_eq hT.1)]) hc (curve_inTabS k2 htt2 hT.1) g1 g2
 have I2 : Hid (InTab h.hei (curveTo h.hei k2 mm.l) ∧ (curveTo h.hei k2 mm.l).length = mm.l ∧ 0 < mm.l) := Lib.hid ⟨curve_inTabS k2 htt2 hin.2.2.1, curveTo_len _ _ _ (Nat.le_of_eq hin.2.2.1), by have := hin.2.2.1; omega⟩
 have PL : Hid (firstX h.vol = firstX h.mom ∧ lastX h.vol = lastX h.mom ∧ firstX h.vol = firstX h.hei ∧ lastX h.vol = lastX h.hei ∧ 0 ≤ firstX h.vol ∧ lastX h.vol ≤ 1000000) := Lib.hid (by
  have q1 := (hold_parts HSV.out).2.2.1.1; have q2 := (hold_parts HSV.out).2.2.1.2
  have q3 := tab_places htt0
  unfold alongS at q1 q2
  simp only [Bool.and_eq_true, decide_eq_true_eq] at q1 q2
  omega)
 have BA : Hid (∀ u d n1 e1 n2 e2 n3 e3 : Int, 3 ≤ f.st ∧ f.st ≤ 5 → f.x0 ≤ u ∧ u ≤ f.x1 → f.d0 ≤ d ∧ d ≤ f.d1 → ValOf h.vol (curveTo h.vol k0 mm.n) u n1 e1 → ValOf h.mom (curveTo h.mom k1 mm.m) u n2 e2 → ValOf h.hei (curveTo h.hei k2 mm.l) u n3 e3 → _) := Lib.hid fun u d n1 e1 n2 e2 n3 e3 s3 hu hd g1 g2 g3 => bounds_all HF0.out s3 hu hd I0.out.1 g1 I1.out.1 g2 I2.out.1 g3
 have FD : Hid ((3 ≤ f.st ∧ f.st ≤ 5 → inB f.x0 f.x1 (firstX h.vol) (lastX h.vol) = true) ∧ (0 ≤ f.d0 ∧ f.d0 ≤ f.d1 ∧ f.d1 ≤ 2000)) := Lib.hid ⟨fun s => fill_place HF0.out s.1, fill_dens HF0.out⟩
 have HK1 := Lib.hid ((HK.out.on hq).new 50 (holdCells h mm)); have HY1 := Lib.hid (below_alloc1 y1 (.cells (holdCells h mm) 50))
 have HE1 := Lib.hid (below_then HE.out hq)
 clear hq hin htt0 htt1 htt2 hl2_0 hl2_1 hl2_2 C1 CF HSV HF0 HE HK r_0 r_1 r_2 r_3 HKA HKB HKC
 generalize volS h f = VO at *
 generalize momS h f = MO at *
 generalize heiS h f = HO at *
 generalize denS h f VO = MA at *
 generalize denS h f MO = GE at *
 obtain ⟨hid, al, ah, vol, mom, hei, t0, t1, u0, u1, v0, v1, h0, h1⟩ := h
 obtain ⟨A, n, c, B, mm, d, C, l, ee⟩ := mm
 obtain ⟨fh, fs, p0, p1, d0, d1⟩ := f
 obtain ⟨va, vb⟩ := VO
 obtain ⟨ga, gb⟩ := MO
 obtain ⟨ia, ib⟩ := HO
 obtain ⟨ma, mb⟩ := MA
 obtain ⟨ea, eb⟩ := GE
 dsimp only at HIH C2 D0 D1 D2 D3 D4 D5 K0 K1 K2 L0 L1 L2 I0 I1 I2 PL BA FD HK1
 go_upto_region 2 with fail
 obtain ⟨W1, hW⟩ : ∃ W', y1.alloc (.cells #[.int .i64 hid, .int .i64 al, .int .i64 ah, .slice A n c, .slice B mm d, .slice C l ee, .int .i64 t0, .int .i64 t1, .int .i64 u0, .int .i64 u1, .int .i64 v0, .int .i64 v1, .int .i64 h0, .int .i64 h1] 50) = W' := ⟨_, rfl⟩
 rw [hW] at HK1 HY1 ⊢
 clear hW
 obtain ⟨N7, hN⟩ : ∃ n, y1.heap.size = n := ⟨_, rfl⟩
 rw [hN] at HK1 ⊢
 clear hN
 have h_ := HK1.out _ (.head _)
 have h_0 := h_.cell 0
 have h_1 := h_.cell 1
 have h_2 := h_.cell 2
 have h_3 := h_.cell 3
 have h_4 := h_.cell 4
 have h_5 := h_.cell 5
 have h_6 := h_.cell 6
 have h_7 := h_.cell 7
 have h_8 := h_.cell 8
 have h_9 := h_.cell 9
 have h_10 := h_.cell 10
 have h_11 := h_.cell 11
 have h_12 := h_.cell 12
 have h_13 := h_.cell 13
 simp at h_0 h_1 h_2 h_3 h_4 h_5 h_6 h_7 h_8 h_9 h_10 h_11 h_12 h_13
 clear h_
 have x_ := HK1.out _ (.tail _ (.tail _ (.head _)))
 have x_0 := x_.cell 0
 have x_1 := x_.cell 1
 have x_2 := x_.cell 2
 have x_3 := x_.cell 3
 have x_4 := x_.cell 4
 simp at x_0 x_1 x_2 x_3 x_4
 clear x_
 go_wp2_with fail
 refine (C2.out _ HY1.out).mono ?_
 rintro e y2 ⟨rfl, hq⟩
 have HK2 := Lib.hid ((HK1.out.on hq).new 53 #[.int .i64 fh, .int .i64 fs, .int .i64 p0, .int .i64 p1, .int .i64 d0, .int .i64 d1]); have HY2 := Lib.hid (below_then (below_then HY1.out hq) (below_alloc1 y2 (.cells #[.int .i64 fh, .int .i64 fs, .int .i64 p0, .int .i64 p1, .int .i64 d0, .int .i64 d1] 53)))
 clear hq HK1 HY1 C2 h_0 h_1 h_2 h_3 h_4 h_5 h_6 h_7 h_8 h_9 h_10 h_11 h_12 h_13 x_0 x_1 x_2 x_3 x_4
 go_upto_region 3 with fail
 obtain ⟨W2, hW⟩ : ∃ W', y2.alloc (.cells #[.int .i64 fh, .int .i64 fs, .int .i64 p0, .int .i64 p1, .int .i64 d0, .int .i64 d1] 53) = W' := ⟨_, rfl⟩
 rw [hW] at HK2 HY2 ⊢
 clear hW
 obtain ⟨N8, hN⟩ : ∃ n, y2.heap.size = n := ⟨_, rfl⟩
 rw [hN] at HK2 ⊢
 clear hN
 by_cases hf3 : 3 ≤ fs ∧ fs ≤ 5
 rotate_left
 ·skip
  have CFR : Hid (∀ W, Calls Tryz.prog 13 #[.int .i64 fs] W fun e w' => e = .returned (.bool false) ∧ Below W.heap.size W w') := Lib.hid fun W => sFree_to fs false W (decide_eq_false hf3)
  have f_ := HK2.out _ (.head _)
  have f_1 := f_.cell 1
  simp at f_1
  clear f_
  go_wp2_with fail
  refine (CFR.out _).mono ?_
  rintro e y3 ⟨rfl, hq⟩
  have HY3 := Lib.hid (below_then HY2.out hq)
  clear hq
  go_wp2_with fail
  refine (msane_any _).mono ?_
  rintro e y4 ⟨rfl, hq⟩
  have HY4 := Lib.hid (below_then HY3.out hq)
  clear hq
  go_wp2
  go_ret
  exact ⟨rfl, below_then HE1.out HY4.out⟩
 have CFR : Hid (∀ W, Calls Tryz.prog 13 #[.int .i64 fs] W fun e w' => e = .returned (.bool true) ∧ Below W.heap.size W w') := Lib.hid fun W => sFree_to fs true W (decide_eq_true hf3)
 have f_ := HK2.out _ (.head _)
 have f_1 := f_.cell 1
 simp at f_1
 clear f_
 go_wp2_with fail
 refine (CFR.out _).mono ?_
 rintro e y3 ⟨rfl, hq⟩
 have HK3 := Lib.hid (HK2.out.on hq); have HY3 := Lib.hid (below_then HY2.out hq)
 clear hq CFR HK2 HY2 f_1
 have pab := FD.out.1 hf3
 simp only [inB, decide_eq_true_eq] at pab
 have dab := FD.out.2
 have plq := PL.out
 obtain ⟨u, hu⟩ : ∃ u, p0 + pl % (p1 - p0 + 1) = u := ⟨_, rfl⟩
 obtain ⟨dd, hdd⟩ : ∃ u, d0 + de % (d1 - d0 + 1) = u := ⟨_, rfl⟩
 obtain ⟨b0, c0⟩ := emod_in pl (show (0 : Int) < p1 - p0 + 1 by omega)
 obtain ⟨b1, c1⟩ := emod_in de (show (0 : Int) < d1 - d0 + 1 by omega)
 have HU : Hid (p0 ≤ u ∧ u ≤ p1 ∧ firstX vol ≤ u ∧ u ≤ lastX vol ∧ firstX mom ≤ u ∧ u ≤ lastX mom ∧ firstX hei ≤ u ∧ u ≤ lastX hei) := Lib.hid (by omega)
 have HDD : Hid (d0 ≤ dd ∧ dd ≤ d1) := Lib.hid (by omega)
 have CSO : Hid (∀ W, Calls Tryz.prog 14 #[rv p0 p1, .int .i64 pl] W fun e w' => e = .returned (.int .i64 u) ∧ Below W.heap.size W w') := Lib.hid fun W => int_to (msomewhere_to p0 p1 pl W (by omega) (by omega) (by omega)) hu
 have CDE : Hid (∀ W, Calls Tryz.prog 15 #[rv d0 d1, .int .i64 de] W fun e w' => e = .returned (.int .i64 dd) ∧ Below W.heap.size W w') := Lib.hid fun W => int_to (mdense_to d0 d1 de W (by omega) (by omega) (by omega)) hdd
 clear pab dab plq hu hdd b0 b1 c0 c1
 have f_ := HK3.out _ (.head _)
 have f_2 := f_.cell 2
 have f_3 := f_.cell 3
 simp at f_2 f_3
 clear f_
 have y_ := HK3.out _ (.tail _ (.tail _ (.head _)))
 have y_3 := y_.cell 3
 simp at y_3
 clear y_
 go_wp2_with fail
 refine (CSO.out _).mono ?_
 rintro e y4 ⟨rfl, hq⟩
 have HK4 := Lib.hid (HK3.out.on hq); have HY4 := Lib.hid (below_then HY3.out hq)
 clear hq CSO HK3 HY3 f_2 f_3 y_3
 have f_ := HK4.out _ (.head _)
 have f_4 := f_.cell 4
 have f_5 := f_.cell 5
 simp at f_4 f_5
 clear f_
 have y_ := HK4.out _ (.tail _ (.tail _ (.head _)))
 have y_4 := y_.cell 4
 simp at y_4
 clear y_
 go_wp2_with fail
 refine (CDE.out _).mono ?_
 rintro e y5 ⟨rfl, hq⟩
 have HK5 := Lib.hid (HK4.out.on hq); have HY5 := Lib.hid (below_then HY4.out hq)
 clear hq CDE HK4 HY4 f_4 f_5 y_4
 go_upto_region 7 with fail
 rename World => z0
 obtain ⟨LB, hLB⟩ : ∃ x, ([(N8, 53, #[.int .i64 fh, .int .i64 fs, .int .i64 p0, .int .i64 p1, .int .i64 d0, .int .i64 d1]), (N7, 50, #[.int .i64 hid, .int .i64 al, .int .i64 ah, .slice A n c, .slice B mm d, .slice C l ee, .int .i64 t0, .int .i64 t1, .int .i64 u0, .int .i64 u1, .int .i64 v0, .int .i64 v1, .int .i64 h0, .int .i64 h1]), (G + 1 + 1, 45, #[.slice Ca na ca, .slice Cb nb cb, .slice Cc nc cc, .int .i64 pl, .int .i64 de]), (G + 1, 42, #[.int .i64 x0, .int .i64 x1, .int .i64 x2, .int .i64 x3, .int .i64 x4]), (G, 41, #[.int .i64 id, .int .i64 fi, .slice S sn sc, .slice V vn vc])] : List (Nat × TypeId × Array Value)) = x := ⟨_, rfl⟩
 have hl0 : (N7, 50, #[.int .i64 hid, .int .i64 al, .int .i64 ah, .slice A n c, .slice B mm d, .slice C l ee, .int .i64 t0, .int .i64 t1, .int .i64 u0, .int .i64 u1, .int .i64 v0, .int .i64 v1, .int .i64 h0, .int .i64 h1]) ∈ LB ∧ (G + 1 + 1, 45, #[.slice Ca na ca, .slice Cb nb cb, .slice Cc nc cc, .int .i64 pl, .int .i64 de]) ∈ LB := by rw [← hLB]; simp
 have HL0 := Lib.hid hl0
 have HX0 := Lib.hid (show Boxes z0 LB by rw [← hLB]; exact HK5.out); have HB0 := HY5
 have HLB := Lib.hid hLB
 clear HK5 HY5 hl0 hLB
 have hS0 : BB2 y1 LB z0.drew := ⟨HX0.out, HB0.out.drew⟩
 refine wp_region_held_drew (S := BB2 y1 LB) (by kernel_rfl) hS0 (fun hHeld => ?_)
 obtain ⟨yq, hW⟩ : ∃ W', z0.drew = W' := ⟨_, rfl⟩
 rw [hW] at hHeld ⊢
 clear hW hS0 HX0 HB0
 refine tK 51 (i := 0) (v := .pointer (some ⟨N7, 3, none⟩)) rfl rfl (by kernel_rfl) ?_ hHeld ?_
 ·intro w hSw; clear hSw; go_simp; try with_reducible rfl
 simp only [uZ, uS]
 refine tK 52 (i := 1) (v := tv A n c) rfl rfl (by kernel_rfl) ?_ hHeld ?_
 ·intro w hSw; have cx := (hSw.1 _ HL0.out.1).cell 3; simp at cx; clear hSw; go_simp; try with_reducible rfl
 simp only [uZ, uS]
 refine tK 53 (i := 2) (v := .pointer (some ⟨N7, 3, none⟩)) rfl rfl (by kernel_rfl) ?_ hHeld ?_
 ·intro w hSw; clear hSw; go_simp; try with_reducible rfl
 simp only [uZ, uS]
 refine tK 54 (i := 3) (v := tv A n c) rfl rfl (by kernel_rfl) ?_ hHeld ?_
 ·intro w hSw; have cx := (hSw.1 _ HL0.out.1).cell 3; simp at cx; clear hSw; go_simp; try with_reducible rfl
 simp only [uZ, uS]
 refine tK 55 (i := 4) (v := .pointer (some ⟨G + 1 + 1, 0, none⟩)) rfl rfl (by kernel_rfl) ?_ hHeld ?_
 ·intro w hSw; clear hSw; go_simp; try with_reducible rfl
 simp only [uZ, uS]
 refine tK 56 (i := 5) (v := .pointer (some ⟨G + 1 + 1, 0, none⟩)) rfl rfl (by kernel_rfl) ?_ hHeld ?_
 ·intro w hSw; clear hSw; go_simp; try with_reducible rfl
 simp only [uZ, uS]
 refine tK 57 (i := 6) (v := .slice Ca na ca) rfl rfl (by kernel_rfl) ?_ hHeld ?_
 ·intro w hSw; have cx := (hSw.1 _ HL0.out.2).cell 0; simp at cx; clear hSw; go_simp; try with_reducible rfl
 simp only [uZ, uS]
 refine tK 59 (i := 8) (v := .int .i64 u) rfl rfl (by kernel_rfl) ?_ hHeld ?_
 ·intro w hSw; clear hSw; go_simp; try with_reducible rfl
 simp only [uZ, uS]
 refine wpAnyH_ready (rs := [7]) (by kernel_rfl) (by simp) ?_
 refine AllReadyH.cons rfl (fun K hK => ?_) AllReadyH.nil
 go_simp
 (with_reducible refine (K0.out _ hHeld.be2).mono ?_)
 rintro x y ⟨cv, rfl, ho, hq⟩
 obtain ⟨qb, qc, rfl, _, clt, hcm⟩ := own_ints_memN ho I0.out.2.1 I0.out.2.2
 have HCI := Lib.hid (show IntsP y (some ⟨qb, 0, none⟩) (curveTo vol k0 n) from .inr ⟨qb, 0, rfl, clt, hcm⟩)
 refine hK.out _ _ ⟨hHeld.1.on hq, below_then hHeld.2 hq⟩ (fun hHeld2 => ?_)
 clear hq ho clt hcm
 try simp only [Act.put, uA, uZ, uS]
 clear hK K hHeld
 have hHeld := hHeld2
 clear hHeld2
 refine wpAnyH_ready (rs := [9]) (by kernel_rfl) (by simp) ?_
 refine AllReadyH.cons rfl (fun K hK => ?_) AllReadyH.nil
 go_simp
 (with_reducible refine (L0.out _ u qb qc hHeld.be2 HCI.out HU.out.2.2.1 HU.out.2.2.2.1).mono ?_)
 rintro x y ⟨⟨n1, e1, rfl, hval⟩, hq⟩
 have HV0 := Lib.hid hval
 refine hK.out _ _ ⟨hHeld.1.on hq, below_then hHeld.2 hq⟩ (fun hHeld2 => ?_)
 clear hq hval HCI
 try simp only [Act.put, uA, uZ, uS]
 clear hK K hHeld
 have hHeld := hHeld2
 clear hHeld2
 refine tK 50 (i := 10) (v := .tuple #[.int .i64 n1, .int .i64 e1]) rfl rfl (by kernel_rfl) ?_ hHeld ?_
 ·intro w hSw; clear hSw; go_simp; try with_reducible rfl
 simp only [uZ, uS]
 refine tK 61 (i := 11) (v := .int .i64 n1) rfl rfl (by kernel_rfl) ?_ hHeld ?_
 ·intro w hSw; clear hSw; go_simp; try with_reducible rfl
 simp only [uZ, uS]
 refine tK 62 (i := 12) (v := .int .i64 e1) rfl rfl (by kernel_rfl) ?_ hHeld ?_
 ·intro w hSw; clear hSw; go_simp; try with_reducible rfl
 simp only [uZ, uS]
 refine tK 11 (i := 13) (v := .int .i64 n1) rfl rfl (by kernel_rfl) ?_ hHeld ?_
 ·intro w hSw; clear hSw; go_simp; try with_reducible rfl
 simp only [uZ, uS]
 refine tK 12 (i := 14) (v := .int .i64 e1) rfl rfl (by kernel_rfl) ?_ hHeld ?_
 ·intro w hSw; clear hSw; go_simp; try with_reducible rfl
 simp only [uZ, uS]
 refine wpAnyH_done (by kernel_rfl) ?_ _
 rename World => z1
 have HX1 := Lib.hid (show Boxes z1 LB from hHeld.1); have HB1 := Lib.hid hHeld.2
 clear hHeld K0 L0 I0
 go_upto_region 8 with fail
 have hS0 : BB2 y1 LB z1.drew := ⟨HX1.out, HB1.out.drew⟩
 refine wp_region_held_drew (S := BB2 y1 LB) (by kernel_rfl) hS0 (fun hHeld => ?_)
 obtain ⟨yq, hW⟩ : ∃ W', z1.drew = W' := ⟨_, rfl⟩
 rw [hW] at hHeld ⊢
 clear hW hS0 HX1 HB1
 refine tK 64 (i := 0) (v := .pointer (some ⟨N7, 4, none⟩)) rfl rfl (by kernel_rfl) ?_ hHeld ?_
 ·intro w hSw; clear hSw; go_simp; try with_reducible rfl
 simp only [uZ, uS]
 refine tK 65 (i := 1) (v := tv B mm d) rfl rfl (by kernel_rfl) ?_ hHeld ?_
 ·intro w hSw; have cx := (hSw.1 _ HL0.out.1).cell 4; simp at cx; clear hSw; go_simp; try with_reducible rfl
 simp only [uZ, uS]
 refine tK 66 (i := 2) (v := .pointer (some ⟨N7, 4, none⟩)) rfl rfl (by kernel_rfl) ?_ hHeld ?_
 ·intro w hSw; clear hSw; go_simp; try with_reducible rfl
 simp only [uZ, uS]
 refine tK 67 (i := 3) (v := tv B mm d) rfl rfl (by kernel_rfl) ?_ hHeld ?_
 ·intro w hSw; have cx := (hSw.1 _ HL0.out.1).cell 4; simp at cx; clear hSw; go_simp; try with_reducible rfl
 simp only [uZ, uS]
 refine tK 68 (i := 4) (v := .pointer (some ⟨G + 1 + 1, 0, none⟩)) rfl rfl (by kernel_rfl) ?_ hHeld ?_
 ·intro w hSw; clear hSw; go_simp; try with_reducible rfl
 simp only [uZ, uS]
 refine tK 69 (i := 5) (v := .pointer (some ⟨G + 1 + 1, 1, none⟩)) rfl rfl (by kernel_rfl) ?_ hHeld ?_
 ·intro w hSw; clear hSw; go_simp; try with_reducible rfl
 simp only [uZ, uS]
 refine tK 70 (i := 6) (v := .slice Cb nb cb) rfl rfl (by kernel_rfl) ?_ hHeld ?_
 ·intro w hSw; have cx := (hSw.1 _ HL0.out.2).cell 1; simp at cx; clear hSw; go_simp; try with_reducible rfl
 simp only [uZ, uS]
 refine tK 72 (i := 8) (v := .int .i64 u) rfl rfl (by kernel_rfl) ?_ hHeld ?_
 ·intro w hSw; clear hSw; go_simp; try with_reducible rfl
 simp only [uZ, uS]
 refine wpAnyH_ready (rs := [7]) (by kernel_rfl) (by simp) ?_
 refine AllReadyH.cons rfl (fun K hK => ?_) AllReadyH.nil
 go_simp
 (with_reducible refine (K1.out _ hHeld.be2).mono ?_)
 rintro x y ⟨cv, rfl, ho, hq⟩
 obtain ⟨qb, qc, rfl, _, clt, hcm⟩ := own_ints_memN ho I1.out.2.1 I1.out.2.2
 have HCI := Lib.hid (show IntsP y (some ⟨qb, 0, none⟩) (curveTo mom k1 mm) from .inr ⟨qb, 0, rfl, clt, hcm⟩)
 refine hK.out _ _ ⟨hHeld.1.on hq, below_then hHeld.2 hq⟩ (fun hHeld2 => ?_)
 clear hq ho clt hcm
 try simp only [Act.put, uA, uZ, uS]
 clear hK K hHeld
 have hHeld := hHeld2
 clear hHeld2
 refine wpAnyH_ready (rs := [9]) (by kernel_rfl) (by simp) ?_
 refine AllReadyH.cons rfl (fun K hK => ?_) AllReadyH.nil
 go_simp
 (with_reducible refine (L1.out _ u qb qc hHeld.be2 HCI.out HU.out.2.2.2.2.1 HU.out.2.2.2.2.2.1).mono ?_)
 rintro x y ⟨⟨n2, e2, rfl, hval⟩, hq⟩
 have HV1 := Lib.hid hval
 refine hK.out _ _ ⟨hHeld.1.on hq, below_then hHeld.2 hq⟩ (fun hHeld2 => ?_)
 clear hq hval HCI
 try simp only [Act.put, uA, uZ, uS]
 clear hK K hHeld
 have hHeld := hHeld2
 clear hHeld2
 refine tK 63 (i := 10) (v := .tuple #[.int .i64 n2, .int .i64 e2]) rfl rfl (by kernel_rfl) ?_ hHeld ?_
 ·intro w hSw; clear hSw; go_simp; try with_reducible rfl
 simp only [uZ, uS]
 refine tK 74 (i := 11) (v := .int .i64 n2) rfl rfl (by kernel_rfl) ?_ hHeld ?_
 ·intro w hSw; clear hSw; go_simp; try with_reducible rfl
 simp only [uZ, uS]
 refine tK 75 (i := 12) (v := .int .i64 e2) rfl rfl (by kernel_rfl) ?_ hHeld ?_
 ·intro w hSw; clear hSw; go_simp; try with_reducible rfl
 simp only [uZ, uS]
 refine tK 13 (i := 13) (v := .int .i64 n2) rfl rfl (by kernel_rfl) ?_ hHeld ?_
 ·intro w hSw; clear hSw; go_simp; try with_reducible rfl
 simp only [uZ, uS]
 refine tK 14 (i := 14) (v := .int .i64 e2) rfl rfl (by kernel_rfl) ?_ hHeld ?_
 ·intro w hSw; clear hSw; go_simp; try with_reducible rfl
 simp only [uZ, uS]
 refine wpAnyH_done (by kernel_rfl) ?_ _
 rename World => z2
 have HX2 := Lib.hid (show Boxes z2 LB from hHeld.1); have HB2 := Lib.hid hHeld.2
 clear hHeld K1 L1 I1
 go_upto_region 9 with fail
 have hS0 : BB2 y1 LB z2.drew := ⟨HX2.out, HB2.out.drew⟩
 refine wp_region_held_drew (S := BB2 y1 LB) (by kernel_rfl) hS0 (fun hHeld => ?_)
 obtain ⟨yq, hW⟩ : ∃ W', z2.drew = W' := ⟨_, rfl⟩
 rw [hW] at hHeld ⊢
 clear hW hS0 HX2 HB2
 refine tK 77 (i := 0) (v := .pointer (some ⟨N7, 5, none⟩)) rfl rfl (by kernel_rfl) ?_ hHeld ?_
 ·intro w hSw; clear hSw; go_simp; try with_reducible rfl
 simp only [uZ, uS]
 refine tK 78 (i := 1) (v := tv C l ee) rfl rfl (by kernel_rfl) ?_ hHeld ?_
 ·intro w hSw; have cx := (hSw.1 _ HL0.out.1).cell 5; simp at cx; clear hSw; go_simp; try with_reducible rfl
 simp only [uZ, uS]
 refine tK 79 (i := 2) (v := .pointer (some ⟨N7, 5, none⟩)) rfl rfl (by kernel_rfl) ?_ hHeld ?_
 ·intro w hSw; clear hSw; go_simp; try with_reducible rfl
 simp only [uZ, uS]
 refine tK 80 (i := 3) (v := tv C l ee) rfl rfl (by kernel_rfl) ?_ hHeld ?_
 ·intro w hSw; have cx := (hSw.1 _ HL0.out.1).cell 5; simp at cx; clear hSw; go_simp; try with_reducible rfl
 simp only [uZ, uS]
 refine tK 81 (i := 4) (v := .pointer (some ⟨G + 1 + 1, 0, none⟩)) rfl rfl (by kernel_rfl) ?_ hHeld ?_
 ·intro w hSw; clear hSw; go_simp; try with_reducible rfl
 simp only [uZ, uS]
 refine tK 82 (i := 5) (v := .pointer (some ⟨G + 1 + 1, 2, none⟩)) rfl rfl (by kernel_rfl) ?_ hHeld ?_
 ·intro w hSw; clear hSw; go_simp; try with_reducible rfl
 simp only [uZ, uS]
 refine tK 83 (i := 6) (v := .slice Cc nc cc) rfl rfl (by kernel_rfl) ?_ hHeld ?_
 ·intro w hSw; have cx := (hSw.1 _ HL0.out.2).cell 2; simp at cx; clear hSw; go_simp; try with_reducible rfl
 simp only [uZ, uS]
 refine tK 85 (i := 8) (v := .int .i64 u) rfl rfl (by kernel_rfl) ?_ hHeld ?_
 ·intro w hSw; clear hSw; go_simp; try with_reducible rfl
 simp only [uZ, uS]
 refine wpAnyH_ready (rs := [7]) (by kernel_rfl) (by simp) ?_
 refine AllReadyH.cons rfl (fun K hK => ?_) AllReadyH.nil
 go_simp
 (with_reducible refine (K2.out _ hHeld.be2).mono ?_)
 rintro x y ⟨cv, rfl, ho, hq⟩
 obtain ⟨qb, qc, rfl, _, clt, hcm⟩ := own_ints_memN ho I2.out.2.1 I2.out.2.2
 have HCI := Lib.hid (show IntsP y (some ⟨qb, 0, none⟩) (curveTo hei k2 l) from .inr ⟨qb, 0, rfl, clt, hcm⟩)
 refine hK.out _ _ ⟨hHeld.1.on hq, below_then hHeld.2 hq⟩ (fun hHeld2 => ?_)
 clear hq ho clt hcm
 try simp only [Act.put, uA, uZ, uS]
 clear hK K hHeld
 have hHeld := hHeld2
 clear hHeld2
 refine wpAnyH_ready (rs := [9]) (by kernel_rfl) (by simp) ?_
 refine AllReadyH.cons rfl (fun K hK => ?_) AllReadyH.nil
 go_simp
 (with_reducible refine (L2.out _ u qb qc hHeld.be2 HCI.out HU.out.2.2.2.2.2.2.1 HU.out.2.2.2.2.2.2.2).mono ?_)
 rintro x y ⟨⟨n3, e3, rfl, hval⟩, hq⟩
 have HV2 := Lib.hid hval
 refine hK.out _ _ ⟨hHeld.1.on hq, below_then hHeld.2 hq⟩ (fun hHeld2 => ?_)
 clear hq hval HCI
 try simp only [Act.put, uA, uZ, uS]
 clear hK K hHeld
 have hHeld := hHeld2
 clear hHeld2
 refine tK 76 (i := 10) (v := .tuple #[.int .i64 n3, .int .i64 e3]) rfl rfl (by kernel_rfl) ?_ hHeld ?_
 ·intro w hSw; clear hSw; go_simp; try with_reducible rfl
 simp only [uZ, uS]
 refine tK 87 (i := 11) (v := .int .i64 n3) rfl rfl (by kernel_rfl) ?_ hHeld ?_
 ·intro w hSw; clear hSw; go_simp; try with_reducible rfl
 simp only [uZ, uS]
 refine tK 88 (i := 12) (v := .int .i64 e3) rfl rfl (by kernel_rfl) ?_ hHeld ?_
 ·intro w hSw; clear hSw; go_simp; try with_reducible rfl
 simp only [uZ, uS]
 refine tK 15 (i := 13) (v := .int .i64 n3) rfl rfl (by kernel_rfl) ?_ hHeld ?_
 ·intro w hSw; clear hSw; go_simp; try with_reducible rfl
 simp only [uZ, uS]
 refine tK 16 (i := 14) (v := .int .i64 e3) rfl rfl (by kernel_rfl) ?_ hHeld ?_
 ·intro w hSw; clear hSw; go_simp; try with_reducible rfl
 simp only [uZ, uS]
 refine wpAnyH_done (by kernel_rfl) ?_ _
 rename World => z3
 have HX3 := Lib.hid (show Boxes z3 LB from hHeld.1); have HB3 := Lib.hid hHeld.2
 clear hHeld K2 L2 I2
 rw [← HLB.out] at HX3
 obtain ⟨M, hM, a1, a2, a3, a4, a5, s1, s2, s3, q1, q2, q3, q4, q5, dn, dx⟩ := BA.out u dd n1 e1 n2 e2 n3 e3 hf3 ⟨HU.out.1, HU.out.2.1⟩ HDD.out HV0.out HV1.out HV2.out
 unfold Amt at q1 q2 q3
 unfold WgtY at q4 q5
 dsimp only at hM a1 a2 a3 a4 a5 q1 q2 q3 q4 q5
 have HM := Lib.hid hM
 clear hM HV0 HV1 HV2 BA HU HDD HL0 HLB PL FD
 have r1 := prod_le q1.1 (Int.le_trans q1.2.1 q1.2.2) (Int.le_of_lt s1.1) s1.2
 have r2 := prod_le (show 0 ≤ vb by omega) q1.2.2 (Int.le_of_lt s1.1) s1.2
 have r3 := prod_le q2.1 (Int.le_trans q2.2.1 q2.2.2) (Int.le_of_lt s2.1) s2.2
 have r4 := prod_le (show 0 ≤ gb by omega) q2.2.2 (Int.le_of_lt s2.1) s2.2
 have r5 := prod_le q3.1 (Int.le_trans q3.2.1 q3.2.2) (Int.le_of_lt s3.1) s3.2
 have r6 := prod_le (show 0 ≤ ib by omega) q3.2.2 (Int.le_of_lt s3.1) s3.2
 have r7 := prod_le (show 0 ≤ n1 by omega) (show n1 ≤ 1000000000 * 1000000 by omega) dn dx
 have r8 := prod_le (show 0 ≤ M by omega) (show M ≤ 1000000000 * 1000000 by omega) dn dx
 have r9 := prod_le q4.1 (Int.le_trans q4.2.1 q4.2.2) (show 0 ≤ 1000 * e1 by omega) (show 1000 * e1 ≤ 1000000000 by omega)
 have r10 := prod_le (show 0 ≤ mb by omega) q4.2.2 (show 0 ≤ 1000 * e1 by omega) (show 1000 * e1 ≤ 1000000000 by omega)
 have r11 := prod_le q5.1 (Int.le_trans q5.2.1 q5.2.2) (show 0 ≤ 1000 * e2 by omega) (show 1000 * e2 ≤ 1000000000 by omega)
 have r12 := prod_le (show 0 ≤ eb by omega) q5.2.2 (show 0 ≤ 1000 * e2 by omega) (show 1000 * e2 ≤ 1000000000 by omega)
 have W1 : Hid (∀ W, Calls Tryz.prog 24 #[rv va vb, .int .i64 n1, .int .i64 e1] W fun e w' => e = .returned (.bool true) ∧ Below W.heap.size W w') := Lib.hid fun W => swithin_yes va vb n1 e1 W a1.1 a1.2 (by omega) (by omega) (by omega)
 have W2 : Hid (∀ W, Calls Tryz.prog 24 #[rv ma mb, .int .i64 (n1 * dd), .int .i64 (1000 * e1)] W fun e w' => e = .returned (.bool true) ∧ Below W.heap.size W w') := Lib.hid fun W => swithin_yes ma mb (n1 * dd) (1000 * e1) W a2.1 a2.2 (by omega) (by omega) (by omega)
 have W3 : Hid (∀ W, Calls Tryz.prog 24 #[rv ga gb, .int .i64 M, .int .i64 e2] W fun e w' => e = .returned (.bool true) ∧ Below W.heap.size W w') := Lib.hid fun W => swithin_yes ga gb M e2 W a3.1 a3.2 (by omega) (by omega) (by omega)
 have W4 : Hid (∀ W, Calls Tryz.prog 24 #[rv ea eb, .int .i64 (M * dd), .int .i64 (1000 * e2)] W fun e w' => e = .returned (.bool true) ∧ Below W.heap.size W w') := Lib.hid fun W => swithin_yes ea eb (M * dd) (1000 * e2) W a4.1 a4.2 (by omega) (by omega) (by omega)
 have W5 : Hid (∀ W, Calls Tryz.prog 24 #[rv ia ib, .int .i64 n3, .int .i64 e3] W fun e w' => e = .returned (.bool true) ∧ Below W.heap.size W w') := Lib.hid fun W => swithin_yes ia ib n3 e3 W a5.1 a5.2 (by omega) (by omega) (by omega)
 have g1 : IntKind.i64.wrap (n1 * dd) = n1 * dd := IntWalk.i64_in _ ⟨by omega, by omega⟩
 have g2 : IntKind.i64.wrap (1000 * e1) = 1000 * e1 := IntWalk.i64_in _ ⟨by omega, by omega⟩
 have g3 : IntKind.i64.wrap (M * dd) = M * dd := IntWalk.i64_in _ ⟨by omega, by omega⟩
 have g4 : IntKind.i64.wrap (1000 * e2) = 1000 * e2 := IntWalk.i64_in _ ⟨by omega, by omega⟩
 obtain ⟨nd, hnd⟩ : ∃ z, n1 * dd = z := ⟨_, rfl⟩
 obtain ⟨te1, hte1⟩ : ∃ z, 1000 * e1 = z := ⟨_, rfl⟩
 obtain ⟨md, hmd⟩ : ∃ z, M * dd = z := ⟨_, rfl⟩
 obtain ⟨te2, hte2⟩ : ∃ z, 1000 * e2 = z := ⟨_, rfl⟩
 rw [hnd, hte1] at W2
 rw [hmd, hte2] at W4
 replace g1 := g1.trans hnd
 replace g2 := g2.trans hte1
 replace g3 := g3.trans hmd
 replace g4 := g4.trans hte2
 have GG := Lib.hid (And.intro g1 (And.intro g2 (And.intro g3 g4)))
 clear a1 a2 a3 a4 a5 s1 s2 s3 q1 q2 q3 q4 q5 dn dx r1 r2 r3 r4 r5 r6 r7 r8 r9 r10 r11 r12 g1 g2 g3 g4 hnd hte1 hmd hte2
 go_upto_region 10 with fail
 go_cut [91] (fun s wx => ∃ q : Bool, s = .bool q ∧ (q = true → (0 : Int) = M) ∧ (q = false → n2 = M) ∧ Boxes wx [(N8, 53, #[.int .i64 fh, .int .i64 fs, .int .i64 p0, .int .i64 p1, .int .i64 d0, .int .i64 d1]), (N7, 50, #[.int .i64 hid, .int .i64 al, .int .i64 ah, .slice A n c, .slice B mm d, .slice C l ee, .int .i64 t0, .int .i64 t1, .int .i64 u0, .int .i64 u1, .int .i64 v0, .int .i64 v1, .int .i64 h0, .int .i64 h1]), (G + 1 + 1, 45, #[.slice Ca na ca, .slice Cb nb cb, .slice Cc nc cc, .int .i64 pl, .int .i64 de]), (G + 1, 42, #[.int .i64 x0, .int .i64 x1, .int .i64 x2, .int .i64 x3, .int .i64 x4]), (G, 41, #[.int .i64 id, .int .i64 fi, .slice S sn sc, .slice V vn vc])] ∧ Below y1.heap.size y1 wx)
 case first =>
  by_cases g3 : fs = 3
  ·have b1 : (fs != 3) = false := by simp [g3]
   have b2 : (fs == 3) = true := by simp [g3]
   have HMM : Hid (n2 = M) := Lib.hid (by rw [← HM.out, if_pos g3])
   clear g3
   have f_ := HX3.out _ (.head _)
   have f_1 := f_.cell 1
   simp at f_1
   clear f_
   go_wp2_with fail
   go_meet
   exact ⟨false, rfl, (fun q => by cases q), (fun _ => HMM.out), HX3.out, HB3.out⟩
  ·have b1 : (fs != 3) = true := bne_iff_ne.2 g3
   have b2 : (fs == 3) = false := beq_eq_false_iff_ne.2 g3
   have HMM : Hid ((0 : Int) = M) := Lib.hid (by rw [← HM.out, if_neg g3])
   clear g3
   have f_ := HX3.out _ (.head _)
   have f_1 := f_.cell 1
   simp at f_1
   clear f_
   go_wp2_with fail
   go_meet
   exact ⟨true, rfl, (fun _ => HMM.out), (fun q => by cases q), HX3.out, HB3.out⟩
 case rest =>
  obtain ⟨cc91, rfl, hm1, hm2, hX, hB⟩ := hcut
  have HX3b := Lib.hid hX; have HB3b := Lib.hid hB; have HM1 := Lib.hid hm1; have HM2 := Lib.hid hm2
  clear hX hB hm1 hm2 HX3 HB3 HM
  go_upto_if 91 with fail
  go_cut [13] (fun s wx => s = .int .i64 M ∧ Boxes wx [(N8, 53, #[.int .i64 fh, .int .i64 fs, .int .i64 p0, .int .i64 p1, .int .i64 d0, .int .i64 d1]), (N7, 50, #[.int .i64 hid, .int .i64 al, .int .i64 ah, .slice A n c, .slice B mm d, .slice C l ee, .int .i64 t0, .int .i64 t1, .int .i64 u0, .int .i64 u1, .int .i64 v0, .int .i64 v1, .int .i64 h0, .int .i64 h1]), (G + 1 + 1, 45, #[.slice Ca na ca, .slice Cb nb cb, .slice Cc nc cc, .int .i64 pl, .int .i64 de]), (G + 1, 42, #[.int .i64 x0, .int .i64 x1, .int .i64 x2, .int .i64 x3, .int .i64 x4]), (G, 41, #[.int .i64 id, .int .i64 fi, .slice S sn sc, .slice V vn vc])] ∧ Below y1.heap.size y1 wx)
  case first =>
   cases cc91
   ·go_wp2_with fail
    go_meet
    exact ⟨by rw [HM2.out (by trivial)], HX3b.out, HB3b.out⟩
   ·go_wp2_with fail
    go_meet
    exact ⟨by rw [← HM1.out (by trivial)], HX3b.out, HB3b.out⟩
  case rest =>
  obtain ⟨rfl, hX, hB⟩ := hcut
  have HX4 := Lib.hid hX; have HB4 := Lib.hid hB
  clear hX hB HX3b HB3b HM1 HM2
  rename World => z4
  have f_ := HX4.out _ (.head _)
  have f_0 := f_.cell 0
  have f_1 := f_.cell 1
  have f_2 := f_.cell 2
  have f_3 := f_.cell 3
  have f_4 := f_.cell 4
  have f_5 := f_.cell 5
  simp at f_0 f_1 f_2 f_3 f_4 f_5
  clear f_
  have h_ := HX4.out _ (.tail _ (.head _))
  have h_0 := h_.cell 0
  have h_1 := h_.cell 1
  have h_2 := h_.cell 2
  have h_3 := h_.cell 3
  have h_4 := h_.cell 4
  have h_5 := h_.cell 5
  have h_6 := h_.cell 6
  have h_7 := h_.cell 7
  have h_8 := h_.cell 8
  have h_9 := h_.cell 9
  have h_10 := h_.cell 10
  have h_11 := h_.cell 11
  have h_12 := h_.cell 12
  have h_13 := h_.cell 13
  simp at h_0 h_1 h_2 h_3 h_4 h_5 h_6 h_7 h_8 h_9 h_10 h_11 h_12 h_13
  clear h_
  go_wp2_with fail
  refine (D0.out _ HB4.out).mono ?_
  rintro e v0 ⟨rfl, hq⟩
  have HXn := Lib.hid ((HX4.out.on hq).new 30 #[.int .i64 va, .int .i64 vb]); have HBn := Lib.hid (below_then (below_then HB4.out hq) (below_alloc1 v0 (.cells #[.int .i64 va, .int .i64 vb] 30)))
  clear hq HX4 HB4 D0 f_0 f_1 f_2 f_3 f_4 f_5 h_0 h_1 h_2 h_3 h_4 h_5 h_6 h_7 h_8 h_9 h_10 h_11 h_12 h_13
  go_upto_region 13 with fail
  obtain ⟨V0, hW⟩ : ∃ W', v0.alloc (.cells #[.int .i64 va, .int .i64 vb] 30) = W' := ⟨_, rfl⟩
  rw [hW] at HXn HBn ⊢
  clear hW
  obtain ⟨M0, hN⟩ : ∃ n, v0.heap.size = n := ⟨_, rfl⟩
  rw [hN] at HXn ⊢
  clear hN
  have HX_0 := HXn; have HB_0 := HBn
  clear HXn HBn
  have f_ := HX_0.out _ (.tail _ (.head _))
  have f_0 := f_.cell 0
  have f_1 := f_.cell 1
  have f_2 := f_.cell 2
  have f_3 := f_.cell 3
  have f_4 := f_.cell 4
  have f_5 := f_.cell 5
  simp at f_0 f_1 f_2 f_3 f_4 f_5
  clear f_
  have h_ := HX_0.out _ (.tail _ (.tail _ (.head _)))
  have h_0 := h_.cell 0
  have h_1 := h_.cell 1
  have h_2 := h_.cell 2
  have h_3 := h_.cell 3
  have h_4 := h_.cell 4
  have h_5 := h_.cell 5
  have h_6 := h_.cell 6
  have h_7 := h_.cell 7
  have h_8 := h_.cell 8
  have h_9 := h_.cell 9
  have h_10 := h_.cell 10
  have h_11 := h_.cell 11
  have h_12 := h_.cell 12
  have h_13 := h_.cell 13
  simp at h_0 h_1 h_2 h_3 h_4 h_5 h_6 h_7 h_8 h_9 h_10 h_11 h_12 h_13
  clear h_
  go_wp2_with fail
  refine (D1.out _ HB_0.out).mono ?_
  rintro e v1 ⟨rfl, hq⟩
  have HXn := Lib.hid ((HX_0.out.on hq).new 30 #[.int .i64 ma, .int .i64 mb]); have HBn := Lib.hid (below_then (below_then HB_0.out hq) (below_alloc1 v1 (.cells #[.int .i64 ma, .int .i64 mb] 30)))
  clear hq HX_0 HB_0 D1 f_0 f_1 f_2 f_3 f_4 f_5 h_0 h_1 h_2 h_3 h_4 h_5 h_6 h_7 h_8 h_9 h_10 h_11 h_12 h_13
  go_upto_region 14 with fail
  obtain ⟨V1, hW⟩ : ∃ W', v1.alloc (.cells #[.int .i64 ma, .int .i64 mb] 30) = W' := ⟨_, rfl⟩
  rw [hW] at HXn HBn ⊢
  clear hW
  obtain ⟨M1, hN⟩ : ∃ n, v1.heap.size = n := ⟨_, rfl⟩
  rw [hN] at HXn ⊢
  clear hN
  have HX_1 := HXn; have HB_1 := HBn
  clear HXn HBn
  have f_ := HX_1.out _ (.tail _ (.tail _ (.head _)))
  have f_0 := f_.cell 0
  have f_1 := f_.cell 1
  have f_2 := f_.cell 2
  have f_3 := f_.cell 3
  have f_4 := f_.cell 4
  have f_5 := f_.cell 5
  simp at f_0 f_1 f_2 f_3 f_4 f_5
  clear f_
  have h_ := HX_1.out _ (.tail _ (.tail _ (.tail _ (.head _))))
  have h_0 := h_.cell 0
  have h_1 := h_.cell 1
  have h_2 := h_.cell 2
  have h_3 := h_.cell 3
  have h_4 := h_.cell 4
  have h_5 := h_.cell 5
  have h_6 := h_.cell 6
  have h_7 := h_.cell 7
  have h_8 := h_.cell 8
  have h_9 := h_.cell 9
  have h_10 := h_.cell 10
  have h_11 := h_.cell 11
  have h_12 := h_.cell 12
  have h_13 := h_.cell 13
  simp at h_0 h_1 h_2 h_3 h_4 h_5 h_6 h_7 h_8 h_9 h_10 h_11 h_12 h_13
  clear h_
  go_wp2_with fail
  refine (D2.out _ HB_1.out).mono ?_
  rintro e v2 ⟨rfl, hq⟩
  have HXn := Lib.hid ((HX_1.out.on hq).new 30 #[.int .i64 ga, .int .i64 gb]); have HBn := Lib.hid (below_then (below_then HB_1.out hq) (below_alloc1 v2 (.cells #[.int .i64 ga, .int .i64 gb] 30)))
  clear hq HX_1 HB_1 D2 f_0 f_1 f_2 f_3 f_4 f_5 h_0 h_1 h_2 h_3 h_4 h_5 h_6 h_7 h_8 h_9 h_10 h_11 h_12 h_13
  go_upto_region 15 with fail
  obtain ⟨V2, hW⟩ : ∃ W', v2.alloc (.cells #[.int .i64 ga, .int .i64 gb] 30) = W' := ⟨_, rfl⟩
  rw [hW] at HXn HBn ⊢
  clear hW
  obtain ⟨M2, hN⟩ : ∃ n, v2.heap.size = n := ⟨_, rfl⟩
  rw [hN] at HXn ⊢
  clear hN
  have HX_2 := HXn; have HB_2 := HBn
  clear HXn HBn
  have f_ := HX_2.out _ (.tail _ (.tail _ (.tail _ (.head _))))
  have f_0 := f_.cell 0
  have f_1 := f_.cell 1
  have f_2 := f_.cell 2
  have f_3 := f_.cell 3
  have f_4 := f_.cell 4
  have f_5 := f_.cell 5
  simp at f_0 f_1 f_2 f_3 f_4 f_5
  clear f_
  have h_ := HX_2.out _ (.tail _ (.tail _ (.tail _ (.tail _ (.head _)))))
  have h_0 := h_.cell 0
  have h_1 := h_.cell 1
  have h_2 := h_.cell 2
  have h_3 := h_.cell 3
  have h_4 := h_.cell 4
  have h_5 := h_.cell 5
  have h_6 := h_.cell 6
  have h_7 := h_.cell 7
  have h_8 := h_.cell 8
  have h_9 := h_.cell 9
  have h_10 := h_.cell 10
  have h_11 := h_.cell 11
  have h_12 := h_.cell 12
  have h_13 := h_.cell 13
  simp at h_0 h_1 h_2 h_3 h_4 h_5 h_6 h_7 h_8 h_9 h_10 h_11 h_12 h_13
  clear h_
  go_wp2_with fail
  refine (D3.out _ HB_2.out).mono ?_
  rintro e v3 ⟨rfl, hq⟩
  have HXn := Lib.hid ((HX_2.out.on hq).new 30 #[.int .i64 ea, .int .i64 eb]); have HBn := Lib.hid (below_then (below_then HB_2.out hq) (below_alloc1 v3 (.cells #[.int .i64 ea, .int .i64 eb] 30)))
  clear hq HX_2 HB_2 D3 f_0 f_1 f_2 f_3 f_4 f_5 h_0 h_1 h_2 h_3 h_4 h_5 h_6 h_7 h_8 h_9 h_10 h_11 h_12 h_13
  go_upto_region 16 with fail
  obtain ⟨V3, hW⟩ : ∃ W', v3.alloc (.cells #[.int .i64 ea, .int .i64 eb] 30) = W' := ⟨_, rfl⟩
  rw [hW] at HXn HBn ⊢
  clear hW
  obtain ⟨M3, hN⟩ : ∃ n, v3.heap.size = n := ⟨_, rfl⟩
  rw [hN] at HXn ⊢
  clear hN
  have HX_3 := HXn; have HB_3 := HBn
  clear HXn HBn
  have f_ := HX_3.out _ (.tail _ (.tail _ (.tail _ (.tail _ (.head _)))))
  have f_0 := f_.cell 0
  have f_1 := f_.cell 1
  have f_2 := f_.cell 2
  have f_3 := f_.cell 3
  have f_4 := f_.cell 4
  have f_5 := f_.cell 5
  simp at f_0 f_1 f_2 f_3 f_4 f_5
  clear f_
  have h_ := HX_3.out _ (.tail _ (.tail _ (.tail _ (.tail _ (.tail _ (.head _))))))
  have h_0 := h_.cell 0
  have h_1 := h_.cell 1
  have h_2 := h_.cell 2
  have h_3 := h_.cell 3
  have h_4 := h_.cell 4
  have h_5 := h_.cell 5
  have h_6 := h_.cell 6
  have h_7 := h_.cell 7
  have h_8 := h_.cell 8
  have h_9 := h_.cell 9
  have h_10 := h_.cell 10
  have h_11 := h_.cell 11
  have h_12 := h_.cell 12
  have h_13 := h_.cell 13
  simp at h_0 h_1 h_2 h_3 h_4 h_5 h_6 h_7 h_8 h_9 h_10 h_11 h_12 h_13
  clear h_
  go_wp2_with fail
  refine (D4.out _ HB_3.out).mono ?_
  rintro e v4 ⟨rfl, hq⟩
  have HXn := Lib.hid ((HX_3.out.on hq).new 30 #[.int .i64 ia, .int .i64 ib]); have HBn := Lib.hid (below_then (below_then HB_3.out hq) (below_alloc1 v4 (.cells #[.int .i64 ia, .int .i64 ib] 30)))
  clear hq HX_3 HB_3 D4 f_0 f_1 f_2 f_3 f_4 f_5 h_0 h_1 h_2 h_3 h_4 h_5 h_6 h_7 h_8 h_9 h_10 h_11 h_12 h_13
  go_upto_region 17 with fail
  obtain ⟨V4, hW⟩ : ∃ W', v4.alloc (.cells #[.int .i64 ia, .int .i64 ib] 30) = W' := ⟨_, rfl⟩
  rw [hW] at HXn HBn ⊢
  clear hW
  obtain ⟨M4, hN⟩ : ∃ n, v4.heap.size = n := ⟨_, rfl⟩
  rw [hN] at HXn ⊢
  clear hN
  have HX_4 := HXn; have HB_4 := HBn
  clear HXn HBn
  have f_ := HX_4.out _ (.tail _ (.tail _ (.tail _ (.tail _ (.tail _ (.head _))))))
  have f_0 := f_.cell 0
  have f_1 := f_.cell 1
  have f_2 := f_.cell 2
  have f_3 := f_.cell 3
  have f_4 := f_.cell 4
  have f_5 := f_.cell 5
  simp at f_0 f_1 f_2 f_3 f_4 f_5
  clear f_
  have h_ := HX_4.out _ (.tail _ (.tail _ (.tail _ (.tail _ (.tail _ (.tail _ (.head _)))))))
  have h_0 := h_.cell 0
  have h_1 := h_.cell 1
  have h_2 := h_.cell 2
  have h_3 := h_.cell 3
  have h_4 := h_.cell 4
  have h_5 := h_.cell 5
  have h_6 := h_.cell 6
  have h_7 := h_.cell 7
  have h_8 := h_.cell 8
  have h_9 := h_.cell 9
  have h_10 := h_.cell 10
  have h_11 := h_.cell 11
  have h_12 := h_.cell 12
  have h_13 := h_.cell 13
  simp at h_0 h_1 h_2 h_3 h_4 h_5 h_6 h_7 h_8 h_9 h_10 h_11 h_12 h_13
  clear h_
  go_wp2_with fail
  refine (D5.out _ HB_4.out).mono ?_
  rintro e v5 ⟨rfl, hq⟩
  have HXn := Lib.hid ((HX_4.out.on hq).new 63 #[.int .i64 ma, .int .i64 mb, .int .i64 al, .int .i64 ah, .int .i64 ia, .int .i64 ib]); have HBn := Lib.hid (below_then (below_then HB_4.out hq) (below_alloc1 v5 (.cells #[.int .i64 ma, .int .i64 mb, .int .i64 al, .int .i64 ah, .int .i64 ia, .int .i64 ib] 63)))
  clear hq HX_4 HB_4 D5 f_0 f_1 f_2 f_3 f_4 f_5 h_0 h_1 h_2 h_3 h_4 h_5 h_6 h_7 h_8 h_9 h_10 h_11 h_12 h_13
  go_upto_region 18 with fail
  obtain ⟨V5, hW⟩ : ∃ W', v5.alloc (.cells #[.int .i64 ma, .int .i64 mb, .int .i64 al, .int .i64 ah, .int .i64 ia, .int .i64 ib] 63) = W' := ⟨_, rfl⟩
  rw [hW] at HXn HBn ⊢
  clear hW
  obtain ⟨M5, hN⟩ : ∃ n, v5.heap.size = n := ⟨_, rfl⟩
  rw [hN] at HXn ⊢
  clear hN
  have HX_5 := HXn; have HB_5 := HBn
  clear HXn HBn
  go_upto_region 19 with fail
  obtain ⟨g1, g2, g3, g4⟩ := GG.out
  have a_ := HX_5.out _ (.tail _ (.tail _ (.tail _ (.tail _ (.tail _ (.head _))))))
  have a_0 := a_.cell 0
  have a_1 := a_.cell 1
  simp at a_0 a_1
  clear a_
  go_wp2_with fail
  refine (W1.out _).mono ?_
  rintro e c1 ⟨rfl, hq⟩
  have HXw1 := Lib.hid (HX_5.out.on hq); have HBw1 := Lib.hid (below_then HB_5.out hq)
  clear hq HX_5 HB_5 W1 a_0 a_1
  have a_ := HXw1.out _ (.tail _ (.tail _ (.tail _ (.tail _ (.head _)))))
  have a_0 := a_.cell 0
  have a_1 := a_.cell 1
  simp at a_0 a_1
  clear a_
  go_wp2_with fail
  refine (W2.out _).mono ?_
  rintro e c2 ⟨rfl, hq⟩
  have HXw2 := Lib.hid (HXw1.out.on hq); have HBw2 := Lib.hid (below_then HBw1.out hq)
  clear hq HXw1 HBw1 W2 a_0 a_1
  have a_ := HXw2.out _ (.tail _ (.tail _ (.tail _ (.head _))))
  have a_0 := a_.cell 0
  have a_1 := a_.cell 1
  simp at a_0 a_1
  clear a_
  go_wp2_with fail
  refine (W3.out _).mono ?_
  rintro e c3 ⟨rfl, hq⟩
  have HXw3 := Lib.hid (HXw2.out.on hq); have HBw3 := Lib.hid (below_then HBw2.out hq)
  clear hq HXw2 HBw2 W3 a_0 a_1
  have a_ := HXw3.out _ (.tail _ (.tail _ (.head _)))
  have a_0 := a_.cell 0
  have a_1 := a_.cell 1
  simp at a_0 a_1
  clear a_
  go_wp2_with fail
  refine (W4.out _).mono ?_
  rintro e c4 ⟨rfl, hq⟩
  have HXw4 := Lib.hid (HXw3.out.on hq); have HBw4 := Lib.hid (below_then HBw3.out hq)
  clear hq HXw3 HBw3 W4 a_0 a_1
  have a_ := HXw4.out _ (.tail _ (.head _))
  have a_0 := a_.cell 0
  have a_1 := a_.cell 1
  simp at a_0 a_1
  clear a_
  go_wp2_with fail
  refine (W5.out _).mono ?_
  rintro e c5 ⟨rfl, hq⟩
  have HXw5 := Lib.hid (HXw4.out.on hq); have HBw5 := Lib.hid (below_then HBw4.out hq)
  clear hq HXw4 HBw4 W5 a_0 a_1
  have w_ := HXw5.out _ (.head _)
  have w_0 := w_.cell 0
  have w_1 := w_.cell 1
  have w_2 := w_.cell 2
  have w_3 := w_.cell 3
  have w_4 := w_.cell 4
  have w_5 := w_.cell 5
  simp at w_0 w_1 w_2 w_3 w_4 w_5
  clear w_
  have m_ := HXw5.out _ (.tail _ (.tail _ (.tail _ (.tail _ (.head _)))))
  have m_0 := m_.cell 0
  have m_1 := m_.cell 1
  simp at m_0 m_1
  clear m_
  have i_ := HXw5.out _ (.tail _ (.head _))
  have i_0 := i_.cell 0
  have i_1 := i_.cell 1
  simp at i_0 i_1
  clear i_
  have h_ := HXw5.out _ (.tail _ (.tail _ (.tail _ (.tail _ (.tail _ (.tail _ (.tail _ (.head _))))))))
  have h_1 := h_.cell 1
  have h_2 := h_.cell 2
  simp at h_1 h_2
  clear h_
  go_wp2_with fail
  refine (msane_any _).mono ?_
  rintro e c6 ⟨rfl, hq⟩
  have HBz := Lib.hid (below_then HBw5.out hq)
  clear hq
  go_wp2
  go_ret
  exact ⟨rfl, below_then HE1.out HBz.out⟩
end

end Go.Proofs.YtekkiedlajhaiaaGreat
