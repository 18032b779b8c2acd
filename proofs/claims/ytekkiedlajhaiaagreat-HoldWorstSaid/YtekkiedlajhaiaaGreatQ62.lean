/- The walk of HoldWorst: whatever numbers come in, the law returns true. Its conditions: the lists lie in memory and have no more than 2 ^ 62 numbers each. -/
import Derived.Test.YtekkiedlajhaiaaGreatQ56
import Derived.Test.YtekkiedlajhaiaaGreatQ29
import Derived.Test.YtekkiedlajhaiaaGreatQ51
import Derived.Test.YtekkiedlajhaiaaGreatQ61
import Derived.Test.YtekkiedlajhaiaaGreatQ60
import Derived.Test.YtekkiedlajhaiaaGreatQ98
set_option linter.unusedVariables false
set_option linter.unusedSimpArgs false
set_option linter.constructorNameAsVariable false
namespace Go.Proofs.YtekkiedlajhaiaaGreat

section
open Go.RowKit
section
attribute [local go_sem ↓] eqRange9
set_option maxRecDepth 100000 in
set_option maxHeartbeats 4000000 in
theorem eqWeight (a b c e f g : Int) (w : World) : (Op.equalIn 10000 63 (.agg #[.int .i64 a, .int .i64 b, .int .i64 c, .int .i64 e, .int .i64 f, .int .i64 g]) (.agg #[.int .i64 a, .int .i64 b, .int .i64 c, .int .i64 e, .int .i64 f, .int .i64 g])).run Tryz.prog w = .ok true w := by
  have u3 := Tryz.underlying3
  have hS : Tryz.prog.underlying 63 = some (.struct (Tryz.prog.fieldsOf 63)) := by kernel_rfl
  have hp : Tryz.prog.stoodInHeld 63 = false := by kernel_rfl
  rw [show (10000 : Nat) = 9999 + 1 from rfl, run_equalIn_agg w 9999 63 _ _ hS hp]
  clear hS hp
  simp only [Program.fieldsOf, Tryz.underlying63]
  go_simp
end
@[go_sem] theorem eqGuardWeight (op : BinOp) (x y : Operand) (xs ys : Array Value) (w : World) : (eqGuard op 63 x y (.agg xs) (.agg ys)).run Tryz.prog w = .ok () w :=
  run_eqGuard_agg w op 63 x y xs ys (by kernel_rfl)
theorem eqlWeight (a b c e f g : Int) (w : World) : (binOp .eql 63 (.agg #[.int .i64 a, .int .i64 b, .int .i64 c, .int .i64 e, .int .i64 f, .int .i64 g]) (.agg #[.int .i64 a, .int .i64 b, .int .i64 c, .int .i64 e, .int .i64 f, .int .i64 g])).run Tryz.prog w = .ok (.bool true) w := by
  rw [run_eql_struct, eqWeight]; rfl
attribute [local go_sem ↓] eqlRange neqRange eqlWeight
theorem hold_first {h : HoldD} (e : holdS h = true) : firstX h.vol ≤ lastX h.vol := by
  have ht := hold_tab e
  have hr := rising_pts h.vol (-1) (tabOk_pts ht) (by omega)
  have hl := tabOk_len ht
  have q1 : firstX h.vol = (h.vol[0]'(by omega)).1 := by unfold firstX; rw [List.head?_eq_getElem?, List.getElem?_eq_getElem (show 0 < h.vol.length by omega)]; rfl
  have q2 : lastX h.vol = (h.vol[h.vol.length - 1]'(by omega)).1 := by unfold lastX; rw [List.getLast?_eq_getElem?, List.getElem?_eq_getElem (show h.vol.length - 1 < h.vol.length by omega)]; rfl
  rw [q1, q2]
  rcases Nat.lt_or_ge 1 h.vol.length with g | g
  · exact Int.le_of_lt (List.pairwise_iff_getElem.1 hr 0 (h.vol.length - 1) (by omega) (by omega) (by omega))
  · have : h.vol.length = 1 := by omega
    simp [this]
theorem tell_okY {h : HoldD} {f : FillD} (e : fillErr h f = 0) (v : Int × Int) : tellS h f v = (v.1, v.2, 0) := by unfold tellS; rw [if_pos e]
theorem prod_le {a b A B : Int} (h1 : 0 ≤ a) (h2 : a ≤ A) (h3 : 0 ≤ b) (h4 : b ≤ B) : 0 ≤ a * b ∧ a * b ≤ A * B := ⟨Int.mul_nonneg h1 h3, Int.mul_le_mul h2 h4 h3 (by omega)⟩
end

section
open Go.RowKit

theorem worst_all {h : HoldD} {f : FillD} (e : fillErr h f = 0) : ∃ at_, worstW h f = (at_, (momS h f).2, 0) ∧ cwW h f at_ (momS h f).2 = 0 ∧ cwW h f at_ ((momS h f).2 + 1) = 1 ∧ (¬ f.st = 3 → at_ = 0) ∧ (f.st = 3 → f.x0 ≤ at_ ∧ at_ ≤ f.x1) := by
  have hc := cw_worst h f
  have hw : ∃ at_, worstW h f = (at_, (momS h f).2, 0) ∧ (¬ f.st = 3 → at_ = 0) := by
    unfold worstW
    rw [if_pos e]
    by_cases s : f.st = 3
    · rw [if_pos s]; exact ⟨_, rfl, fun q => absurd s q⟩
    · rw [if_neg s]; exact ⟨_, rfl, fun _ => rfl⟩
  obtain ⟨a, ha, hb⟩ := hw
  rw [ha] at hc
  dsimp only at hc
  refine ⟨a, ha, hc, ?_, hb, ?_⟩
  · unfold cwW
    rw [if_pos e]
    split
    · rw [if_neg (fun q => by have := q.2.1; omega)]
    · rw [if_neg (fun q => by have := q.2; omega)]
  · intro s
    unfold cwW at hc
    rw [if_pos e, if_pos s] at hc
    split at hc
    · rename_i q; exact q.1
    · omega
theorem worst_val {h : HoldD} {f : FillD} {u n2 e2 : Int} {c2 : List Int} (e : fillErr h f = 0) (s3 : f.st = 3) (hu : f.x0 ≤ u ∧ u ≤ f.x1) (i2 : InTab h.mom c2) (V2 : ValOf h.mom c2 u n2 e2) :
    n2 ≤ (momS h f).2 * e2 ∧ 0 ≤ (momS h f).2 * e2 ∧ (momS h f).2 * e2 ≤ 1000000000 * 1000000 := by
  obtain ⟨hS, hF⟩ := fill_zero e
  obtain ⟨⟨a1, a2, a3, a4⟩, ⟨m1, m2, m3⟩, ⟨l1, l2⟩, _⟩ := hold_parts hS
  have pl := fill_place e (show 3 ≤ f.st by omega)
  obtain ⟨q1, q2, q3, q4⟩ := overS_has (measures_ok m2) i2 V2 (along_in l1 pl) hu.1 hu.2
  have hmS : momS h f = ((overS h.mom f.x0 f.x1).1, (overS h.mom f.x0 f.x1).2.1) := by unfold momS; rw [if_neg (by omega), if_neg (by omega), if_neg (by omega), if_pos s3]
  have hB := mom_amt e
  unfold Amt at hB
  have r := prod_le (show 0 ≤ (momS h f).2 by omega) hB.2.2 (Int.le_of_lt q1) q2
  rw [hmS] at r ⊢
  exact ⟨q4, r.1, r.2⟩

set_option maxRecDepth 100000 in
set_option maxHeartbeats 4000000 in
theorem holdWorst_walk (r : RawD) (m : RawM) (x0 x1 x2 x3 x4 : Int) (Ca Cb Cc : Option Addr) (na ca nb cb nc cc : Nat) (k1 : List Int) (pl de : Int) (w : World) (hi : RawIn w r m) (hkb : nb = k1.length ∧ nb ≤ 4611686018427387904 ∧ IntsP w Cb k1) :
  Calls Tryz.prog 6 #[rawV r m, .agg #[.int .i64 x0, .int .i64 x1, .int .i64 x2, .int .i64 x3, .int .i64 x4], .agg #[.slice Ca na ca, .slice Cb nb cb, .slice Cc nc cc, .int .i64 pl, .int .i64 de]] w fun e w' => e = .returned (.bool true) ∧ Below w.heap.size w w' := by
 obtain ⟨h, hh⟩ : ∃ h, madeH r = h := ⟨_, rfl⟩
 have hS : holdS h = true := by rw [← hh]; exact made_valid r
 have C1 := fun (W : World) (hW : Below w.heap.size w W) => smadeHold r m W (hi.below hW)
 rw [hh] at C1
 have hle := hold_first hS
 have htv := hold_tab hS
 have hpl := tab_places htv
 have hf := madeF_ok hS hle x0 x1 x2 x3 x4
 have CF := fun (W : World) (mm : HoldM) (hm : HoldIn W h mm) => sfill_to h mm x0 x1 x2 x3 x4 W hm htv hle hpl.1 hpl.2
 obtain ⟨f, hff⟩ : ∃ f, madeF h x0 x1 x2 x3 x4 = f := ⟨_, rfl⟩
 rw [hff] at hf CF
 obtain ⟨id, fi, st, vs⟩ := r
 obtain ⟨S, sn, sc, V, vn, vc⟩ := m
 have HKB := Lib.hid hkb; have HSV := Lib.hid hS; have HF0 := Lib.hid hf
 have C1 := Lib.hid C1; have CF := Lib.hid CF
 clear hi hkb hh hle htv hpl hff hS hf
 have HE := Lib.hid (show Below w.heap.size w (((w.alloc (.cells #[.int .i64 id, .int .i64 fi, .slice S sn sc, .slice V vn vc] 41)).alloc (.cells #[.int .i64 x0, .int .i64 x1, .int .i64 x2, .int .i64 x3, .int .i64 x4] 42)).alloc (.cells #[.slice Ca na ca, .slice Cb nb cb, .slice Cc nc cc, .int .i64 pl, .int .i64 de] 45)) from below_a3 (Below.refl _ _))
 have HK := Lib.hid (boxes3' w 41 42 45 #[.int .i64 id, .int .i64 fi, .slice S sn sc, .slice V vn vc] #[.int .i64 x0, .int .i64 x1, .int .i64 x2, .int .i64 x3, .int .i64 x4] #[.slice Ca na ca, .slice Cb nb cb, .slice Cc nc cc, .int .i64 pl, .int .i64 de])
 go_enter Tryz.func6, Tryz.ntmps6
 go_upto_region 1 with fail
 obtain ⟨W0, hW0⟩ : ∃ W0 : World, (((w.alloc (.cells #[.int .i64 id, .int .i64 fi, .slice S sn sc, .slice V vn vc] 41)).alloc (.cells #[.int .i64 x0, .int .i64 x1, .int .i64 x2, .int .i64 x3, .int .i64 x4] 42)).alloc (.cells #[.slice Ca na ca, .slice Cb nb cb, .slice Cc nc cc, .int .i64 pl, .int .i64 de] 45)) = W0 := ⟨_, rfl⟩
 rw [hW0] at HE HK ⊢
 clear hW0
 obtain ⟨G, hG⟩ : ∃ G, w.heap.size = G := ⟨_, rfl⟩
 rw [hG] at HK ⊢
 have HG := Lib.hid hG; clear hG
 have r_ := HK.out _ (.tail _ (.tail _ (.head _)))
 have r_0 := r_.cell 0
 have r_1 := r_.cell 1
 have r_2 := r_.cell 2
 have r_3 := r_.cell 3
 simp at r_0 r_1 r_2 r_3
 clear r_
 go_wp2_with fail
 refine (C1.out _ HE.out).mono ?_
 rintro e y1 ⟨⟨mm, rfl, hin⟩, hq⟩
 have HIH : Hid (∀ W, Below y1.heap.size y1 W → HoldIn W h mm) := Lib.hid fun W hW => hin.below hW
 have C2 : Hid (∀ W, Below y1.heap.size y1 W → Calls Tryz.prog 12 #[holdV h mm, .agg #[.int .i64 x0, .int .i64 x1, .int .i64 x2, .int .i64 x3, .int .i64 x4]] W fun e w' => e = .returned (fillV f) ∧ Below W.heap.size W w') := Lib.hid fun W hW => CF.out W mm (hin.below hW)
 obtain ⟨at_, hw1, hw2, hw3, hw4, hw5⟩ := worst_all HF0.out
 have D0 : Hid (∀ W, Below y1.heap.size y1 W → Calls Tryz.prog 30 #[holdV h mm, fillV f] W fun e w' => e = .returned (.tuple #[.int .i64 at_, .int .i64 (momS h f).2, .int .i64 0]) ∧ Below W.heap.size W w') := Lib.hid fun W hW => by
  have q := hWorst_any h mm f W (hin.below hW)
  rw [hw1] at q
  exact q
 have D1 : Hid (∀ W, Below y1.heap.size y1 W → Calls Tryz.prog 20 #[holdV h mm, fillV f] W fun e w' => e = .returned (.tuple #[rv (momS h f).1 (momS h f).2, .int .i64 0]) ∧ Below W.heap.size W w') := Lib.hid fun W hW => by
  have q := hMoment_any h mm f W (hin.below hW)
  rw [tell_okY HF0.out] at q
  exact q
 have D2 : Hid (∀ W, Below y1.heap.size y1 W → Calls Tryz.prog 31 #[holdV h mm, fillV f, .int .i64 at_, .int .i64 (momS h f).2] W fun e w' => e = .returned (.int .i64 0) ∧ Below W.heap.size W w') := Lib.hid fun W hW => by
  have q := hCheckWorst_any h mm f at_ (momS h f).2 W (hin.below hW)
  rw [hw2] at q
  exact q
 have D3 : Hid (∀ W, Below y1.heap.size y1 W → Calls Tryz.prog 31 #[holdV h mm, fillV f, .int .i64 at_, .int .i64 ((momS h f).2 + 1)] W fun e w' => e = .returned (.int .i64 1) ∧ Below W.heap.size W w') := Lib.hid fun W hW => by
  have q := hCheckWorst_any h mm f at_ ((momS h f).2 + 1) W (hin.below hW)
  rw [hw3] at q
  exact q
 have hma := mom_amt HF0.out
 unfold Amt at hma
 have g1 : IntKind.i64.wrap ((momS h f).2 + 1) = (momS h f).2 + 1 := IntWalk.i64_in _ ⟨by omega, by omega⟩
 have HW4 := Lib.hid hw4; have HW5 := Lib.hid hw5
 have htt1 : tabOk h.mom = true := measures_ok (hold_parts HSV.out).2.1.2.1
 have hl2_1 : 2 ≤ h.mom.length := by
  have q := (hold_parts HSV.out).2.1.2.1
  unfold measuresS at q
  simp only [Bool.and_eq_true, decide_eq_true_eq] at q
  exact q.1.2
 have K1 : Hid (∀ W, Below y1.heap.size y1 W → Calls Tryz.prog 17 #[tv mm.B mm.m mm.d, .slice Cb nb cb] W (GivesInts W (curveTo h.mom k1 mm.m))) := Lib.hid fun W hW => scurve_to mm.B Cb mm.m mm.d nb cb h.mom k1 W ((hin.below hW).2.1) (by have := ((hin.below hW).2.1).1; have := (tabOk_len htt1).2; omega) (tab_wide htt1) HKB.out.1 HKB.out.2.1 (HKB.out.2.2.below (below_then HE.out (below_then hq hW)))
 have L1 : Hid (∀ (W : World) (u : Int) (qb : Nat) (qc : Nat), Below y1.heap.size y1 W → IntsP W (some ⟨qb, 0, none⟩) (curveTo h.mom k1 mm.m) → firstX h.mom ≤ u → u ≤ lastX h.mom → Calls Tryz.prog 16 #[tv mm.B mm.m mm.d, .slice (some ⟨qb, 0, none⟩) mm.m qc, .int .i64 u] W fun e w' => (∃ num den, e = .returned (.tuple #[.int .i64 num, .int .i64 den]) ∧ ValOf h.mom (curveTo h.mom k1 mm.m) u num den) ∧ Below W.heap.size W w') := Lib.hid fun W u qb qc hW hc g1 g2 => by
  have hT := (hin.below hW).2.1
  exact svalue_to mm.B (some ⟨qb, 0, none⟩) mm.m mm.d mm.m qc h.mom (curveTo h.mom k1 mm.m) u W hT htt1 (by have := hT.1; omega) (by rw [curveTo_len _ _ _ (Nat.le_of_eq hT.1)]) hc (curve_inTabS k1 htt1 hT.1) g1 g2
 have I1 : Hid (InTab h.mom (curveTo h.mom k1 mm.m) ∧ (curveTo h.mom k1 mm.m).length = mm.m ∧ 0 < mm.m) := Lib.hid ⟨curve_inTabS k1 htt1 hin.2.1.1, curveTo_len _ _ _ (Nat.le_of_eq hin.2.1.1), by have := hin.2.1.1; omega⟩
 have FD : Hid (f.st = 3 → f.x0 ≤ f.x1 ∧ firstX h.mom ≤ f.x0 ∧ f.x1 ≤ lastX h.mom ∧ 0 ≤ firstX h.mom ∧ lastX h.mom ≤ 1000000) := Lib.hid fun s => by
  have q := along_in (hold_parts HSV.out).2.2.1.1 (fill_place HF0.out (show 3 ≤ f.st by omega))
  have q2 := tab_places htt1
  simp only [inB, decide_eq_true_eq] at q
  omega
 have BA : Hid (∀ u n2 e2 : Int, f.st = 3 → f.x0 ≤ u ∧ u ≤ f.x1 → ValOf h.mom (curveTo h.mom k1 mm.m) u n2 e2 → n2 ≤ (momS h f).2 * e2 ∧ 0 ≤ (momS h f).2 * e2 ∧ (momS h f).2 * e2 ≤ 1000000000 * 1000000) := Lib.hid fun u n2 e2 s hu g => worst_val HF0.out s hu I1.out.1 g
 have HK1 := Lib.hid ((HK.out.on hq).new 50 (holdCells h mm)); have HY1 := Lib.hid (below_alloc1 y1 (.cells (holdCells h mm) 50))
 have HE1 := Lib.hid (below_then HE.out hq)
 clear hq hin htt1 hl2_1 C1 CF HSV HF0 HE HK r_0 r_1 r_2 r_3 HKB hw1 hw2 hw3 hw4 hw5 hma
 generalize momS h f = MO at *
 obtain ⟨hid, al, ah, vol, mom, hei, t0, t1, u0, u1, v0, v1, h0, h1⟩ := h
 obtain ⟨A, n, c, B, mm, d, C, l, ee⟩ := mm
 obtain ⟨fh, fs, p0, p1, d0, d1⟩ := f
 obtain ⟨ga, gb⟩ := MO
 dsimp only at HIH C2 D0 D1 D2 D3 K1 L1 I1 FD BA HK1 g1 HW4 HW5
 obtain ⟨gz, hgz⟩ : ∃ z, gb + 1 = z := ⟨_, rfl⟩
 rw [hgz] at D3
 replace g1 := g1.trans hgz
 clear hgz
 have GG := Lib.hid g1
 clear g1
 go_upto_region 2 with fail
 obtain ⟨W1, hW⟩ : ∃ W', y1.alloc (.cells #[.int .i64 hid, .int .i64 al, .int .i64 ah, .slice A n c, .slice B mm d, .slice C l ee, .int .i64 t0, .int .i64 t1, .int .i64 u0, .int .i64 u1, .int .i64 v0, .int .i64 v1, .int .i64 h0, .int .i64 h1] 50) = W' := ⟨_, rfl⟩
 rw [hW] at HK1 HY1 ⊢
 clear hW
 obtain ⟨N7, hN⟩ : ∃ n, y1.heap.size = n := ⟨_, rfl⟩
 rw [hN] at HK1 ⊢
 clear hN
 have h_ := HK1.out _ (.head _)
 have h_0 := h_.cell 0
 have h_1 := h_.cell 1
 have h_2 := h_.cell 2
 have h_3 := h_.cell 3
 have h_4 := h_.cell 4
 have h_5 := h_.cell 5
 have h_6 := h_.cell 6
 have h_7 := h_.cell 7
 have h_8 := h_.cell 8
 have h_9 := h_.cell 9
 have h_10 := h_.cell 10
 have h_11 := h_.cell 11
 have h_12 := h_.cell 12
 have h_13 := h_.cell 13
 simp at h_0 h_1 h_2 h_3 h_4 h_5 h_6 h_7 h_8 h_9 h_10 h_11 h_12 h_13
 clear h_
 have x_ := HK1.out _ (.tail _ (.tail _ (.head _)))
 have x_0 := x_.cell 0
 have x_1 := x_.cell 1
 have x_2 := x_.cell 2
 have x_3 := x_.cell 3
 have x_4 := x_.cell 4
 simp at x_0 x_1 x_2 x_3 x_4
 clear x_
 go_wp2_with fail
 refine (C2.out _ HY1.out).mono ?_
 rintro e y2 ⟨rfl, hq⟩
 have HK2 := Lib.hid ((HK1.out.on hq).new 53 #[.int .i64 fh, .int .i64 fs, .int .i64 p0, .int .i64 p1, .int .i64 d0, .int .i64 d1]); have HY2 := Lib.hid (below_then (below_then HY1.out hq) (below_alloc1 y2 (.cells #[.int .i64 fh, .int .i64 fs, .int .i64 p0, .int .i64 p1, .int .i64 d0, .int .i64 d1] 53)))
 clear hq HK1 HY1 C2 h_0 h_1 h_2 h_3 h_4 h_5 h_6 h_7 h_8 h_9 h_10 h_11 h_12 h_13 x_0 x_1 x_2 x_3 x_4
 go_upto_region 3 with fail
 obtain ⟨W2, hW⟩ : ∃ W', y2.alloc (.cells #[.int .i64 fh, .int .i64 fs, .int .i64 p0, .int .i64 p1, .int .i64 d0, .int .i64 d1] 53) = W' := ⟨_, rfl⟩
 rw [hW] at HK2 HY2 ⊢
 clear hW
 obtain ⟨N8, hN⟩ : ∃ n, y2.heap.size = n := ⟨_, rfl⟩
 rw [hN] at HK2 ⊢
 clear hN
 have f_ := HK2.out _ (.head _)
 have f_0 := f_.cell 0
 have f_1 := f_.cell 1
 have f_2 := f_.cell 2
 have f_3 := f_.cell 3
 have f_4 := f_.cell 4
 have f_5 := f_.cell 5
 simp at f_0 f_1 f_2 f_3 f_4 f_5
 clear f_
 have h_ := HK2.out _ (.tail _ (.head _))
 have h_0 := h_.cell 0
 have h_1 := h_.cell 1
 have h_2 := h_.cell 2
 have h_3 := h_.cell 3
 have h_4 := h_.cell 4
 have h_5 := h_.cell 5
 have h_6 := h_.cell 6
 have h_7 := h_.cell 7
 have h_8 := h_.cell 8
 have h_9 := h_.cell 9
 have h_10 := h_.cell 10
 have h_11 := h_.cell 11
 have h_12 := h_.cell 12
 have h_13 := h_.cell 13
 simp at h_0 h_1 h_2 h_3 h_4 h_5 h_6 h_7 h_8 h_9 h_10 h_11 h_12 h_13
 clear h_
 go_wp2_with fail
 refine (D0.out _ HY2.out).mono ?_
 rintro e v0' ⟨rfl, hq⟩
 have HKa := Lib.hid (HK2.out.on hq); have HYa := Lib.hid (below_then HY2.out hq)
 clear hq HK2 HY2 D0 f_0 f_1 f_2 f_3 f_4 f_5 h_0 h_1 h_2 h_3 h_4 h_5 h_6 h_7 h_8 h_9 h_10 h_11 h_12 h_13
 have f_ := HKa.out _ (.head _)
 have f_0 := f_.cell 0
 have f_1 := f_.cell 1
 have f_2 := f_.cell 2
 have f_3 := f_.cell 3
 have f_4 := f_.cell 4
 have f_5 := f_.cell 5
 simp at f_0 f_1 f_2 f_3 f_4 f_5
 clear f_
 have h_ := HKa.out _ (.tail _ (.head _))
 have h_0 := h_.cell 0
 have h_1 := h_.cell 1
 have h_2 := h_.cell 2
 have h_3 := h_.cell 3
 have h_4 := h_.cell 4
 have h_5 := h_.cell 5
 have h_6 := h_.cell 6
 have h_7 := h_.cell 7
 have h_8 := h_.cell 8
 have h_9 := h_.cell 9
 have h_10 := h_.cell 10
 have h_11 := h_.cell 11
 have h_12 := h_.cell 12
 have h_13 := h_.cell 13
 simp at h_0 h_1 h_2 h_3 h_4 h_5 h_6 h_7 h_8 h_9 h_10 h_11 h_12 h_13
 clear h_
 go_wp2_with fail
 refine (D1.out _ HYa.out).mono ?_
 rintro e v1' ⟨rfl, hq⟩
 have HKb := Lib.hid ((HKa.out.on hq).new 30 #[.int .i64 ga, .int .i64 gb]); have HYb := Lib.hid (below_then (below_then HYa.out hq) (below_alloc1 v1' (.cells #[.int .i64 ga, .int .i64 gb] 30)))
 clear hq HKa HYa D1 f_0 f_1 f_2 f_3 f_4 f_5 h_0 h_1 h_2 h_3 h_4 h_5 h_6 h_7 h_8 h_9 h_10 h_11 h_12 h_13
 go_upto_region 5 with fail
 obtain ⟨V1, hW⟩ : ∃ W', v1'.alloc (.cells #[.int .i64 ga, .int .i64 gb] 30) = W' := ⟨_, rfl⟩
 rw [hW] at HKb HYb ⊢
 clear hW
 obtain ⟨M1, hN⟩ : ∃ n, v1'.heap.size = n := ⟨_, rfl⟩
 rw [hN] at HKb ⊢
 clear hN
 have f_ := HKb.out _ (.tail _ (.head _))
 have f_0 := f_.cell 0
 have f_1 := f_.cell 1
 have f_2 := f_.cell 2
 have f_3 := f_.cell 3
 have f_4 := f_.cell 4
 have f_5 := f_.cell 5
 simp at f_0 f_1 f_2 f_3 f_4 f_5
 clear f_
 have h_ := HKb.out _ (.tail _ (.tail _ (.head _)))
 have h_0 := h_.cell 0
 have h_1 := h_.cell 1
 have h_2 := h_.cell 2
 have h_3 := h_.cell 3
 have h_4 := h_.cell 4
 have h_5 := h_.cell 5
 have h_6 := h_.cell 6
 have h_7 := h_.cell 7
 have h_8 := h_.cell 8
 have h_9 := h_.cell 9
 have h_10 := h_.cell 10
 have h_11 := h_.cell 11
 have h_12 := h_.cell 12
 have h_13 := h_.cell 13
 simp at h_0 h_1 h_2 h_3 h_4 h_5 h_6 h_7 h_8 h_9 h_10 h_11 h_12 h_13
 clear h_
 have m_ := HKb.out _ (.head _)
 have m_1 := m_.cell 1
 simp at m_1
 clear m_
 have z1 : (gb != gb) = false := by simp
 have z2 : (gb == gb) = true := by simp
 go_wp2_with fail
 refine (D2.out _ HYb.out).mono ?_
 rintro e v2' ⟨rfl, hq⟩
 have HKc := Lib.hid (HKb.out.on hq); have HYc := Lib.hid (below_then HYb.out hq)
 clear hq HKb HYb D2 f_0 f_1 f_2 f_3 f_4 f_5 h_0 h_1 h_2 h_3 h_4 h_5 h_6 h_7 h_8 h_9 h_10 h_11 h_12 h_13 m_1
 have f_ := HKc.out _ (.tail _ (.head _))
 have f_0 := f_.cell 0
 have f_1 := f_.cell 1
 have f_2 := f_.cell 2
 have f_3 := f_.cell 3
 have f_4 := f_.cell 4
 have f_5 := f_.cell 5
 simp at f_0 f_1 f_2 f_3 f_4 f_5
 clear f_
 have h_ := HKc.out _ (.tail _ (.tail _ (.head _)))
 have h_0 := h_.cell 0
 have h_1 := h_.cell 1
 have h_2 := h_.cell 2
 have h_3 := h_.cell 3
 have h_4 := h_.cell 4
 have h_5 := h_.cell 5
 have h_6 := h_.cell 6
 have h_7 := h_.cell 7
 have h_8 := h_.cell 8
 have h_9 := h_.cell 9
 have h_10 := h_.cell 10
 have h_11 := h_.cell 11
 have h_12 := h_.cell 12
 have h_13 := h_.cell 13
 simp at h_0 h_1 h_2 h_3 h_4 h_5 h_6 h_7 h_8 h_9 h_10 h_11 h_12 h_13
 clear h_
 have g1 := GG.out
 go_wp2_with fail
 refine (D3.out _ HYc.out).mono ?_
 rintro e v3' ⟨rfl, hq⟩
 have HKd := Lib.hid (HKc.out.on hq); have HYd := Lib.hid (below_then HYc.out hq)
 clear hq HKc HYc D3 g1 f_0 f_1 f_2 f_3 f_4 f_5 h_0 h_1 h_2 h_3 h_4 h_5 h_6 h_7 h_8 h_9 h_10 h_11 h_12 h_13
 have f_ := HKd.out _ (.tail _ (.head _))
 have f_1 := f_.cell 1
 simp at f_1
 clear f_
 by_cases g3 : fs = 3
 rotate_left
 ·have b1 : (fs != 3) = true := bne_iff_ne.2 g3
  have b2 : (fs == 3) = false := beq_eq_false_iff_ne.2 g3
  obtain rfl : at_ = 0 := HW4.out g3
  clear HW5
  go_wp2_with fail
  refine (msane_any _).mono ?_
  rintro e v4' ⟨rfl, hq⟩
  have HYe := Lib.hid (below_then HYd.out hq)
  clear hq
  go_wp2
  go_ret
  exact ⟨rfl, below_then HE1.out HYe.out⟩
 have b1 : (fs != 3) = false := by simp [g3]
 have b2 : (fs == 3) = true := by simp [g3]
 obtain ⟨a5, a6⟩ := HW5.out g3
 have pab := FD.out g3
 obtain ⟨u, hu⟩ : ∃ u, p0 + pl % (p1 - p0 + 1) = u := ⟨_, rfl⟩
 obtain ⟨b0, c0⟩ := emod_in pl (show (0 : Int) < p1 - p0 + 1 by omega)
 have HU : Hid (p0 ≤ u ∧ u ≤ p1 ∧ firstX mom ≤ u ∧ u ≤ lastX mom) := Lib.hid (by omega)
 have CSO : Hid (∀ W, Calls Tryz.prog 14 #[rv p0 p1, .int .i64 pl] W fun e w' => e = .returned (.int .i64 u) ∧ Below W.heap.size W w') := Lib.hid fun W => int_to (msomewhere_to p0 p1 pl W (by omega) (by omega) (by omega)) hu
 have HA56 := Lib.hid (And.intro a5 a6)
 have HG3 := Lib.hid g3
 clear pab hu b0 c0 a5 a6 g3
 go_upto_region 9 with fail
 clear b1 b2 f_1
 rename World => z0
 obtain ⟨LB, hLB⟩ : ∃ x, ([(M1, 30, #[.int .i64 ga, .int .i64 gb]), (N8, 53, #[.int .i64 fh, .int .i64 fs, .int .i64 p0, .int .i64 p1, .int .i64 d0, .int .i64 d1]), (N7, 50, #[.int .i64 hid, .int .i64 al, .int .i64 ah, .slice A n c, .slice B mm d, .slice C l ee, .int .i64 t0, .int .i64 t1, .int .i64 u0, .int .i64 u1, .int .i64 v0, .int .i64 v1, .int .i64 h0, .int .i64 h1]), (G + 1 + 1, 45, #[.slice Ca na ca, .slice Cb nb cb, .slice Cc nc cc, .int .i64 pl, .int .i64 de]), (G + 1, 42, #[.int .i64 x0, .int .i64 x1, .int .i64 x2, .int .i64 x3, .int .i64 x4]), (G, 41, #[.int .i64 id, .int .i64 fi, .slice S sn sc, .slice V vn vc])] : List (Nat × TypeId × Array Value)) = x := ⟨_, rfl⟩
 have hl0 : (N7, 50, #[.int .i64 hid, .int .i64 al, .int .i64 ah, .slice A n c, .slice B mm d, .slice C l ee, .int .i64 t0, .int .i64 t1, .int .i64 u0, .int .i64 u1, .int .i64 v0, .int .i64 v1, .int .i64 h0, .int .i64 h1]) ∈ LB ∧ (G + 1 + 1, 45, #[.slice Ca na ca, .slice Cb nb cb, .slice Cc nc cc, .int .i64 pl, .int .i64 de]) ∈ LB ∧ (N8, 53, #[.int .i64 fh, .int .i64 fs, .int .i64 p0, .int .i64 p1, .int .i64 d0, .int .i64 d1]) ∈ LB := by rw [← hLB]; simp
 have HL0 := Lib.hid hl0
 have HX0 := Lib.hid (show Boxes z0 LB by rw [← hLB]; exact HKd.out); have HB0 := HYd
 have HLB := Lib.hid hLB
 clear HKd HYd hl0 hLB
 have hS0 : BB2 y1 LB z0.drew := ⟨HX0.out, HB0.out.drew⟩
 refine wp_region_held_drew (S := BB2 y1 LB) (by kernel_rfl) hS0 (fun hHeld => ?_)
 obtain ⟨yq, hW⟩ : ∃ W', z0.drew = W' := ⟨_, rfl⟩
 rw [hW] at hHeld ⊢
 clear hW hS0 HX0 HB0
 refine tK 72 (i := 0) (v := .pointer (some ⟨N7, 4, none⟩)) rfl rfl (by kernel_rfl) ?_ hHeld ?_
 ·intro w hSw; clear hSw; go_simp; try with_reducible rfl
 simp only [uZ, uS]
 refine tK 73 (i := 1) (v := tv B mm d) rfl rfl (by kernel_rfl) ?_ hHeld ?_
 ·intro w hSw; have cx := (hSw.1 _ HL0.out.1).cell 4; simp at cx; clear hSw; go_simp; try with_reducible rfl
 simp only [uZ, uS]
 refine tK 74 (i := 2) (v := .pointer (some ⟨N7, 4, none⟩)) rfl rfl (by kernel_rfl) ?_ hHeld ?_
 ·intro w hSw; clear hSw; go_simp; try with_reducible rfl
 simp only [uZ, uS]
 refine tK 75 (i := 3) (v := tv B mm d) rfl rfl (by kernel_rfl) ?_ hHeld ?_
 ·intro w hSw; have cx := (hSw.1 _ HL0.out.1).cell 4; simp at cx; clear hSw; go_simp; try with_reducible rfl
 simp only [uZ, uS]
 refine tK 76 (i := 4) (v := .pointer (some ⟨G + 1 + 1, 0, none⟩)) rfl rfl (by kernel_rfl) ?_ hHeld ?_
 ·intro w hSw; clear hSw; go_simp; try with_reducible rfl
 simp only [uZ, uS]
 refine tK 77 (i := 5) (v := .pointer (some ⟨G + 1 + 1, 1, none⟩)) rfl rfl (by kernel_rfl) ?_ hHeld ?_
 ·intro w hSw; clear hSw; go_simp; try with_reducible rfl
 simp only [uZ, uS]
 refine tK 78 (i := 6) (v := .slice Cb nb cb) rfl rfl (by kernel_rfl) ?_ hHeld ?_
 ·intro w hSw; have cx := (hSw.1 _ HL0.out.2.1).cell 1; simp at cx; clear hSw; go_simp; try with_reducible rfl
 simp only [uZ, uS]
 refine tK 80 (i := 8) (v := .pointer (some ⟨N8, 2, none⟩)) rfl rfl (by kernel_rfl) ?_ hHeld ?_
 ·intro w hSw; clear hSw; go_simp; try with_reducible rfl
 simp only [uZ, uS]
 refine tK 81 (i := 9) (v := rv p0 p1) rfl rfl (by kernel_rfl) ?_ hHeld ?_
 ·intro w hSw; have cx := (hSw.1 _ HL0.out.2.2).cell 2; have cy := (hSw.1 _ HL0.out.2.2).cell 3; simp at cx cy; clear hSw; go_simp; try with_reducible rfl
 simp only [uZ, uS]
 refine tK 82 (i := 10) (v := .pointer (some ⟨G + 1 + 1, 3, none⟩)) rfl rfl (by kernel_rfl) ?_ hHeld ?_
 ·intro w hSw; clear hSw; go_simp; try with_reducible rfl
 simp only [uZ, uS]
 refine tK 83 (i := 11) (v := .int .i64 pl) rfl rfl (by kernel_rfl) ?_ hHeld ?_
 ·intro w hSw; have cx := (hSw.1 _ HL0.out.2.1).cell 3; simp at cx; clear hSw; go_simp; try with_reducible rfl
 simp only [uZ, uS]
 refine wpAnyH_ready (rs := [7]) (by kernel_rfl) (by simp) ?_
 refine AllReadyH.cons rfl (fun K hK => ?_) AllReadyH.nil
 go_simp
 (with_reducible refine (K1.out _ hHeld.be2).mono ?_)
 rintro x y ⟨cv, rfl, ho, hq⟩
 obtain ⟨qb, qc, rfl, _, clt, hcm⟩ := own_ints_memN ho I1.out.2.1 I1.out.2.2
 have HCI := Lib.hid (show IntsP y (some ⟨qb, 0, none⟩) (curveTo mom k1 mm) from .inr ⟨qb, 0, rfl, clt, hcm⟩)
 refine hK.out _ _ ⟨hHeld.1.on hq, below_then hHeld.2 hq⟩ (fun hHeld2 => ?_)
 clear hq ho clt hcm
 try simp only [Act.put, uA, uZ, uS]
 clear hK K hHeld
 have hHeld := hHeld2
 clear hHeld2
 refine wpAnyH_ready (rs := [12]) (by kernel_rfl) (by simp) ?_
 refine AllReadyH.cons rfl (fun K hK => ?_) AllReadyH.nil
 go_simp
 (with_reducible refine (CSO.out _).mono ?_)
 rintro x y ⟨rfl, hq⟩
 have HCI := Lib.hid (HCI.out.below hq)
 refine hK.out _ _ ⟨hHeld.1.on hq, below_then hHeld.2 hq⟩ (fun hHeld2 => ?_)
 clear hq
 try simp only [Act.put, uA, uZ, uS]
 clear hK K hHeld
 have hHeld := hHeld2
 clear hHeld2
 refine wpAnyH_ready (rs := [13]) (by kernel_rfl) (by simp) ?_
 refine AllReadyH.cons rfl (fun K hK => ?_) AllReadyH.nil
 go_simp
 (with_reducible refine (L1.out _ u qb qc hHeld.be2 HCI.out HU.out.2.2.1 HU.out.2.2.2).mono ?_)
 rintro x y ⟨⟨n2, e2, rfl, hval⟩, hq⟩
 have HV1 := Lib.hid hval
 refine hK.out _ _ ⟨hHeld.1.on hq, below_then hHeld.2 hq⟩ (fun hHeld2 => ?_)
 clear hq hval HCI
 try simp only [Act.put, uA, uZ, uS]
 clear hK K hHeld
 have hHeld := hHeld2
 clear hHeld2
 refine tK 71 (i := 14) (v := .tuple #[.int .i64 n2, .int .i64 e2]) rfl rfl (by kernel_rfl) ?_ hHeld ?_
 ·intro w hSw; clear hSw; go_simp; try with_reducible rfl
 simp only [uZ, uS]
 refine tK 86 (i := 15) (v := .int .i64 n2) rfl rfl (by kernel_rfl) ?_ hHeld ?_
 ·intro w hSw; clear hSw; go_simp; try with_reducible rfl
 simp only [uZ, uS]
 refine tK 87 (i := 16) (v := .int .i64 e2) rfl rfl (by kernel_rfl) ?_ hHeld ?_
 ·intro w hSw; clear hSw; go_simp; try with_reducible rfl
 simp only [uZ, uS]
 refine tK 14 (i := 17) (v := .int .i64 n2) rfl rfl (by kernel_rfl) ?_ hHeld ?_
 ·intro w hSw; clear hSw; go_simp; try with_reducible rfl
 simp only [uZ, uS]
 refine tK 15 (i := 18) (v := .int .i64 e2) rfl rfl (by kernel_rfl) ?_ hHeld ?_
 ·intro w hSw; clear hSw; go_simp; try with_reducible rfl
 simp only [uZ, uS]
 refine wpAnyH_done (by kernel_rfl) ?_ _
 rename World => z1
 have HX1 := Lib.hid (show Boxes z1 LB from hHeld.1); have HB1 := Lib.hid hHeld.2
 clear hHeld K1 L1 I1
 rw [← HLB.out] at HX1
 obtain ⟨r1, r2, r3⟩ := BA.out u n2 e2 HG3.out ⟨HU.out.1, HU.out.2.1⟩ HV1.out
 obtain ⟨pr, hpr⟩ : ∃ z, gb * e2 = z := ⟨_, rfl⟩
 rw [hpr] at r1 r2 r3
 have g2 : IntKind.i64.wrap (gb * e2) = pr := by rw [hpr]; exact IntWalk.i64_in _ ⟨by omega, by omega⟩
 obtain ⟨a5, a6⟩ := HA56.out
 clear r2 r3 hpr
 have f_ := HX1.out _ (.tail _ (.head _))
 have f_2 := f_.cell 2
 have f_3 := f_.cell 3
 simp at f_2 f_3
 clear f_
 go_wp2_with fail
 refine (msane_any _).mono ?_
 rintro e c6 ⟨rfl, hq⟩
 have HBz := Lib.hid (below_then HB1.out hq)
 clear hq
 go_wp2
 go_ret
 exact ⟨rfl, below_then HE1.out HBz.out⟩
end

end Go.Proofs.YtekkiedlajhaiaaGreat
