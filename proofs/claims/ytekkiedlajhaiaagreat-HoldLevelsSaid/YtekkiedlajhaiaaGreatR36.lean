/- Plain: the tank that numbers describe is valid, the level that numbers describe is one of it; all that HoldLevels asks. -/
import Derived.Test.YtekkiedlajhaiaaGreatR34
import Derived.Test.YtekkiedlajhaiaaGreatR26
import Derived.Test.YtekkiedlajhaiaaGreatR28
import Derived.Test.YtekkiedlajhaiaaGreatR35
set_option linter.unusedVariables false
set_option linter.unusedSimpArgs false
set_option linter.constructorNameAsVariable false
namespace Go.Proofs.YtekkiedlajhaiaaGreat

section
open Go.RowKit
section
attribute [local go_sem ↓] eqRange9
set_option maxRecDepth 100000 in
set_option maxHeartbeats 4000000 in
theorem eqWeight (a b c e f g : Int) (w : World) : (Op.equalIn 10000 63 (.agg #[.int .i64 a, .int .i64 b, .int .i64 c, .int .i64 e, .int .i64 f, .int .i64 g]) (.agg #[.int .i64 a, .int .i64 b, .int .i64 c, .int .i64 e, .int .i64 f, .int .i64 g])).run Tryz.prog w = .ok true w := by
  have u3 := Tryz.underlying3
  have hS : Tryz.prog.underlying 63 = some (.struct (Tryz.prog.fieldsOf 63)) := by kernel_rfl
  have hp : Tryz.prog.stoodInHeld 63 = false := by kernel_rfl
  rw [show (10000 : Nat) = 9999 + 1 from rfl, run_equalIn_agg w 9999 63 _ _ hS hp]
  clear hS hp
  simp only [Program.fieldsOf, Tryz.underlying63]
  go_simp
end
@[go_sem] theorem eqGuardWeight (op : BinOp) (x y : Operand) (xs ys : Array Value) (w : World) : (eqGuard op 63 x y (.agg xs) (.agg ys)).run Tryz.prog w = .ok () w :=
  run_eqGuard_agg w op 63 x y xs ys (by kernel_rfl)
theorem eqlWeight (a b c e f g : Int) (w : World) : (binOp .eql 63 (.agg #[.int .i64 a, .int .i64 b, .int .i64 c, .int .i64 e, .int .i64 f, .int .i64 g]) (.agg #[.int .i64 a, .int .i64 b, .int .i64 c, .int .i64 e, .int .i64 f, .int .i64 g])).run Tryz.prog w = .ok (.bool true) w := by
  rw [run_eql_struct, eqWeight]; rfl
attribute [local go_sem ↓] eqlRange neqRange eqlWeight
def WgtY (v : Int × Int) : Prop := 0 ≤ v.1 ∧ v.1 ≤ v.2 ∧ v.2 ≤ 2000000001
theorem heavy_wgtY {v : Int × Int} {c d : Int} (hv : Amt v) (h4 : 0 ≤ c) (h5 : c ≤ d) (h6 : d ≤ 2000) : WgtY (heavyS v.1 v.2 c d) := by
  obtain ⟨h1, h2, h3⟩ := hv
  have e1 : v.1 * c ≤ v.1 * d := Int.mul_le_mul_of_nonneg_left h5 h1
  have e4 : v.1 * d ≤ v.2 * d := Int.mul_le_mul_of_nonneg_right h2 (by omega)
  have e5 : 0 ≤ v.1 * c := Int.mul_nonneg h1 h4
  have e6 : v.2 * d ≤ 1000000000 * 2000 := Int.mul_le_mul h3 h6 (by omega) (by omega)
  unfold heavyS WgtY
  dsimp only
  refine ⟨?_, ?_, ?_⟩ <;> omega
theorem prod_le {a b A B : Int} (h1 : 0 ≤ a) (h2 : a ≤ A) (h3 : 0 ≤ b) (h4 : b ≤ B) : 0 ≤ a * b ∧ a * b ≤ A * B := ⟨Int.mul_nonneg h1 h3, Int.mul_le_mul h2 h4 h3 (by omega)⟩
end

section
open Go.RowKit

def zeroF (f : Nat → Int × Int) (k : Nat) : Int × Int := if k = 0 then (0, 0) else f k
theorem zero_rows {xs : List Int} {f : Nat → Int × Int} : ∀ n : Nat, n ≤ xs.length → zeroFirst (rowsTo xs f n) = rowsTo xs (zeroF f) n
  | 0, _ => rfl
  | k + 1, h => by
    obtain ⟨x, hx⟩ : ∃ x, xs[k]? = some x := ⟨_, List.getElem?_eq_getElem (show k < xs.length by omega)⟩
    have ih := zero_rows (xs := xs) (f := f) k (by omega)
    have hl := rowsTo_len xs f k (by omega)
    rw [rowsTo_succ hx, rowsTo_succ hx, ← ih]
    cases k with
    | zero => rfl
    | succ j =>
      cases hr : rowsTo xs f (j + 1) with
      | nil => rw [hr] at hl; simp at hl
      | cons a r => simp [zeroFirst, zeroF]
theorem rises_of : ∀ (ps : List P3), (∀ k p q, ps[k]? = some p → ps[k + 1]? = some q → p.2.1 ≤ q.2.1 ∧ p.2.2 ≤ q.2.2) → risesS ps = true
  | [], _ => rfl
  | [_], _ => rfl
  | p :: q :: r, h => by
    have h1 := h 0 p q rfl rfl
    have h2 := rises_of (q :: r) fun k a b ha hb => h (k + 1) a b ha hb
    rw [risesS, h2]
    simp [h1.1, h1.2]
theorem rises_rows {fi : Int} {st : List Int} {f : Nat → Int × Int} {n : Nat} (hn : n = (xsS fi st).length) (hf : ∀ j, j < n → 0 ≤ (f j).1 ∧ (f j).1 ≤ (f j).2 ∧ (f j).2 ≤ 1000000000) (hu : ∀ k, (f k).1 ≤ (f (k + 1)).1 ∧ (f k).2 ≤ (f (k + 1)).2) : risesS (rowsTo (xsS fi st) f n) = true := by
  have r := rows3 (f := f) hn (fun j hj => by have := hf j hj; omega)
  refine rises_of _ fun k p q hp hq => ?_
  obtain ⟨k1, e1⟩ := r.at_ k p hp
  obtain ⟨k2, e2⟩ := r.at_ (k + 1) q hq
  rw [e1, e2]
  exact hu k
theorem slope_in (vs : List Int) (fr : Int) {mo : Int} (g0 : 0 < mo) (g1 : mo ≤ 1000000) (n : Nat) (h8 : n ≤ 8) (j : Nat) (hj : j < n) : 0 ≤ (slopeF vs fr mo j).1 ∧ (slopeF vs fr mo j).1 ≤ (slopeF vs fr mo j).2 ∧ (slopeF vs fr mo j).2 ≤ 1000000000 := by
  obtain ⟨h1, h2, h3⟩ := slopeF_in vs fr g0 g1 j (by omega)
  omega
theorem zero_in {f : Nat → Int × Int} {n : Nat} (hf : ∀ j, j < n → 0 ≤ (f j).1 ∧ (f j).1 ≤ (f j).2 ∧ (f j).2 ≤ 1000000000) (j : Nat) (hj : j < n) : 0 ≤ (zeroF f j).1 ∧ (zeroF f j).1 ≤ (zeroF f j).2 ∧ (zeroF f j).2 ≤ 1000000000 := by
  have := hf j hj
  unfold zeroF
  split
  · simp
  · exact this
theorem zero_up {f : Nat → Int × Int} (h0 : ∀ k, 0 ≤ (f k).1 ∧ 0 ≤ (f k).2) (hu : ∀ k, (f k).1 ≤ (f (k + 1)).1 ∧ (f k).2 ≤ (f (k + 1)).2) (k : Nat) : (zeroF f k).1 ≤ (zeroF f (k + 1)).1 ∧ (zeroF f k).2 ≤ (zeroF f (k + 1)).2 := by
  unfold zeroF
  rw [if_neg (show ¬ k + 1 = 0 by omega)]
  split
  · exact h0 (k + 1)
  · exact hu k
theorem slope_pos (vs : List Int) (fr : Int) {mo : Int} (g0 : 0 < mo) (g1 : mo ≤ 1000000) (k : Nat) : 0 ≤ (slopeF vs fr mo k).1 ∧ 0 ≤ (slopeF vs fr mo k).2 := by
  obtain ⟨h1, h2, _⟩ := slopeF_in vs fr g0 g1 0 (by omega)
  have h3 := slope_up vs fr g0 k 0
  rw [Nat.zero_add] at h3
  omega
theorem slope_next (vs : List Int) (fr : Int) {mo : Int} (g0 : 0 < mo) (k : Nat) : (slopeF vs fr mo k).1 ≤ (slopeF vs fr mo (k + 1)).1 ∧ (slopeF vs fr mo k).2 ≤ (slopeF vs fr mo (k + 1)).2 := slope_up vs fr g0 1 k
theorem tank_vol (r : RawD) : ∃ f : Nat → Int × Int, tankVol r = rowsTo (xsS r.fi r.st) f (xsS r.fi r.st).length ∧ (∀ j, j < (xsS r.fi r.st).length → 0 ≤ (f j).1 ∧ (f j).1 ≤ (f j).2 ∧ (f j).2 ≤ 1000000000) ∧ (∀ k, (f k).1 ≤ (f (k + 1)).1 ∧ (f k).2 ≤ (f (k + 1)).2) := by
  have h8 := xsS_len r.fi r.st
  have e : slopedL r.vs 3 300 false (xsS r.fi r.st) (xsS r.fi r.st).length = rowsTo (xsS r.fi r.st) (slopeF r.vs 3 300) (xsS r.fi r.st).length := by unfold slopedL; rw [if_neg (by decide)]
  have f1 : ∀ j, j < (xsS r.fi r.st).length → 0 ≤ (slopeF r.vs 3 300 j).1 ∧ (slopeF r.vs 3 300 j).1 ≤ (slopeF r.vs 3 300 j).2 ∧ (slopeF r.vs 3 300 j).2 ≤ 1000000000 := fun j hj => slope_in r.vs 3 (by omega) (by omega) _ (by omega) j hj
  unfold tankVol
  rw [e]
  by_cases g : pickS r.vs 9 % 2 = 0
  · rw [if_pos g]
    exact ⟨zeroF (slopeF r.vs 3 300), zero_rows _ (Nat.le_refl _), fun j hj => zero_in f1 j hj, zero_up (fun k => slope_pos r.vs 3 (by omega) (by omega) k) (fun k => slope_next r.vs 3 (by omega) k)⟩
  · rw [if_neg g]
    exact ⟨slopeF r.vs 3 300, rfl, f1, fun k => slope_next r.vs 3 (by omega) k⟩
theorem madeT_valid (r : RawD) : tankS (madeT r) = true := by
  have h8 := xsS_len r.fi r.st
  obtain ⟨a1, a2⟩ := emod_in r.id (show (0 : Int) < 9 by omega)
  obtain ⟨b1, b2⟩ := emod_in (pickS r.vs 4) (show (0 : Int) < 2001 by omega)
  obtain ⟨c1, c2⟩ := emod_in (pickS r.vs 5) (show (0 : Int) < 30 by omega)
  obtain ⟨f, hv, hf, hu⟩ := tank_vol r
  have eh : slopedL r.vs 7 90 false (xsS r.fi r.st) (xsS r.fi r.st).length = rowsTo (xsS r.fi r.st) (slopeF r.vs 7 90) (xsS r.fi r.st).length := by unfold slopedL; rw [if_neg (by decide)]
  have f2 : ∀ j, j < (xsS r.fi r.st).length → 0 ≤ (slopeF r.vs 7 90 j).1 ∧ (slopeF r.vs 7 90 j).1 ≤ (slopeF r.vs 7 90 j).2 ∧ (slopeF r.vs 7 90 j).2 ≤ 1000000000 := fun j hj => slope_in r.vs 7 (by omega) (by omega) _ (by omega) j hj
  have mv : measuresS (rowsTo (xsS r.fi r.st) f (xsS r.fi r.st).length) = true := measures_rows rfl hf
  have mh : measuresS (rowsTo (xsS r.fi r.st) (slopeF r.vs 7 90) (xsS r.fi r.st).length) = true := measures_rows rfl f2
  have mm : measuresS (rowsTo (xsS r.fi r.st) (freeF r.vs 2 500) (xsS r.fi r.st).length) = true := measures_rows rfl fun j hj => free_in r.vs 2 (by omega) (by omega) j
  have fv := rises_rows (fi := r.fi) (st := r.st) rfl hf hu
  have fh := rises_rows (fi := r.fi) (st := r.st) rfl f2 (fun k => slope_next r.vs 7 (by omega) k)
  obtain ⟨x1, y1⟩ := rows_first (fi := r.fi) (st := r.st) (f := f) rfl
  obtain ⟨x2, y2⟩ := rows_first (fi := r.fi) (st := r.st) (f := slopeF r.vs 7 90) rfl
  obtain ⟨x3, y3⟩ := rows_first (fi := r.fi) (st := r.st) (f := freeF r.vs 2 500) rfl
  unfold tankS madeT ctRest alongS inB
  dsimp only
  rw [hv, eh, mv, mh, mm, fv, fh, x1, x2, x3, y1, y2, y3]
  simp only [Bool.and_eq_true, decide_eq_true_eq, and_true, true_and]
  omega
theorem madeL_ok {t : TankD} (e : tankS t = true) (hle : firstX t.vol ≤ lastX t.vol) (x0 x1 x2 x3 x4 : Int) : levelErr t (madeL t x0 x1 x2 x3 x4) = 0 := by
  obtain ⟨a1, a2⟩ := emod_in x1 (show (0 : Int) < lastX t.vol - firstX t.vol + 1 by omega)
  obtain ⟨a3, a4⟩ := emod_in x2 (show (0 : Int) < min (lastX t.vol - (firstX t.vol + x1 % (lastX t.vol - firstX t.vol + 1))) 25 + 1 by omega)
  obtain ⟨b1, b2⟩ := emod_in x3 (show (0 : Int) < 900 by omega)
  obtain ⟨b3, b4⟩ := emod_in x4 (show (0 : Int) < 200 by omega)
  unfold levelErr
  rw [if_pos e]
  have : levelS t (madeL t x0 x1 x2 x3 x4) = true := by
    unfold levelS madeL densS inB
    split
    · unfold densityS
      simp only [Bool.and_eq_true, Bool.or_eq_true, decide_eq_true_eq]
      refine ⟨by trivial, by omega, by omega, by simp⟩
    · unfold spanS densityS
      simp only [Bool.and_eq_true, Bool.or_eq_true, decide_eq_true_eq]
      refine ⟨by trivial, by omega, by omega, by simp⟩
  rw [if_pos this]
def srfB (t : TankD) (l : LevelD) : Int × Int := if l.pr = true ∨ (ovL t.vol l).2 = 0 then (0, 0) else (if (ovL t.vol l).1 = 0 then 0 else (denL l (ovL t.sur l)).1, (denL l (ovL t.sur l)).2)
theorem srf_ok {t : TankD} {l : LevelD} (e : levelErr t l = 0) : srfS t l = ((srfB t l).1, (srfB t l).2, 0) := by
  unfold srfS srfB
  rw [if_pos e]
  split <;> rfl
theorem liq_ok {t : TankD} {l : LevelD} (e : levelErr t l = 0) : liqS t l = ((denL l (ovL t.vol l)).1, (denL l (ovL t.vol l)).2, 0) := by
  unfold liqS
  rw [if_pos e]
theorem bal_ok {t : TankD} {l : LevelD} (e : levelErr t l = 0) : balV t l = wt (denL l (ovL t.vol l)).1 (denL l (ovL t.vol l)).2 t.al t.ah (ovL t.hei l).1 (ovL t.hei l).2 0 := by
  unfold balV
  rw [if_pos e]
theorem levels_all {t : TankD} {l : LevelD} {u d n1 e1 n2 e2 n3 e3 : Int} {c1 c2 c3 : List Int} (e : levelErr t l = 0) (hu : l.s0 ≤ u ∧ u ≤ l.s1) (hd : l.d0 ≤ d ∧ d ≤ l.d1)
    (i1 : InTab t.vol c1) (V1 : ValOf t.vol c1 u n1 e1) (i2 : InTab t.sur c2) (V2 : ValOf t.sur c2 u n2 e2) (i3 : InTab t.hei c3) (V3 : ValOf t.hei c3 u n3 e3) :
    ∃ M, (if n1 = 0 then 0 else if l.pr = true then 0 else n2) = M ∧ ((denL l (ovL t.vol l)).1 * (1000 * e1) ≤ n1 * d ∧ n1 * d ≤ (denL l (ovL t.vol l)).2 * (1000 * e1)) ∧ ((srfB t l).1 * (1000 * e2) ≤ M * d ∧ M * d ≤ (srfB t l).2 * (1000 * e2)) ∧ ((ovL t.hei l).1 * e3 ≤ n3 ∧ n3 ≤ (ovL t.hei l).2 * e3) ∧
      (0 < e1 ∧ e1 ≤ 1000000) ∧ (0 < e2 ∧ e2 ≤ 1000000) ∧ (0 < e3 ∧ e3 ≤ 1000000) ∧ Amt (ovL t.hei l) ∧ WgtY (denL l (ovL t.vol l)) ∧ WgtY (srfB t l) ∧ 0 ≤ d ∧ d ≤ 2000 ∧ (0 ≤ n1 ∧ n1 ≤ 1000000000 * 1000000) ∧ (0 ≤ M ∧ M ≤ 1000000000 * 1000000) ∧ (l.pr = true → srfB t l = (0, 0)) := by
  obtain ⟨hS, hF⟩ := level_zero e
  obtain ⟨⟨m1, m2, m3⟩, ⟨l1, l2⟩⟩ := tank_parts hS
  have pl := level_place e
  obtain ⟨d1, d2, d3⟩ := dens_in (level_dens e)
  obtain ⟨p1, p2, p3, p4⟩ := overS_has (measures_ok m1) i1 V1 pl hu.1 hu.2
  obtain ⟨q1, q2, q3, q4⟩ := overS_has (measures_ok m2) i2 V2 (along_in l1 pl) hu.1 hu.2
  obtain ⟨r1, r2, r3, r4⟩ := overS_has (measures_ok m3) i3 V3 (along_in l2 pl) hu.1 hu.2
  have hA := vol_amtL e
  have hB := sur_amtL e
  have hC : Amt (ovL t.hei l) := over_in m3 (along_in l2 pl)
  have wA : WgtY (denL l (ovL t.vol l)) := by rw [← den_heavyL e hA]; exact heavy_wgtY hA (by omega) d2 d3
  have wB : WgtY (denL l (ovL t.sur l)) := by rw [← den_heavyL e hB]; exact heavy_wgtY hB (by omega) d2 d3
  have hhA := heavy_has hA p1 p3 p4 (show 0 ≤ l.d0 by omega) hd.1 hd.2 d3
  rw [den_heavyL e hA] at hhA
  have hhB := heavy_has hB q1 q3 q4 (show 0 ≤ l.d0 by omega) hd.1 hd.2 d3
  rw [den_heavyL e hB] at hhB
  have y1 := prod_le hA.1 (Int.le_trans hA.2.1 hA.2.2) (Int.le_of_lt p1) p2
  have y2 := prod_le (show 0 ≤ (ovL t.vol l).2 from Int.le_trans hA.1 hA.2.1) hA.2.2 (Int.le_of_lt p1) p2
  have y3 := prod_le hB.1 (Int.le_trans hB.2.1 hB.2.2) (Int.le_of_lt q1) q2
  have y4 := prod_le (show 0 ≤ (ovL t.sur l).2 from Int.le_trans hB.1 hB.2.1) hB.2.2 (Int.le_of_lt q1) q2
  have p3' : (ovL t.vol l).1 * e1 ≤ n1 := p3
  have p4' : n1 ≤ (ovL t.vol l).2 * e1 := p4
  have q3' : (ovL t.sur l).1 * e2 ≤ n2 := q3
  have q4' : n2 ≤ (ovL t.sur l).2 * e2 := q4
  have hn1 : 0 ≤ n1 ∧ n1 ≤ 1000000000 * 1000000 := by omega
  have hn2 : 0 ≤ n2 ∧ n2 ≤ 1000000000 * 1000000 := by omega
  have hz : (ovL t.vol l).2 = 0 → n1 = 0 := fun h => by rw [h, Int.zero_mul] at p4'; omega
  have hz1 : ¬ (ovL t.vol l).1 = 0 → ¬ n1 = 0 := fun h g => by
    have a1 := hA.1
    have := Int.mul_pos (show 0 < (ovL t.vol l).1 by omega) p1
    omega
  have hd0 : 0 ≤ d := by omega
  have hw1 := wB.1
  have hw2 := wB.2.1
  have hs : ((srfB t l).1 * (1000 * e2) ≤ (if n1 = 0 then 0 else if l.pr = true then 0 else n2) * d ∧ (if n1 = 0 then 0 else if l.pr = true then 0 else n2) * d ≤ (srfB t l).2 * (1000 * e2)) ∧ WgtY (srfB t l) ∧ (l.pr = true → srfB t l = (0, 0)) := by
    unfold srfB
    by_cases g : l.pr = true ∨ (ovL t.vol l).2 = 0
    · rw [if_pos g]
      have : (if n1 = 0 then 0 else if l.pr = true then 0 else n2) = 0 := by
        rcases g with g | g
        · rw [if_pos g]; split <;> rfl
        · rw [if_pos (hz g)]
      rw [this]
      exact ⟨by simp, by unfold WgtY; simp, fun _ => rfl⟩
    · rw [if_neg g]
      have gp : ¬ l.pr = true := fun q => g (.inl q)
      rw [if_neg gp]
      have hpos : 0 ≤ (denL l (ovL t.sur l)).2 * (1000 * e2) := Int.mul_nonneg (by omega) (by omega)
      refine ⟨⟨?_, ?_⟩, ?_, fun q => absurd q gp⟩
      · dsimp only
        by_cases k : (ovL t.vol l).1 = 0
        · rw [if_pos k, Int.zero_mul]
          refine Int.mul_nonneg ?_ hd0
          split
          · omega
          · exact hn2.1
        · rw [if_neg k, if_neg (hz1 k)]
          exact hhB.1
      · dsimp only
        split
        · rw [Int.zero_mul]; exact hpos
        · exact hhB.2
      · unfold WgtY
        dsimp only
        have hw3 := wB.2.2
        split
        · omega
        · omega
  refine ⟨_, rfl, hhA, hs.1, ⟨r3, r4⟩, ⟨p1, p2⟩, ⟨q1, q2⟩, ⟨r1, r2⟩, hC, wA, hs.2.1, hd0, by omega, hn1, ?_, hs.2.2⟩
  split
  · omega
  · split <;> omega
end

end Go.Proofs.YtekkiedlajhaiaaGreat
