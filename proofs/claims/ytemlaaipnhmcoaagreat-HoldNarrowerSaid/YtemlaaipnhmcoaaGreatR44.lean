/- Curve and Value of the specification over a valid table of a compartment; the density that numbers choose. Their conditions: the table and the list lie in memory. -/
import Derived.Test.YtemlaaipnhmcoaaGreatR39
import Derived.Test.YtemlaaipnhmcoaaGreatR41
import Derived.Test.YtemlaaipnhmcoaaGreatR43
import Derived.Test.YtemlaaipnhmcoaaGreatR25
import Derived.Test.YtemlaaipnhmcoaaGreatR37
import Derived.Test.YtemlaaipnhmcoaaGreatR40
import Derived.Deep.QuietTactic
import Derived.BigQuiet
import Derived.Test.YtemlaaipnhmcoaaGreatR05
import Derived.Test.YtemlaaipnhmcoaaGreatR11
import Derived.Test.YtemlaaipnhmcoaaGreatR13
import Derived.Test.YtemlaaipnhmcoaaGreatR12
import Derived.Test.YtemlaaipnhmcoaaGreatR14
set_option linter.unusedVariables false
set_option linter.unusedSimpArgs false
set_option linter.constructorNameAsVariable false
namespace Go.Proofs.YtemlaaipnhmcoaaGreat

section
open Go.RowKit
section
attribute [local go_sem ↓] eqRange9
set_option maxRecDepth 100000 in
set_option maxHeartbeats 4000000 in
theorem eqWeight (a b c e f g : Int) (w : World) : (Op.equalIn 10000 74 (.agg #[.int .i64 a, .int .i64 b, .int .i64 c, .int .i64 e, .int .i64 f, .int .i64 g]) (.agg #[.int .i64 a, .int .i64 b, .int .i64 c, .int .i64 e, .int .i64 f, .int .i64 g])).run Tryz.prog w = .ok true w := by
  have u3 := Tryz.underlying3
  have hS : Tryz.prog.underlying 74 = some (.struct (Tryz.prog.fieldsOf 74)) := by kernel_rfl
  have hp : Tryz.prog.stoodInHeld 74 = false := by kernel_rfl
  rw [show (10000 : Nat) = 9999 + 1 from rfl, run_equalIn_agg w 9999 74 _ _ hS hp]
  clear hS hp
  simp only [Program.fieldsOf, Tryz.underlying74]
  go_simp
end
@[go_sem] theorem eqGuardWeight (op : BinOp) (x y : Operand) (xs ys : Array Value) (w : World) : (eqGuard op 74 x y (.agg xs) (.agg ys)).run Tryz.prog w = .ok () w :=
  run_eqGuard_agg w op 74 x y xs ys (by kernel_rfl)
theorem eqlWeight (a b c e f g : Int) (w : World) : (binOp .eql 74 (.agg #[.int .i64 a, .int .i64 b, .int .i64 c, .int .i64 e, .int .i64 f, .int .i64 g]) (.agg #[.int .i64 a, .int .i64 b, .int .i64 c, .int .i64 e, .int .i64 f, .int .i64 g])).run Tryz.prog w = .ok (.bool true) w := by
  rw [run_eql_struct, eqWeight]; rfl
attribute [local go_sem ↓] eqlRange neqRange eqlWeight
theorem hold_first {h : HoldD} (e : holdS h = true) : firstX h.vol ≤ lastX h.vol := by
  have ht := hold_tab e
  have hr := rising_pts h.vol (-1) (tabOk_pts ht) (by omega)
  have hl := tabOk_len ht
  have q1 : firstX h.vol = (h.vol[0]'(by omega)).1 := by unfold firstX; rw [List.head?_eq_getElem?, List.getElem?_eq_getElem (show 0 < h.vol.length by omega)]; rfl
  have q2 : lastX h.vol = (h.vol[h.vol.length - 1]'(by omega)).1 := by unfold lastX; rw [List.getLast?_eq_getElem?, List.getElem?_eq_getElem (show h.vol.length - 1 < h.vol.length by omega)]; rfl
  rw [q1, q2]
  rcases Nat.lt_or_ge 1 h.vol.length with g | g
  · exact Int.le_of_lt (List.pairwise_iff_getElem.1 hr 0 (h.vol.length - 1) (by omega) (by omega) (by omega))
  · have : h.vol.length = 1 := by omega
    simp [this]
theorem tell_okY {h : HoldD} {f : FillD} (e : fillErr h f = 0) (v : Int × Int) : tellS h f v = (v.1, v.2, 0) := by unfold tellS; rw [if_pos e]
def WgtY (v : Int × Int) : Prop := 0 ≤ v.1 ∧ v.1 ≤ v.2 ∧ v.2 ≤ 2000000001
theorem heavy_wgtY {v : Int × Int} {c d : Int} (hv : Amt v) (h4 : 0 ≤ c) (h5 : c ≤ d) (h6 : d ≤ 2000) : WgtY (heavyS v.1 v.2 c d) := by
  obtain ⟨h1, h2, h3⟩ := hv
  have e1 : v.1 * c ≤ v.1 * d := Int.mul_le_mul_of_nonneg_left h5 h1
  have e4 : v.1 * d ≤ v.2 * d := Int.mul_le_mul_of_nonneg_right h2 (by omega)
  have e5 : 0 ≤ v.1 * c := Int.mul_nonneg h1 h4
  have e6 : v.2 * d ≤ 1000000000 * 2000 := Int.mul_le_mul h3 h6 (by omega) (by omega)
  unfold heavyS WgtY
  dsimp only
  refine ⟨?_, ?_, ?_⟩ <;> omega
end

section
open Go.RowKit

theorem over_ok {ps : List P3} {a b : Int} (ht : tabOk ps = true) (h : inB a b (firstX ps) (lastX ps) = true) : (overS ps a b).2.2 = 0 := by
  obtain ⟨p1, p2⟩ := places_in ht
  have hb : a ≤ b ∧ firstX ps ≤ a ∧ b ≤ lastX ps := by simpa [inB] using h
  have hv : vR a b = true := (vR_iff a b).2 (by omega)
  have he : overE ps a b = 0 := by unfold overE placesS; rw [if_pos ht, if_pos hv, if_pos ht, if_pos h]
  unfold overS; rw [if_pos he]
def pourS (h : HoldD) (f : FillD) (a b e0 e1 : Int) : FillD × Int :=
  if fillErr h f = 0 then
    (if massErr a b e0 e1 = 0 then
      (if a < 0 then (noFill, 1) else
        (if f.st = 4 ∨ f.st = 5 then (noFill, 22) else if f.st = 1 ∨ f.st = 2 then (noFill, 24) else
          movedS h.vol h.id ((volS h f).1 + (litresS a b e0 e1).1) ((volS h f).2 + (litresS a b e0 e1).2) (firstX h.vol) (if f.st = 0 then lastX h.vol else f.x1) (mixS f.d0 f.d1 e0 e1).1 (mixS f.d0 f.d1 e0 e1).2))
    else (noFill, massErr a b e0 e1))
  else (noFill, fillErr h f)
theorem litres_small' {a b c d : Int} (h1 : -1000000000000000 ≤ a ∧ a ≤ b ∧ b ≤ 1000000000000000) (h2 : 100 ≤ c ∧ c ≤ d ∧ d ≤ 2000) :
    -1000000000000000000 ≤ (litresS a b c d).1 ∧ (litresS a b c d).1 ≤ 1000000000000000000 ∧ -1000000000000000000 ≤ (litresS a b c d).2 ∧ (litresS a b c d).2 ≤ 1000000000000000000 := by
  unfold litresS
  dsimp only
  have e1 : 1 ≤ (if a < 0 then c else d) := by split <;> omega
  have e2 : 1 ≤ (if b < 0 then d else c) := by split <;> omega
  have q1 := ediv_between (1000 * a) (if a < 0 then c else d) 1000000000000000000 e1 (by omega) (by omega) (by omega)
  have q2 := ediv_between (-1000 * b) (if b < 0 then d else c) 1000000000000000000 e2 (by omega) (by omega) (by omega)
  omega
theorem fill_dens' {h : HoldD} {f : FillD} (e : fillErr h f = 0) (s : f.st ≠ 0) : densS f.d0 f.d1 = true := by
  have g := (fill_zero e).2
  unfold fillS stateS at g
  simp only [Bool.and_eq_true, Bool.or_eq_true, decide_eq_true_eq, beq_iff_eq] at g
  rcases g.2 with q | q | q
  · exact absurd q.1 s
  · exact q.2.2
  · exact q.2.2
def drawS (h : HoldD) (f : FillD) (a b : Int) : FillD × Int :=
  if fillErr h f = 0 then
    (if errR a b = 0 then
      (if a < 0 then (noFill, 1) else
        (if f.st = 0 ∨ f.st = 4 ∨ f.st = 5 then (noFill, 22) else
          movedS h.vol h.id (max ((volS h f).1 - (litresS a b f.d0 f.d1).2) 0) ((volS h f).2 - (litresS a b f.d0 f.d1).1) (if f.st = 3 then f.x0 else firstX h.vol) (lastX h.vol) f.d0 f.d1))
    else (noFill, errR a b))
  else (noFill, fillErr h f)
end

section
open Go.RowKit

theorem meet_has {a b c d u : Int} (h1 : vR a b = true) (h2 : vR c d = true) (g1 : a ≤ u) (g2 : u ≤ b) (g3 : c ≤ u) (g4 : u ≤ d) : meetS a b c d = (max a c, min b d, 0) := by
  unfold meetS twoS
  rw [h1, h2]
  simp
  omega
theorem moved_has {ps : List P3} {cs : List Int} {id x y a0 a1 d0 d1 u num den : Int} (ht : tabOk ps = true) (h2 : 2 ≤ ps.length) (hf : fallsS ps = true) (hi : InTab ps cs) (hv : ValOf ps cs u num den)
    (p1 : firstX ps ≤ u) (p2 : u ≤ lastX ps) (h3 : x * den ≤ num) (h4 : num ≤ y * den) (q1 : a0 ≤ u) (q2 : u ≤ a1) (q3 : 0 ≤ a0) (q4 : a1 ≤ 1000000) :
    ∃ p q, movedS ps id x y a0 a1 d0 d1 = (⟨id, 3, p, q, d0, d1⟩, 0) ∧ p ≤ u ∧ u ≤ q := by
  have hp := tab_places ht
  obtain ⟨p, q, e1, e2, e3, e4, e5⟩ := inv_has (turns_falls (x := x) (y := y) ht h2 hf) p1 p2 (not_beside ht hi hv h3 h4 _) (not_beside ht hi hv h3 h4 _)
  have e1' : ullS ps x y = (p, q, 0) := e1
  have v1 : vR p q = true := (vR_iff p q).2 (by omega)
  have v2 : vR a0 a1 = true := (vR_iff a0 a1).2 (by omega)
  unfold movedS
  rw [e1', if_pos rfl]
  dsimp only
  rw [meet_has v1 v2 e2 e3 q1 q2, if_pos rfl]
  exact ⟨max p a0, min q a1, rfl, by omega, by omega⟩
theorem val_pos {ps : List P3} {cs : List Int} {x num den : Int} (hm : measuresS ps = true) (hi : InTab ps cs) (h : ValOf ps cs x num den) : 0 ≤ num := by
  obtain ⟨i, p, q, y, z, hp, hq, g1, g2, hy, hz, rfl, rfl⟩ := h
  have hall : ∀ p ∈ ps, 0 ≤ p.2.1 := by
    unfold measuresS at hm
    simp only [Bool.and_eq_true, List.all_eq_true, decide_eq_true_eq] at hm
    exact hm.2
  have y0 := hall p (List.mem_of_getElem? hp)
  have z0 := hall q (List.mem_of_getElem? hq)
  obtain ⟨y1, y2⟩ := hi.2 i p y hp hy
  obtain ⟨z1, z2⟩ := hi.2 (i + 1) q z hq hz
  have m1 := Int.mul_nonneg (show 0 ≤ y by omega) (show 0 ≤ q.1 - x by omega)
  have m2 := Int.mul_nonneg (show 0 ≤ z by omega) (show 0 ≤ x - p.1 by omega)
  omega
theorem add_has {v l a b i j more : Int} (hb : 0 < b) (hj : 0 < j) (h1 : v * b ≤ a) (h2 : l * (b * j) ≤ more) (hm : more = i * b - a * j) : (v + l) * j ≤ i := by
  have s1 := Int.mul_le_mul_of_nonneg_right h1 (Int.le_of_lt hj)
  refine Int.le_of_mul_le_mul_right (?_ : (v + l) * j * b ≤ i * b) hb
  have e : (v + l) * j * b = v * b * j + l * (b * j) := by grind
  rw [e]
  omega
theorem add_has' {v l a b i j more : Int} (hb : 0 < b) (hj : 0 < j) (h1 : a ≤ v * b) (h2 : more ≤ l * (b * j)) (hm : more = i * b - a * j) : i ≤ (v + l) * j := by
  have s1 := Int.mul_le_mul_of_nonneg_right h1 (Int.le_of_lt hj)
  refine Int.le_of_mul_le_mul_right (?_ : i * b ≤ (v + l) * j * b) hb
  have e : (v + l) * j * b = v * b * j + l * (b * j) := by grind
  rw [e]
  omega
theorem poured_has {h : HoldD} {f : FillD} {cs : List Int} {u tw a b i j m0 m1 e0 e1 r : Int} (e : fillErr h f = 0) (s3 : f.st = 3) (hi : InTab h.vol cs) (hu : f.x0 ≤ u ∧ u ≤ f.x1) (V1 : ValOf h.vol cs u a b) (ht : firstX h.vol ≤ tw ∧ tw ≤ u) (V2 : ValOf h.vol cs tw i j)
    (hm : massErr m0 m1 e0 e1 = 0) (h0 : 0 ≤ m0) (hmore : 0 ≤ i * b - a * j) (k1 : m0 * (1000 * (b * j)) ≤ (i * b - a * j) * r) (k2 : (i * b - a * j) * r ≤ m1 * (1000 * (b * j))) (r1 : e0 ≤ r) (r2 : r ≤ e1) :
    ∃ p q, pourS h f m0 m1 e0 e1 = (⟨h.id, 3, p, q, (mixS f.d0 f.d1 e0 e1).1, (mixS f.d0 f.d1 e0 e1).2⟩, 0) ∧ p ≤ tw ∧ tw ≤ q := by
  obtain ⟨hS, hF⟩ := fill_zero e
  obtain ⟨hf, hl⟩ := hold_falls hS
  have htv := hold_tab hS
  have pl := fill_place e (show 3 ≤ f.st by omega)
  have plq := pl
  simp only [inB, decide_eq_true_eq] at plq
  have hp := tab_places htv
  obtain ⟨g1, g2, g3, g4⟩ := overS_has htv hi V1 pl hu.1 hu.2
  obtain ⟨g5, _, _, _⟩ := val_at htv hi V2
  have hc := dens_in (massErr_zero hm).2
  have hbj : 0 < b * j := Int.mul_pos g1 g5
  obtain ⟨l1, l2⟩ := litres_has h0 k1 k2 hbj hmore hc.1 r1 r2
  have hvS : volS h f = ((overS h.vol f.x0 f.x1).1, (overS h.vol f.x0 f.x1).2.1) := by unfold volS; rw [if_neg (by omega), if_neg (by omega)]
  unfold pourS
  rw [if_pos e, if_pos hm, if_neg (by omega), if_neg (by omega), if_neg (by omega), if_neg (by omega), hvS]
  dsimp only
  exact moved_has htv hl hf hi V2 ht.1 (by omega) (add_has g1 g5 g3 l1 rfl) (add_has' g1 g5 g4 l2 rfl) ht.1 (by omega) hp.1 (by omega)
theorem sub_has {v l a b i j less : Int} (hb : 0 < b) (hj : 0 < j) (h1 : v * b ≤ a) (h2 : less ≤ l * (b * j)) (hm : less = a * j - i * b) : (v - l) * j ≤ i := by
  have s1 := Int.mul_le_mul_of_nonneg_right h1 (Int.le_of_lt hj)
  refine Int.le_of_mul_le_mul_right (?_ : (v - l) * j * b ≤ i * b) hb
  have e : (v - l) * j * b = v * b * j - l * (b * j) := by grind
  rw [e]
  omega
theorem sub_has' {v l a b i j less : Int} (hb : 0 < b) (hj : 0 < j) (h1 : a ≤ v * b) (h2 : l * (b * j) ≤ less) (hm : less = a * j - i * b) : i ≤ (v - l) * j := by
  have s1 := Int.mul_le_mul_of_nonneg_right h1 (Int.le_of_lt hj)
  refine Int.le_of_mul_le_mul_right (?_ : i * b ≤ (v - l) * j * b) hb
  have e : (v - l) * j * b = v * b * j - l * (b * j) := by grind
  rw [e]
  omega
theorem drawn_has {h : HoldD} {f : FillD} {cs : List Int} {u tw a b i j m0 m1 r : Int} (e : fillErr h f = 0) (s3 : f.st = 3) (hi : InTab h.vol cs) (hu : f.x0 ≤ u ∧ u ≤ f.x1) (V1 : ValOf h.vol cs u a b) (ht : u ≤ tw ∧ tw ≤ lastX h.vol) (V2 : ValOf h.vol cs tw i j)
    (hm : vR m0 m1 = true) (h0 : 0 ≤ m0) (hless : 0 ≤ a * j - i * b) (k1 : m0 * (1000 * (b * j)) ≤ (a * j - i * b) * r) (k2 : (a * j - i * b) * r ≤ m1 * (1000 * (b * j))) (r1 : f.d0 ≤ r) (r2 : r ≤ f.d1) :
    ∃ p q, drawS h f m0 m1 = (⟨h.id, 3, p, q, f.d0, f.d1⟩, 0) ∧ p ≤ tw ∧ tw ≤ q := by
  obtain ⟨hS, hF⟩ := fill_zero e
  obtain ⟨hf, hl⟩ := hold_falls hS
  have htv := hold_tab hS
  have pl := fill_place e (show 3 ≤ f.st by omega)
  have plq := pl
  simp only [inB, decide_eq_true_eq] at plq
  have hp := tab_places htv
  obtain ⟨g1, g2, g3, g4⟩ := overS_has htv hi V1 pl hu.1 hu.2
  obtain ⟨g5, _, g6, g7⟩ := val_at htv hi V2
  have hd := dens_in (fill_dens' e (by omega))
  have hbj : 0 < b * j := Int.mul_pos g1 g5
  obtain ⟨l1, l2⟩ := litres_has h0 k1 k2 hbj hless hd.1 r1 r2
  have hvS : volS h f = ((overS h.vol f.x0 f.x1).1, (overS h.vol f.x0 f.x1).2.1) := by unfold volS; rw [if_neg (by omega), if_neg (by omega)]
  have hA := vol_amt e
  have i0 : 0 ≤ i := val_pos (hold_parts hS).2.1.1 hi V2
  have he : errR m0 m1 = 0 := by unfold errR; rw [if_pos hm]
  have hmax : max ((volS h f).1 - (litresS m0 m1 f.d0 f.d1).2) 0 * j ≤ i := by
    rw [hvS]
    dsimp only
    rcases Int.le_total 0 ((overS h.vol f.x0 f.x1).1 - (litresS m0 m1 f.d0 f.d1).2) with c | c
    · rw [Int.max_eq_left c]; exact sub_has g1 g5 g3 l2 rfl
    · rw [Int.max_eq_right c, Int.zero_mul]; exact i0
  unfold drawS
  rw [if_pos e, if_pos he, if_neg (by omega), if_neg (by omega)]
  refine moved_has htv hl hf hi V2 (by omega) ht.2 hmax ?_ (by rw [if_pos s3]; omega) ht.2 (by rw [if_pos s3]; omega) hp.2
  rw [hvS]
  exact sub_has' g1 g5 g4 l1 rfl
end

section
open Go.RowKit

theorem tank_parts {t : TankD} (e : tankS t = true) : (measuresS t.vol = true ∧ measuresS t.sur = true ∧ measuresS t.hei = true) ∧ (alongS t.vol t.sur = true ∧ alongS t.vol t.hei = true) := by
  unfold tankS ctRest at e
  simp only [Bool.and_eq_true] at e
  exact ⟨⟨e.2.1, e.2.2.1.1, e.2.2.2.1.1⟩, ⟨e.2.2.1.2, e.2.2.2.1.2⟩⟩
theorem level_zero {t : TankD} {l : LevelD} (e : levelErr t l = 0) : tankS t = true ∧ levelS t l = true := by
  unfold levelErr at e
  split at e
  · rename_i g
    split at e
    · rename_i k
      exact ⟨g, k⟩
    · omega
  · omega
theorem level_dens {t : TankD} {l : LevelD} (e : levelErr t l = 0) : densS l.d0 l.d1 = true := by
  have g := (level_zero e).2
  unfold levelS at g
  simp only [Bool.and_eq_true] at g
  exact g.2.1
theorem level_place {t : TankD} {l : LevelD} (e : levelErr t l = 0) : inB l.s0 l.s1 (firstX t.vol) (lastX t.vol) = true := by
  have g := (level_zero e).2
  unfold levelS at g
  simp only [Bool.and_eq_true] at g
  exact g.2.2.1
def denL (l : LevelD) (v : Int × Int) : Int × Int := ((denseS v.1 v.2 l.d0 l.d1).1, (denseS v.1 v.2 l.d0 l.d1).2.1)
def ovL (ps : List P3) (l : LevelD) : Int × Int := ((overS ps l.s0 l.s1).1, (overS ps l.s0 l.s1).2.1)
theorem sur_amtL {t : TankD} {l : LevelD} (e : levelErr t l = 0) : Amt (ovL t.sur l) := by
  have q := tank_parts (level_zero e).1
  exact over_in q.1.2.1 (along_in q.2.1 (level_place e))
theorem den_heavyL {t : TankD} {l : LevelD} (e : levelErr t l = 0) {v : Int × Int} (hv : Amt v) : heavyS v.1 v.2 l.d0 l.d1 = denL l v := by
  have q := dens_in (level_dens e)
  obtain ⟨q1, q2⟩ := dense_heavy v.1 v.2 l.d0 l.d1 hv.1 hv.2.1 hv.2.2 (by omega) (by omega) (by omega)
  unfold denL
  rw [q1, q2]
theorem hdense_L (l : LevelD) {va vb ka kb : Int} (hk : denL l (va, vb) = (ka, kb)) (w : World) :
    Calls Tryz.prog 87 #[rv va vb, rv l.d0 l.d1] w fun e w' => e = .returned (rv ka kb) ∧ Below w.heap.size w w' := by
  have := dense_any va vb l.d0 l.d1 w
  unfold denL at hk
  injection hk with h1 h2
  dsimp only at h1 h2
  rw [h1, h2] at this
  exact this
def liqS (t : TankD) (l : LevelD) : Int × Int × Int := if levelErr t l = 0 then ((denL l (ovL t.vol l)).1, (denL l (ovL t.vol l)).2, 0) else (0, 0, levelErr t l)
def srfS (t : TankD) (l : LevelD) : Int × Int × Int :=
  if levelErr t l = 0 then (if l.pr = true ∨ (ovL t.vol l).2 = 0 then (0, 0, 0) else (if (ovL t.vol l).1 = 0 then 0 else (denL l (ovL t.sur l)).1, (denL l (ovL t.sur l)).2, 0)) else (0, 0, levelErr t l)
def balV (t : TankD) (l : LevelD) : Value := if levelErr t l = 0 then wt (denL l (ovL t.vol l)).1 (denL l (ovL t.vol l)).2 t.al t.ah (ovL t.hei l).1 (ovL t.hei l).2 0 else wt 0 0 0 0 0 0 (levelErr t l)
end

section
open Go.RowKit

theorem around_in {v n r : Int} (hn : 0 < n) (hn6 : n ≤ 1000000) (hv : 0 ≤ v) (hv9 : v ≤ 1000000000 * n) (hr : 0 ≤ r) (hr2 : r ≤ 2000) :
    0 ≤ (aroundS (v * r) (1000 * n)).1 ∧ (aroundS (v * r) (1000 * n)).1 ≤ (aroundS (v * r) (1000 * n)).2 ∧ (aroundS (v * r) (1000 * n)).2 ≤ 2000000001 ∧ 0 ≤ v * r ∧ v * r ≤ 2000000000000000000 := by
  have h0 := Int.mul_nonneg hv hr
  have h1 : v * r ≤ 1000000000 * n * 2000 := Int.mul_le_mul hv9 hr2 hr (by omega)
  have hd : 0 < 1000 * n := by omega
  obtain ⟨g1, g2⟩ := around_has (n := v * r) hd
  have gh := around_hi (n := v * r) hd
  have lo : (aroundS (v * r) (1000 * n)).1 = v * r / (1000 * n) := rfl
  have q0 : 0 ≤ v * r / (1000 * n) := Int.ediv_nonneg h0 (by omega)
  have q1 : v * r / (1000 * n) ≤ 2000000000 := by
    refine Int.not_lt.1 fun g => ?_
    have := Int.mul_le_mul_of_nonneg_right (show 2000000001 ≤ v * r / (1000 * n) by omega) (show 0 ≤ 1000 * n by omega)
    have e := Int.ediv_mul_le (v * r) (show 1000 * n ≠ 0 by omega)
    omega
  rw [lo, gh]
  refine ⟨q0, ?_, ?_, h0, by omega⟩
  · split <;> omega
  · split <;> omega
theorem val_le {ps : List P3} {cs : List Int} {x num den : Int} (hm : measuresS ps = true) (hi : InTab ps cs) (h : ValOf ps cs x num den) (p1 : firstX ps ≤ x) (p2 : x ≤ lastX ps) : num ≤ 1000000000 * den := by
  have hb : inB x x (firstX ps) (lastX ps) = true := by simp only [inB, decide_eq_true_eq]; omega
  obtain ⟨g1, g2, g3, g4⟩ := overS_has (measures_ok hm) hi h hb (Int.le_refl _) (Int.le_refl _)
  have g5 := over_in hm hb
  have := Int.mul_le_mul_of_nonneg_right g5.2.2 (Int.le_of_lt g1)
  omega
theorem inverts_hold {h : HoldD} {cs : List Int} {u v n r c d k : Int} (e : holdS h = true) (hi : InTab h.vol cs) (hv : ValOf h.vol cs u v n) (p1 : firstX h.vol ≤ u) (p2 : u ≤ lastX h.vol) (hd : densS c d = true) (c1 : c ≤ r) (c2 : r ≤ d) (k0 : 0 ≤ k) (k4 : k ≤ 4) :
    ∃ p q, UllageS h (aroundS (v * r) (1000 * n)).1 ((aroundS (v * r) (1000 * n)).2 + k) c d = (p, q, 0) ∧ p ≤ u ∧ u ≤ q := by
  have hm := (hold_parts e).2.1.1
  obtain ⟨g1, g2, _, _⟩ := val_at (measures_ok hm) hi hv
  have v0 := val_pos hm hi hv
  have v9 := val_le hm hi hv p1 p2
  have hc := dens_in hd
  obtain ⟨a1, a2, a3, a4, a5⟩ := around_in g1 g2 v0 v9 (show 0 ≤ r by omega) (show r ≤ 2000 by omega)
  obtain ⟨b1, b2⟩ := around_has (n := v * r) (show 0 < 1000 * n by omega)
  have hmass : massErr (aroundS (v * r) (1000 * n)).1 ((aroundS (v * r) (1000 * n)).2 + k) c d = 0 := by
    unfold massErr
    rw [if_pos ((vR_iff _ _).2 (by omega)), if_pos hd]
  have b3 : v * r ≤ ((aroundS (v * r) (1000 * n)).2 + k) * (1000 * n) := by
    have := Int.mul_nonneg k0 (show 0 ≤ 1000 * n by omega)
    rw [Int.add_mul]
    omega
  exact ullage_has e hi hv p1 p2 hmass a1 b1 b3 v0 c1 c2
theorem inverts_tank {t : TankD} {cs : List Int} {u v n r c d : Int} (e : tankS t = true) (hi : InTab t.vol cs) (hv : ValOf t.vol cs u v n) (p1 : firstX t.vol ≤ u) (p2 : u ≤ lastX t.vol) (hd : densS c d = true) (c1 : c ≤ r) (c2 : r ≤ d) :
    ∃ p q, SoundingS t (aroundS (v * r) (1000 * n)).1 (aroundS (v * r) (1000 * n)).2 c d = (p, q, 0) ∧ p ≤ u ∧ u ≤ q := by
  have hm := (tank_parts e).1.1
  obtain ⟨g1, g2, _, _⟩ := val_at (measures_ok hm) hi hv
  have v0 := val_pos hm hi hv
  have v9 := val_le hm hi hv p1 p2
  have hc := dens_in hd
  obtain ⟨a1, a2, a3, a4, a5⟩ := around_in g1 g2 v0 v9 (show 0 ≤ r by omega) (show r ≤ 2000 by omega)
  obtain ⟨b1, b2⟩ := around_has (n := v * r) (show 0 < 1000 * n by omega)
  have hmass : massErr (aroundS (v * r) (1000 * n)).1 (aroundS (v * r) (1000 * n)).2 c d = 0 := by
    unfold massErr
    rw [if_pos ((vR_iff _ _).2 (by omega)), if_pos hd]
  exact sounding_has e hi hv p1 p2 hmass a1 b1 b2 v0 c1 c2
end

section
open Go.RowKit

def LstIn (w : World) (C : Option Addr) (n : Nat) (k : List Int) : Prop := n = k.length ∧ n ≤ 4611686018427387904 ∧ IntsP w C k
theorem LstIn.below {w w' : World} {C : Option Addr} {n : Nat} {k : List Int} (h : LstIn w C n k) (hb : Below w.heap.size w w') : LstIn w' C n k := ⟨h.1, h.2.1, h.2.2.below hb⟩
theorem curve_c {ps : List P3} {A C : Option Addr} {n c na ca : Nat} {k : List Int} {w : World} (hT : TabIn w A n ps) (ht : tabOk ps = true) (hk : LstIn w C na k) :
    Calls Tryz.prog 21 #[tv A n c, .slice C na ca] w (GivesInts w (curveTo ps k n)) :=
  scurve_to A C n c na ca ps k w hT (by have := hT.1; have := (tabOk_len ht).2; omega) (tab_wide ht) hk.1 hk.2.1 hk.2.2
theorem curve_in {ps : List P3} {A : Option Addr} {n : Nat} {w : World} (k : List Int) (hT : TabIn w A n ps) (ht : tabOk ps = true) (h2 : 2 ≤ ps.length) : InTab ps (curveTo ps k n) ∧ (curveTo ps k n).length = n ∧ 0 < n :=
  ⟨curve_inTabS k ht hT.1, curveTo_len _ _ _ (Nat.le_of_eq hT.1), by have := hT.1; omega⟩
theorem value_c {ps : List P3} {A : Option Addr} {n c cb cc : Nat} {k : List Int} {u : Int} {w : World} (hT : TabIn w A n ps) (ht : tabOk ps = true) (h2 : 2 ≤ ps.length) (hc : IntsP w (some ⟨cb, 0, none⟩) (curveTo ps k n)) (g1 : firstX ps ≤ u) (g2 : u ≤ lastX ps) :
    Calls Tryz.prog 20 #[tv A n c, .slice (some ⟨cb, 0, none⟩) n cc, .int .i64 u] w fun e w' => (∃ num den, e = .returned (.tuple #[.int .i64 num, .int .i64 den]) ∧ ValOf ps (curveTo ps k n) u num den) ∧ Below w.heap.size w w' :=
  svalue_to A (some ⟨cb, 0, none⟩) n c n cc ps (curveTo ps k n) u w hT ht (by have := hT.1; omega) (by rw [curveTo_len _ _ _ (Nat.le_of_eq hT.1)]) hc (curve_inTabS k ht hT.1) g1 g2
theorem Boxes.farCell {W : World} {L : List (Nat × TypeId × Array Value)} (h : Boxes W L) {g : Nat} (hg : ∀ p ∈ L, p.1 ≠ g) (i : Nat) (u : Value) : Boxes (W.setCell ⟨g, i, none⟩ u) L := fun p hp => (h p hp).far (p := ⟨g, i, none⟩) (hg p hp) u
theorem measures_len {ps : List P3} (h : measuresS ps = true) : 2 ≤ ps.length := by
  unfold measuresS at h
  simp only [Bool.and_eq_true, decide_eq_true_eq] at h
  exact h.1.2
theorem density_in (a b : Int) : 500 ≤ (densityS a b).1 ∧ (densityS a b).1 ≤ (densityS a b).2 ∧ (densityS a b).2 ≤ 1600 := by
  obtain ⟨b1, b2⟩ := emod_in a (show (0 : Int) < 900 by omega)
  obtain ⟨b3, b4⟩ := emod_in b (show (0 : Int) < 200 by omega)
  unfold densityS; dsimp only; omega
theorem some_inZ {lo hi : Int} (x : Int) (h : lo ≤ hi) : lo ≤ lo + x % (hi - lo + 1) ∧ lo + x % (hi - lo + 1) ≤ hi := by
  obtain ⟨b1, b2⟩ := emod_in x (show (0 : Int) < hi - lo + 1 by omega)
  omega
theorem val_prod {ps : List P3} {cs : List Int} {u v n r : Int} (hm : measuresS ps = true) (hi : InTab ps cs) (hv : ValOf ps cs u v n) (p1 : firstX ps ≤ u) (p2 : u ≤ lastX ps) (r0 : 0 ≤ r) (r2 : r ≤ 2000) :
    0 < n ∧ n ≤ 1000000 ∧ 0 ≤ v * r ∧ v * r ≤ 2000000000000000000 ∧ 0 ≤ (aroundS (v * r) (1000 * n)).1 ∧ (aroundS (v * r) (1000 * n)).1 ≤ (aroundS (v * r) (1000 * n)).2 ∧ (aroundS (v * r) (1000 * n)).2 ≤ 2000000001 := by
  obtain ⟨g1, g2, _, _⟩ := val_at (measures_ok hm) hi hv
  obtain ⟨a1, a2, a3, a4, a5⟩ := around_in g1 g2 (val_pos hm hi hv) (val_le hm hi hv p1 p2) r0 r2
  exact ⟨g1, g2, a4, a5, a1, a2, a3⟩
end

end Go.Proofs.YtemlaaipnhmcoaaGreat
