/- The places that numbers describe (xs of the specification). Its condition: the lists lie in memory. -/
import Derived.Test.YtpcmcicnciejpaaGreatR10
set_option linter.unusedVariables false
set_option linter.unusedSimpArgs false
set_option linter.constructorNameAsVariable false
set_option maxRecDepth 100000
set_option maxHeartbeats 4000000
namespace Go.Proofs.YtpcmcicnciejpaaGreat

section
open Go.RowKit

def Wgt (v : Int × Int) : Prop := 0 ≤ v.1 ∧ v.1 ≤ v.2 ∧ v.2 ≤ 2000000001
theorem heavy_wgt {v : Int × Int} {c d : Int} (hv : Amt v) (h4 : 0 ≤ c) (h5 : c ≤ d) (h6 : d ≤ 2000) : Wgt (heavyS v.1 v.2 c d) := by
  obtain ⟨h1, h2, h3⟩ := hv
  have e1 : v.1 * c ≤ v.1 * d := Int.mul_le_mul_of_nonneg_left h5 h1
  have e4 : v.1 * d ≤ v.2 * d := Int.mul_le_mul_of_nonneg_right h2 (by omega)
  have e5 : 0 ≤ v.1 * c := Int.mul_nonneg h1 h4
  have e6 : v.2 * d ≤ 1000000000 * 2000 := Int.mul_le_mul h3 h6 (by omega) (by omega)
  unfold heavyS Wgt
  dsimp only
  refine ⟨?_, ?_, ?_⟩ <;> omega
theorem wgt_zero : Wgt (0, 0) := ⟨by decide, by decide, by decide⟩
theorem heel_wgt {h : HoldD} {f : FillD} (e : fillErr h f = 0) : Wgt (denS h f (momS h f)) := by
  obtain ⟨d1, d2, d3⟩ := fill_dens e
  rw [← den_heavy e (mom_amt e)]
  exact heavy_wgt (mom_amt e) d1 d2 d3
theorem heel_empty {h : HoldD} {f : FillD} (e : fillErr h f = 0) (s : f.st = 0) : denS h f (momS h f) = (0, 0) := by
  have hm : momS h f = (0, 0) := by unfold momS; rw [if_pos s]
  rw [hm, ← den_heavy e amt_zero]
  unfold heavyS
  simp
theorem srf_wgt {t : TankD} {l : LevelD} (e : levelErr t l = 0) : Wgt ((srfS t l).1, (srfS t l).2.1) := by
  have q := dens_in (level_dens e)
  have hv := sur_amtL e
  have hw : Wgt (denL l (ovL t.sur l)) := by
    rw [← den_heavyL e hv]
    exact heavy_wgt hv (by omega) (by omega) (by omega)
  obtain ⟨w1, w2, w3⟩ := hw
  unfold srfS
  rw [if_pos e]
  split
  · exact wgt_zero
  · split
    · exact ⟨Int.le_refl _, by dsimp only; omega, w3⟩
    · exact ⟨w1, w2, w3⟩
def SumOf (k : Nat) (v : Int × Int) : Prop := 0 ≤ v.1 ∧ v.1 ≤ v.2 ∧ v.2 ≤ k * 2000000001
theorem sum_is {k : Nat} {v x : Int × Int} (hk : k ≤ 9) (hv : SumOf k v) (hx : Wgt x) : sumH v.1 v.2 x.1 x.2 = (v.1 + x.1, v.2 + x.2) ∧ SumOf (k + 1) (v.1 + x.1, v.2 + x.2) := by
  obtain ⟨a1, a2, a3⟩ := hv
  obtain ⟨b1, b2, b3⟩ := hx
  have hk' : (k : Int) ≤ 9 := by omega
  have v1 : vR v.1 v.2 = true := (vR_iff _ _).2 (by omega)
  have v2 : vR x.1 x.2 = true := (vR_iff _ _).2 (by omega)
  have v3 : vR (v.1 + x.1) (v.2 + x.2) = true := (vR_iff _ _).2 (by omega)
  constructor
  · unfold sumH addS
    rw [twoS_yes (by rw [v1, v2]; rfl)]
    unfold bigS
    rw [if_pos v3]
  · refine ⟨by dsimp only; omega, by dsimp only; omega, ?_⟩
    dsimp only
    push_cast
    omega

def holdW (h : HoldD) (f : FillD) : WD := ⟨(denS h f (volS h f)).1, (denS h f (volS h f)).2, h.al, h.ah, (heiS h f).1, (heiS h f).2⟩
def tankW (t : TankD) (l : LevelD) : WD := ⟨(denL l (ovL t.vol l)).1, (denL l (ovL t.vol l)).2, t.al, t.ah, (ovL t.hei l).1, (ovL t.hei l).2⟩
def upTo (L : List (HoldD × HoldM)) (fs : List FillD) : Nat → List WD × (Int × Int)
  | 0 => ([], (0, 0))
  | k + 1 => match L[k]?, fs[k]? with
    | some r, some f => (if f.st = 0 then (upTo L fs k).1 else (upTo L fs k).1 ++ [holdW r.1 f], ((upTo L fs k).2.1 + (denS r.1 f (momS r.1 f)).1, (upTo L fs k).2.2 + (denS r.1 f (momS r.1 f)).2))
    | _, _ => upTo L fs k
def upToT (L : List (TankD × HoldM)) (fs : List LevelD) : Nat → List WD × (Int × Int)
  | 0 => ([], (0, 0))
  | k + 1 => match L[k]?, fs[k]? with
    | some r, some f => ((upToT L fs k).1 ++ [tankW r.1 f], ((upToT L fs k).2.1 + (srfS r.1 f).1, (upToT L fs k).2.2 + (srfS r.1 f).2.1))
    | _, _ => upToT L fs k
theorem upTo_succ {L : List (HoldD × HoldM)} {fs : List FillD} {k : Nat} {r : HoldD × HoldM} {f : FillD} (hr : L[k]? = some r) (hf : fs[k]? = some f) :
    upTo L fs (k + 1) = (if f.st = 0 then (upTo L fs k).1 else (upTo L fs k).1 ++ [holdW r.1 f], ((upTo L fs k).2.1 + (denS r.1 f (momS r.1 f)).1, (upTo L fs k).2.2 + (denS r.1 f (momS r.1 f)).2)) := by
  rw [upTo, hr, hf]
theorem upToT_succ {L : List (TankD × HoldM)} {fs : List LevelD} {k : Nat} {r : TankD × HoldM} {f : LevelD} (hr : L[k]? = some r) (hf : fs[k]? = some f) :
    upToT L fs (k + 1) = ((upToT L fs k).1 ++ [tankW r.1 f], ((upToT L fs k).2.1 + (srfS r.1 f).1, (upToT L fs k).2.2 + (srfS r.1 f).2.1)) := by
  rw [upToT, hr, hf]
theorem first_zero {g : Nat → Int} : ∀ (m k : Nat), firstErr g k m = 0 → ∀ j, k ≤ j → j < k + m → g j = 0
  | 0, _, _, _, h1, h2 => by omega
  | m + 1, k, h, j, h1, h2 => by
    rw [firstErr] at h
    by_cases e : g k = 0
    · rw [if_pos e] at h
      by_cases q : j = k
      · rw [q]; exact e
      · exact first_zero m (k + 1) h j (by omega) (by omega)
    · rw [if_neg e] at h
      exact absurd h e
theorem each_zero {L : List (HoldD × HoldM)} {fs : List FillD} (h : eachHold L fs = 0) {k : Nat} {r : HoldD × HoldM} {f : FillD} (hr : L[k]? = some r) (hf : fs[k]? = some f) : fillErr r.1 f = 0 := by
  have := first_zero _ _ h k (Nat.zero_le _) (by have := (List.getElem?_eq_some_iff.1 hr).1; omega)
  unfold errHold at this
  rw [hr, hf] at this
  dsimp only at this
  split at this
  · omega
  · exact this
theorem each_zeroT {L : List (TankD × HoldM)} {fs : List LevelD} (h : eachTank L fs = 0) {k : Nat} {r : TankD × HoldM} {f : LevelD} (hr : L[k]? = some r) (hf : fs[k]? = some f) : levelErr r.1 f = 0 := by
  have := first_zero _ _ h k (Nat.zero_le _) (by have := (List.getElem?_eq_some_iff.1 hr).1; omega)
  unfold errTank at this
  rw [hr, hf] at this
  dsimp only at this
  split at this
  · omega
  · exact this
end

section
open Go.RowKit

theorem upTo_take {L : List (HoldD × HoldM)} {fs : List FillD} (k : Nat) : ∀ i, i ≤ k → upTo (L.take k) (fs.take k) i = upTo L fs i
  | 0, _ => rfl
  | i + 1, h => by
    have ih := upTo_take (L := L) (fs := fs) k i (by omega)
    rw [upTo, upTo, ih, List.getElem?_take_of_lt (by omega), List.getElem?_take_of_lt (by omega)]
theorem upTo_drop {L : List (HoldD × HoldM)} {fs : List FillD} (k : Nat) (hf : fs.length = L.length) : ∀ j, k + j ≤ L.length → (upTo L fs (k + j)).1 = (upTo L fs k).1 ++ (upTo (L.drop k) (fs.drop k) j).1 ∧ (upTo L fs (k + j)).2.1 = (upTo L fs k).2.1 + (upTo (L.drop k) (fs.drop k) j).2.1 ∧ (upTo L fs (k + j)).2.2 = (upTo L fs k).2.2 + (upTo (L.drop k) (fs.drop k) j).2.2
  | 0, _ => by simp [upTo]
  | j + 1, h => by
    obtain ⟨h1, h2, h3⟩ := upTo_drop (L := L) (fs := fs) k hf j (by omega)
    obtain ⟨r, hr⟩ : ∃ r, L[k + j]? = some r := ⟨_, List.getElem?_eq_getElem (show k + j < L.length by omega)⟩
    obtain ⟨f, hff⟩ : ∃ f, fs[k + j]? = some f := ⟨_, List.getElem?_eq_getElem (show k + j < fs.length by omega)⟩
    rw [show k + (j + 1) = (k + j) + 1 by omega, upTo_succ hr hff, upTo_succ (L := L.drop k) (fs := fs.drop k) (by rw [List.getElem?_drop]; exact hr) (by rw [List.getElem?_drop]; exact hff)]
    dsimp only
    refine ⟨?_, by omega, by omega⟩
    split
    · exact h1
    · rw [h1, List.append_assoc]
theorem upTo_cut {L : List (HoldD × HoldM)} {fs : List FillD} {k : Nat} (hf : fs.length = L.length) (hk : k ≤ L.length) : (upTo L fs L.length).1 = (upTo (L.take k) (fs.take k) k).1 ++ (upTo (L.drop k) (fs.drop k) (L.length - k)).1 ∧
    (upTo L fs L.length).2.1 = (upTo (L.take k) (fs.take k) k).2.1 + (upTo (L.drop k) (fs.drop k) (L.length - k)).2.1 ∧ (upTo L fs L.length).2.2 = (upTo (L.take k) (fs.take k) k).2.2 + (upTo (L.drop k) (fs.drop k) (L.length - k)).2.2 := by
  have q := upTo_drop (L := L) (fs := fs) k hf (L.length - k) (by omega)
  rw [show k + (L.length - k) = L.length by omega] at q
  rw [upTo_take k k (Nat.le_refl _)]
  exact q
theorem first_none {g : Nat → Int} : ∀ (m k : Nat), (∀ j, k ≤ j → j < k + m → g j = 0) → firstErr g k m = 0
  | 0, _, _ => rfl
  | m + 1, k, h => by
    rw [firstErr, if_pos (h k (Nat.le_refl _) (by omega))]
    exact first_none m (k + 1) fun j h1 h2 => h j (by omega) (by omega)
theorem each_none {L : List (HoldD × HoldM)} {fs : List FillD} (h : ∀ (k : Nat) (r : HoldD × HoldM) (f : FillD), L[k]? = some r → fs[k]? = some f → fillErr r.1 f = 0) (hd : ∀ (i j : Nat) (r s : HoldD × HoldM), i < j → L[i]? = some r → L[j]? = some s → ¬ r.1.id = s.1.id) : eachHold L fs = 0 := by
  unfold eachHold
  refine first_none _ _ fun j _ hj => ?_
  unfold errHold
  split
  · rename_i r f hr hf
    have e := h j r f hr hf
    have hh : hasHold (L.take j) r.1.id = false := by
      cases q : hasHold (L.take j) r.1.id
      · rfl
      · unfold hasHold at q
        rw [List.any_eq_true] at q
        obtain ⟨x, hx, hq⟩ := q
        obtain ⟨i, hi⟩ := List.getElem?_of_mem hx
        have hij : i < j := by
          have := (List.getElem?_eq_some_iff.1 hi).1
          rw [List.length_take] at this
          omega
        rw [List.getElem?_take_of_lt hij] at hi
        exact absurd (by simpa using hq) (hd i j x r hij hi hr)
    rw [e, hh]
    simp
  · rfl
theorem each_noneT {L : List (TankD × HoldM)} {fs : List LevelD} (h : ∀ (k : Nat) (r : TankD × HoldM) (f : LevelD), L[k]? = some r → fs[k]? = some f → levelErr r.1 f = 0) (hd : ∀ (i j : Nat) (r s : TankD × HoldM), i < j → L[i]? = some r → L[j]? = some s → ¬ r.1.id = s.1.id) : eachTank L fs = 0 := by
  unfold eachTank
  refine first_none _ _ fun j _ hj => ?_
  unfold errTank
  split
  · rename_i r f hr hf
    have e := h j r f hr hf
    have hh : hasTank (L.take j) r.1.id = false := by
      cases q : hasTank (L.take j) r.1.id
      · rfl
      · unfold hasTank at q
        rw [List.any_eq_true] at q
        obtain ⟨x, hx, hq⟩ := q
        obtain ⟨i, hi⟩ := List.getElem?_of_mem hx
        have hij : i < j := by
          have := (List.getElem?_eq_some_iff.1 hi).1
          rw [List.length_take] at this
          omega
        rw [List.getElem?_take_of_lt hij] at hi
        exact absurd (by simpa using hq) (hd i j x r hij hi hr)
    rw [e, hh]
    simp
  · rfl
end

section
open Go.RowKit

def wCells (r : WD) : List Value := [.int .i64 r.m0, .int .i64 r.m1, .int .i64 r.a0, .int .i64 r.a1, .int .i64 r.z0, .int .i64 r.z1]
def wsCells : List WD → List Value
  | [] => []
  | r :: L => wCells r ++ wsCells L
theorem wsCells_app : ∀ (L : List WD) (r : WD), wsCells (L ++ [r]) = wsCells L ++ wCells r
  | [], r => by simp [wsCells]
  | x :: L, r => by rw [List.cons_append, wsCells, wsCells, wsCells_app L r, List.append_assoc]
theorem wsCells_get : ∀ (L : List WD) (k i : Nat) (r : WD), L[k]? = some r → i < 6 → (wsCells L)[k * 6 + i]? = (wCells r)[i]?
  | [], k, i, r, h, _ => by simp at h
  | x :: L, 0, i, r, h, hi => by
    injection h with h; subst h
    rw [wsCells, Nat.zero_mul, Nat.zero_add, List.getElem?_append_left (by simpa [wCells] using hi)]
  | x :: L, k + 1, i, r, h, hi => by
    have h' : L[k]? = some r := by simpa using h
    rw [wsCells, show (k + 1) * 6 + i = 6 + (k * 6 + i) by omega, List.getElem?_append_right (by simp [wCells])]
    rw [show 6 + (k * 6 + i) - (wCells x).length = k * 6 + i by simp [wCells]]
    exact wsCells_get L k i r h' hi
def OwnWs (base : Nat) (w : World) (v : Value) (L : List WD) : Prop := w.ownsRow base 73 6 v L.length (wsCells L)
theorem OwnWs.sl {base : Nat} {w : World} {v : Value} {L : List WD} (h : OwnWs base w v L) : SlWs w v L := by
  obtain ⟨_, h | ⟨g, cap, cur, rfl, hg, hc, h1, h2, h3, h4⟩⟩ := h
  · exact .inl ⟨h.1, List.length_eq_zero_iff.1 h.2⟩
  · have hlt : g < w.heap.size := by
      rcases Nat.lt_or_ge g w.heap.size with q | q
      · exact q
      · rw [Array.getElem?_eq_none q] at hc; cases hc
    refine .inr ⟨g, cap, rfl, hlt, fun k r hr => ?_⟩
    have hk := (List.getElem?_eq_some_iff.1 hr).1
    have cell : ∀ i, i < 6 → w.cell? ⟨g, k * 6 + i, none⟩ = (wCells r)[i]? := fun i hi => by
      rw [cell_of_row w g (k * 6 + i) cur 73 (0, 0) hc, ← wsCells_get L k i r hr hi, ← h4, List.getElem?_take, if_pos (by omega)]
      simp
    have c0 := cell 0 (by omega); have c1 := cell 1 (by omega); have c2 := cell 2 (by omega); have c3 := cell 3 (by omega); have c4 := cell 4 (by omega); have c5 := cell 5 (by omega)
    simp only [wCells, List.getElem?_cons_zero, List.getElem?_cons_succ, Nat.add_zero] at c0 c1 c2 c3 c4 c5
    exact ⟨c0, c1, c2, c3, c4, c5⟩
end

section
open Go.RowKit

theorem Tryz.infoWt : (Tryz.prog.info? 73).map (fun i => (i.zero, i.size, i.bytes)) = some (some (.agg #[.int .i64 0, .int .i64 0, .int .i64 0, .int .i64 0, .int .i64 0, .int .i64 0]), 6, 48) := by kernel_rfl
theorem OwnWs.slice {base : Nat} {w : World} {v : Value} {L : List WD} (h : OwnWs base w v L) : ∃ p n c, v = .slice p n c := by
  obtain ⟨_, h | ⟨g, cap, _, h, _⟩⟩ := h
  · exact ⟨_, _, _, h.1⟩
  · exact ⟨_, _, _, h⟩
theorem OwnWs.on {base : Nat} {w w' : World} {v : Value} {L : List WD} (h : OwnWs base w v L) (hb : Below w.heap.size w w') : OwnWs base w' v L :=
  World.ownsRow.kept (show w.ownsRow base 73 6 v L.length (wsCells L) from h) (below_grownNone hb) (by cases hv : v.ownBlock <;> simp)
theorem OwnWs.kept {base g : Nat} {w w' : World} {v : Value} {L : List WD} (h : OwnWs base w v L) (hg : w.grownBy w' (some g)) (hr : g < base) : OwnWs base w' v L :=
  World.ownsRow.kept (show w.ownsRow base 73 6 v L.length (wsCells L) from h) hg (.inr (fun e => by have := (World.ownsRow.lt (show w.ownsRow base 73 6 v L.length (wsCells L) from h) _ e).1; omega))
theorem OwnWs.mono {base base' : Nat} {w : World} {v : Value} {L : List WD} (h : OwnWs base w v L) (hb : base' ≤ base) : OwnWs base' w v L := World.ownsRow.mono (show w.ownsRow base 73 6 v L.length (wsCells L) from h) hb
theorem OwnWs.push {base : Nat} {w : World} {v : Value} {L : List WD} {r : WD} (h : w.ownsRow base 73 6 v (L.length + 1) (wsCells L ++ wCells r)) : OwnWs base w v (L ++ [r]) := by
  unfold OwnWs
  rw [List.length_append, wsCells_app]
  exact h
def NWs (base : Nat) (w : World) (v : Value) (L : List WD) : Prop := OwnWs base w v L ∧ (L = [] ↔ v = .slice none 0 0)
theorem NWs.nil (base : Nat) (w : World) : NWs base w (.slice none 0 0) [] := ⟨World.ownsRow_nil _ _ _ _, by simp⟩
theorem NWs.slice {base : Nat} {w : World} {v : Value} {L : List WD} (h : NWs base w v L) : ∃ p n c, v = .slice p n c := h.1.slice
theorem NWs.on {base : Nat} {w w' : World} {v : Value} {L : List WD} (h : NWs base w v L) (hb : Below w.heap.size w w') : NWs base w' v L := ⟨h.1.on hb, h.2⟩
theorem NWs.kept {base g : Nat} {w w' : World} {v : Value} {L : List WD} (h : NWs base w v L) (hg : w.grownBy w' (some g)) (hr : g < base) : NWs base w' v L := ⟨h.1.kept hg hr, h.2⟩
theorem NWs.mono {base base' : Nat} {w : World} {v : Value} {L : List WD} (h : NWs base w v L) (hb : base' ≤ base) : NWs base' w v L := ⟨h.1.mono hb, h.2⟩
theorem NWs.push {base : Nat} {w : World} {v : Value} {L : List WD} {r : WD} (h : w.ownsRow base 73 6 v (L.length + 1) (wsCells L ++ wCells r)) (hv : ¬ v = .slice none 0 0) : NWs base w v (L ++ [r]) :=
  ⟨OwnWs.push h, ⟨fun q => by simp at q, fun q => absurd q hv⟩⟩
theorem grownBy_setRow' (w : World) (g : Nat) (cs : Array Value) : w.grownBy (w.setRow g cs) (some g) := ⟨rfl, rfl, rfl, by simp [World.setRow], fun k _ hk => setRow_other w g k _ (fun e => hk (by rw [e]))⟩
theorem grownBy_setCellAt (w : World) (b i : Nat) (v : Value) : w.grownBy (w.setCell ⟨b, i, none⟩ v) (some b) := ⟨rfl, rfl, rfl, by simp [World.setCell], fun k _ hk => Below.heap_setCell _ _ _ _ (fun e => hk (by simp [e]))⟩
theorem Boxes.grown {w w' : World} {row : Option Nat} {L : List (Nat × TypeId × Array Value)} (h : Boxes w L) (hg : w.grownBy w' row) (hr : ∀ p ∈ L, some p.1 ≠ row) : Boxes w' L := fun p hp => (h p hp).grown hg (hr p hp)
def BB (w0 : World) (L : List (Nat × TypeId × Array Value)) (w : World) : Prop := Boxes w L ∧ Below w0.heap.size w0 w
theorem BB.bx {w0 w : World} {L : List (Nat × TypeId × Array Value)} (h : BB w0 L w) : Boxes w L := h.1
theorem BB.be {w0 w : World} {L : List (Nat × TypeId × Array Value)} (h : BB w0 L w) : Below w0.heap.size w0 w := h.2
theorem BB.on {w0 w w' : World} {L : List (Nat × TypeId × Array Value)} (h : BB w0 L w) (hb : Below w.heap.size w w') : BB w0 L w' := ⟨h.1.on hb, below_then h.2 hb⟩
theorem BB.row {w0 w : World} {L : List (Nat × TypeId × Array Value)} (h : BB w0 L w) {g : Nat} (hg : ∀ p ∈ L, p.1 ≠ g) (hn : w0.heap.size ≤ g) (cs : Array Value) : BB w0 L (w.setRow g cs) := ⟨h.1.farRow hg cs, below_setRow h.2 hn cs⟩
theorem weightV_ok {h : HoldD} {f : FillD} (e : fillErr h f = 0) : weightV h f = wt (holdW h f).m0 (holdW h f).m1 (holdW h f).a0 (holdW h f).a1 (holdW h f).z0 (holdW h f).z1 0 := by
  unfold weightV; rw [if_pos e]; rfl
theorem balV_ok {t : TankD} {l : LevelD} (e : levelErr t l = 0) : balV t l = wt (tankW t l).m0 (tankW t l).m1 (tankW t l).a0 (tankW t l).a1 (tankW t l).z0 (tankW t l).z1 0 := by
  unfold balV; rw [if_pos e]; rfl
theorem tell_ok {h : HoldD} {f : FillD} (e : fillErr h f = 0) (v : Int × Int) : tellS h f v = (v.1, v.2, 0) := by unfold tellS; rw [if_pos e]
theorem srf_ok {t : TankD} {l : LevelD} (e : levelErr t l = 0) : srfS t l = ((srfS t l).1, (srfS t l).2.1, 0) := by
  unfold srfS
  rw [if_pos e]
  split <;> rfl
theorem load_zero {L : List (HoldD × HoldM)} {fs : List FillD} {T : List (TankD × HoldM)} {ls : List LevelD} (h : loadErr L fs T ls = 0) :
    L.length ≤ 9 ∧ T.length ≤ 9 ∧ fs.length = L.length ∧ ls.length = T.length ∧ eachHold L fs = 0 ∧ eachTank T ls = 0 := by
  unfold loadErr at h
  split at h
  · exact absurd h (by decide)
  · rename_i h1
    split at h
    · exact absurd h (by decide)
    · rename_i h2
      split at h
      · rename_i h3; exact ⟨by omega, by omega, by omega, by omega, h3, h⟩
      · rename_i h3; exact absurd h h3
theorem sum_wrap {k : Nat} {t : Int × Int} (hk : k ≤ 9) (h : SumOf (k + 1) t) : IntKind.i64.wrap t.1 = t.1 ∧ IntKind.i64.wrap t.2 = t.2 := by
  obtain ⟨h1, h2, h3⟩ := h
  have : ((k + 1 : Nat) : Int) ≤ 10 := by omega
  exact ⟨IntWalk.i64_in _ ⟨by omega, by omega⟩, IntWalk.i64_in _ ⟨by omega, by omega⟩⟩
theorem hold_step {L : List (HoldD × HoldM)} {fs : List FillD} {k : Nat} {z : HoldD × HoldM} {y : FillD} {s0 s1 : Int} (hk : k ≤ 9) (hz : L[k]? = some z) (hy : fs[k]? = some y) (he : fillErr z.1 y = 0) (hu : (upTo L fs k).2 = (s0, s1)) (hs : SumOf k (s0, s1)) :
    ∃ e0 e1 t0 t1, denS z.1 y (momS z.1 y) = (e0, e1) ∧ sumH s0 s1 e0 e1 = (t0, t1) ∧ IntKind.i64.wrap (s0 + e0) = t0 ∧ IntKind.i64.wrap (s1 + e1) = t1 ∧ (upTo L fs (k + 1)).2 = (t0, t1) ∧ SumOf (k + 1) (t0, t1) ∧
      (y.st = 0 → t0 = s0 ∧ t1 = s1 ∧ (upTo L fs (k + 1)).1 = (upTo L fs k).1) ∧ (¬ y.st = 0 → (upTo L fs (k + 1)).1 = (upTo L fs k).1 ++ [holdW z.1 y]) := by
  obtain ⟨h1, h2⟩ := sum_is hk hs (heel_wgt he)
  have h3 := upTo_succ hz hy
  have h4 := heel_empty (h := z.1) (f := y) he
  obtain ⟨⟨e0, e1⟩, hx⟩ : ∃ r, denS z.1 y (momS z.1 y) = r := ⟨_, rfl⟩
  rw [hx] at h1 h2 h3 h4 ⊢
  rw [hu] at h3
  obtain ⟨h5, h6⟩ := sum_wrap hk h2
  refine ⟨e0, e1, s0 + e0, s1 + e1, rfl, h1, h5, h6, by rw [h3], h2, fun g => ?_, fun g => ?_⟩
  · have q := h4 g
    have q0 : e0 = 0 := congrArg Prod.fst q
    have q1 : e1 = 0 := congrArg Prod.snd q
    refine ⟨by omega, by omega, ?_⟩
    rw [h3, if_pos g]
  · rw [h3, if_neg g]
theorem tank_step {L : List (TankD × HoldM)} {fs : List LevelD} {k : Nat} {z : TankD × HoldM} {y : LevelD} {s0 s1 : Int} (hk : k ≤ 9) (hz : L[k]? = some z) (hy : fs[k]? = some y) (he : levelErr z.1 y = 0) (hu : (upToT L fs k).2 = (s0, s1)) (hs : SumOf k (s0, s1)) :
    ∃ e0 e1 t0 t1, srfS z.1 y = (e0, e1, 0) ∧ sumH s0 s1 e0 e1 = (t0, t1) ∧ IntKind.i64.wrap (s0 + e0) = t0 ∧ IntKind.i64.wrap (s1 + e1) = t1 ∧ (upToT L fs (k + 1)).2 = (t0, t1) ∧ SumOf (k + 1) (t0, t1) ∧ (upToT L fs (k + 1)).1 = (upToT L fs k).1 ++ [tankW z.1 y] := by
  obtain ⟨h1, h2⟩ := sum_is hk hs (srf_wgt he)
  have h3 := upToT_succ hz hy
  have h4 := srf_ok he
  obtain ⟨⟨e0, e1, e2⟩, hx⟩ : ∃ r, srfS z.1 y = r := ⟨_, rfl⟩
  rw [hx] at h1 h2 h3 h4 ⊢
  rw [hu] at h3
  obtain ⟨h5, h6⟩ := sum_wrap hk h2
  have q : e2 = 0 := congrArg (fun r : Int × Int × Int => r.2.2) h4
  refine ⟨e0, e1, s0 + e0, s1 + e1, by rw [q], h1, h5, h6, by rw [h3], h2, by rw [h3]⟩
theorem upTo_len (L : List (HoldD × HoldM)) (fs : List FillD) : ∀ k, (upTo L fs k).1.length ≤ k
  | 0 => Nat.le_refl _
  | k + 1 => by
    have h := upTo_len L fs k
    rw [upTo]
    split
    · dsimp only
      split
      · omega
      · rw [List.length_append]; simp; omega
    · omega
theorem upToT_len (L : List (TankD × HoldM)) (fs : List LevelD) : ∀ k, (upToT L fs k).1.length ≤ k
  | 0 => Nat.le_refl _
  | k + 1 => by
    have h := upToT_len L fs k
    rw [upToT]
    split
    · dsimp only
      rw [List.length_append]; simp; omega
    · omega
def LoadPost (L : List (HoldD × HoldM)) (fs : List FillD) (T : List (TankD × HoldM)) (ls : List LevelD) (n l : Nat) (E : Int) (w : World) (x : Ending) (w' : World) : Prop :=
  (E = 0 → ∃ v u0 u1 s0 s1, x = .returned (.tuple #[.agg #[v, .int .i64 u0, .int .i64 u1, .int .i64 s0, .int .i64 s1], .int .i64 0]) ∧
    (upToT T ls l).2 = (u0, u1) ∧ (upTo L fs n).2 = (s0, s1) ∧ NWs w.heap.size w' v ((upTo L fs n).1 ++ (upToT T ls l).1)) ∧
  (¬ E = 0 → x = .returned (.tuple #[.agg #[.slice none 0 0, .int .i64 0, .int .i64 0, .int .i64 0, .int .i64 0], .int .i64 E])) ∧ Below w.heap.size w w'
theorem LoadPost.ok {L : List (HoldD × HoldM)} {fs : List FillD} {T : List (TankD × HoldM)} {ls : List LevelD} {n l : Nat} {w : World} {w' : World} {v : Value} {u0 u1 s0 s1 : Int} (h1 : (upToT T ls l).2 = (u0, u1)) (h2 : (upTo L fs n).2 = (s0, s1)) (h3 : NWs w.heap.size w' v ((upTo L fs n).1 ++ (upToT T ls l).1)) (hb : Below w.heap.size w w') :
    LoadPost L fs T ls n l 0 w (.returned (.tuple #[.agg #[v, .int .i64 u0, .int .i64 u1, .int .i64 s0, .int .i64 s1], .int .i64 0])) w' := ⟨fun _ => ⟨_, _, _, _, _, rfl, h1, h2, h3⟩, fun q => absurd rfl q, hb⟩
end

section
open Go.RowKit

theorem hLoad_ok (A B C D : Option Addr) (n c m d l e r s : Nat) (L : List (HoldD × HoldM)) (fs : List FillD) (T : List (TankD × HoldM)) (ls : List LevelD) (w : World) (hL : HoldsIn w A n L) (hF : FillsIn w B m fs) (hT : TanksIn w C l T) (hV : LevelsIn w D r ls) (hc : n ≤ c) (he : l ≤ e) (iL : ∀ r ∈ L, HoldIn w r.1 r.2) (iT : ∀ r ∈ T, TankIn w r.1 r.2) (hE : loadErr L fs T ls = 0) :
  Calls Tryz.prog 9 #[.slice A n c, .slice B m d, .slice C l e, .slice D r s] w fun x w' => ∃ v u0 u1 s0 s1, x = .returned (.tuple #[.agg #[v, .int .i64 u0, .int .i64 u1, .int .i64 s0, .int .i64 s1], .int .i64 0]) ∧
   (upToT T ls l).2 = (u0, u1) ∧ (upTo L fs n).2 = (s0, s1) ∧ NWs w.heap.size w' v ((upTo L fs n).1 ++ (upToT T ls l).1) ∧ Below w.heap.size w w' := by
 obtain ⟨lz1, lz2, lz3, lz4, lz5, lz6⟩ := load_zero hE
 obtain ⟨i0, i1, i2, i3, i4⟩ := info_parts Tryz.infoWt
 have C0 : Hid (∀ W, Below w.heap.size w W → Calls Tryz.prog 20 #[.slice A n c, .slice B m d, .slice C l e, .slice D r s] W fun x w' => x = .returned (.int .i64 0) ∧ Below W.heap.size W w') := zH fun W hW => by
  rw [← hE]; exact checkLoad_any A B C D n c m d l e r s L fs T ls W (hL.below hW) (hF.below hW) (hT.below hW) (hV.below hW) hc he (fun z hz => (iL z hz).below hW) (fun z hz => (iT z hz).below hW)
 obtain ⟨hn, hn2, hA0⟩ := hL
 obtain ⟨hm, hm2, hB0⟩ := hF
 obtain ⟨hl, hl2, hC0⟩ := hT
 obtain ⟨hr, hr2, hD0⟩ := hV
 have HAB : Hid (L = [] ∨ ∃ b o p q, A = some ⟨b, o, none⟩ ∧ b < w.heap.size ∧ HoldsMem w b o L ∧ B = some ⟨p, q, none⟩ ∧ p < w.heap.size ∧ FillsAt w p q fs) := zH (by
  rcases hA0 with h | ⟨b, o, a1, a2, a3⟩
  ·exact .inl h
  ·rcases hB0 with h | ⟨p, q, b1, b2, b3⟩
   ·left; rw [h] at lz3; exact List.length_eq_zero_iff.1 lz3.symm
   ·exact .inr ⟨b, o, p, q, a1, a2, a3, b1, b2, b3⟩)
 have HCD : Hid (T = [] ∨ ∃ b o p q, C = some ⟨b, o, none⟩ ∧ b < w.heap.size ∧ TanksMem w b o T ∧ D = some ⟨p, q, none⟩ ∧ p < w.heap.size ∧ LevelsAt w p q ls) := zH (by
  rcases hC0 with h | ⟨b, o, a1, a2, a3⟩
  ·exact .inl h
  ·rcases hD0 with h | ⟨p, q, b1, b2, b3⟩
   ·left; rw [h] at lz4; exact List.length_eq_zero_iff.1 lz4.symm
   ·exact .inr ⟨b, o, p, q, a1, a2, a3, b1, b2, b3⟩)
 clear hA0 hB0 hC0 hD0
 have HMN : Hid (m = n) := zH (by omega)
 have HRL : Hid (r = l) := zH (by omega)
 have H9 : Hid (n ≤ 9 ∧ l ≤ 9) := zH ⟨by omega, by omega⟩
 have HN := zH hn; have HM := zH hm; have HL := zH hl; have HR := zH hr
 have IH := zH iL; have IT := zH iT
 have Z5 := zH lz5; have Z6 := zH lz6
 clear hn hn2 hm hm2 hl hl2 hr hr2 hc he iL iT hE lz1 lz2 lz3 lz4 lz5 lz6
 have HE := zH (show Below w.heap.size w (w.alloc (.cells #[.slice none 0 0, .int .i64 0, .int .i64 0, .int .i64 0, .int .i64 0] 54)) from below_alloc1 w _)
 have HK := zH (boxes1' w 54 #[.slice none 0 0, .int .i64 0, .int .i64 0, .int .i64 0, .int .i64 0])
 go_enter Tryz.func9, Tryz.ntmps9
 go_upto_region 1 with fail
 obtain ⟨W0, hW0⟩ : ∃ W0 : World, (w.alloc (.cells #[.slice none 0 0, .int .i64 0, .int .i64 0, .int .i64 0, .int .i64 0] 54)) = W0 := ⟨_, rfl⟩
 rw [hW0] at HE HK ⊢
 clear hW0
 obtain ⟨G, hG⟩ : ∃ G, w.heap.size = G := ⟨_, rfl⟩
 rw [hG] at HK ⊢
 have HG := zH hG; clear hG
 go_wp2_with fail
 refine (C0.out _ HE.out).mono ?_
 rintro x w2 ⟨rfl, hq⟩
 have HE2 := zH (below_then HE.out hq); have HK2 := zH (HK.out.on hq)
 clear hq HE HK C0
 go_upto_region 5 with fail
 have HE3 := zH (below_then HE2.out (below_alloc1 w2 (.cells #[.slice none 0 0, .int .i64 0, .int .i64 0, .int .i64 0, .int .i64 0] 54))); have HK3 := zH (HK2.out.new 54 #[.slice none 0 0, .int .i64 0, .int .i64 0, .int .i64 0, .int .i64 0])
 have HGM : Hid (G < w2.heap.size ∧ w.heap.size ≤ G) := zH ⟨(HK2.out _ (.head _)).lt, by rw [HG.out]; exact Nat.le_refl _⟩
 clear HE2 HK2
 obtain ⟨W3, hW⟩ : ∃ W' : World, w2.alloc (.cells #[.slice none 0 0, .int .i64 0, .int .i64 0, .int .i64 0, .int .i64 0] 54) = W' := ⟨_, rfl⟩
 rw [hW] at HE3 HK3 ⊢
 clear hW
 obtain ⟨M, hM⟩ : ∃ N, w2.heap.size = N := ⟨_, rfl⟩
 rw [hM] at HK3 HGM ⊢
 clear hM
 go_wp2_with fail
 go_loopw [33] (fun i wr => ∃ (k : Nat) (v : Value) (s0 s1 : Int), k ≤ n ∧ i = .int .i64 k ∧ Below w.heap.size w wr ∧ Boxes wr [(M, 54, #[v, .int .i64 0, .int .i64 0, .int .i64 s0, .int .i64 s1]), (G, 54, #[.slice none 0 0, .int .i64 0, .int .i64 0, .int .i64 0, .int .i64 0])] ∧ NWs (M + 1) wr v (upTo L fs k).1 ∧ (upTo L fs k).2 = (s0, s1) ∧ SumOf k (s0, s1)) (fun i _ => n - (intOf i).toNat)
 case atStart => exact ⟨0, _, 0, 0, by omega, rfl, HE3.out, HK3.out, NWs.nil _ _, rfl, ⟨by decide, by decide, by decide⟩⟩
 case round =>
  obtain ⟨k, v, s0, s1, hj, rfl, hB, hX, hO, hu, hs⟩ := hrel
  have HB := zH hB; have HX := zH hX; have HO := zH hO; have HU := zH hu; have HS := zH hs
  clear hB hX hO hu hs HE3 HK3
  by_cases hlt : k < n
  rotate_left
  ·have hk : n = k := by omega
   subst hk
   have k1 : ¬ (n : Int) < (n : Int) := by omega
   clear hlt hj
   go_wp2_with fail
   rename World => WL
   go_loopw [80] (fun i wr => ∃ (k : Nat) (v2 : Value) (u0 u1 : Int), k ≤ l ∧ i = .int .i64 k ∧ Below w.heap.size w wr ∧ Boxes wr [(M, 54, #[v2, .int .i64 u0, .int .i64 u1, .int .i64 s0, .int .i64 s1]), (G, 54, #[.slice none 0 0, .int .i64 0, .int .i64 0, .int .i64 0, .int .i64 0])] ∧ NWs (M + 1) wr v2 ((upTo L fs n).1 ++ (upToT T ls k).1) ∧ (upToT T ls k).2 = (u0, u1) ∧ SumOf k (u0, u1)) (fun i _ => l - (intOf i).toNat)
   case atStart => exact ⟨0, v, 0, 0, by omega, rfl, HB.out, HX.out, by rw [show (upToT T ls 0).1 = [] from rfl, List.append_nil]; exact HO.out, rfl, ⟨by decide, by decide, by decide⟩⟩
   case round =>
    clear HB HX HO k1
    obtain ⟨k, v2, u0, u1, hj, rfl, hB, hX, hO, hu, hs⟩ := hrel
    have HB := zH hB; have HX := zH hX; have HO := zH hO; have HUT := zH hu; have HST := zH hs
    clear hB hX hO hu hs
    by_cases hlt : k < l
    rotate_left
    ·have hk : l = k := by omega
     subst hk
     have k1 : ¬ (l : Int) < (l : Int) := by omega
     clear hlt hj
     obtain ⟨sp, sn, sc, rfl⟩ := HO.out.slice
     have m_ := HX.out _ (.head _)
     have m_0 := m_.cell 0
     have m_1 := m_.cell 1
     have m_2 := m_.cell 2
     have m_3 := m_.cell 3
     have m_4 := m_.cell 4
     simp at m_0 m_1 m_2 m_3 m_4
     clear m_
     go_upto_region 22 with fail
     refine wp_region_lit ?_
     refine wpList_plain rfl (fun K hK => ?_)
     go_simp
     refine hK _ _ ?_
     clear hK K
     have HKR : Hid (Blk (wr.setRow G #[.slice sp sn sc, .int .i64 u0, .int .i64 u1, .int .i64 s0, .int .i64 s1]) G 54 #[.slice sp sn sc, .int .i64 u0, .int .i64 u1, .int .i64 s0, .int .i64 s1]) := zH (setRow_heap wr G _ _ 54 _ (HX.out _ (.tail _ (.head _))))
     have HE9 := zH (below_setRow HB.out (show w.heap.size ≤ G from HGM.out.2) #[.slice sp sn sc, .int .i64 u0, .int .i64 u1, .int .i64 s0, .int .i64 s1])
     have HO9 := zH ((HO.out.kept (grownBy_setRow' wr G #[.slice sp sn sc, .int .i64 u0, .int .i64 u1, .int .i64 s0, .int .i64 s1]) (by have := HGM.out; omega)).mono (show w.heap.size ≤ M + 1 by have := HGM.out; omega))
     refine wpList_store_row rfl 54 (.tmp 8) (.tmp 119) rfl G #[.slice sp sn sc, .int .i64 u0, .int .i64 u1, .int .i64 s0, .int .i64 s1] rfl rfl 54 _ (HX.out _ (.tail _ (.head _))) (by kernel_rfl) rfl (by kernel_rfl) ?_
     obtain ⟨W9, hW9⟩ : ∃ W9, wr.setRow G #[.slice sp sn sc, .int .i64 u0, .int .i64 u1, .int .i64 s0, .int .i64 s1] = W9 := ⟨_, rfl⟩
     rw [hW9] at HKR HE9 HO9 ⊢
     clear hW9
     go_wp2
     exact bodyPost_ret (v := .tuple #[.agg #[.slice sp sn sc, .int .i64 u0, .int .i64 u1, .int .i64 s0, .int .i64 s1], .int .i64 0]) (results_cell_tmp_row Tryz.results9 _ _ G 54 #[.slice sp sn sc, .int .i64 u0, .int .i64 u1, .int .i64 s0, .int .i64 s1] (0, 0) _ _ rfl rfl HKR.out Tryz.underlying54 rfl (by kernel_rfl)) rfl ⟨_, _, _, _, _, rfl, HUT.out, HU.out, HO9.out, HE9.out⟩
    have k1 : (k : Int) < (l : Int) := by omega
    have k4 : (k : Int) < (r : Int) := by have := HRL.out; omega
    have k3 : (0 : Int) ≤ (k : Int) := by omega
    obtain ⟨b, o, p, q, rfl, lb, hA, rfl, lp, hF⟩ : ∃ b o p q, C = some ⟨b, o, none⟩ ∧ b < w.heap.size ∧ TanksMem w b o T ∧ D = some ⟨p, q, none⟩ ∧ p < w.heap.size ∧ LevelsAt w p q ls := by
     rcases HCD.out with h | h
     ·exfalso; have := HL.out; rw [h] at this; simp at this; omega
     ·exact h
    obtain ⟨z, hz⟩ : ∃ z, T[k]? = some z := ⟨_, List.getElem?_eq_getElem (show k < T.length by rw [← HL.out]; omega)⟩
    obtain ⟨y, hy⟩ : ∃ y, ls[k]? = some y := ⟨_, List.getElem?_eq_getElem (show k < ls.length by rw [← HR.out]; omega)⟩
    have he0 : levelErr z.1 y = 0 := each_zeroT Z6.out hz hy
    have hin := IT.out z (List.mem_of_getElem? hz)
    obtain ⟨e0, e1, t0, t1, q1, q2, q3, q4, q5, q6, q7⟩ := tank_step (by have := H9.out; omega) hz hy he0 HUT.out HST.out
    obtain ⟨⟨m0, m1, a0, a1, z0, z1⟩, hwd⟩ : ∃ x, tankW z.1 y = x := ⟨_, rfl⟩
    rw [hwd] at q7
    have CW : Hid (∀ W, Below w.heap.size w W → Calls Tryz.prog 24 #[tankV z.1 z.2, levelV y] W fun x w' => x = .returned (.tuple #[.agg #[.int .i64 m0, .int .i64 m1, .int .i64 a0, .int .i64 a1, .int .i64 z0, .int .i64 z1], .int .i64 0]) ∧ Below W.heap.size W w') := zH fun W hW => by
     have q := hBallast_any z.1 z.2 y W (hin.below hW)
     rw [balV_ok he0, hwd] at q
     exact q
    have CH : Hid (∀ W, Below w.heap.size w W → Calls Tryz.prog 25 #[tankV z.1 z.2, levelV y] W fun x w' => x = .returned (.tuple #[.agg #[.int .i64 e0, .int .i64 e1], .int .i64 0]) ∧ Below W.heap.size W w') := zH fun W hW => by
     have q := hSurface_any z.1 z.2 y W (hin.below hW)
     rw [q1] at q
     exact q
    have CS : Hid (∀ W, Calls Tryz.prog 23 #[rv u0 u1, rv e0 e1] W fun x w' => x = .returned (rv t0 t1) ∧ Below W.heap.size W w') := zH fun W => by
     have q := hsum_any u0 u1 e0 e1 W
     rw [q2] at q
     exact q
    have Q5 := zH q5; have Q6 := zH q6; have Q9 := zH q7
    have HLE : Hid (((upTo L fs n).1 ++ (upToT T ls k).1).length ≤ 18) := zH (by
     have j1 := upTo_len L fs n; have j2 := upToT_len T ls k; have := H9.out
     rw [List.length_append]; omega)
    obtain ⟨LS, hLS⟩ : ∃ x, (upTo L fs n).1 ++ (upToT T ls k).1 = x := ⟨_, rfl⟩
    rw [hLS] at HO HLE
    have HLS := zH hLS
    clear he0 hin q1 q2 q3 q4 q5 q6 q7 hwd hLS
    have HCK : Hid (∀ W : World, Below w.heap.size w W → W.cell? ⟨b, o + k * 6, none⟩ = some (.int .i64 z.1.id) ∧ W.cell? ⟨b, o + k * 6 + 1, none⟩ = some (.int .i64 z.1.al) ∧ W.cell? ⟨b, o + k * 6 + 2, none⟩ = some (.int .i64 z.1.ah) ∧ W.cell? ⟨b, o + k * 6 + 3, none⟩ = some (.slice z.2.A z.2.n z.2.c) ∧ W.cell? ⟨b, o + k * 6 + 4, none⟩ = some (.slice z.2.B z.2.m z.2.d) ∧ W.cell? ⟨b, o + k * 6 + 5, none⟩ = some (.slice z.2.C z.2.l z.2.e)) := zH fun W hW => hA.below hW lb k z hz
    have HCF : Hid (∀ W : World, Below w.heap.size w W → W.cell? ⟨p, q + k * 6, none⟩ = some (.int .i64 y.tank) ∧ W.cell? ⟨p, q + k * 6 + 1, none⟩ = some (.bool y.pr) ∧ W.cell? ⟨p, q + k * 6 + 2, none⟩ = some (.int .i64 y.s0) ∧ W.cell? ⟨p, q + k * 6 + 3, none⟩ = some (.int .i64 y.s1) ∧ W.cell? ⟨p, q + k * 6 + 4, none⟩ = some (.int .i64 y.d0) ∧ W.cell? ⟨p, q + k * 6 + 5, none⟩ = some (.int .i64 y.d1)) := zH fun W hW => hF.below hW lp k y hy
    clear hz hy hA hF
    obtain ⟨⟨rid, ral, rah, vol, sur, hei⟩, ⟨rA, rn, rc, rB, rm, rd, rC, rl, re⟩⟩ := z
    obtain ⟨g0, g1, g2, g3, g4, g5⟩ := y
    dsimp only at HCK HCF CW CH
    go_upto_region 17 with fail
    go_cut [18] (fun s18 wx => ∃ N, s18 = .pointer (some ⟨N, 0, none⟩) ∧ Boxes wx ((N, 73, #[.int .i64 m0, .int .i64 m1, .int .i64 a0, .int .i64 a1, .int .i64 z0, .int .i64 z1]) :: [(M, 54, #[v2, .int .i64 u0, .int .i64 u1, .int .i64 s0, .int .i64 s1]), (G, 54, #[.slice none 0 0, .int .i64 0, .int .i64 0, .int .i64 0, .int .i64 0])]) ∧ Below wr.heap.size wr wx ∧ wr.heap.size ≤ N)
    case first =>
     have HX_0 := HX; have HE_0 := zH (Below.refl wr.heap.size wr)
     obtain ⟨LB, hLB⟩ : ∃ x, ([(M, 54, #[v2, .int .i64 u0, .int .i64 u1, .int .i64 s0, .int .i64 s1]), (G, 54, #[.slice none 0 0, .int .i64 0, .int .i64 0, .int .i64 0, .int .i64 0])] : List (Nat × TypeId × Array Value)) = x := ⟨_, rfl⟩
     have hS0 : BB wr LB wr.drew := ⟨by rw [← hLB]; exact HX_0.out, HE_0.out.drew⟩
     have HLB := zH hLB
     clear hLB
     refine wp_region_held_drew (S := BB wr LB) (by kernel_rfl) hS0 (fun hHeld => ?_)
     obtain ⟨yq, hW⟩ : ∃ W', wr.drew = W' := ⟨_, rfl⟩
     rw [hW] at hHeld ⊢
     clear hW hS0 HE_0 HX_0
     refine tK 84 (i := 0) (v := .slice (some ⟨b, o, none⟩) l e) rfl rfl (by kernel_rfl) ?_ hHeld ?_
     ·intro w hSw; clear hSw; go_simp; try with_reducible rfl
     simp only [uZ, uS]
     refine tK 85 (i := 1) (v := .int .i64 k) rfl rfl (by kernel_rfl) ?_ hHeld ?_
     ·intro w hSw; clear hSw; go_simp; try with_reducible rfl
     simp only [uZ, uS]
     refine tK 86 (i := 2) (v := .pointer (some ⟨b, o + k * 6, none⟩)) rfl rfl (by kernel_rfl) ?_ hHeld ?_
     ·intro w hSw; clear hSw; go_simp; try with_reducible rfl
     simp only [uZ, uS]
     refine tK 87 (i := 3) (v := .agg #[.int .i64 rid, .int .i64 ral, .int .i64 rah, .slice rA rn rc, .slice rB rm rd, .slice rC rl re]) rfl rfl (by kernel_rfl) ?_ hHeld ?_
     ·intro w hSw; obtain ⟨c0, c1, c2, c3, c4, c5⟩ := HCK.out _ (below_then HB.out hSw.be); clear hSw; go_simp; try with_reducible rfl
     simp only [uZ, uS]
     refine tK 88 (i := 4) (v := .slice (some ⟨p, q, none⟩) r s) rfl rfl (by kernel_rfl) ?_ hHeld ?_
     ·intro w hSw; clear hSw; go_simp; try with_reducible rfl
     simp only [uZ, uS]
     refine tK 89 (i := 5) (v := .int .i64 k) rfl rfl (by kernel_rfl) ?_ hHeld ?_
     ·intro w hSw; clear hSw; go_simp; try with_reducible rfl
     simp only [uZ, uS]
     refine tK 90 (i := 6) (v := .pointer (some ⟨p, q + k * 6, none⟩)) rfl rfl (by kernel_rfl) ?_ hHeld ?_
     ·intro w hSw; clear hSw; go_simp; try with_reducible rfl
     simp only [uZ, uS]
     refine tK 91 (i := 7) (v := .agg #[.int .i64 g0, .bool g1, .int .i64 g2, .int .i64 g3, .int .i64 g4, .int .i64 g5]) rfl rfl (by kernel_rfl) ?_ hHeld ?_
     ·intro w hSw; obtain ⟨c0, c1, c2, c3, c4, c5⟩ := HCF.out _ (below_then HB.out hSw.be); clear hSw; go_simp; try with_reducible rfl
     simp only [uZ, uS]
     refine wpAnyH_ready (rs := [8, 12]) (by kernel_rfl) (by simp) ?_
     refine AllReadyH.cons rfl (fun K hK => ?_) (AllReadyH.cons rfl (fun K hK => ?_) AllReadyH.nil)
     rotate_left
     rename World => yq
     go_simp
     have HDN := zH (boxes_lt hHeld.bx); have HZN := zH hHeld.be.size; have HY := zH (hHeld.bx.new 73 #[.int .i64 0, .int .i64 0, .int .i64 0, .int .i64 0, .int .i64 0, .int .i64 0])
     refine hK.out _ _ (hHeld.on (below_alloc1 _ _)) (fun θ => ?_)
     try simp only [Act.put, uA, uZ, uS]
     clear hK K hHeld
     have hHeld := θ
     clear θ
     obtain ⟨yr, hW⟩ : ∃ W', yq.alloc (.cells #[.int .i64 0, .int .i64 0, .int .i64 0, .int .i64 0, .int .i64 0, .int .i64 0] 73) = W' := ⟨_, rfl⟩
     rw [hW] at HY hHeld ⊢
     clear hW
     obtain ⟨N, hN⟩ : ∃ N, yq.heap.size = N := ⟨_, rfl⟩
     rw [hN] at HY HDN HZN ⊢
     clear hN
     refine rK 8 (by kernel_rfl) rfl (fun K hK => ?_)
     go_simp
     (with_reducible refine (CW.out _ (below_then HB.out hHeld.be)).mono ?_)
     rintro x y ⟨rfl, hq⟩
     have HY := zH (HY.out.on hq)
     refine hK.out _ _ (hHeld.on hq) (fun θ => ?_)
     clear hq
     try simp only [Act.put, uA, uZ, uS]
     clear hK K hHeld
     have hHeld := θ
     clear θ
     refine tK 83 (i := 9) (v := .tuple #[.agg #[.int .i64 m0, .int .i64 m1, .int .i64 a0, .int .i64 a1, .int .i64 z0, .int .i64 z1], .int .i64 0]) rfl rfl (by kernel_rfl) ?_ hHeld ?_
     ·intro w hSw; clear hSw; go_simp; try with_reducible rfl
     simp only [uZ, uS]
     refine tK 93 (i := 10) (v := .agg #[.int .i64 m0, .int .i64 m1, .int .i64 a0, .int .i64 a1, .int .i64 z0, .int .i64 z1]) rfl rfl (by kernel_rfl) ?_ hHeld ?_
     ·intro w hSw; clear hSw; go_simp; try with_reducible rfl
     simp only [uZ, uS]
     refine tK 94 (i := 11) (v := .int .i64 0) rfl rfl (by kernel_rfl) ?_ hHeld ?_
     ·intro w hSw; clear hSw; go_simp; try with_reducible rfl
     simp only [uZ, uS]
     rotate_left
     go_simp
     (with_reducible refine (CW.out _ (below_then HB.out hHeld.be)).mono ?_)
     rintro x y ⟨rfl, hq⟩
     refine hK.out _ _ (hHeld.on hq) (fun θ => ?_)
     clear hq
     try simp only [Act.put, uA, uZ, uS]
     clear hK K hHeld
     have hHeld := θ
     clear θ
     refine tK 83 (i := 9) (v := .tuple #[.agg #[.int .i64 m0, .int .i64 m1, .int .i64 a0, .int .i64 a1, .int .i64 z0, .int .i64 z1], .int .i64 0]) rfl rfl (by kernel_rfl) ?_ hHeld ?_
     ·intro w hSw; clear hSw; go_simp; try with_reducible rfl
     simp only [uZ, uS]
     refine tK 93 (i := 10) (v := .agg #[.int .i64 m0, .int .i64 m1, .int .i64 a0, .int .i64 a1, .int .i64 z0, .int .i64 z1]) rfl rfl (by kernel_rfl) ?_ hHeld ?_
     ·intro w hSw; clear hSw; go_simp; try with_reducible rfl
     simp only [uZ, uS]
     refine tK 94 (i := 11) (v := .int .i64 0) rfl rfl (by kernel_rfl) ?_ hHeld ?_
     ·intro w hSw; clear hSw; go_simp; try with_reducible rfl
     simp only [uZ, uS]
     refine rK 12 (by kernel_rfl) rfl (fun K hK => ?_)
     rename World => yq
     go_simp
     have HDN := zH (boxes_lt hHeld.bx); have HZN := zH hHeld.be.size; have HY := zH (hHeld.bx.new 73 #[.int .i64 0, .int .i64 0, .int .i64 0, .int .i64 0, .int .i64 0, .int .i64 0])
     refine hK.out _ _ (hHeld.on (below_alloc1 _ _)) (fun θ => ?_)
     try simp only [Act.put, uA, uZ, uS]
     clear hK K hHeld
     have hHeld := θ
     clear θ
     obtain ⟨yr, hW⟩ : ∃ W', yq.alloc (.cells #[.int .i64 0, .int .i64 0, .int .i64 0, .int .i64 0, .int .i64 0, .int .i64 0] 73) = W' := ⟨_, rfl⟩
     rw [hW] at HY hHeld ⊢
     clear hW
     obtain ⟨N, hN⟩ : ∃ N, yq.heap.size = N := ⟨_, rfl⟩
     rw [hN] at HY HDN HZN ⊢
     clear hN
     all_goals
      refine rK 13 (by kernel_rfl) rfl (fun K hK => ?_)
      rw [if_pos (by kernel_rfl)]
      rename World => yq
      have HXs : Hid (Boxes (yq.setRow N #[.int .i64 m0, .int .i64 m1, .int .i64 a0, .int .i64 a1, .int .i64 z0, .int .i64 z1]) ((N, 73, #[.int .i64 m0, .int .i64 m1, .int .i64 a0, .int .i64 a1, .int .i64 z0, .int .i64 z1]) :: LB)) := zH (Boxes.row HY.out (.head _) (fun p hp => ⟨.tail _ hp, HDN.out p hp⟩) #[.int .i64 m0, .int .i64 m1, .int .i64 a0, .int .i64 a1, .int .i64 z0, .int .i64 z1])
      have hS := hHeld.row HDN.out HZN.out #[.int .i64 m0, .int .i64 m1, .int .i64 a0, .int .i64 a1, .int .i64 z0, .int .i64 z1]
      have HEs := zH hS.be
      refine wp_store_row 73 (.tmp 18) (.tmp 93) rfl N #[.int .i64 m0, .int .i64 m1, .int .i64 a0, .int .i64 a1, .int .i64 z0, .int .i64 z1] rfl rfl 73 _ (HY.out _ (.head _)) (by kernel_rfl) rfl (by kernel_rfl) ?_
      obtain ⟨Ws, hW⟩ : ∃ W', yq.setRow N #[.int .i64 m0, .int .i64 m1, .int .i64 a0, .int .i64 a1, .int .i64 z0, .int .i64 z1] = W' := ⟨_, rfl⟩
      rw [hW] at HXs HEs hS ⊢
      refine hK.out _ _ hS (fun θ => ?_)
      clear hW hS HY
      try simp only [Act.put, uA, uZ, uS]
      clear hK K hHeld
      have hHeld := θ
      clear θ
      refine tK 19 (i := 14) (v := .int .i64 0) rfl rfl (by kernel_rfl) ?_ hHeld ?_
      ·intro w hSw; clear hSw; go_simp; try with_reducible rfl
      simp only [uZ, uS]
      refine wpAnyH_done (by kernel_rfl) ?_ _
      clear hHeld
      go_wp2_with fail
      go_meet
      rw [← HLB.out] at HXs
      exact ⟨N, rfl, HXs.out, HEs.out, HZN.out⟩
    obtain ⟨N1, rfl, hX1, hB1, hN1⟩ := hcut
    have HX1 := zH hX1; have HB1 := zH hB1; have HN1 := zH hN1
    clear hX1 hB1 hN1 CW
    rename World => WA
    go_upto_region 18 with fail
    go_cut [20] (fun s20 wx => ∃ N, s20 = .pointer (some ⟨N, 0, none⟩) ∧ Boxes wx ((N, 35, #[.int .i64 e0, .int .i64 e1]) :: ((N1, 73, #[.int .i64 m0, .int .i64 m1, .int .i64 a0, .int .i64 a1, .int .i64 z0, .int .i64 z1]) :: [(M, 54, #[v2, .int .i64 u0, .int .i64 u1, .int .i64 s0, .int .i64 s1]), (G, 54, #[.slice none 0 0, .int .i64 0, .int .i64 0, .int .i64 0, .int .i64 0])])) ∧ Below wr.heap.size wr wx ∧ wr.heap.size ≤ N)
    case first =>
     clear HX
     obtain ⟨LB, hLB⟩ : ∃ x, (((N1, 73, #[.int .i64 m0, .int .i64 m1, .int .i64 a0, .int .i64 a1, .int .i64 z0, .int .i64 z1]) :: [(M, 54, #[v2, .int .i64 u0, .int .i64 u1, .int .i64 s0, .int .i64 s1]), (G, 54, #[.slice none 0 0, .int .i64 0, .int .i64 0, .int .i64 0, .int .i64 0])]) : List (Nat × TypeId × Array Value)) = x := ⟨_, rfl⟩
     have hS0 : BB wr LB WA.drew := ⟨by rw [← hLB]; exact HX1.out, HB1.out.drew⟩
     have HLB := zH hLB
     clear hLB
     refine wp_region_held_drew (S := BB wr LB) (by kernel_rfl) hS0 (fun hHeld => ?_)
     obtain ⟨yq, hW⟩ : ∃ W', WA.drew = W' := ⟨_, rfl⟩
     rw [hW] at hHeld ⊢
     clear hW hS0 HB1 HX1
     refine tK 96 (i := 0) (v := .slice (some ⟨b, o, none⟩) l e) rfl rfl (by kernel_rfl) ?_ hHeld ?_
     ·intro w hSw; clear hSw; go_simp; try with_reducible rfl
     simp only [uZ, uS]
     refine tK 97 (i := 1) (v := .int .i64 k) rfl rfl (by kernel_rfl) ?_ hHeld ?_
     ·intro w hSw; clear hSw; go_simp; try with_reducible rfl
     simp only [uZ, uS]
     refine tK 98 (i := 2) (v := .pointer (some ⟨b, o + k * 6, none⟩)) rfl rfl (by kernel_rfl) ?_ hHeld ?_
     ·intro w hSw; clear hSw; go_simp; try with_reducible rfl
     simp only [uZ, uS]
     refine tK 99 (i := 3) (v := .agg #[.int .i64 rid, .int .i64 ral, .int .i64 rah, .slice rA rn rc, .slice rB rm rd, .slice rC rl re]) rfl rfl (by kernel_rfl) ?_ hHeld ?_
     ·intro w hSw; obtain ⟨c0, c1, c2, c3, c4, c5⟩ := HCK.out _ (below_then HB.out hSw.be); clear hSw; go_simp; try with_reducible rfl
     simp only [uZ, uS]
     refine tK 100 (i := 4) (v := .slice (some ⟨p, q, none⟩) r s) rfl rfl (by kernel_rfl) ?_ hHeld ?_
     ·intro w hSw; clear hSw; go_simp; try with_reducible rfl
     simp only [uZ, uS]
     refine tK 101 (i := 5) (v := .int .i64 k) rfl rfl (by kernel_rfl) ?_ hHeld ?_
     ·intro w hSw; clear hSw; go_simp; try with_reducible rfl
     simp only [uZ, uS]
     refine tK 102 (i := 6) (v := .pointer (some ⟨p, q + k * 6, none⟩)) rfl rfl (by kernel_rfl) ?_ hHeld ?_
     ·intro w hSw; clear hSw; go_simp; try with_reducible rfl
     simp only [uZ, uS]
     refine tK 103 (i := 7) (v := .agg #[.int .i64 g0, .bool g1, .int .i64 g2, .int .i64 g3, .int .i64 g4, .int .i64 g5]) rfl rfl (by kernel_rfl) ?_ hHeld ?_
     ·intro w hSw; obtain ⟨c0, c1, c2, c3, c4, c5⟩ := HCF.out _ (below_then HB.out hSw.be); clear hSw; go_simp; try with_reducible rfl
     simp only [uZ, uS]
     refine wpAnyH_ready (rs := [8, 12]) (by kernel_rfl) (by simp) ?_
     refine AllReadyH.cons rfl (fun K hK => ?_) (AllReadyH.cons rfl (fun K hK => ?_) AllReadyH.nil)
     rotate_left
     rename World => yq
     go_simp
     have HDN := zH (boxes_lt hHeld.bx); have HZN := zH hHeld.be.size; have HY := zH (hHeld.bx.new 35 #[.int .i64 0, .int .i64 0])
     refine hK.out _ _ (hHeld.on (below_alloc1 _ _)) (fun θ => ?_)
     try simp only [Act.put, uA, uZ, uS]
     clear hK K hHeld
     have hHeld := θ
     clear θ
     obtain ⟨yr, hW⟩ : ∃ W', yq.alloc (.cells #[.int .i64 0, .int .i64 0] 35) = W' := ⟨_, rfl⟩
     rw [hW] at HY hHeld ⊢
     clear hW
     obtain ⟨N, hN⟩ : ∃ N, yq.heap.size = N := ⟨_, rfl⟩
     rw [hN] at HY HDN HZN ⊢
     clear hN
     refine rK 8 (by kernel_rfl) rfl (fun K hK => ?_)
     go_simp
     (with_reducible refine (CH.out _ (below_then HB.out hHeld.be)).mono ?_)
     rintro x y ⟨rfl, hq⟩
     have HY := zH (HY.out.on hq)
     refine hK.out _ _ (hHeld.on hq) (fun θ => ?_)
     clear hq
     try simp only [Act.put, uA, uZ, uS]
     clear hK K hHeld
     have hHeld := θ
     clear θ
     refine tK 95 (i := 9) (v := .tuple #[.agg #[.int .i64 e0, .int .i64 e1], .int .i64 0]) rfl rfl (by kernel_rfl) ?_ hHeld ?_
     ·intro w hSw; clear hSw; go_simp; try with_reducible rfl
     simp only [uZ, uS]
     refine tK 105 (i := 10) (v := .agg #[.int .i64 e0, .int .i64 e1]) rfl rfl (by kernel_rfl) ?_ hHeld ?_
     ·intro w hSw; clear hSw; go_simp; try with_reducible rfl
     simp only [uZ, uS]
     refine tK 106 (i := 11) (v := .int .i64 0) rfl rfl (by kernel_rfl) ?_ hHeld ?_
     ·intro w hSw; clear hSw; go_simp; try with_reducible rfl
     simp only [uZ, uS]
     rotate_left
     go_simp
     (with_reducible refine (CH.out _ (below_then HB.out hHeld.be)).mono ?_)
     rintro x y ⟨rfl, hq⟩
     refine hK.out _ _ (hHeld.on hq) (fun θ => ?_)
     clear hq
     try simp only [Act.put, uA, uZ, uS]
     clear hK K hHeld
     have hHeld := θ
     clear θ
     refine tK 95 (i := 9) (v := .tuple #[.agg #[.int .i64 e0, .int .i64 e1], .int .i64 0]) rfl rfl (by kernel_rfl) ?_ hHeld ?_
     ·intro w hSw; clear hSw; go_simp; try with_reducible rfl
     simp only [uZ, uS]
     refine tK 105 (i := 10) (v := .agg #[.int .i64 e0, .int .i64 e1]) rfl rfl (by kernel_rfl) ?_ hHeld ?_
     ·intro w hSw; clear hSw; go_simp; try with_reducible rfl
     simp only [uZ, uS]
     refine tK 106 (i := 11) (v := .int .i64 0) rfl rfl (by kernel_rfl) ?_ hHeld ?_
     ·intro w hSw; clear hSw; go_simp; try with_reducible rfl
     simp only [uZ, uS]
     refine rK 12 (by kernel_rfl) rfl (fun K hK => ?_)
     rename World => yq
     go_simp
     have HDN := zH (boxes_lt hHeld.bx); have HZN := zH hHeld.be.size; have HY := zH (hHeld.bx.new 35 #[.int .i64 0, .int .i64 0])
     refine hK.out _ _ (hHeld.on (below_alloc1 _ _)) (fun θ => ?_)
     try simp only [Act.put, uA, uZ, uS]
     clear hK K hHeld
     have hHeld := θ
     clear θ
     obtain ⟨yr, hW⟩ : ∃ W', yq.alloc (.cells #[.int .i64 0, .int .i64 0] 35) = W' := ⟨_, rfl⟩
     rw [hW] at HY hHeld ⊢
     clear hW
     obtain ⟨N, hN⟩ : ∃ N, yq.heap.size = N := ⟨_, rfl⟩
     rw [hN] at HY HDN HZN ⊢
     clear hN
     all_goals
      refine rK 13 (by kernel_rfl) rfl (fun K hK => ?_)
      rw [if_pos (by kernel_rfl)]
      rename World => yq
      have HXs : Hid (Boxes (yq.setRow N #[.int .i64 e0, .int .i64 e1]) ((N, 35, #[.int .i64 e0, .int .i64 e1]) :: LB)) := zH (Boxes.row HY.out (.head _) (fun p hp => ⟨.tail _ hp, HDN.out p hp⟩) #[.int .i64 e0, .int .i64 e1])
      have hS := hHeld.row HDN.out HZN.out #[.int .i64 e0, .int .i64 e1]
      have HEs := zH hS.be
      refine wp_store_row 35 (.tmp 20) (.tmp 105) rfl N #[.int .i64 e0, .int .i64 e1] rfl rfl 35 _ (HY.out _ (.head _)) (by kernel_rfl) rfl (by kernel_rfl) ?_
      obtain ⟨Ws, hW⟩ : ∃ W', yq.setRow N #[.int .i64 e0, .int .i64 e1] = W' := ⟨_, rfl⟩
      rw [hW] at HXs HEs hS ⊢
      refine hK.out _ _ hS (fun θ => ?_)
      clear hW hS HY
      try simp only [Act.put, uA, uZ, uS]
      clear hK K hHeld
      have hHeld := θ
      clear θ
      refine tK 21 (i := 14) (v := .int .i64 0) rfl rfl (by kernel_rfl) ?_ hHeld ?_
      ·intro w hSw; clear hSw; go_simp; try with_reducible rfl
      simp only [uZ, uS]
      refine wpAnyH_done (by kernel_rfl) ?_ _
      clear hHeld
      go_wp2_with fail
      go_meet
      rw [← HLB.out] at HXs
      exact ⟨N, rfl, HXs.out, HEs.out, HZN.out⟩
    obtain ⟨N2, rfl, hX2, hB2, hN2⟩ := hcut
    rename World => WB
    have HX2 := zH hX2; have HB2 := zH hB2
    have HNN : Hid (wr.heap.size ≤ N1 ∧ wr.heap.size ≤ N2 ∧ M < wr.heap.size) := zH ⟨HN1.out, hN2, (HX.out _ (.head _)).lt⟩
    clear hX2 hB2 hN2 HX1 HB1 HX HN1 CH HCK HCF
    go_upto_region 19 with fail
    have HBB := zH (below_then HB.out HB2.out); have HOB := zH (HO.out.on HB2.out)
    clear HB2
    have m_ := HX2.out _ (.tail _ (.tail _ (.head _)))
    have m_0 := m_.cell 0
    simp at m_0
    clear m_
    have n_ := HX2.out _ (.tail _ (.head _))
    have n_0 := n_.cell 0
    have n_1 := n_.cell 1
    have n_2 := n_.cell 2
    have n_3 := n_.cell 3
    have n_4 := n_.cell 4
    have n_5 := n_.cell 5
    simp at n_0 n_1 n_2 n_3 n_4 n_5
    clear n_
    have HOW := zH (World.ownsRow.alloc (o := .cells #[.int .i64 m0, .int .i64 m1, .int .i64 a0, .int .i64 a1, .int .i64 z0, .int .i64 z1] 73) (show WB.ownsRow (M + 1) 73 6 v2 _ _ from HOB.out.1))
    have HCE : Hid (∀ (j : Nat) (u : Value), ([.int .i64 m0, .int .i64 m1, .int .i64 a0, .int .i64 a1, .int .i64 z0, .int .i64 z1] : List Value)[j]? = some u → (WB.alloc (.cells #[.int .i64 m0, .int .i64 m1, .int .i64 a0, .int .i64 a1, .int .i64 z0, .int .i64 z1] 73)).cell? ((⟨WB.heap.size, 0, none⟩ : Addr).add j) = some u) := zH (World.news_of_block (cs := #[.int .i64 m0, .int .i64 m1, .int .i64 a0, .int .i64 a1, .int .i64 z0, .int .i64 z1]) (t := 73) (fr := (0, 0)) (heap_alloc_new WB _))
    go_wp2_with (at_builtin; refine wpList_append_own _ rfl (.tmp 108) (.tmp 110) 52 rfl (M + 1) 73 i0 (.agg #[.int .i64 0, .int .i64 0, .int .i64 0, .int .i64 0, .int .i64 0, .int .i64 0]) 6 48 Tryz.underlying52 i1 i2 i3 i4 rfl (by decide) _ _ _ rfl HOW.out ⟨WB.heap.size, 0, none⟩ 1 1 [.int .i64 m0, .int .i64 m1, .int .i64 a0, .int .i64 a1, .int .i64 z0, .int .i64 z1] rfl rfl HCE.out ?c2 ?c3 ?c4 ?c5 ?_)
    case c2 => simp [Value.oneCell']
    case c3 => simp only [maxLen]; have := HLE.out; omega
    case c4 => have := HLE.out; omega
    case c5 => have q := (HX2.out _ (.tail _ (.tail _ (.head _)))).lt; simp; omega
    intro v' w5 hown1 hgrow hnil
    have hrow : ∀ j, Value.ownBlock v2 = some j → M + 1 ≤ j ∧ j < wr.heap.size := fun j hj => World.ownsRow.lt (show wr.ownsRow (M + 1) 73 6 v2 _ _ from HO.out.1) j hj
    have HX5 : Hid (Boxes w5 [(M, 54, #[v2, .int .i64 u0, .int .i64 u1, .int .i64 s0, .int .i64 s1]), (N2, 35, #[.int .i64 e0, .int .i64 e1]), (G, 54, #[.slice none 0 0, .int .i64 0, .int .i64 0, .int .i64 0, .int .i64 0])]) := zH (((HX2.out.on (below_alloc1 WB (.cells #[.int .i64 m0, .int .i64 m1, .int .i64 a0, .int .i64 a1, .int .i64 z0, .int .i64 z1] 73))).sub (fun x hx => by
     simp only [List.mem_cons, List.not_mem_nil, or_false] at hx ⊢
     rcases hx with h | h | h <;> simp [h])).grown hgrow (fun x hx hj => by
     have q := hrow _ hj.symm
     have q1 := HNN.out; have q2 := HGM.out
     simp only [List.mem_cons, List.not_mem_nil, or_false] at hx
     rcases hx with h | h | h <;> (rw [h] at q; dsimp only at q; omega)))
    have HE5 : Hid (Below w.heap.size w w5) := zH ((HBB.out.alloc HBB.out.size _).grown hgrow (by have := HBB.out.size; simp; omega) (fun j hj => by have := (hrow j hj).1; have := HGM.out; omega))
    have HO5 := zH (NWs.push (r := ⟨m0, m1, a0, a1, z0, z1⟩) hown1 hnil)
    clear hown1 hgrow hrow hnil HOW HCE HBB HX2
    obtain ⟨vp, vn, vc, rfl⟩ := HO5.out.slice
    clear m_0 n_0 n_1 n_2 n_3 n_4 n_5
    have m_ := HX5.out _ (.head _)
    have m_0 := m_.cell 0
    have m_f0 := m_.frozen 0
    have m_l := m_.lt
    simp at m_0 m_f0
    clear m_
    have HFAR : Hid (∀ x ∈ ([(N2, 35, #[.int .i64 e0, .int .i64 e1]), (G, 54, #[.slice none 0 0, .int .i64 0, .int .i64 0, .int .i64 0, .int .i64 0])] : List (Nat × TypeId × Array Value)), x.1 ≠ M) := zH (fun x hx => by
     have q1 := HNN.out; have q2 := HGM.out
     simp only [List.mem_cons, List.not_mem_nil, or_false] at hx
     rcases hx with h | h <;> (rw [h]; dsimp only; omega))
    go_upto_region 20 with fail
    have HX6 : Hid (Boxes (w5.setCell ⟨M, 0, none⟩ (.slice vp vn vc)) [(M, 54, #[.slice vp vn vc, .int .i64 u0, .int .i64 u1, .int .i64 s0, .int .i64 s1]), (N2, 35, #[.int .i64 e0, .int .i64 e1]), (G, 54, #[.slice none 0 0, .int .i64 0, .int .i64 0, .int .i64 0, .int .i64 0])]) := zH (HX5.out.set1 HFAR.out 0 (.slice vp vn vc) _ rfl)
    have HE6 : Hid (Below w.heap.size w (w5.setCell ⟨M, 0, none⟩ (.slice vp vn vc))) := zH (HE5.out.setCell (by have := HGM.out; simp; omega) _)
    have HO6 := zH (HO5.out.kept (grownBy_setCellAt w5 M 0 (.slice vp vn vc)) (Nat.lt_succ_self M))
    clear HX5 HE5 HO5 m_0 m_f0 m_l
    obtain ⟨W6, hW⟩ : ∃ W', w5.setCell ⟨M, 0, none⟩ (.slice vp vn vc) = W' := ⟨_, rfl⟩
    rw [hW] at HX6 HE6 HO6 ⊢
    clear hW
    have m_ := HX6.out _ (.head _)
    have m_1 := m_.cell 1
    have m_2 := m_.cell 2
    simp at m_1 m_2
    clear m_
    have n_ := HX6.out _ (.tail _ (.head _))
    have n_0 := n_.cell 0
    have n_1 := n_.cell 1
    simp at n_0 n_1
    clear n_
    go_wp2_with fail
    refine (CS.out _).mono ?_
    rintro x w7 ⟨rfl, hq⟩
    have HXa := zH (HX6.out.on hq); have HEa := zH (below_then HE6.out hq); have HOa := zH (HO6.out.on hq)
    clear hq HX6 HE6 HO6 CS m_1 m_2 n_0 n_1
    have m_ := HXa.out _ (.head _)
    have m_1 := m_.cell 1
    have m_f1 := m_.frozen 1
    have m_2 := m_.cell 2
    have m_f2 := m_.frozen 2
    have m_l := m_.lt
    simp at m_1 m_f1 m_2 m_f2
    clear m_
    have HXb : Hid (Boxes (w7.setCell ⟨M, 1, none⟩ (.int .i64 t0)) [(M, 54, #[.slice vp vn vc, .int .i64 t0, .int .i64 u1, .int .i64 s0, .int .i64 s1]), (N2, 35, #[.int .i64 e0, .int .i64 e1]), (G, 54, #[.slice none 0 0, .int .i64 0, .int .i64 0, .int .i64 0, .int .i64 0])]) := zH (HXa.out.set1 HFAR.out 1 (.int .i64 t0) _ rfl)
    have HXc : Hid (Boxes ((w7.setCell ⟨M, 1, none⟩ (.int .i64 t0)).setCell ⟨M, 2, none⟩ (.int .i64 t1)) [(M, 54, #[.slice vp vn vc, .int .i64 t0, .int .i64 t1, .int .i64 s0, .int .i64 s1]), (N2, 35, #[.int .i64 e0, .int .i64 e1]), (G, 54, #[.slice none 0 0, .int .i64 0, .int .i64 0, .int .i64 0, .int .i64 0])]) := zH (HXb.out.set1 HFAR.out 2 (.int .i64 t1) _ rfl)
    have HX7 := zH (HXc.out.sub (L' := [(M, 54, #[.slice vp vn vc, .int .i64 t0, .int .i64 t1, .int .i64 s0, .int .i64 s1]), (G, 54, #[.slice none 0 0, .int .i64 0, .int .i64 0, .int .i64 0, .int .i64 0])]) (fun x hx => by
     simp only [List.mem_cons, List.not_mem_nil, or_false] at hx ⊢
     rcases hx with h | h <;> simp [h]))
    have HE7 := zH ((HEa.out.setCell (p := ⟨M, 1, none⟩) (by have := HGM.out; simp; omega) (.int .i64 t0)).setCell (p := ⟨M, 2, none⟩) (by have := HGM.out; simp; omega) (.int .i64 t1))
    have HO7 := zH ((HOa.out.kept (grownBy_setCellAt w7 M 1 (.int .i64 t0)) (Nat.lt_succ_self M)).kept (grownBy_setCellAt (w7.setCell ⟨M, 1, none⟩ (.int .i64 t0)) M 2 (.int .i64 t1)) (Nat.lt_succ_self M))
    clear HXa HXb HXc HEa HOa HFAR HNN
    have h9 := H9.out
    go_wp2
    go_roundw
    case rel =>
     exact ⟨k + 1, _, t0, t1, by omega, by go_num, HE7.out, HX7.out, by rw [Q9.out, ← List.append_assoc, HLS.out]; exact HO7.out, Q5.out, Q6.out⟩
    case measure => simp [intOf]; omega
  have k1 : (k : Int) < (n : Int) := by omega
  have k4 : (k : Int) < (m : Int) := by have := HMN.out; omega
  have k3 : (0 : Int) ≤ (k : Int) := by omega
  obtain ⟨b, o, p, q, rfl, lb, hA, rfl, lp, hF⟩ : ∃ b o p q, A = some ⟨b, o, none⟩ ∧ b < w.heap.size ∧ HoldsMem w b o L ∧ B = some ⟨p, q, none⟩ ∧ p < w.heap.size ∧ FillsAt w p q fs := by
   rcases HAB.out with h | h
   ·exfalso; have := HN.out; rw [h] at this; simp at this; omega
   ·exact h
  obtain ⟨z, hz⟩ : ∃ z, L[k]? = some z := ⟨_, List.getElem?_eq_getElem (show k < L.length by rw [← HN.out]; omega)⟩
  obtain ⟨y, hy⟩ : ∃ y, fs[k]? = some y := ⟨_, List.getElem?_eq_getElem (show k < fs.length by rw [← HM.out]; omega)⟩
  have he0 : fillErr z.1 y = 0 := each_zero Z5.out hz hy
  have hin := IH.out z (List.mem_of_getElem? hz)
  obtain ⟨e0, e1, t0, t1, q1, q2, q3, q4, q5, q6, q7, q8⟩ := hold_step (by have := H9.out; omega) hz hy he0 HU.out HS.out
  obtain ⟨⟨m0, m1, a0, a1, z0, z1⟩, hwd⟩ : ∃ x, holdW z.1 y = x := ⟨_, rfl⟩
  rw [hwd] at q8
  have CW : Hid (∀ W, Below w.heap.size w W → Calls Tryz.prog 21 #[holdV z.1 z.2, fillV y] W fun x w' => x = .returned (.tuple #[.agg #[.int .i64 m0, .int .i64 m1, .int .i64 a0, .int .i64 a1, .int .i64 z0, .int .i64 z1], .int .i64 0]) ∧ Below W.heap.size W w') := zH fun W hW => by
   have q := hWeight_any z.1 z.2 y W (hin.below hW)
   rw [weightV_ok he0, hwd] at q
   exact q
  have CH : Hid (∀ W, Below w.heap.size w W → Calls Tryz.prog 22 #[holdV z.1 z.2, fillV y] W fun x w' => x = .returned (.tuple #[.agg #[.int .i64 e0, .int .i64 e1], .int .i64 0]) ∧ Below W.heap.size W w') := zH fun W hW => by
   have q := hHeel_any z.1 z.2 y W (hin.below hW)
   rw [tell_ok he0, q1] at q
   exact q
  have CS : Hid (∀ W, Calls Tryz.prog 23 #[rv s0 s1, rv e0 e1] W fun x w' => x = .returned (rv t0 t1) ∧ Below W.heap.size W w') := zH fun W => by
   have q := hsum_any s0 s1 e0 e1 W
   rw [q2] at q
   exact q
  have Q5 := zH q5; have Q6 := zH q6; have Q7 := zH q7; have Q8 := zH q8
  have HLE : Hid ((upTo L fs k).1.length ≤ 9) := zH (Nat.le_trans (upTo_len L fs k) (by have := H9.out; omega))
  clear he0 hin q1 q2 q3 q4 q5 q6 q7 q8 hwd
  have HCK : Hid (∀ W : World, Below w.heap.size w W → W.cell? ⟨b, o + k * 14, none⟩ = some (.int .i64 z.1.id) ∧ W.cell? ⟨b, o + k * 14 + 1, none⟩ = some (.int .i64 z.1.al) ∧ W.cell? ⟨b, o + k * 14 + 2, none⟩ = some (.int .i64 z.1.ah) ∧ W.cell? ⟨b, o + k * 14 + 3, none⟩ = some (.slice z.2.A z.2.n z.2.c) ∧ W.cell? ⟨b, o + k * 14 + 4, none⟩ = some (.slice z.2.B z.2.m z.2.d) ∧ W.cell? ⟨b, o + k * 14 + 5, none⟩ = some (.slice z.2.C z.2.l z.2.e) ∧ W.cell? ⟨b, o + k * 14 + 6, none⟩ = some (.int .i64 z.1.t0) ∧ W.cell? ⟨b, o + k * 14 + 7, none⟩ = some (.int .i64 z.1.t1) ∧ W.cell? ⟨b, o + k * 14 + 8, none⟩ = some (.int .i64 z.1.u0) ∧ W.cell? ⟨b, o + k * 14 + 9, none⟩ = some (.int .i64 z.1.u1) ∧ W.cell? ⟨b, o + k * 14 + 10, none⟩ = some (.int .i64 z.1.v0) ∧ W.cell? ⟨b, o + k * 14 + 11, none⟩ = some (.int .i64 z.1.v1) ∧ W.cell? ⟨b, o + k * 14 + 12, none⟩ = some (.int .i64 z.1.h0) ∧ W.cell? ⟨b, o + k * 14 + 13, none⟩ = some (.int .i64 z.1.h1)) := zH fun W hW => hA.below hW lb k z hz
  have HCF : Hid (∀ W : World, Below w.heap.size w W → W.cell? ⟨p, q + k * 6, none⟩ = some (.int .i64 y.hold) ∧ W.cell? ⟨p, q + k * 6 + 1, none⟩ = some (.int .i64 y.st) ∧ W.cell? ⟨p, q + k * 6 + 2, none⟩ = some (.int .i64 y.x0) ∧ W.cell? ⟨p, q + k * 6 + 3, none⟩ = some (.int .i64 y.x1) ∧ W.cell? ⟨p, q + k * 6 + 4, none⟩ = some (.int .i64 y.d0) ∧ W.cell? ⟨p, q + k * 6 + 5, none⟩ = some (.int .i64 y.d1)) := zH fun W hW => hF.below hW lp k y hy
  clear hz hy hA hF
  obtain ⟨⟨rid, ral, rah, vol, mom, hei, rt0, rt1, ru0, ru1, rv0, rv1, rh0, rh1⟩, ⟨rA, rn, rc, rB, rm, rd, rC, rl, re⟩⟩ := z
  obtain ⟨g0, g1, g2, g3, g4, g5⟩ := y
  dsimp only at HCK HCF CW CH Q7 Q8
  have f1 := (HCF.out wr HB.out).2.1
  by_cases g : g1 = 0
  ·have b1 : (g1 == 0) = true := by simp [g]
   have b2 : (g1 != 0) = false := by simp [g]
   clear CW CH CS HCK HCF
   have h9 := H9.out
   go_wp2
   go_roundw
   case rel =>
    obtain ⟨j1, j2, j3⟩ := Q7.out g
    exact ⟨k + 1, v, s0, s1, by omega, by go_num, HB.out, HX.out, by rw [j3]; exact HO.out, by rw [Q5.out, j1, j2], by have j4 := Q6.out; rw [j1, j2] at j4; exact j4⟩
   case measure => simp [intOf]; omega
  have b1 : (g1 == 0) = false := beq_eq_false_iff_ne.2 g
  have b2 : (g1 != 0) = true := bne_iff_ne.2 g
  have Q9 := zH (Q8.out g)
  clear Q7 Q8
  go_upto_region 9 with fail
  clear b1 b2 f1 g
  go_cut [13] (fun s13 wx => ∃ N, s13 = .pointer (some ⟨N, 0, none⟩) ∧ Boxes wx ((N, 73, #[.int .i64 m0, .int .i64 m1, .int .i64 a0, .int .i64 a1, .int .i64 z0, .int .i64 z1]) :: [(M, 54, #[v, .int .i64 0, .int .i64 0, .int .i64 s0, .int .i64 s1]), (G, 54, #[.slice none 0 0, .int .i64 0, .int .i64 0, .int .i64 0, .int .i64 0])]) ∧ Below wr.heap.size wr wx ∧ wr.heap.size ≤ N)
  case first =>
   have HX_0 := HX; have HE_0 := zH (Below.refl wr.heap.size wr)
   obtain ⟨LB, hLB⟩ : ∃ x, ([(M, 54, #[v, .int .i64 0, .int .i64 0, .int .i64 s0, .int .i64 s1]), (G, 54, #[.slice none 0 0, .int .i64 0, .int .i64 0, .int .i64 0, .int .i64 0])] : List (Nat × TypeId × Array Value)) = x := ⟨_, rfl⟩
   have hS0 : BB wr LB wr.drew := ⟨by rw [← hLB]; exact HX_0.out, HE_0.out.drew⟩
   have HLB := zH hLB
   clear hLB
   refine wp_region_held_drew (S := BB wr LB) (by kernel_rfl) hS0 (fun hHeld => ?_)
   obtain ⟨yq, hW⟩ : ∃ W', wr.drew = W' := ⟨_, rfl⟩
   rw [hW] at hHeld ⊢
   clear hW hS0 HE_0 HX_0
   refine tK 43 (i := 0) (v := .slice (some ⟨b, o, none⟩) n c) rfl rfl (by kernel_rfl) ?_ hHeld ?_
   ·intro w hSw; clear hSw; go_simp; try with_reducible rfl
   simp only [uZ, uS]
   refine tK 44 (i := 1) (v := .int .i64 k) rfl rfl (by kernel_rfl) ?_ hHeld ?_
   ·intro w hSw; clear hSw; go_simp; try with_reducible rfl
   simp only [uZ, uS]
   refine tK 45 (i := 2) (v := .pointer (some ⟨b, o + k * 14, none⟩)) rfl rfl (by kernel_rfl) ?_ hHeld ?_
   ·intro w hSw; clear hSw; go_simp; try with_reducible rfl
   simp only [uZ, uS]
   refine tK 46 (i := 3) (v := .agg #[.int .i64 rid, .int .i64 ral, .int .i64 rah, .slice rA rn rc, .slice rB rm rd, .slice rC rl re, .int .i64 rt0, .int .i64 rt1, .int .i64 ru0, .int .i64 ru1, .int .i64 rv0, .int .i64 rv1, .int .i64 rh0, .int .i64 rh1]) rfl rfl (by kernel_rfl) ?_ hHeld ?_
   ·intro w hSw; obtain ⟨c0, c1, c2, c3, c4, c5, c6, c7, c8, c9, c10, c11, c12, c13⟩ := HCK.out _ (below_then HB.out hSw.be); clear hSw; go_simp; try with_reducible rfl
   simp only [uZ, uS]
   refine tK 47 (i := 4) (v := .slice (some ⟨p, q, none⟩) m d) rfl rfl (by kernel_rfl) ?_ hHeld ?_
   ·intro w hSw; clear hSw; go_simp; try with_reducible rfl
   simp only [uZ, uS]
   refine tK 48 (i := 5) (v := .int .i64 k) rfl rfl (by kernel_rfl) ?_ hHeld ?_
   ·intro w hSw; clear hSw; go_simp; try with_reducible rfl
   simp only [uZ, uS]
   refine tK 49 (i := 6) (v := .pointer (some ⟨p, q + k * 6, none⟩)) rfl rfl (by kernel_rfl) ?_ hHeld ?_
   ·intro w hSw; clear hSw; go_simp; try with_reducible rfl
   simp only [uZ, uS]
   refine tK 50 (i := 7) (v := .agg #[.int .i64 g0, .int .i64 g1, .int .i64 g2, .int .i64 g3, .int .i64 g4, .int .i64 g5]) rfl rfl (by kernel_rfl) ?_ hHeld ?_
   ·intro w hSw; obtain ⟨c0, c1, c2, c3, c4, c5⟩ := HCF.out _ (below_then HB.out hSw.be); clear hSw; go_simp; try with_reducible rfl
   simp only [uZ, uS]
   refine wpAnyH_ready (rs := [8, 12]) (by kernel_rfl) (by simp) ?_
   refine AllReadyH.cons rfl (fun K hK => ?_) (AllReadyH.cons rfl (fun K hK => ?_) AllReadyH.nil)
   rotate_left
   rename World => yq
   go_simp
   have HDN := zH (boxes_lt hHeld.bx); have HZN := zH hHeld.be.size; have HY := zH (hHeld.bx.new 73 #[.int .i64 0, .int .i64 0, .int .i64 0, .int .i64 0, .int .i64 0, .int .i64 0])
   refine hK.out _ _ (hHeld.on (below_alloc1 _ _)) (fun θ => ?_)
   try simp only [Act.put, uA, uZ, uS]
   clear hK K hHeld
   have hHeld := θ
   clear θ
   obtain ⟨yr, hW⟩ : ∃ W', yq.alloc (.cells #[.int .i64 0, .int .i64 0, .int .i64 0, .int .i64 0, .int .i64 0, .int .i64 0] 73) = W' := ⟨_, rfl⟩
   rw [hW] at HY hHeld ⊢
   clear hW
   obtain ⟨N, hN⟩ : ∃ N, yq.heap.size = N := ⟨_, rfl⟩
   rw [hN] at HY HDN HZN ⊢
   clear hN
   refine rK 8 (by kernel_rfl) rfl (fun K hK => ?_)
   go_simp
   (with_reducible refine (CW.out _ (below_then HB.out hHeld.be)).mono ?_)
   rintro x y ⟨rfl, hq⟩
   have HY := zH (HY.out.on hq)
   refine hK.out _ _ (hHeld.on hq) (fun θ => ?_)
   clear hq
   try simp only [Act.put, uA, uZ, uS]
   clear hK K hHeld
   have hHeld := θ
   clear θ
   refine tK 42 (i := 9) (v := .tuple #[.agg #[.int .i64 m0, .int .i64 m1, .int .i64 a0, .int .i64 a1, .int .i64 z0, .int .i64 z1], .int .i64 0]) rfl rfl (by kernel_rfl) ?_ hHeld ?_
   ·intro w hSw; clear hSw; go_simp; try with_reducible rfl
   simp only [uZ, uS]
   refine tK 52 (i := 10) (v := .agg #[.int .i64 m0, .int .i64 m1, .int .i64 a0, .int .i64 a1, .int .i64 z0, .int .i64 z1]) rfl rfl (by kernel_rfl) ?_ hHeld ?_
   ·intro w hSw; clear hSw; go_simp; try with_reducible rfl
   simp only [uZ, uS]
   refine tK 53 (i := 11) (v := .int .i64 0) rfl rfl (by kernel_rfl) ?_ hHeld ?_
   ·intro w hSw; clear hSw; go_simp; try with_reducible rfl
   simp only [uZ, uS]
   rotate_left
   go_simp
   (with_reducible refine (CW.out _ (below_then HB.out hHeld.be)).mono ?_)
   rintro x y ⟨rfl, hq⟩
   refine hK.out _ _ (hHeld.on hq) (fun θ => ?_)
   clear hq
   try simp only [Act.put, uA, uZ, uS]
   clear hK K hHeld
   have hHeld := θ
   clear θ
   refine tK 42 (i := 9) (v := .tuple #[.agg #[.int .i64 m0, .int .i64 m1, .int .i64 a0, .int .i64 a1, .int .i64 z0, .int .i64 z1], .int .i64 0]) rfl rfl (by kernel_rfl) ?_ hHeld ?_
   ·intro w hSw; clear hSw; go_simp; try with_reducible rfl
   simp only [uZ, uS]
   refine tK 52 (i := 10) (v := .agg #[.int .i64 m0, .int .i64 m1, .int .i64 a0, .int .i64 a1, .int .i64 z0, .int .i64 z1]) rfl rfl (by kernel_rfl) ?_ hHeld ?_
   ·intro w hSw; clear hSw; go_simp; try with_reducible rfl
   simp only [uZ, uS]
   refine tK 53 (i := 11) (v := .int .i64 0) rfl rfl (by kernel_rfl) ?_ hHeld ?_
   ·intro w hSw; clear hSw; go_simp; try with_reducible rfl
   simp only [uZ, uS]
   refine rK 12 (by kernel_rfl) rfl (fun K hK => ?_)
   rename World => yq
   go_simp
   have HDN := zH (boxes_lt hHeld.bx); have HZN := zH hHeld.be.size; have HY := zH (hHeld.bx.new 73 #[.int .i64 0, .int .i64 0, .int .i64 0, .int .i64 0, .int .i64 0, .int .i64 0])
   refine hK.out _ _ (hHeld.on (below_alloc1 _ _)) (fun θ => ?_)
   try simp only [Act.put, uA, uZ, uS]
   clear hK K hHeld
   have hHeld := θ
   clear θ
   obtain ⟨yr, hW⟩ : ∃ W', yq.alloc (.cells #[.int .i64 0, .int .i64 0, .int .i64 0, .int .i64 0, .int .i64 0, .int .i64 0] 73) = W' := ⟨_, rfl⟩
   rw [hW] at HY hHeld ⊢
   clear hW
   obtain ⟨N, hN⟩ : ∃ N, yq.heap.size = N := ⟨_, rfl⟩
   rw [hN] at HY HDN HZN ⊢
   clear hN
   all_goals
    refine rK 13 (by kernel_rfl) rfl (fun K hK => ?_)
    rw [if_pos (by kernel_rfl)]
    rename World => yq
    have HXs : Hid (Boxes (yq.setRow N #[.int .i64 m0, .int .i64 m1, .int .i64 a0, .int .i64 a1, .int .i64 z0, .int .i64 z1]) ((N, 73, #[.int .i64 m0, .int .i64 m1, .int .i64 a0, .int .i64 a1, .int .i64 z0, .int .i64 z1]) :: LB)) := zH (Boxes.row HY.out (.head _) (fun p hp => ⟨.tail _ hp, HDN.out p hp⟩) #[.int .i64 m0, .int .i64 m1, .int .i64 a0, .int .i64 a1, .int .i64 z0, .int .i64 z1])
    have hS := hHeld.row HDN.out HZN.out #[.int .i64 m0, .int .i64 m1, .int .i64 a0, .int .i64 a1, .int .i64 z0, .int .i64 z1]
    have HEs := zH hS.be
    refine wp_store_row 73 (.tmp 13) (.tmp 52) rfl N #[.int .i64 m0, .int .i64 m1, .int .i64 a0, .int .i64 a1, .int .i64 z0, .int .i64 z1] rfl rfl 73 _ (HY.out _ (.head _)) (by kernel_rfl) rfl (by kernel_rfl) ?_
    obtain ⟨Ws, hW⟩ : ∃ W', yq.setRow N #[.int .i64 m0, .int .i64 m1, .int .i64 a0, .int .i64 a1, .int .i64 z0, .int .i64 z1] = W' := ⟨_, rfl⟩
    rw [hW] at HXs HEs hS ⊢
    refine hK.out _ _ hS (fun θ => ?_)
    clear hW hS HY
    try simp only [Act.put, uA, uZ, uS]
    clear hK K hHeld
    have hHeld := θ
    clear θ
    refine tK 14 (i := 14) (v := .int .i64 0) rfl rfl (by kernel_rfl) ?_ hHeld ?_
    ·intro w hSw; clear hSw; go_simp; try with_reducible rfl
    simp only [uZ, uS]
    refine wpAnyH_done (by kernel_rfl) ?_ _
    clear hHeld
    go_wp2_with fail
    go_meet
    rw [← HLB.out] at HXs
    exact ⟨N, rfl, HXs.out, HEs.out, HZN.out⟩
  obtain ⟨N1, rfl, hX1, hB1, hN1⟩ := hcut
  have HX1 := zH hX1; have HB1 := zH hB1; have HN1 := zH hN1
  clear hX1 hB1 hN1 CW
  rename World => WA
  go_upto_region 10 with fail
  go_cut [15] (fun s15 wx => ∃ N, s15 = .pointer (some ⟨N, 0, none⟩) ∧ Boxes wx ((N, 35, #[.int .i64 e0, .int .i64 e1]) :: ((N1, 73, #[.int .i64 m0, .int .i64 m1, .int .i64 a0, .int .i64 a1, .int .i64 z0, .int .i64 z1]) :: [(M, 54, #[v, .int .i64 0, .int .i64 0, .int .i64 s0, .int .i64 s1]), (G, 54, #[.slice none 0 0, .int .i64 0, .int .i64 0, .int .i64 0, .int .i64 0])])) ∧ Below wr.heap.size wr wx ∧ wr.heap.size ≤ N)
  case first =>
   clear HX
   obtain ⟨LB, hLB⟩ : ∃ x, (((N1, 73, #[.int .i64 m0, .int .i64 m1, .int .i64 a0, .int .i64 a1, .int .i64 z0, .int .i64 z1]) :: [(M, 54, #[v, .int .i64 0, .int .i64 0, .int .i64 s0, .int .i64 s1]), (G, 54, #[.slice none 0 0, .int .i64 0, .int .i64 0, .int .i64 0, .int .i64 0])]) : List (Nat × TypeId × Array Value)) = x := ⟨_, rfl⟩
   have hS0 : BB wr LB WA.drew := ⟨by rw [← hLB]; exact HX1.out, HB1.out.drew⟩
   have HLB := zH hLB
   clear hLB
   refine wp_region_held_drew (S := BB wr LB) (by kernel_rfl) hS0 (fun hHeld => ?_)
   obtain ⟨yq, hW⟩ : ∃ W', WA.drew = W' := ⟨_, rfl⟩
   rw [hW] at hHeld ⊢
   clear hW hS0 HB1 HX1
   refine tK 55 (i := 0) (v := .slice (some ⟨b, o, none⟩) n c) rfl rfl (by kernel_rfl) ?_ hHeld ?_
   ·intro w hSw; clear hSw; go_simp; try with_reducible rfl
   simp only [uZ, uS]
   refine tK 56 (i := 1) (v := .int .i64 k) rfl rfl (by kernel_rfl) ?_ hHeld ?_
   ·intro w hSw; clear hSw; go_simp; try with_reducible rfl
   simp only [uZ, uS]
   refine tK 57 (i := 2) (v := .pointer (some ⟨b, o + k * 14, none⟩)) rfl rfl (by kernel_rfl) ?_ hHeld ?_
   ·intro w hSw; clear hSw; go_simp; try with_reducible rfl
   simp only [uZ, uS]
   refine tK 58 (i := 3) (v := .agg #[.int .i64 rid, .int .i64 ral, .int .i64 rah, .slice rA rn rc, .slice rB rm rd, .slice rC rl re, .int .i64 rt0, .int .i64 rt1, .int .i64 ru0, .int .i64 ru1, .int .i64 rv0, .int .i64 rv1, .int .i64 rh0, .int .i64 rh1]) rfl rfl (by kernel_rfl) ?_ hHeld ?_
   ·intro w hSw; obtain ⟨c0, c1, c2, c3, c4, c5, c6, c7, c8, c9, c10, c11, c12, c13⟩ := HCK.out _ (below_then HB.out hSw.be); clear hSw; go_simp; try with_reducible rfl
   simp only [uZ, uS]
   refine tK 59 (i := 4) (v := .slice (some ⟨p, q, none⟩) m d) rfl rfl (by kernel_rfl) ?_ hHeld ?_
   ·intro w hSw; clear hSw; go_simp; try with_reducible rfl
   simp only [uZ, uS]
   refine tK 60 (i := 5) (v := .int .i64 k) rfl rfl (by kernel_rfl) ?_ hHeld ?_
   ·intro w hSw; clear hSw; go_simp; try with_reducible rfl
   simp only [uZ, uS]
   refine tK 61 (i := 6) (v := .pointer (some ⟨p, q + k * 6, none⟩)) rfl rfl (by kernel_rfl) ?_ hHeld ?_
   ·intro w hSw; clear hSw; go_simp; try with_reducible rfl
   simp only [uZ, uS]
   refine tK 62 (i := 7) (v := .agg #[.int .i64 g0, .int .i64 g1, .int .i64 g2, .int .i64 g3, .int .i64 g4, .int .i64 g5]) rfl rfl (by kernel_rfl) ?_ hHeld ?_
   ·intro w hSw; obtain ⟨c0, c1, c2, c3, c4, c5⟩ := HCF.out _ (below_then HB.out hSw.be); clear hSw; go_simp; try with_reducible rfl
   simp only [uZ, uS]
   refine wpAnyH_ready (rs := [8, 12]) (by kernel_rfl) (by simp) ?_
   refine AllReadyH.cons rfl (fun K hK => ?_) (AllReadyH.cons rfl (fun K hK => ?_) AllReadyH.nil)
   rotate_left
   rename World => yq
   go_simp
   have HDN := zH (boxes_lt hHeld.bx); have HZN := zH hHeld.be.size; have HY := zH (hHeld.bx.new 35 #[.int .i64 0, .int .i64 0])
   refine hK.out _ _ (hHeld.on (below_alloc1 _ _)) (fun θ => ?_)
   try simp only [Act.put, uA, uZ, uS]
   clear hK K hHeld
   have hHeld := θ
   clear θ
   obtain ⟨yr, hW⟩ : ∃ W', yq.alloc (.cells #[.int .i64 0, .int .i64 0] 35) = W' := ⟨_, rfl⟩
   rw [hW] at HY hHeld ⊢
   clear hW
   obtain ⟨N, hN⟩ : ∃ N, yq.heap.size = N := ⟨_, rfl⟩
   rw [hN] at HY HDN HZN ⊢
   clear hN
   refine rK 8 (by kernel_rfl) rfl (fun K hK => ?_)
   go_simp
   (with_reducible refine (CH.out _ (below_then HB.out hHeld.be)).mono ?_)
   rintro x y ⟨rfl, hq⟩
   have HY := zH (HY.out.on hq)
   refine hK.out _ _ (hHeld.on hq) (fun θ => ?_)
   clear hq
   try simp only [Act.put, uA, uZ, uS]
   clear hK K hHeld
   have hHeld := θ
   clear θ
   refine tK 54 (i := 9) (v := .tuple #[.agg #[.int .i64 e0, .int .i64 e1], .int .i64 0]) rfl rfl (by kernel_rfl) ?_ hHeld ?_
   ·intro w hSw; clear hSw; go_simp; try with_reducible rfl
   simp only [uZ, uS]
   refine tK 64 (i := 10) (v := .agg #[.int .i64 e0, .int .i64 e1]) rfl rfl (by kernel_rfl) ?_ hHeld ?_
   ·intro w hSw; clear hSw; go_simp; try with_reducible rfl
   simp only [uZ, uS]
   refine tK 65 (i := 11) (v := .int .i64 0) rfl rfl (by kernel_rfl) ?_ hHeld ?_
   ·intro w hSw; clear hSw; go_simp; try with_reducible rfl
   simp only [uZ, uS]
   rotate_left
   go_simp
   (with_reducible refine (CH.out _ (below_then HB.out hHeld.be)).mono ?_)
   rintro x y ⟨rfl, hq⟩
   refine hK.out _ _ (hHeld.on hq) (fun θ => ?_)
   clear hq
   try simp only [Act.put, uA, uZ, uS]
   clear hK K hHeld
   have hHeld := θ
   clear θ
   refine tK 54 (i := 9) (v := .tuple #[.agg #[.int .i64 e0, .int .i64 e1], .int .i64 0]) rfl rfl (by kernel_rfl) ?_ hHeld ?_
   ·intro w hSw; clear hSw; go_simp; try with_reducible rfl
   simp only [uZ, uS]
   refine tK 64 (i := 10) (v := .agg #[.int .i64 e0, .int .i64 e1]) rfl rfl (by kernel_rfl) ?_ hHeld ?_
   ·intro w hSw; clear hSw; go_simp; try with_reducible rfl
   simp only [uZ, uS]
   refine tK 65 (i := 11) (v := .int .i64 0) rfl rfl (by kernel_rfl) ?_ hHeld ?_
   ·intro w hSw; clear hSw; go_simp; try with_reducible rfl
   simp only [uZ, uS]
   refine rK 12 (by kernel_rfl) rfl (fun K hK => ?_)
   rename World => yq
   go_simp
   have HDN := zH (boxes_lt hHeld.bx); have HZN := zH hHeld.be.size; have HY := zH (hHeld.bx.new 35 #[.int .i64 0, .int .i64 0])
   refine hK.out _ _ (hHeld.on (below_alloc1 _ _)) (fun θ => ?_)
   try simp only [Act.put, uA, uZ, uS]
   clear hK K hHeld
   have hHeld := θ
   clear θ
   obtain ⟨yr, hW⟩ : ∃ W', yq.alloc (.cells #[.int .i64 0, .int .i64 0] 35) = W' := ⟨_, rfl⟩
   rw [hW] at HY hHeld ⊢
   clear hW
   obtain ⟨N, hN⟩ : ∃ N, yq.heap.size = N := ⟨_, rfl⟩
   rw [hN] at HY HDN HZN ⊢
   clear hN
   all_goals
    refine rK 13 (by kernel_rfl) rfl (fun K hK => ?_)
    rw [if_pos (by kernel_rfl)]
    rename World => yq
    have HXs : Hid (Boxes (yq.setRow N #[.int .i64 e0, .int .i64 e1]) ((N, 35, #[.int .i64 e0, .int .i64 e1]) :: LB)) := zH (Boxes.row HY.out (.head _) (fun p hp => ⟨.tail _ hp, HDN.out p hp⟩) #[.int .i64 e0, .int .i64 e1])
    have hS := hHeld.row HDN.out HZN.out #[.int .i64 e0, .int .i64 e1]
    have HEs := zH hS.be
    refine wp_store_row 35 (.tmp 15) (.tmp 64) rfl N #[.int .i64 e0, .int .i64 e1] rfl rfl 35 _ (HY.out _ (.head _)) (by kernel_rfl) rfl (by kernel_rfl) ?_
    obtain ⟨Ws, hW⟩ : ∃ W', yq.setRow N #[.int .i64 e0, .int .i64 e1] = W' := ⟨_, rfl⟩
    rw [hW] at HXs HEs hS ⊢
    refine hK.out _ _ hS (fun θ => ?_)
    clear hW hS HY
    try simp only [Act.put, uA, uZ, uS]
    clear hK K hHeld
    have hHeld := θ
    clear θ
    refine tK 16 (i := 14) (v := .int .i64 0) rfl rfl (by kernel_rfl) ?_ hHeld ?_
    ·intro w hSw; clear hSw; go_simp; try with_reducible rfl
    simp only [uZ, uS]
    refine wpAnyH_done (by kernel_rfl) ?_ _
    clear hHeld
    go_wp2_with fail
    go_meet
    rw [← HLB.out] at HXs
    exact ⟨N, rfl, HXs.out, HEs.out, HZN.out⟩
  obtain ⟨N2, rfl, hX2, hB2, hN2⟩ := hcut
  rename World => WB
  have HX2 := zH hX2; have HB2 := zH hB2
  have HNN : Hid (wr.heap.size ≤ N1 ∧ wr.heap.size ≤ N2 ∧ M < wr.heap.size) := zH ⟨HN1.out, hN2, (HX.out _ (.head _)).lt⟩
  clear hX2 hB2 hN2 HX1 HB1 HX HN1 CH HCK HCF
  go_upto_region 11 with fail
  have HBB := zH (below_then HB.out HB2.out); have HOB := zH (HO.out.on HB2.out)
  clear HB2
  have m_ := HX2.out _ (.tail _ (.tail _ (.head _)))
  have m_0 := m_.cell 0
  simp at m_0
  clear m_
  have n_ := HX2.out _ (.tail _ (.head _))
  have n_0 := n_.cell 0
  have n_1 := n_.cell 1
  have n_2 := n_.cell 2
  have n_3 := n_.cell 3
  have n_4 := n_.cell 4
  have n_5 := n_.cell 5
  simp at n_0 n_1 n_2 n_3 n_4 n_5
  clear n_
  have HOW := zH (World.ownsRow.alloc (o := .cells #[.int .i64 m0, .int .i64 m1, .int .i64 a0, .int .i64 a1, .int .i64 z0, .int .i64 z1] 73) (show WB.ownsRow (M + 1) 73 6 v _ _ from HOB.out.1))
  have HCE : Hid (∀ (j : Nat) (u : Value), ([.int .i64 m0, .int .i64 m1, .int .i64 a0, .int .i64 a1, .int .i64 z0, .int .i64 z1] : List Value)[j]? = some u → (WB.alloc (.cells #[.int .i64 m0, .int .i64 m1, .int .i64 a0, .int .i64 a1, .int .i64 z0, .int .i64 z1] 73)).cell? ((⟨WB.heap.size, 0, none⟩ : Addr).add j) = some u) := zH (World.news_of_block (cs := #[.int .i64 m0, .int .i64 m1, .int .i64 a0, .int .i64 a1, .int .i64 z0, .int .i64 z1]) (t := 73) (fr := (0, 0)) (heap_alloc_new WB _))
  go_wp2_with (at_builtin; refine wpList_append_own _ rfl (.tmp 67) (.tmp 69) 52 rfl (M + 1) 73 i0 (.agg #[.int .i64 0, .int .i64 0, .int .i64 0, .int .i64 0, .int .i64 0, .int .i64 0]) 6 48 Tryz.underlying52 i1 i2 i3 i4 rfl (by decide) _ _ _ rfl HOW.out ⟨WB.heap.size, 0, none⟩ 1 1 [.int .i64 m0, .int .i64 m1, .int .i64 a0, .int .i64 a1, .int .i64 z0, .int .i64 z1] rfl rfl HCE.out ?c2 ?c3 ?c4 ?c5 ?_)
  case c2 => simp [Value.oneCell']
  case c3 => simp only [maxLen]; have := HLE.out; omega
  case c4 => have := HLE.out; omega
  case c5 => have q := (HX2.out _ (.tail _ (.tail _ (.head _)))).lt; simp; omega
  intro v' w5 hown1 hgrow hnil
  have hrow : ∀ j, Value.ownBlock v = some j → M + 1 ≤ j ∧ j < wr.heap.size := fun j hj => World.ownsRow.lt (show wr.ownsRow (M + 1) 73 6 v _ _ from HO.out.1) j hj
  have HX5 : Hid (Boxes w5 [(M, 54, #[v, .int .i64 0, .int .i64 0, .int .i64 s0, .int .i64 s1]), (N2, 35, #[.int .i64 e0, .int .i64 e1]), (G, 54, #[.slice none 0 0, .int .i64 0, .int .i64 0, .int .i64 0, .int .i64 0])]) := zH (((HX2.out.on (below_alloc1 WB (.cells #[.int .i64 m0, .int .i64 m1, .int .i64 a0, .int .i64 a1, .int .i64 z0, .int .i64 z1] 73))).sub (fun x hx => by
   simp only [List.mem_cons, List.not_mem_nil, or_false] at hx ⊢
   rcases hx with h | h | h <;> simp [h])).grown hgrow (fun x hx hj => by
   have q := hrow _ hj.symm
   have q1 := HNN.out; have q2 := HGM.out
   simp only [List.mem_cons, List.not_mem_nil, or_false] at hx
   rcases hx with h | h | h <;> (rw [h] at q; dsimp only at q; omega)))
  have HE5 : Hid (Below w.heap.size w w5) := zH ((HBB.out.alloc HBB.out.size _).grown hgrow (by have := HBB.out.size; simp; omega) (fun j hj => by have := (hrow j hj).1; have := HGM.out; omega))
  have HO5 := zH (NWs.push (r := ⟨m0, m1, a0, a1, z0, z1⟩) hown1 hnil)
  clear hown1 hgrow hrow hnil HOW HCE HBB HX2
  obtain ⟨vp, vn, vc, rfl⟩ := HO5.out.slice
  clear m_0 n_0 n_1 n_2 n_3 n_4 n_5
  have m_ := HX5.out _ (.head _)
  have m_0 := m_.cell 0
  have m_f0 := m_.frozen 0
  have m_l := m_.lt
  simp at m_0 m_f0
  clear m_
  have HFAR : Hid (∀ x ∈ ([(N2, 35, #[.int .i64 e0, .int .i64 e1]), (G, 54, #[.slice none 0 0, .int .i64 0, .int .i64 0, .int .i64 0, .int .i64 0])] : List (Nat × TypeId × Array Value)), x.1 ≠ M) := zH (fun x hx => by
   have q1 := HNN.out; have q2 := HGM.out
   simp only [List.mem_cons, List.not_mem_nil, or_false] at hx
   rcases hx with h | h <;> (rw [h]; dsimp only; omega))
  go_upto_region 12 with fail
  have HX6 : Hid (Boxes (w5.setCell ⟨M, 0, none⟩ (.slice vp vn vc)) [(M, 54, #[.slice vp vn vc, .int .i64 0, .int .i64 0, .int .i64 s0, .int .i64 s1]), (N2, 35, #[.int .i64 e0, .int .i64 e1]), (G, 54, #[.slice none 0 0, .int .i64 0, .int .i64 0, .int .i64 0, .int .i64 0])]) := zH (HX5.out.set1 HFAR.out 0 (.slice vp vn vc) _ rfl)
  have HE6 : Hid (Below w.heap.size w (w5.setCell ⟨M, 0, none⟩ (.slice vp vn vc))) := zH (HE5.out.setCell (by have := HGM.out; simp; omega) _)
  have HO6 := zH (HO5.out.kept (grownBy_setCellAt w5 M 0 (.slice vp vn vc)) (Nat.lt_succ_self M))
  clear HX5 HE5 HO5 m_0 m_f0 m_l
  obtain ⟨W6, hW⟩ : ∃ W', w5.setCell ⟨M, 0, none⟩ (.slice vp vn vc) = W' := ⟨_, rfl⟩
  rw [hW] at HX6 HE6 HO6 ⊢
  clear hW
  have m_ := HX6.out _ (.head _)
  have m_3 := m_.cell 3
  have m_4 := m_.cell 4
  simp at m_3 m_4
  clear m_
  have n_ := HX6.out _ (.tail _ (.head _))
  have n_0 := n_.cell 0
  have n_1 := n_.cell 1
  simp at n_0 n_1
  clear n_
  go_wp2_with fail
  refine (CS.out _).mono ?_
  rintro x w7 ⟨rfl, hq⟩
  have HXa := zH (HX6.out.on hq); have HEa := zH (below_then HE6.out hq); have HOa := zH (HO6.out.on hq)
  clear hq HX6 HE6 HO6 CS m_3 m_4 n_0 n_1
  have m_ := HXa.out _ (.head _)
  have m_3 := m_.cell 3
  have m_f3 := m_.frozen 3
  have m_4 := m_.cell 4
  have m_f4 := m_.frozen 4
  have m_l := m_.lt
  simp at m_3 m_f3 m_4 m_f4
  clear m_
  have HXb : Hid (Boxes (w7.setCell ⟨M, 3, none⟩ (.int .i64 t0)) [(M, 54, #[.slice vp vn vc, .int .i64 0, .int .i64 0, .int .i64 t0, .int .i64 s1]), (N2, 35, #[.int .i64 e0, .int .i64 e1]), (G, 54, #[.slice none 0 0, .int .i64 0, .int .i64 0, .int .i64 0, .int .i64 0])]) := zH (HXa.out.set1 HFAR.out 3 (.int .i64 t0) _ rfl)
  have HXc : Hid (Boxes ((w7.setCell ⟨M, 3, none⟩ (.int .i64 t0)).setCell ⟨M, 4, none⟩ (.int .i64 t1)) [(M, 54, #[.slice vp vn vc, .int .i64 0, .int .i64 0, .int .i64 t0, .int .i64 t1]), (N2, 35, #[.int .i64 e0, .int .i64 e1]), (G, 54, #[.slice none 0 0, .int .i64 0, .int .i64 0, .int .i64 0, .int .i64 0])]) := zH (HXb.out.set1 HFAR.out 4 (.int .i64 t1) _ rfl)
  have HX7 := zH (HXc.out.sub (L' := [(M, 54, #[.slice vp vn vc, .int .i64 0, .int .i64 0, .int .i64 t0, .int .i64 t1]), (G, 54, #[.slice none 0 0, .int .i64 0, .int .i64 0, .int .i64 0, .int .i64 0])]) (fun x hx => by
   simp only [List.mem_cons, List.not_mem_nil, or_false] at hx ⊢
   rcases hx with h | h <;> simp [h]))
  have HE7 := zH ((HEa.out.setCell (p := ⟨M, 3, none⟩) (by have := HGM.out; simp; omega) (.int .i64 t0)).setCell (p := ⟨M, 4, none⟩) (by have := HGM.out; simp; omega) (.int .i64 t1))
  have HO7 := zH ((HOa.out.kept (grownBy_setCellAt w7 M 3 (.int .i64 t0)) (Nat.lt_succ_self M)).kept (grownBy_setCellAt (w7.setCell ⟨M, 3, none⟩ (.int .i64 t0)) M 4 (.int .i64 t1)) (Nat.lt_succ_self M))
  clear HXa HXb HXc HEa HOa HFAR HNN
  have h9 := H9.out
  go_wp2
  go_roundw
  case rel =>
   exact ⟨k + 1, _, t0, t1, by omega, by go_num, HE7.out, HX7.out, by rw [Q9.out]; exact HO7.out, Q5.out, Q6.out⟩
  case measure => simp [intOf]; omega
end

section
open Go.RowKit

theorem tmod_emod (n m : Int) (h : 0 < m) : -m < n.tmod m ∧ n.tmod m < m ∧ (n.tmod m + m).tmod m = n % m := by
  have h1 := Int.mul_tdiv_add_tmod n m
  have h2 := Int.tmod_lt_of_pos n h
  have h3 : -m < n.tmod m := Int.lt_tmod_of_pos n h
  refine ⟨h3, h2, ?_⟩
  rw [Int.tmod_eq_emod_of_nonneg (by omega), Int.add_emod_right]
  have e : n = n.tmod m + m * n.tdiv m := by omega
  conv => rhs; rw [e]
  rw [Int.add_mul_emod_self_left]

theorem smod_to (n m : Int) (w : World) (h1 : 0 < m) (h2 : m ≤ 4611686018427387904) :
  Calls Tryz.prog 8 #[.int .i64 n, .int .i64 m] w fun e w' => e = .returned (.int .i64 (n % m)) ∧ Below w.heap.size w w' := by
 obtain ⟨a1, a2, a3⟩ := tmod_emod n m h1
 have e1 : IntKind.i64.wrap (n.tmod m) = n.tmod m := IntWalk.i64_in _ ⟨by omega, by omega⟩
 have e2 : IntKind.i64.wrap (n.tmod m + m) = n.tmod m + m := IntWalk.i64_in _ ⟨by omega, by omega⟩
 have e3 := Int.emod_nonneg n (show m ≠ 0 by omega)
 have e4 := Int.emod_lt_of_pos n h1
 have e5 : IntKind.i64.wrap (n % m) = n % m := IntWalk.i64_in _ ⟨by omega, by omega⟩
 have hm : ¬ m = 0 := by omega
 go_enter Tryz.func8, Tryz.ntmps8
 go_wp2
 go_ret
 exact ⟨by first | rfl | (simp [e1, e2, a3, e5]), by first | exact Below.refl _ _ | (simp; exact Below.refl _ _)⟩

def pickS (l : List Int) (i : Int) : Int := if l.length = 0 then 0 else (l[(i % (l.length : Int)).toNat]?).getD 0
theorem spick_to (A : Option Addr) (n c : Nat) (l : List Int) (i : Int) (w : World) (hn : n = l.length) (hm : n ≤ 4611686018427387904) (hl : IntsP w A l) :
  Calls Tryz.prog 12 #[.slice A n c, .int .i64 i] w fun e w' => e = .returned (.int .i64 (pickS l i)) ∧ Below w.heap.size w w' := by
 by_cases h0 : n = 0
 ·have hp : pickS l i = 0 := by unfold pickS; rw [if_pos (by omega)]
  rw [hp]
  subst h0
  clear hp hn hm hl
  go_enter Tryz.func12, Tryz.ntmps12
  go_wp2
  go_ret
  exact ⟨rfl, Below.refl _ _⟩
 obtain ⟨b, o, rfl, lb, hb⟩ : ∃ b o, A = some ⟨b, o, none⟩ ∧ b < w.heap.size ∧ IntsMem w b o l := by
  rcases hl with h | h
  ·exfalso; rw [h] at hn; exact h0 hn
  ·exact h
 have hpos : (0 : Int) < n := by omega
 have m1 := Int.emod_nonneg i (show (n : Int) ≠ 0 by omega)
 have m2 := Int.emod_lt_of_pos i hpos
 obtain ⟨j, hj⟩ : ∃ j : Nat, i % (n : Int) = j := ⟨(i % (n : Int)).toNat, by omega⟩
 obtain ⟨x, hx⟩ : ∃ x, l[j]? = some x := ⟨_, List.getElem?_eq_getElem (show j < l.length by omega)⟩
 have hp : pickS l i = x := by unfold pickS; rw [if_neg (by omega), ← hn, hj]; simp [hx]
 rw [hp]
 have CM : Hid (∀ W, Calls Tryz.prog 8 #[.int .i64 i, .int .i64 n] W fun e w' => e = .returned (.int .i64 j) ∧ Below W.heap.size W w') := zH fun W => by
  have q := smod_to i n W hpos (by omega)
  rw [hj] at q
  exact q
 have c0 := hb j x hx
 have k1 : (j : Int) < (n : Int) := by omega
 have k2 : (0 : Int) ≤ (j : Int) := by omega
 have k3 : ((n : Int) == 0) = false := beq_eq_false_iff_ne.2 (by omega)
 have HC := zH c0; have LB := zH lb
 clear hl hm hn h0 m1 m2 hj hp hpos c0 lb hx hb
 go_enter Tryz.func12, Tryz.ntmps12
 go_wp2_with fail
 refine (CM.out _).mono ?_
 rintro e w1 ⟨rfl, hq⟩
 have HE := zH hq
 have c0 := HC.out
 rw [← hq.cell (p := ⟨b, o + j, none⟩) LB.out] at c0
 clear hq CM
 go_wp2
 go_ret
 exact ⟨rfl, HE.out⟩
end

section
open Go.RowKit
structure RawD where
  id : Int
  fi : Int
  st : List Int
  vs : List Int
structure RawM where
  S : Option Addr
  sn : Nat
  sc : Nat
  V : Option Addr
  vn : Nat
  vc : Nat
abbrev rawV (r : RawD) (m : RawM) : Value := .agg #[.int .i64 r.id, .int .i64 r.fi, .slice m.S m.sn m.sc, .slice m.V m.vn m.vc]
def RawIn (w : World) (r : RawD) (m : RawM) : Prop := m.sn = r.st.length ∧ m.sn ≤ 4611686018427387904 ∧ IntsP w m.S r.st ∧ m.vn = r.vs.length ∧ m.vn ≤ 4611686018427387904 ∧ IntsP w m.V r.vs
theorem RawIn.below {w w' : World} {r : RawD} {m : RawM} (h : RawIn w r m) (hB : Below w.heap.size w w') : RawIn w' r m := ⟨h.1, h.2.1, h.2.2.1.below hB, h.2.2.2.1, h.2.2.2.2.1, h.2.2.2.2.2.below hB⟩
theorem emod_in (n : Int) {m : Int} (h : 0 < m) : 0 ≤ n % m ∧ n % m < m := ⟨Int.emod_nonneg n (by omega), Int.emod_lt_of_pos n h⟩
def someS (vs : List Int) (fr mo : Int) : Int × Int := (pickS vs fr % mo, pickS vs fr % mo + pickS vs (fr + 1) % 9)

theorem ssome_to (r : RawD) (m : RawM) (fr mo : Int) (w : World) (hi : RawIn w r m) (h0 : 0 ≤ fr) (h1 : fr ≤ 1000) (g0 : 0 < mo) (g1 : mo ≤ 1000000) :
  Calls Tryz.prog 15 #[rawV r m, .int .i64 fr, .int .i64 mo] w fun e w' => e = .returned (rv (someS r.vs fr mo).1 (someS r.vs fr mo).2) ∧ Below w.heap.size w w' := by
 obtain ⟨id, fi, st, vs⟩ := r
 obtain ⟨S, sn, sc, V, vn, vc⟩ := m
 unfold someS
 dsimp only
 have w1 : IntKind.i64.wrap (fr + 1) = fr + 1 := IntWalk.i64_in _ ⟨by omega, by omega⟩
 obtain ⟨P0, hP0⟩ : ∃ x, pickS vs fr = x := ⟨_, rfl⟩
 obtain ⟨P1, hP1⟩ : ∃ x, pickS vs (fr + 1) = x := ⟨_, rfl⟩
 rw [hP0, hP1]
 obtain ⟨b0, b1⟩ := emod_in P0 g0
 obtain ⟨b2, b3⟩ := emod_in P1 (show (0 : Int) < 9 by omega)
 obtain ⟨a, ha⟩ : ∃ x, P0 % mo = x := ⟨_, rfl⟩
 obtain ⟨b, hb⟩ : ∃ x, P1 % 9 = x := ⟨_, rfl⟩
 rw [ha, hb]
 rw [ha] at b0 b1
 rw [hb] at b2 b3
 have w2 : IntKind.i64.wrap (a + b) = a + b := IntWalk.i64_in _ ⟨by omega, by omega⟩
 have CP0 : Hid (∀ W, Below w.heap.size w W → Calls Tryz.prog 12 #[.slice V vn vc, .int .i64 fr] W fun e w' => e = .returned (.int .i64 P0) ∧ Below W.heap.size W w') := zH fun W hW => int_to (spick_to V vn vc vs fr W hi.2.2.2.1 hi.2.2.2.2.1 (hi.2.2.2.2.2.below hW)) hP0
 have CP1 : Hid (∀ W, Below w.heap.size w W → Calls Tryz.prog 12 #[.slice V vn vc, .int .i64 (fr + 1)] W fun e w' => e = .returned (.int .i64 P1) ∧ Below W.heap.size W w') := zH fun W hW => int_to (spick_to V vn vc vs (fr + 1) W hi.2.2.2.1 hi.2.2.2.2.1 (hi.2.2.2.2.2.below hW)) hP1
 have CM0 : Hid (∀ W, Calls Tryz.prog 8 #[.int .i64 P0, .int .i64 mo] W fun e w' => e = .returned (.int .i64 a) ∧ Below W.heap.size W w') := zH fun W => int_to (smod_to P0 mo W (by omega) (by omega)) ha
 have CM1 : Hid (∀ W, Calls Tryz.prog 8 #[.int .i64 P1, .int .i64 9] W fun e w' => e = .returned (.int .i64 b) ∧ Below W.heap.size W w') := zH fun W => int_to (smod_to P1 9 W (by omega) (by omega)) hb
 clear hi hP0 hP1 ha hb b0 b1 b2 b3 g0 g1 h0 h1
 have HE := zH (show Below w.heap.size w ((w.alloc (.cells #[.int .i64 id, .int .i64 fi, .slice S sn sc, .slice V vn vc] 32)).alloc (.cells #[.int .i64 0, .int .i64 0] 35)) from below_a2 (Below.refl _ _))
 have HK := zH (boxes2' w 32 35 #[.int .i64 id, .int .i64 fi, .slice S sn sc, .slice V vn vc] #[.int .i64 0, .int .i64 0])
 go_enter Tryz.func15, Tryz.ntmps15
 go_upto_region 1 with fail
 obtain ⟨W0, hW0⟩ : ∃ W0 : World, ((w.alloc (.cells #[.int .i64 id, .int .i64 fi, .slice S sn sc, .slice V vn vc] 32)).alloc (.cells #[.int .i64 0, .int .i64 0] 35)) = W0 := ⟨_, rfl⟩
 rw [hW0] at HE HK ⊢
 clear hW0
 obtain ⟨G, hG⟩ : ∃ G, w.heap.size = G := ⟨_, rfl⟩
 rw [hG] at HK ⊢
 have HG := zH hG; clear hG
 have r_ := HK.out _ (.tail _ (.head _))
 have r_3 := r_.cell 3
 simp at r_3
 clear r_
 go_wp2_with fail
 refine (CP0.out _ HE.out).mono ?_
 rintro e y1 ⟨rfl, hq⟩
 have HE1 := zH (below_then HE.out hq); have HK1 := zH (HK.out.on hq)
 clear hq HE HK r_3 CP0
 have r_ := HK1.out _ (.tail _ (.head _))
 have r_3 := r_.cell 3
 simp at r_3
 clear r_
 go_wp2_with fail
 refine (CM0.out _).mono ?_
 rintro e y2 ⟨rfl, hq⟩
 have HE2 := zH (below_then HE1.out hq); have HK2 := zH (HK1.out.on hq)
 clear hq HE1 HK1 r_3 CM0
 have r_ := HK2.out _ (.tail _ (.head _))
 have r_3 := r_.cell 3
 simp at r_3
 clear r_
 go_wp2_with fail
 refine (CP1.out _ HE2.out).mono ?_
 rintro e y3 ⟨rfl, hq⟩
 have HE3 := zH (below_then HE2.out hq); have HK3 := zH (HK2.out.on hq)
 clear hq HE2 HK2 r_3 CP1
 have r_ := HK3.out _ (.tail _ (.head _))
 have r_3 := r_.cell 3
 simp at r_3
 clear r_
 go_wp2_with fail
 refine (CM1.out _).mono ?_
 rintro e y4 ⟨rfl, hq⟩
 have HE4 := zH (below_then HE3.out hq); have HK4 := zH (HK3.out.on hq)
 clear hq HE3 HK3 r_3 CM1
 have r_ := HK4.out _ (.tail _ (.head _))
 have r_3 := r_.cell 3
 simp at r_3
 clear r_
 have z_ := HK4.out _ (.head _)
 have z_0 := z_.cell 0
 have z_f0 := z_.frozen 0
 have z_1 := z_.cell 1
 have z_f1 := z_.frozen 1
 have z_l := z_.lt
 simp at z_0 z_f0 z_1 z_f1
 clear z_
 go_wp2
 refine bodyPost_ret (v := rv a (a + b)) (by simp [results, Tryz.results15, go_sem, z_0, z_1]) rfl ⟨rfl, ?_⟩
 have hg := HG.out
 repeat (first | exact HE4.out | refine Below.setCell ?_ (by simp <;> omega) _)

def densityS (a b : Int) : Int × Int := (500 + a % 900, 500 + a % 900 + b % 200)

theorem sDensityN_to (x y : Int) (w : World) :
  Calls Tryz.prog 16 #[.int .i64 x, .int .i64 y] w fun e w' => e = .returned (rv (densityS x y).1 (densityS x y).2) ∧ Below w.heap.size w w' := by
 unfold densityS
 dsimp only
 obtain ⟨b0, b1⟩ := emod_in x (show (0 : Int) < 900 by omega)
 obtain ⟨b2, b3⟩ := emod_in y (show (0 : Int) < 200 by omega)
 obtain ⟨a, ha⟩ : ∃ z, x % 900 = z := ⟨_, rfl⟩
 obtain ⟨b, hb⟩ : ∃ z, y % 200 = z := ⟨_, rfl⟩
 rw [ha, hb]
 rw [ha] at b0 b1
 rw [hb] at b2 b3
 have w1 : IntKind.i64.wrap (500 + a) = 500 + a := IntWalk.i64_in _ ⟨by omega, by omega⟩
 have w2 : IntKind.i64.wrap (500 + a + b) = 500 + a + b := IntWalk.i64_in _ ⟨by omega, by omega⟩
 have CM0 : Hid (∀ W, Calls Tryz.prog 8 #[.int .i64 x, .int .i64 900] W fun e w' => e = .returned (.int .i64 a) ∧ Below W.heap.size W w') := zH fun W => int_to (smod_to x 900 W (by omega) (by omega)) ha
 have CM1 : Hid (∀ W, Calls Tryz.prog 8 #[.int .i64 y, .int .i64 200] W fun e w' => e = .returned (.int .i64 b) ∧ Below W.heap.size W w') := zH fun W => int_to (smod_to y 200 W (by omega) (by omega)) hb
 clear ha hb b0 b1 b2 b3
 have HE := zH (show Below w.heap.size w (w.alloc (.cells #[.int .i64 0, .int .i64 0] 35)) from below_alloc1 w _)
 have HK := zH (boxes1' w 35 #[.int .i64 0, .int .i64 0])
 go_enter Tryz.func16, Tryz.ntmps16
 go_upto_region 1 with fail
 obtain ⟨W0, hW0⟩ : ∃ W0 : World, (w.alloc (.cells #[.int .i64 0, .int .i64 0] 35)) = W0 := ⟨_, rfl⟩
 rw [hW0] at HE HK ⊢
 clear hW0
 obtain ⟨G, hG⟩ : ∃ G, w.heap.size = G := ⟨_, rfl⟩
 rw [hG] at HK ⊢
 have HG := zH hG; clear hG
 go_wp2_with fail
 refine (CM0.out _).mono ?_
 rintro e y1 ⟨rfl, hq⟩
 have HE1 := zH (below_then HE.out hq); have HK1 := zH (HK.out.on hq)
 clear hq HE HK  CM0
 go_wp2_with fail
 refine (CM1.out _).mono ?_
 rintro e y2 ⟨rfl, hq⟩
 have HE2 := zH (below_then HE1.out hq); have HK2 := zH (HK1.out.on hq)
 clear hq HE1 HK1  CM1
 have z_ := HK2.out _ (.head _)
 have z_0 := z_.cell 0
 have z_f0 := z_.frozen 0
 have z_1 := z_.cell 1
 have z_f1 := z_.frozen 1
 have z_l := z_.lt
 simp at z_0 z_f0 z_1 z_f1
 clear z_
 go_wp2
 refine bodyPost_ret (v := rv (500 + a) (500 + a + b)) (by simp [results, Tryz.results16, go_sem, z_0, z_1]) rfl ⟨rfl, ?_⟩
 have hg := HG.out
 repeat (first | exact HE2.out | refine Below.setCell ?_ (by simp <;> omega) _)
end

section
open Go.RowKit

def xsTo (fi : Int) (st : List Int) : Nat → List Int × Int
  | 0 => ([fi % 50], fi % 50)
  | k + 1 => match st[k]? with
    | some s => ((xsTo fi st k).1 ++ [(xsTo fi st k).2 + (1 + s % 40)], (xsTo fi st k).2 + (1 + s % 40))
    | none => xsTo fi st k
def xsS (fi : Int) (st : List Int) : List Int := if st.length = 0 then (xsTo fi st 0).1 ++ [(xsTo fi st 0).2 + 10] else (xsTo fi st (min st.length 7)).1
theorem xsTo_succ {fi : Int} {st : List Int} {k : Nat} {s : Int} (h : st[k]? = some s) : xsTo fi st (k + 1) = ((xsTo fi st k).1 ++ [(xsTo fi st k).2 + (1 + s % 40)], (xsTo fi st k).2 + (1 + s % 40)) := by
  rw [xsTo, h]
theorem xsTo_in (fi : Int) (st : List Int) : ∀ k : Nat, 0 ≤ (xsTo fi st k).2 ∧ (xsTo fi st k).2 ≤ 49 + 40 * k
  | 0 => by
    obtain ⟨h1, h2⟩ := emod_in fi (show (0 : Int) < 50 by omega)
    exact ⟨h1, by show fi % 50 ≤ _; omega⟩
  | k + 1 => by
    obtain ⟨h1, h2⟩ := xsTo_in fi st k
    rw [xsTo]
    split
    · rename_i s _
      obtain ⟨h3, h4⟩ := emod_in s (show (0 : Int) < 40 by omega)
      dsimp only
      exact ⟨by omega, by push_cast; omega⟩
    · exact ⟨h1, by push_cast; omega⟩
theorem boxes_grown {w w' : World} {row : Option Nat} {L : List (Nat × TypeId × Array Value)} (h : Boxes w L) (hg : w.grownBy w' row) (hr : ∀ p ∈ L, some p.1 ≠ row) : Boxes w' L := fun p hp => (h p hp).grown hg (hr p hp)
theorem xsTo_len (fi : Int) (st : List Int) : ∀ k : Nat, k ≤ st.length → (xsTo fi st k).1.length = k + 1
  | 0, _ => rfl
  | k + 1, h => by
    have q := xsTo_len fi st k (by omega)
    rw [xsTo, List.getElem?_eq_getElem (show k < st.length by omega)]
    dsimp only
    rw [List.length_append, q]
    rfl

theorem sxs_to (r : RawD) (m : RawM) (w : World) (hi : RawIn w r m) :
  Calls Tryz.prog 31 #[rawV r m] w (GivesInts w (xsS r.fi r.st)) := by
 obtain ⟨id, fi, st, vs⟩ := r
 obtain ⟨S, sn, sc, V, vn, vc⟩ := m
 obtain ⟨i0, i1, i2, i3, i4⟩ := info_parts Tryz.info3
 obtain ⟨hn, hm, hS, _, _, _⟩ := hi
 dsimp only at hn hm hS
 have CM0 : Hid (∀ W, Calls Tryz.prog 8 #[.int .i64 fi, .int .i64 50] W fun e w' => e = .returned (.int .i64 (fi % 50)) ∧ Below W.heap.size W w') := zH fun W => smod_to fi 50 W (by omega) (by omega)
 have HN := zH hn; have HS := zH hS
 clear hn hm hS
 have HE := zH (show Below w.heap.size w (w.alloc (.cells #[.int .i64 id, .int .i64 fi, .slice S sn sc, .slice V vn vc] 32)) from below_alloc1 w _)
 have HK := zH (boxes1' w 32 #[.int .i64 id, .int .i64 fi, .slice S sn sc, .slice V vn vc])
 go_enter Tryz.func31, Tryz.ntmps31
 go_upto_region 1 with fail
 obtain ⟨W0, hW0⟩ : ∃ W0 : World, (w.alloc (.cells #[.int .i64 id, .int .i64 fi, .slice S sn sc, .slice V vn vc] 32)) = W0 := ⟨_, rfl⟩
 rw [hW0] at HE HK ⊢
 clear hW0
 obtain ⟨G, hG⟩ : ∃ G, w.heap.size = G := ⟨_, rfl⟩
 rw [hG] at HK ⊢
 have HG := zH hG; clear hG
 have r_ := HK.out _ (.head _)
 have r_1 := r_.cell 1
 simp at r_1
 clear r_
 go_wp2_with fail
 refine (CM0.out _).mono ?_
 rintro e y1 ⟨rfl, hq⟩
 have HE1 := zH (below_then HE.out hq); have HK1 := zH (HK.out.on hq)
 clear hq HE HK r_1 CM0
 go_wp2_with fail
 have H0 := xsTo_in fi st 0
 go_loopw [3, 4, 5] (fun x v i wr => ∃ (k : Nat) (y : Int), k ≤ sn ∧ k ≤ 7 ∧ x = .int .i64 y ∧ i = .int .i64 k ∧ OwnInts (G + 1) wr v (xsTo fi st k).1 ∧ (xsTo fi st k).2 = y ∧ Below w.heap.size w wr ∧ Boxes wr [(G, 32, #[.int .i64 id, .int .i64 fi, .slice S sn sc, .slice V vn vc])]) (fun _ _ i _ => 7 - (intOf i).toNat)
 case atStart => exact ⟨0, _, by omega, by omega, rfl, rfl, (by have h := own_one y1 (G + 1) (fi % 50) (HK1.out _ (.head _)).lt; exact h), rfl, below_then HE1.out (below_alloc1 _ _), HK1.out.on (below_alloc1 _ _)⟩
 case round =>
  obtain ⟨k, y, hk, hk7, rfl, rfl, hown, hy, hB, hX⟩ := hrel
  have HB := zH hB; have HX := zH hX; have HO := zH hown; have HY := zH hy
  have hin := xsTo_in fi st k
  rw [hy] at hin
  have hln := xsTo_len fi st k (by rw [← HN.out]; exact hk)
  clear hB hX hown hy HE1 HK1 H0
  have r_ := HX.out _ (.head _)
  have r_2 := r_.cell 2
  simp at r_2
  clear r_
  by_cases hlt : k < sn ∧ k < 7
  ·obtain ⟨h1, h2⟩ := hlt
   have k1 : (k : Int) < (sn : Int) := by omega
   have k2 : (k : Int) < 7 := by omega
   have k3 : (0 : Int) ≤ (k : Int) := by omega
   obtain ⟨s, hs⟩ : ∃ s, st[k]? = some s := ⟨_, List.getElem?_eq_getElem (show k < st.length by rw [← HN.out]; exact h1)⟩
   obtain ⟨b, o, rfl, lb, hc⟩ : ∃ b o, S = some ⟨b, o, none⟩ ∧ b < w.heap.size ∧ IntsMem w b o st := by
    rcases HS.out with h | h
    ·exfalso; rw [h] at hs; cases hs
    ·exact h
   have c0 := hc k s hs
   rw [← HB.out.cell (p := ⟨b, o + k, none⟩) lb] at c0
   have hsc := xsTo_succ (fi := fi) hs
   rw [HY.out] at hsc
   obtain ⟨b0, b1⟩ := emod_in s (show (0 : Int) < 40 by omega)
   have CM : Hid (∀ W, Calls Tryz.prog 8 #[.int .i64 s, .int .i64 40] W fun e w' => e = .returned (.int .i64 (s % 40)) ∧ Below W.heap.size W w') := zH fun W => smod_to s 40 W (by omega) (by omega)
   obtain ⟨a, ha⟩ : ∃ a, s % 40 = a := ⟨_, rfl⟩
   rw [ha] at b0 b1 CM hsc
   have w1 : IntKind.i64.wrap (1 + a) = 1 + a := IntWalk.i64_in _ ⟨by omega, by omega⟩
   have w2 : IntKind.i64.wrap (y + (1 + a)) = y + (1 + a) := IntWalk.i64_in _ ⟨by omega, by omega⟩
   have hin2 : 0 ≤ y + (1 + a) := by omega
   have HSC := zH hsc; have HLN := zH hln
   clear hsc hln ha b0 b1 hin hin2 hs hc
   go_wp2_with fail
   refine (CM.out _).mono ?_
   rintro e w2' ⟨rfl, hq⟩
   have HB2 := zH (below_then HB.out hq); have HX2 := zH (HX.out.on hq); have HO2' := zH (show OwnInts (G + 1) w2' u4 (xsTo fi st k).1 from World.ownsRow.kept (show wr.ownsRow (G + 1) 3 1 u4 _ _ from HO.out) (below_grownNone hq) (by cases hv : Value.ownBlock u4 <;> simp))
   clear hq HB HX HO c0 r_2 CM
   have HO2 := zH (HO2'.out.alloc (.cells #[.int .i64 (y + (1 + a))] 3)); clear HO2'
   have HCE := zH (cell_one w2' (y + (1 + a)) 3)
   go_wp2_with (at_builtin; refine wpList_append_own _ rfl (.tmp 31) (.tmp 33) 30 rfl (G + 1) 3 i0 (.int .i64 0) 1 8 Tryz.underlying30 i1 i2 i3 i4 rfl (by decide) _ _ _ rfl HO2.out ⟨w2'.heap.size, 0, none⟩ 1 1 [.int .i64 (y + (1 + a))] rfl rfl HCE.out ?d2 ?d3 ?d4 ?d5 ?_)
   case d2 => simp [Value.oneCell']
   case d3 => simp only [maxLen, List.length_map]; have := HLN.out; omega
   case d4 => simp only [List.length_map]; have := HLN.out; omega
   case d5 => have := (HX2.out _ (.head _)).lt; simp; omega
   intro v' w5 hown1 hgrow _
   have hb5 := (HB2.out.alloc HB2.out.size _).grown hgrow (by have := HB2.out.size; simp; omega) (fun j hj => by have := (World.ownsRow.lt HO2.out j hj).1; have := HG.out; omega)
   have hX5 := boxes_grown (HX2.out.on (below_alloc1 w2' (.cells #[.int .i64 (y + (1 + a))] 3))) hgrow (fun p hp hj => by
    have q := (World.ownsRow.lt HO2.out _ hj.symm).1
    simp only [List.mem_cons, List.not_mem_nil, or_false] at hp
    rw [hp] at q; dsimp only at q; have := HG.out; omega)
   have hown2 : OwnInts (G + 1) w5 v' (xsTo fi st (k + 1)).1 := by
    rw [HSC.out]; exact own_snoc hown1
   clear hown1 hgrow
   go_wp2
   go_roundw
   case rel => exact ⟨k + 1, _, by omega, by omega, rfl, by go_num, hown2, by rw [HSC.out], hb5, hX5⟩
   case measure => simp [intOf]; omega
  have hlenN : (ints (xsTo fi st k).1).length = k + 1 := by rw [List.length_map, hln]
  have HO1 : Hid (wr.ownsRow (G + 1) 3 1 u4 (k + 1) (ints (xsTo fi st k).1)) := zH (by
   have q := HO.out
   unfold OwnInts at q
   rw [hlenN] at q
   exact q)
  obtain ⟨g2, cap, rfl, _, _⟩ := HO1.out.form (by omega)
  by_cases h0 : sn = 0
  ·-- no step: a second place ten behind the first
   have hk0 : k = 0 := by omega
   subst hk0
   have hfin : xsS fi st = (xsTo fi st 0).1 ++ [y + 10] := by unfold xsS; rw [if_pos (by have := HN.out; omega), HY.out]
   have HF := zH hfin
   have k1 : ¬ ((0 : Nat) : Int) < (sn : Int) := by omega
   have k1' : ¬ (0 : Int) < (sn : Int) := by omega
   have w3 : IntKind.i64.wrap (y + 10) = y + 10 := IntWalk.i64_in _ ⟨by omega, by omega⟩
   have HO2 := zH (World.ownsRow.alloc (o := .cells #[.int .i64 (y + 10)] 3) HO1.out)
   have HCE := zH (cell_one wr (y + 10) 3)
   have HLN := zH hln
   clear hin hln hfin hlenN HO HO1 hlt h0 hk hk7
   go_wp2_with (at_builtin; refine wpList_append_own _ rfl (.tmp 38) (.tmp 41) 30 rfl (G + 1) 3 i0 (.int .i64 0) 1 8 Tryz.underlying30 i1 i2 i3 i4 rfl (by decide) _ _ _ rfl HO2.out ⟨wr.heap.size, 0, none⟩ 1 1 [.int .i64 (y + 10)] rfl rfl HCE.out ?d2 ?d3 ?d4 ?d5 ?_)
   case d2 => simp [Value.oneCell']
   case d3 => simp only [maxLen]; omega
   case d5 => have := (HX.out _ (.head _)).lt; simp; omega
   intro v' w5 hown1 hgrow _
   have hb5 := (HB.out.alloc HB.out.size _).grown hgrow (by have := HB.out.size; simp; omega) (fun j hj => by have := (World.ownsRow.lt HO2.out j hj).1; have := HG.out; omega)
   have hown2 : OwnInts (G + 1) w5 v' (xsS fi st) := by
    rw [HF.out]; exact own_snoc (by rw [HLN.out]; exact hown1)
   clear hown1 hgrow
   go_wp2
   go_ret
   exact ⟨_, rfl, World.ownsRow.mono (show w5.ownsRow (G + 1) 3 1 v' _ _ from hown2) (by have := HG.out; omega), hb5⟩
  have hfin : xsS fi st = (xsTo fi st k).1 := by
   unfold xsS; rw [if_neg (by have := HN.out; omega), show min st.length 7 = k by have := HN.out; omega]
  have hown2 : OwnInts (G + 1) wr (.slice (some ⟨g2, 0, none⟩) (k + 1) cap) (xsS fi st) := by rw [hfin]; exact HO.out
  have HO3 := zH hown2
  have k3 : ¬ ((k : Int) + 1) < 2 := by omega
  have k4 : ¬ (((k + 1 : Nat) : Int)) < 2 := by omega
  rcases (show ((k : Int) < (sn : Int) ∧ ¬ (k : Int) < 7) ∨ ¬ (k : Int) < (sn : Int) by omega) with ⟨k1, k2⟩ | k1
  all_goals
   clear hin hln hfin hown2 hlenN HO HO1 hlt h0 hk hk7
   go_wp2
   go_ret
   exact ⟨_, rfl, World.ownsRow.mono (show wr.ownsRow (G + 1) 3 1 (.slice (some ⟨g2, 0, none⟩) (k + 1) cap) _ _ from HO3.out) (by have := HG.out; omega), HB.out⟩
end

end Go.Proofs.YtpcmcicnciejpaaGreat
