/- Plain: what the chapter's examples are. No conditions. -/
import Derived.Test.YtekkiedlajhaiaaGreatQ31
import Derived.Test.YtekkiedlajhaiaaGreatQ32
import Derived.Test.YtekkiedlajhaiaaGreatQ34
import Derived.Test.YtekkiedlajhaiaaGreatQ01
import Derived.Test.YtekkiedlajhaiaaGreatQ33
import Derived.Test.YtekkiedlajhaiaaGreatQ25
import Derived.Test.YtekkiedlajhaiaaGreatQ17
import Derived.Test.YtekkiedlajhaiaaGreatQ04
set_option linter.unusedVariables false
set_option linter.unusedSimpArgs false
set_option linter.constructorNameAsVariable false
namespace Go.Proofs.YtekkiedlajhaiaaGreat

section
open Go.RowKit

def Wgt (v : Int × Int) : Prop := 0 ≤ v.1 ∧ v.1 ≤ v.2 ∧ v.2 ≤ 2000000001
theorem heavy_wgt {v : Int × Int} {c d : Int} (hv : Amt v) (h4 : 0 ≤ c) (h5 : c ≤ d) (h6 : d ≤ 2000) : Wgt (heavyS v.1 v.2 c d) := by
  obtain ⟨h1, h2, h3⟩ := hv
  have e1 : v.1 * c ≤ v.1 * d := Int.mul_le_mul_of_nonneg_left h5 h1
  have e4 : v.1 * d ≤ v.2 * d := Int.mul_le_mul_of_nonneg_right h2 (by omega)
  have e5 : 0 ≤ v.1 * c := Int.mul_nonneg h1 h4
  have e6 : v.2 * d ≤ 1000000000 * 2000 := Int.mul_le_mul h3 h6 (by omega) (by omega)
  unfold heavyS Wgt
  dsimp only
  refine ⟨?_, ?_, ?_⟩ <;> omega
theorem wgt_zero : Wgt (0, 0) := ⟨by decide, by decide, by decide⟩
theorem heel_wgt {h : HoldD} {f : FillD} (e : fillErr h f = 0) : Wgt (denS h f (momS h f)) := by
  obtain ⟨d1, d2, d3⟩ := fill_dens e
  rw [← den_heavy e (mom_amt e)]
  exact heavy_wgt (mom_amt e) d1 d2 d3
theorem heel_empty {h : HoldD} {f : FillD} (e : fillErr h f = 0) (s : f.st = 0) : denS h f (momS h f) = (0, 0) := by
  have hm : momS h f = (0, 0) := by unfold momS; rw [if_pos s]
  rw [hm, ← den_heavy e amt_zero]
  unfold heavyS
  simp
theorem srf_wgt {t : TankD} {l : LevelD} (e : levelErr t l = 0) : Wgt ((srfS t l).1, (srfS t l).2.1) := by
  have q := dens_in (level_dens e)
  have hv := sur_amtL e
  have hw : Wgt (denL l (ovL t.sur l)) := by
    rw [← den_heavyL e hv]
    exact heavy_wgt hv (by omega) (by omega) (by omega)
  obtain ⟨w1, w2, w3⟩ := hw
  unfold srfS
  rw [if_pos e]
  split
  · exact wgt_zero
  · split
    · exact ⟨Int.le_refl _, by dsimp only; omega, w3⟩
    · exact ⟨w1, w2, w3⟩
def SumOf (k : Nat) (v : Int × Int) : Prop := 0 ≤ v.1 ∧ v.1 ≤ v.2 ∧ v.2 ≤ k * 2000000001
theorem sum_is {k : Nat} {v x : Int × Int} (hk : k ≤ 9) (hv : SumOf k v) (hx : Wgt x) : sumH v.1 v.2 x.1 x.2 = (v.1 + x.1, v.2 + x.2) ∧ SumOf (k + 1) (v.1 + x.1, v.2 + x.2) := by
  obtain ⟨a1, a2, a3⟩ := hv
  obtain ⟨b1, b2, b3⟩ := hx
  have hk' : (k : Int) ≤ 9 := by omega
  have v1 : vR v.1 v.2 = true := (vR_iff _ _).2 (by omega)
  have v2 : vR x.1 x.2 = true := (vR_iff _ _).2 (by omega)
  have v3 : vR (v.1 + x.1) (v.2 + x.2) = true := (vR_iff _ _).2 (by omega)
  constructor
  · unfold sumH addS
    rw [twoS_yes (by rw [v1, v2]; rfl)]
    unfold bigS
    rw [if_pos v3]
  · refine ⟨by dsimp only; omega, by dsimp only; omega, ?_⟩
    dsimp only
    push_cast
    omega

def holdW (h : HoldD) (f : FillD) : WD := ⟨(denS h f (volS h f)).1, (denS h f (volS h f)).2, h.al, h.ah, (heiS h f).1, (heiS h f).2⟩
def tankW (t : TankD) (l : LevelD) : WD := ⟨(denL l (ovL t.vol l)).1, (denL l (ovL t.vol l)).2, t.al, t.ah, (ovL t.hei l).1, (ovL t.hei l).2⟩
def upTo (L : List (HoldD × HoldM)) (fs : List FillD) : Nat → List WD × (Int × Int)
  | 0 => ([], (0, 0))
  | k + 1 => match L[k]?, fs[k]? with
    | some r, some f => (if f.st = 0 then (upTo L fs k).1 else (upTo L fs k).1 ++ [holdW r.1 f], ((upTo L fs k).2.1 + (denS r.1 f (momS r.1 f)).1, (upTo L fs k).2.2 + (denS r.1 f (momS r.1 f)).2))
    | _, _ => upTo L fs k
def upToT (L : List (TankD × HoldM)) (fs : List LevelD) : Nat → List WD × (Int × Int)
  | 0 => ([], (0, 0))
  | k + 1 => match L[k]?, fs[k]? with
    | some r, some f => ((upToT L fs k).1 ++ [tankW r.1 f], ((upToT L fs k).2.1 + (srfS r.1 f).1, (upToT L fs k).2.2 + (srfS r.1 f).2.1))
    | _, _ => upToT L fs k
theorem upTo_succ {L : List (HoldD × HoldM)} {fs : List FillD} {k : Nat} {r : HoldD × HoldM} {f : FillD} (hr : L[k]? = some r) (hf : fs[k]? = some f) :
    upTo L fs (k + 1) = (if f.st = 0 then (upTo L fs k).1 else (upTo L fs k).1 ++ [holdW r.1 f], ((upTo L fs k).2.1 + (denS r.1 f (momS r.1 f)).1, (upTo L fs k).2.2 + (denS r.1 f (momS r.1 f)).2)) := by
  rw [upTo, hr, hf]
theorem upToT_succ {L : List (TankD × HoldM)} {fs : List LevelD} {k : Nat} {r : TankD × HoldM} {f : LevelD} (hr : L[k]? = some r) (hf : fs[k]? = some f) :
    upToT L fs (k + 1) = ((upToT L fs k).1 ++ [tankW r.1 f], ((upToT L fs k).2.1 + (srfS r.1 f).1, (upToT L fs k).2.2 + (srfS r.1 f).2.1)) := by
  rw [upToT, hr, hf]
theorem first_zero {g : Nat → Int} : ∀ (m k : Nat), firstErr g k m = 0 → ∀ j, k ≤ j → j < k + m → g j = 0
  | 0, _, _, _, h1, h2 => by omega
  | m + 1, k, h, j, h1, h2 => by
    rw [firstErr] at h
    by_cases e : g k = 0
    · rw [if_pos e] at h
      by_cases q : j = k
      · rw [q]; exact e
      · exact first_zero m (k + 1) h j (by omega) (by omega)
    · rw [if_neg e] at h
      exact absurd h e
theorem each_zero {L : List (HoldD × HoldM)} {fs : List FillD} (h : eachHold L fs = 0) {k : Nat} {r : HoldD × HoldM} {f : FillD} (hr : L[k]? = some r) (hf : fs[k]? = some f) : fillErr r.1 f = 0 := by
  have := first_zero _ _ h k (Nat.zero_le _) (by have := (List.getElem?_eq_some_iff.1 hr).1; omega)
  unfold errHold at this
  rw [hr, hf] at this
  dsimp only at this
  split at this
  · omega
  · exact this
theorem each_zeroT {L : List (TankD × HoldM)} {fs : List LevelD} (h : eachTank L fs = 0) {k : Nat} {r : TankD × HoldM} {f : LevelD} (hr : L[k]? = some r) (hf : fs[k]? = some f) : levelErr r.1 f = 0 := by
  have := first_zero _ _ h k (Nat.zero_le _) (by have := (List.getElem?_eq_some_iff.1 hr).1; omega)
  unfold errTank at this
  rw [hr, hf] at this
  dsimp only at this
  split at this
  · omega
  · exact this
end

section
open Go.RowKit

def wCells (r : WD) : List Value := [.int .i64 r.m0, .int .i64 r.m1, .int .i64 r.a0, .int .i64 r.a1, .int .i64 r.z0, .int .i64 r.z1]
def wsCells : List WD → List Value
  | [] => []
  | r :: L => wCells r ++ wsCells L
theorem wsCells_app : ∀ (L : List WD) (r : WD), wsCells (L ++ [r]) = wsCells L ++ wCells r
  | [], r => by simp [wsCells]
  | x :: L, r => by rw [List.cons_append, wsCells, wsCells, wsCells_app L r, List.append_assoc]
theorem wsCells_get : ∀ (L : List WD) (k i : Nat) (r : WD), L[k]? = some r → i < 6 → (wsCells L)[k * 6 + i]? = (wCells r)[i]?
  | [], k, i, r, h, _ => by simp at h
  | x :: L, 0, i, r, h, hi => by
    injection h with h; subst h
    rw [wsCells, Nat.zero_mul, Nat.zero_add, List.getElem?_append_left (by simpa [wCells] using hi)]
  | x :: L, k + 1, i, r, h, hi => by
    have h' : L[k]? = some r := by simpa using h
    rw [wsCells, show (k + 1) * 6 + i = 6 + (k * 6 + i) by omega, List.getElem?_append_right (by simp [wCells])]
    rw [show 6 + (k * 6 + i) - (wCells x).length = k * 6 + i by simp [wCells]]
    exact wsCells_get L k i r h' hi
def OwnWs (base : Nat) (w : World) (v : Value) (L : List WD) : Prop := w.ownsRow base 63 6 v L.length (wsCells L)
theorem OwnWs.sl {base : Nat} {w : World} {v : Value} {L : List WD} (h : OwnWs base w v L) : SlWs w v L := by
  obtain ⟨_, h | ⟨g, cap, cur, rfl, hg, hc, h1, h2, h3, h4⟩⟩ := h
  · exact .inl ⟨h.1, List.length_eq_zero_iff.1 h.2⟩
  · have hlt : g < w.heap.size := by
      rcases Nat.lt_or_ge g w.heap.size with q | q
      · exact q
      · rw [Array.getElem?_eq_none q] at hc; cases hc
    refine .inr ⟨g, cap, rfl, hlt, fun k r hr => ?_⟩
    have hk := (List.getElem?_eq_some_iff.1 hr).1
    have cell : ∀ i, i < 6 → w.cell? ⟨g, k * 6 + i, none⟩ = (wCells r)[i]? := fun i hi => by
      rw [cell_of_row w g (k * 6 + i) cur 63 (0, 0) hc, ← wsCells_get L k i r hr hi, ← h4, List.getElem?_take, if_pos (by omega)]
      simp
    have c0 := cell 0 (by omega); have c1 := cell 1 (by omega); have c2 := cell 2 (by omega); have c3 := cell 3 (by omega); have c4 := cell 4 (by omega); have c5 := cell 5 (by omega)
    simp only [wCells, List.getElem?_cons_zero, List.getElem?_cons_succ, Nat.add_zero] at c0 c1 c2 c3 c4 c5
    exact ⟨c0, c1, c2, c3, c4, c5⟩
end

section
open Go.RowKit

set_option maxRecDepth 100000 in
set_option maxHeartbeats 4000000 in
theorem hLoad_e (A B C D : Option Addr) (n c m d l e r s : Nat) (L : List (HoldD × HoldM)) (fs : List FillD) (T : List (TankD × HoldM)) (ls : List LevelD) (w : World) (hL : HoldsIn w A n L) (hF : FillsIn w B m fs) (hT : TanksIn w C l T) (hV : LevelsIn w D r ls) (hc : n ≤ c) (he : l ≤ e) (iL : ∀ r ∈ L, HoldIn w r.1 r.2) (iT : ∀ r ∈ T, TankIn w r.1 r.2) (E : Int) (hE : loadErr L fs T ls = E) (gE : ¬ E = 0) :
  Calls Tryz.prog 7 #[.slice A n c, .slice B m d, .slice C l e, .slice D r s] w fun x w' => x = .returned (.tuple #[.agg #[.slice none 0 0, .int .i64 0, .int .i64 0, .int .i64 0, .int .i64 0], .int .i64 E]) ∧ Below w.heap.size w w' := by
 have C1 : Hid (∀ W, Below w.heap.size w W → Calls Tryz.prog 32 #[.slice A n c, .slice B m d, .slice C l e, .slice D r s] W fun x w' => x = .returned (.int .i64 E) ∧ Below W.heap.size W w') := Lib.hid fun W hW => by
  rw [← hE]; exact checkLoad_any A B C D n c m d l e r s L fs T ls W (hL.below hW) (hF.below hW) (hT.below hW) (hV.below hW) hc he (fun z hz => (iL z hz).below hW) (fun z hz => (iT z hz).below hW)
 clear hL hF hT hV hc he iL iT hE
 have b1 : (E == 0) = false := beq_eq_false_iff_ne.2 gE
 have b2 : (E != 0) = true := bne_iff_ne.2 gE
 clear gE
 have HE := Lib.hid (show Below w.heap.size w (w.alloc (.cells #[.slice none 0 0, .int .i64 0, .int .i64 0, .int .i64 0, .int .i64 0] 32)) from below_alloc1 w _)
 have HK := Lib.hid (boxes1' w 32 #[.slice none 0 0, .int .i64 0, .int .i64 0, .int .i64 0, .int .i64 0])
 go_enter Tryz.func7, Tryz.ntmps7
 go_upto_region 1 with fail
 obtain ⟨W0, hW0⟩ : ∃ W0, (w.alloc (.cells #[.slice none 0 0, .int .i64 0, .int .i64 0, .int .i64 0, .int .i64 0] 32)) = W0 := ⟨_, rfl⟩
 rw [hW0] at HE HK ⊢
 clear hW0
 obtain ⟨G, hG⟩ : ∃ G, w.heap.size = G := ⟨_, rfl⟩
 rw [hG] at HK ⊢
 have HG := Lib.hid hG; clear hG
 go_wp2_with fail
 refine (C1.out _ HE.out).mono ?_
 rintro x w2 ⟨rfl, hq⟩
 have HE2 := Lib.hid (below_then HE.out hq); have HK2 := Lib.hid (HK.out.on hq)
 clear hq HE HK C1
 have ha := HK2.out _ (.head _)
 have ha0 := ha.cell 0
 have haf0 := ha.frozen 0
 have ha1 := ha.cell 1
 have haf1 := ha.frozen 1
 have ha2 := ha.cell 2
 have haf2 := ha.frozen 2
 have ha3 := ha.cell 3
 have haf3 := ha.frozen 3
 have ha4 := ha.cell 4
 have haf4 := ha.frozen 4
 have hal := ha.lt
 simp at ha0 haf0 ha1 haf1 ha2 haf2 ha3 haf3 ha4 haf4
 clear ha
 go_wp2
 refine bodyPost_ret (v := .tuple #[.agg #[.slice none 0 0, .int .i64 0, .int .i64 0, .int .i64 0, .int .i64 0], .int .i64 E]) (by simp [results, Tryz.results7, go_sem, ha0, ha1, ha2, ha3, ha4]) rfl ⟨rfl, ?_⟩
 have hg := HG.out
 repeat (first | exact HE2.out | refine Below.setCell ?_ (by simp <;> omega) _)
end

section
open Go.RowKit

theorem Tryz.infoWt : (Tryz.prog.info? 63).map (fun i => (i.zero, i.size, i.bytes)) = some (some (.agg #[.int .i64 0, .int .i64 0, .int .i64 0, .int .i64 0, .int .i64 0, .int .i64 0]), 6, 48) := by kernel_rfl
theorem OwnWs.slice {base : Nat} {w : World} {v : Value} {L : List WD} (h : OwnWs base w v L) : ∃ p n c, v = .slice p n c := by
  obtain ⟨_, h | ⟨g, cap, _, h, _⟩⟩ := h
  · exact ⟨_, _, _, h.1⟩
  · exact ⟨_, _, _, h⟩
theorem OwnWs.on {base : Nat} {w w' : World} {v : Value} {L : List WD} (h : OwnWs base w v L) (hb : Below w.heap.size w w') : OwnWs base w' v L :=
  World.ownsRow.kept (show w.ownsRow base 63 6 v L.length (wsCells L) from h) (below_grownNone hb) (by cases hv : v.ownBlock <;> simp)
theorem OwnWs.kept {base g : Nat} {w w' : World} {v : Value} {L : List WD} (h : OwnWs base w v L) (hg : w.grownBy w' (some g)) (hr : g < base) : OwnWs base w' v L :=
  World.ownsRow.kept (show w.ownsRow base 63 6 v L.length (wsCells L) from h) hg (.inr (fun e => by have := (World.ownsRow.lt (show w.ownsRow base 63 6 v L.length (wsCells L) from h) _ e).1; omega))
theorem OwnWs.mono {base base' : Nat} {w : World} {v : Value} {L : List WD} (h : OwnWs base w v L) (hb : base' ≤ base) : OwnWs base' w v L := World.ownsRow.mono (show w.ownsRow base 63 6 v L.length (wsCells L) from h) hb
theorem OwnWs.push {base : Nat} {w : World} {v : Value} {L : List WD} {r : WD} (h : w.ownsRow base 63 6 v (L.length + 1) (wsCells L ++ wCells r)) : OwnWs base w v (L ++ [r]) := by
  unfold OwnWs
  rw [List.length_append, wsCells_app]
  exact h
def NWs (base : Nat) (w : World) (v : Value) (L : List WD) : Prop := OwnWs base w v L ∧ (L = [] ↔ v = .slice none 0 0)
theorem NWs.nil (base : Nat) (w : World) : NWs base w (.slice none 0 0) [] := ⟨World.ownsRow_nil _ _ _ _, by simp⟩
theorem NWs.slice {base : Nat} {w : World} {v : Value} {L : List WD} (h : NWs base w v L) : ∃ p n c, v = .slice p n c := h.1.slice
theorem NWs.on {base : Nat} {w w' : World} {v : Value} {L : List WD} (h : NWs base w v L) (hb : Below w.heap.size w w') : NWs base w' v L := ⟨h.1.on hb, h.2⟩
theorem NWs.kept {base g : Nat} {w w' : World} {v : Value} {L : List WD} (h : NWs base w v L) (hg : w.grownBy w' (some g)) (hr : g < base) : NWs base w' v L := ⟨h.1.kept hg hr, h.2⟩
theorem NWs.mono {base base' : Nat} {w : World} {v : Value} {L : List WD} (h : NWs base w v L) (hb : base' ≤ base) : NWs base' w v L := ⟨h.1.mono hb, h.2⟩
theorem NWs.push {base : Nat} {w : World} {v : Value} {L : List WD} {r : WD} (h : w.ownsRow base 63 6 v (L.length + 1) (wsCells L ++ wCells r)) (hv : ¬ v = .slice none 0 0) : NWs base w v (L ++ [r]) :=
  ⟨OwnWs.push h, ⟨fun q => by simp at q, fun q => absurd q hv⟩⟩
theorem grownBy_setRow' (w : World) (g : Nat) (cs : Array Value) : w.grownBy (w.setRow g cs) (some g) := ⟨rfl, rfl, rfl, by simp [World.setRow], fun k _ hk => setRow_other w g k _ (fun e => hk (by rw [e]))⟩
theorem grownBy_setCellAt (w : World) (b i : Nat) (v : Value) : w.grownBy (w.setCell ⟨b, i, none⟩ v) (some b) := ⟨rfl, rfl, rfl, by simp [World.setCell], fun k _ hk => Below.heap_setCell _ _ _ _ (fun e => hk (by simp [e]))⟩
theorem Boxes.grown {w w' : World} {row : Option Nat} {L : List (Nat × TypeId × Array Value)} (h : Boxes w L) (hg : w.grownBy w' row) (hr : ∀ p ∈ L, some p.1 ≠ row) : Boxes w' L := fun p hp => (h p hp).grown hg (hr p hp)
def BB (w0 : World) (L : List (Nat × TypeId × Array Value)) (w : World) : Prop := Boxes w L ∧ Below w0.heap.size w0 w
theorem BB.bx {w0 w : World} {L : List (Nat × TypeId × Array Value)} (h : BB w0 L w) : Boxes w L := h.1
theorem BB.be {w0 w : World} {L : List (Nat × TypeId × Array Value)} (h : BB w0 L w) : Below w0.heap.size w0 w := h.2
theorem BB.on {w0 w w' : World} {L : List (Nat × TypeId × Array Value)} (h : BB w0 L w) (hb : Below w.heap.size w w') : BB w0 L w' := ⟨h.1.on hb, below_then h.2 hb⟩
theorem BB.row {w0 w : World} {L : List (Nat × TypeId × Array Value)} (h : BB w0 L w) {g : Nat} (hg : ∀ p ∈ L, p.1 ≠ g) (hn : w0.heap.size ≤ g) (cs : Array Value) : BB w0 L (w.setRow g cs) := ⟨h.1.farRow hg cs, below_setRow h.2 hn cs⟩
theorem weightV_ok {h : HoldD} {f : FillD} (e : fillErr h f = 0) : weightV h f = wt (holdW h f).m0 (holdW h f).m1 (holdW h f).a0 (holdW h f).a1 (holdW h f).z0 (holdW h f).z1 0 := by
  unfold weightV; rw [if_pos e]; rfl
theorem weightV_form (h : HoldD) (f : FillD) : ∃ m0 m1 a0 a1 z0 z1, weightV h f = wt m0 m1 a0 a1 z0 z1 (fillErr h f) := by
  unfold weightV
  split
  · rename_i e; rw [e]; exact ⟨_, _, _, _, _, _, rfl⟩
  · exact ⟨_, _, _, _, _, _, rfl⟩
theorem balV_ok {t : TankD} {l : LevelD} (e : levelErr t l = 0) : balV t l = wt (tankW t l).m0 (tankW t l).m1 (tankW t l).a0 (tankW t l).a1 (tankW t l).z0 (tankW t l).z1 0 := by
  unfold balV; rw [if_pos e]; rfl
theorem balV_form (t : TankD) (l : LevelD) : ∃ m0 m1 a0 a1 z0 z1, balV t l = wt m0 m1 a0 a1 z0 z1 (levelErr t l) := by
  unfold balV
  split
  · rename_i e; rw [e]; exact ⟨_, _, _, _, _, _, rfl⟩
  · exact ⟨_, _, _, _, _, _, rfl⟩
theorem tell_ok {h : HoldD} {f : FillD} (e : fillErr h f = 0) (v : Int × Int) : tellS h f v = (v.1, v.2, 0) := by unfold tellS; rw [if_pos e]
theorem srf_ok {t : TankD} {l : LevelD} (e : levelErr t l = 0) : srfS t l = ((srfS t l).1, (srfS t l).2.1, 0) := by
  unfold srfS
  rw [if_pos e]
  split <;> rfl
theorem load_zero {L : List (HoldD × HoldM)} {fs : List FillD} {T : List (TankD × HoldM)} {ls : List LevelD} (h : loadErr L fs T ls = 0) :
    L.length ≤ 9 ∧ T.length ≤ 9 ∧ fs.length = L.length ∧ ls.length = T.length ∧ eachHold L fs = 0 ∧ eachTank T ls = 0 := by
  unfold loadErr at h
  split at h
  · exact absurd h (by decide)
  · rename_i h1
    split at h
    · exact absurd h (by decide)
    · rename_i h2
      split at h
      · rename_i h3; exact ⟨by omega, by omega, by omega, by omega, h3, h⟩
      · rename_i h3; exact absurd h h3
theorem sum_wrap {k : Nat} {t : Int × Int} (hk : k ≤ 9) (h : SumOf (k + 1) t) : IntKind.i64.wrap t.1 = t.1 ∧ IntKind.i64.wrap t.2 = t.2 := by
  obtain ⟨h1, h2, h3⟩ := h
  have : ((k + 1 : Nat) : Int) ≤ 10 := by omega
  exact ⟨IntWalk.i64_in _ ⟨by omega, by omega⟩, IntWalk.i64_in _ ⟨by omega, by omega⟩⟩
theorem hold_step {L : List (HoldD × HoldM)} {fs : List FillD} {k : Nat} {z : HoldD × HoldM} {y : FillD} {s0 s1 : Int} (hk : k ≤ 9) (hz : L[k]? = some z) (hy : fs[k]? = some y) (he : fillErr z.1 y = 0) (hu : (upTo L fs k).2 = (s0, s1)) (hs : SumOf k (s0, s1)) :
    ∃ e0 e1 t0 t1, denS z.1 y (momS z.1 y) = (e0, e1) ∧ sumH s0 s1 e0 e1 = (t0, t1) ∧ IntKind.i64.wrap (s0 + e0) = t0 ∧ IntKind.i64.wrap (s1 + e1) = t1 ∧ (upTo L fs (k + 1)).2 = (t0, t1) ∧ SumOf (k + 1) (t0, t1) ∧
      (y.st = 0 → t0 = s0 ∧ t1 = s1 ∧ (upTo L fs (k + 1)).1 = (upTo L fs k).1) ∧ (¬ y.st = 0 → (upTo L fs (k + 1)).1 = (upTo L fs k).1 ++ [holdW z.1 y]) := by
  obtain ⟨h1, h2⟩ := sum_is hk hs (heel_wgt he)
  have h3 := upTo_succ hz hy
  have h4 := heel_empty (h := z.1) (f := y) he
  obtain ⟨⟨e0, e1⟩, hx⟩ : ∃ r, denS z.1 y (momS z.1 y) = r := ⟨_, rfl⟩
  rw [hx] at h1 h2 h3 h4 ⊢
  rw [hu] at h3
  obtain ⟨h5, h6⟩ := sum_wrap hk h2
  refine ⟨e0, e1, s0 + e0, s1 + e1, rfl, h1, h5, h6, by rw [h3], h2, fun g => ?_, fun g => ?_⟩
  · have q := h4 g
    have q0 : e0 = 0 := congrArg Prod.fst q
    have q1 : e1 = 0 := congrArg Prod.snd q
    refine ⟨by omega, by omega, ?_⟩
    rw [h3, if_pos g]
  · rw [h3, if_neg g]
theorem tank_step {L : List (TankD × HoldM)} {fs : List LevelD} {k : Nat} {z : TankD × HoldM} {y : LevelD} {s0 s1 : Int} (hk : k ≤ 9) (hz : L[k]? = some z) (hy : fs[k]? = some y) (he : levelErr z.1 y = 0) (hu : (upToT L fs k).2 = (s0, s1)) (hs : SumOf k (s0, s1)) :
    ∃ e0 e1 t0 t1, srfS z.1 y = (e0, e1, 0) ∧ sumH s0 s1 e0 e1 = (t0, t1) ∧ IntKind.i64.wrap (s0 + e0) = t0 ∧ IntKind.i64.wrap (s1 + e1) = t1 ∧ (upToT L fs (k + 1)).2 = (t0, t1) ∧ SumOf (k + 1) (t0, t1) ∧ (upToT L fs (k + 1)).1 = (upToT L fs k).1 ++ [tankW z.1 y] := by
  obtain ⟨h1, h2⟩ := sum_is hk hs (srf_wgt he)
  have h3 := upToT_succ hz hy
  have h4 := srf_ok he
  obtain ⟨⟨e0, e1, e2⟩, hx⟩ : ∃ r, srfS z.1 y = r := ⟨_, rfl⟩
  rw [hx] at h1 h2 h3 h4 ⊢
  rw [hu] at h3
  obtain ⟨h5, h6⟩ := sum_wrap hk h2
  have q : e2 = 0 := congrArg (fun r : Int × Int × Int => r.2.2) h4
  refine ⟨e0, e1, s0 + e0, s1 + e1, by rw [q], h1, h5, h6, by rw [h3], h2, by rw [h3]⟩
theorem upTo_len (L : List (HoldD × HoldM)) (fs : List FillD) : ∀ k, (upTo L fs k).1.length ≤ k
  | 0 => Nat.le_refl _
  | k + 1 => by
    have h := upTo_len L fs k
    rw [upTo]
    split
    · dsimp only
      split
      · omega
      · rw [List.length_append]; simp; omega
    · omega
theorem upToT_len (L : List (TankD × HoldM)) (fs : List LevelD) : ∀ k, (upToT L fs k).1.length ≤ k
  | 0 => Nat.le_refl _
  | k + 1 => by
    have h := upToT_len L fs k
    rw [upToT]
    split
    · dsimp only
      rw [List.length_append]; simp; omega
    · omega
theorem hasHold_next {L : List (HoldD × HoldM)} {k : Nat} {x : HoldD × HoldM} {id : Int} (hx : L[k]? = some x) (h : hasHold (L.take k) id = false) (hne : ¬ x.1.id = id) : hasHold (L.take (k + 1)) id = false := by
  unfold hasHold at h ⊢
  rw [take_snocP' hx, List.any_append, h]
  simp [hne]
theorem hasHold_found {L : List (HoldD × HoldM)} {j k : Nat} {x : HoldD × HoldM} {id : Int} (hx : L[j]? = some x) (hj : j < k) (he : x.1.id = id) : hasHold (L.take k) id = true :=
  List.any_eq_true.2 ⟨x, List.mem_of_getElem? (show (L.take k)[j]? = some x by rw [List.getElem?_take, if_pos hj]; exact hx), by simp [he]⟩
theorem hasTank_next {L : List (TankD × HoldM)} {k : Nat} {x : TankD × HoldM} {id : Int} (hx : L[k]? = some x) (h : hasTank (L.take k) id = false) (hne : ¬ x.1.id = id) : hasTank (L.take (k + 1)) id = false := by
  unfold hasTank at h ⊢
  rw [take_snocP' hx, List.any_append, h]
  simp [hne]
theorem hasTank_found {L : List (TankD × HoldM)} {j k : Nat} {x : TankD × HoldM} {id : Int} (hx : L[j]? = some x) (hj : j < k) (he : x.1.id = id) : hasTank (L.take k) id = true :=
  List.any_eq_true.2 ⟨x, List.mem_of_getElem? (show (L.take k)[j]? = some x by rw [List.getElem?_take, if_pos hj]; exact hx), by simp [he]⟩
theorem errHold_dup {L : List (HoldD × HoldM)} {fs : List FillD} {k : Nat} {z : HoldD × HoldM} {y : FillD} (hz : L[k]? = some z) (hy : fs[k]? = some y) (h : hasHold (L.take k) z.1.id = true) : errHold L fs k = 20 := by
  unfold errHold; rw [hz, hy]; dsimp only; rw [if_pos (.inr h)]
theorem errHold_new {L : List (HoldD × HoldM)} {fs : List FillD} {k : Nat} {z : HoldD × HoldM} {y : FillD} (hz : L[k]? = some z) (hy : fs[k]? = some y) (h : hasHold (L.take k) z.1.id = false) : errHold L fs k = fillErr z.1 y := by
  unfold errHold; rw [hz, hy]; dsimp only
  split
  · rename_i q
    rcases q with q | q
    · exact q.symm
    · rw [h] at q; cases q
  · rfl
theorem errTank_dup {L : List (TankD × HoldM)} {fs : List LevelD} {k : Nat} {z : TankD × HoldM} {y : LevelD} (hz : L[k]? = some z) (hy : fs[k]? = some y) (h : hasTank (L.take k) z.1.id = true) : errTank L fs k = 21 := by
  unfold errTank; rw [hz, hy]; dsimp only; rw [if_pos (.inr h)]
theorem errTank_new {L : List (TankD × HoldM)} {fs : List LevelD} {k : Nat} {z : TankD × HoldM} {y : LevelD} (hz : L[k]? = some z) (hy : fs[k]? = some y) (h : hasTank (L.take k) z.1.id = false) : errTank L fs k = levelErr z.1 y := by
  unfold errTank; rw [hz, hy]; dsimp only
  split
  · rename_i q
    rcases q with q | q
    · exact q.symm
    · rw [h] at q; cases q
  · rfl
theorem first_here {g : Nat → Int} {k n : Nat} {X : Int} (hk : k < n) (h : firstErr g k (n - k) = X) (he : ¬ g k = 0) : g k = X := by
  rw [show n - k = (n - (k + 1)) + 1 by omega, firstErr, if_neg he] at h; exact h
theorem first_next {g : Nat → Int} {k n : Nat} {X : Int} (hk : k < n) (h : firstErr g k (n - k) = X) (he : g k = 0) : firstErr g (k + 1) (n - (k + 1)) = X := by
  rw [show n - k = (n - (k + 1)) + 1 by omega, firstErr, if_pos he] at h; exact h
theorem first_end {g : Nat → Int} {n : Nat} {X : Int} (h : firstErr g n (n - n) = X) : X = 0 := by
  rw [Nat.sub_self] at h; exact h.symm
theorem weightV_inj {h : HoldD} {f : FillD} (e : fillErr h f = 0) {m0 m1 a0 a1 z0 z1 : Int} (q : weightV h f = wt m0 m1 a0 a1 z0 z1 0) : holdW h f = ⟨m0, m1, a0, a1, z0, z1⟩ := by
  rw [weightV_ok e] at q
  simp at q
  obtain ⟨q0, q1, q2, q3, q4, q5⟩ := q
  rw [← q0, ← q1, ← q2, ← q3, ← q4, ← q5]
theorem balV_inj {t : TankD} {l : LevelD} (e : levelErr t l = 0) {m0 m1 a0 a1 z0 z1 : Int} (q : balV t l = wt m0 m1 a0 a1 z0 z1 0) : tankW t l = ⟨m0, m1, a0, a1, z0, z1⟩ := by
  rw [balV_ok e] at q
  simp at q
  obtain ⟨q0, q1, q2, q3, q4, q5⟩ := q
  rw [← q0, ← q1, ← q2, ← q3, ← q4, ← q5]
def LoadPost (L : List (HoldD × HoldM)) (fs : List FillD) (T : List (TankD × HoldM)) (ls : List LevelD) (n l : Nat) (E : Int) (w : World) (x : Ending) (w' : World) : Prop :=
  (E = 0 → ∃ v u0 u1 s0 s1, x = .returned (.tuple #[.agg #[v, .int .i64 u0, .int .i64 u1, .int .i64 s0, .int .i64 s1], .int .i64 0]) ∧
    (upToT T ls l).2 = (u0, u1) ∧ (upTo L fs n).2 = (s0, s1) ∧ NWs w.heap.size w' v ((upTo L fs n).1 ++ (upToT T ls l).1)) ∧
  (¬ E = 0 → x = .returned (.tuple #[.agg #[.slice none 0 0, .int .i64 0, .int .i64 0, .int .i64 0, .int .i64 0], .int .i64 E])) ∧ Below w.heap.size w w'
theorem LoadPost.err {L : List (HoldD × HoldM)} {fs : List FillD} {T : List (TankD × HoldM)} {ls : List LevelD} {n l : Nat} {E : Int} {w : World} {w' : World} (h : ¬ E = 0) (hb : Below w.heap.size w w') :
    LoadPost L fs T ls n l E w (.returned (.tuple #[.agg #[.slice none 0 0, .int .i64 0, .int .i64 0, .int .i64 0, .int .i64 0], .int .i64 E])) w' := ⟨fun q => absurd q h, fun _ => rfl, hb⟩
theorem LoadPost.ok {L : List (HoldD × HoldM)} {fs : List FillD} {T : List (TankD × HoldM)} {ls : List LevelD} {n l : Nat} {w : World} {w' : World} {v : Value} {u0 u1 s0 s1 : Int} (h1 : (upToT T ls l).2 = (u0, u1)) (h2 : (upTo L fs n).2 = (s0, s1)) (h3 : NWs w.heap.size w' v ((upTo L fs n).1 ++ (upToT T ls l).1)) (hb : Below w.heap.size w w') :
    LoadPost L fs T ls n l 0 w (.returned (.tuple #[.agg #[v, .int .i64 u0, .int .i64 u1, .int .i64 s0, .int .i64 s1], .int .i64 0])) w' := ⟨fun _ => ⟨_, _, _, _, _, rfl, h1, h2, h3⟩, fun q => absurd rfl q, hb⟩
end

section
open Go.RowKit
attribute [local go_sem ↓] run_minI run_maxI
set_option maxRecDepth 100000 in
set_option maxHeartbeats 4000000 in
theorem worst1_to (ra rb : Int) (fh st x0 x1 d0 d1 : Int) (Bf : Nat) (t : Bool) (w : World) (hF : Blk w Bf 53 #[.int .i64 fh, .int .i64 st, .int .i64 x0, .int .i64 x1, .int .i64 d0, .int .i64 d1]) (ht : decide (x0 ≤ rb) = t) :
  Calls Tryz.prog 63 #[rv ra rb, .pointer (some ⟨Bf, 0, none⟩)] w fun e w' => e = .returned (.bool t) ∧ Below w.heap.size w w' := by
 have hx : ((x0 ≤ rb) ∧ t = true) ∨ (¬ (x0 ≤ rb) ∧ t = false) := by
  by_cases q : x0 ≤ rb
  ·exact .inl ⟨q, by rw [← ht]; exact decide_eq_true q⟩
  ·exact .inr ⟨q, by rw [← ht]; exact decide_eq_false q⟩
 clear ht
 have c2 := hF.cell 2
 have lf := hF.lt
 have ln : Bf ≠ w.heap.size := Nat.ne_of_lt lf
 simp at c2
 clear hF
 rcases hx with ⟨h, rfl⟩ | ⟨h, rfl⟩
 all_goals
  go_enter Tryz.func63, Tryz.ntmps63
  go_wp2
  go_ret
  exact ⟨rfl, below_alloc1 _ _⟩

set_option maxRecDepth 100000 in
set_option maxHeartbeats 4000000 in
theorem indexFunc_w (b o n c Bf k : Nat) (L : List (Int × Int)) (r : Int × Int) (fh st x0 x1 d0 d1 : Int) (w : World) (hn : n = L.length) (h40 : n ≤ 1000000) (hb : b < w.heap.size) (hc : RunsMem w b o L) (hF : Blk w Bf 53 #[.int .i64 fh, .int .i64 st, .int .i64 x0, .int .i64 x1, .int .i64 d0, .int .i64 d1])
  (hk : L[k]? = some r) (hr : x0 ≤ r.2) (hlo : ∀ j z, j < k → L[j]? = some z → z.2 < x0) :
  Calls Tryz.prog 62 #[.slice (some ⟨b, o, none⟩) n c, .func (.func 63) #[] #[.pointer (some ⟨Bf, 0, none⟩)]] w fun e w' => e = .returned (.int .i64 k) ∧ Below w.heap.size w w' := by
 have hkn : k < n := by have := (List.getElem?_eq_some_iff.1 hk).1; omega
 have HN := Lib.hid hn; have HC := Lib.hid hc; have HF := Lib.hid hF; have HK := Lib.hid hk; have HL := Lib.hid hlo
 clear hn hc hF hk hlo
 go_enter Tryz.func62, Tryz.ntmps62
 go_wp2_with fail
 go_loopw [8] (fun i wr => ∃ j : Nat, j ≤ k ∧ i = .int .i64 j ∧ Below w.heap.size w wr) (fun i _ => k - (intOf i).toNat)
 case atStart => exact ⟨0, by omega, rfl, Below.refl _ _⟩
 case round =>
  obtain ⟨j, hj, rfl, hB⟩ := hrel
  have k1 : (j : Int) < (n : Int) := by omega
  have k2 : j < n := by omega
  obtain ⟨z, hz⟩ : ∃ z, L[j]? = some z := ⟨_, List.getElem?_eq_getElem (show j < L.length by rw [← HN.out]; omega)⟩
  obtain ⟨c0, c1⟩ := HC.out j z hz
  rw [← hB.cell (p := ⟨b, o + j * 2, none⟩) hb] at c0
  rw [← hB.cell (p := ⟨b, o + j * 2 + 1, none⟩) hb] at c1
  have lb : b < wr.heap.size := Nat.lt_of_lt_of_le hb hB.size
  have HB := Lib.hid hB
  obtain ⟨za, zb⟩ := z
  dsimp only at c0 c1
  by_cases g : j = k
  ·have ht : decide (x0 ≤ zb) = true := by
    rw [g, HK.out] at hz; injection hz with hz
    rw [hz] at hr
    exact decide_eq_true hr
   have CC := Lib.hid (worst1_to za zb fh st x0 x1 d0 d1 Bf true wr (blkOn HF.out hB) ht)
   subst g
   clear hz ht hB hr
   go_wp2_with fail
   refine CC.out.mono ?_
   rintro e w1 ⟨rfl, hb1⟩
   have HB1 := Lib.hid (below_then HB.out hb1)
   clear hb1 CC
   go_wp2
   go_ret
   exact ⟨rfl, HB1.out⟩
  ·have ht : decide (x0 ≤ zb) = false := decide_eq_false (by have := HL.out j (za, zb) (by omega) hz; dsimp only at this; omega)
   have CC := Lib.hid (worst1_to za zb fh st x0 x1 d0 d1 Bf false wr (blkOn HF.out hB) ht)
   clear hz ht hB
   go_wp2_with fail
   refine CC.out.mono ?_
   rintro e w1 ⟨rfl, hb1⟩
   have HB1 := Lib.hid (below_then HB.out hb1)
   clear hb1 CC
   go_wp2
   go_roundw
   case rel => exact ⟨j + 1, by omega, by go_num, HB1.out⟩
   case measure => simp [intOf]; omega

abbrev it (r : Int × Int × Int) : Value := .tuple #[.int .i64 r.1, .int .i64 r.2.1, .int .i64 r.2.2]
def worstS (h : HoldD) (f : FillD) (ra : Int) : Int × Int × Int := if fillErr h f = 0 then (if f.st = 3 then (max ra f.x0, (momS h f).2, 0) else (0, (momS h f).2, 0)) else (0, 0, fillErr h f)

set_option maxRecDepth 100000 in
set_option maxHeartbeats 4000000 in
theorem worst_of (h : HoldD) (m : HoldM) (f : FillD) (L : List (Int × Int)) (k : Nat) (r : Int × Int) (w : World) (hi : HoldIn w h m)
  (hL : fillErr h f = 0 → f.st = 3 → L.length ≤ 1000000 ∧ whereE h.mom (momS h f).2 1000000000 = 0 ∧ runsF (whereS (momS h f).2 1000000000) (prs h.mom) = L ∧ L[k]? = some r ∧ f.x0 ≤ r.2 ∧ (∀ j z, j < k → L[j]? = some z → z.2 < f.x0)) :
  Calls Tryz.prog 30 #[holdV h m, fillV f] w fun e w' => e = .returned (it (worstS h f r.1)) ∧ Below w.heap.size w w' := by
 have CM : Hid (∀ W, Below w.heap.size w W → Calls Tryz.prog 20 #[holdV h m, fillV f] W fun e w' => e = .returned (rt (tellS h f (momS h f))) ∧ Below W.heap.size W w') := Lib.hid fun W hW => hMoment_any h m f W (hi.below hW)
 obtain ⟨R, hR⟩ : ∃ R, worstS h f r.1 = R := ⟨_, rfl⟩
 obtain ⟨E, hE⟩ : ∃ E, fillErr h f = E := ⟨_, rfl⟩
 obtain ⟨⟨pa, pb⟩, hP⟩ : ∃ p, momS h f = p := ⟨_, rfl⟩
 have hT : tellS h f (momS h f) = if E = 0 then (pa, pb, 0) else (0, 0, E) := by unfold tellS; rw [hE, hP]
 rw [hT] at CM
 have HR := Lib.hid hR
 rw [hR]
 unfold worstS at HR
 rw [hE, hP] at HR
 rw [hE, hP] at hL
 dsimp only at HR hL
 clear hR hE hP hT
 obtain ⟨id, al, ah, vol, mom, hei, t0, t1, u0, u1, v0, v1, h0, h1⟩ := h
 obtain ⟨A, n, c, B, mm, d, C, l, ee⟩ := m
 obtain ⟨fh, st, x0, x1, d0, d1⟩ := f
 obtain ⟨i1, i2, i3⟩ := hi
 dsimp only at i1 i2 i3 HR hL
 obtain ⟨ra, rb⟩ := r
 dsimp only at HR hL
 have HE := Lib.hid (show Below w.heap.size w ((w.alloc (.cells #[.int .i64 id, .int .i64 al, .int .i64 ah, .slice A n c, .slice B mm d, .slice C l ee, .int .i64 t0, .int .i64 t1, .int .i64 u0, .int .i64 u1, .int .i64 v0, .int .i64 v1, .int .i64 h0, .int .i64 h1] 50)).alloc (.cells #[.int .i64 fh, .int .i64 st, .int .i64 x0, .int .i64 x1, .int .i64 d0, .int .i64 d1] 53)) from below_a2 (Below.refl _ _))
 have HK := Lib.hid (boxes2' w 50 53 #[.int .i64 id, .int .i64 al, .int .i64 ah, .slice A n c, .slice B mm d, .slice C l ee, .int .i64 t0, .int .i64 t1, .int .i64 u0, .int .i64 u1, .int .i64 v0, .int .i64 v1, .int .i64 h0, .int .i64 h1] #[.int .i64 fh, .int .i64 st, .int .i64 x0, .int .i64 x1, .int .i64 d0, .int .i64 d1])
 have CW : Hid (E = 0 → st = 3 → ∀ W, Below w.heap.size w W → Calls Tryz.prog 61 #[tv B mm d, rv pb 1000000000] W (RunsE W L 0)) := Lib.hid fun e s W hW => by
  obtain ⟨_, q1, q2, _⟩ := hL e s
  have := where_all B mm d mom pb 1000000000 W i2.1 i2.2.1 (i2.below hW).2.2
  rwa [q1, if_pos rfl, q2] at this
 have CI : Hid (E = 0 → st = 3 → ∀ W Bf A' c', RunsP W A' L → Blk W Bf 53 #[.int .i64 fh, .int .i64 st, .int .i64 x0, .int .i64 x1, .int .i64 d0, .int .i64 d1] → Calls Tryz.prog 62 #[.slice A' L.length c', .func (.func 63) #[] #[.pointer (some ⟨Bf, 0, none⟩)]] W fun e w' => e = .returned (.int .i64 k) ∧ Below W.heap.size W w') := Lib.hid fun e s W Bf A' c' hp hB => by
  obtain ⟨q0, _, _, q3, q4, q5⟩ := hL e s
  rcases hp with hp | ⟨b, o, rfl, hb, hc⟩
  ·rw [hp] at q3; simp at q3
  ·exact indexFunc_w b o L.length c' Bf k L (ra, rb) fh st x0 x1 d0 d1 W rfl q0 hb hc hB q3 q4 q5
 have HL := Lib.hid hL
 clear hL i1 i2 i3
 go_enter Tryz.func30, Tryz.ntmps30
 go_wp2_with fail
 obtain ⟨W0, hW0⟩ : ∃ W0, ((w.alloc (.cells #[.int .i64 id, .int .i64 al, .int .i64 ah, .slice A n c, .slice B mm d, .slice C l ee, .int .i64 t0, .int .i64 t1, .int .i64 u0, .int .i64 u1, .int .i64 v0, .int .i64 v1, .int .i64 h0, .int .i64 h1] 50)).alloc (.cells #[.int .i64 fh, .int .i64 st, .int .i64 x0, .int .i64 x1, .int .i64 d0, .int .i64 d1] 53)) = W0 := ⟨_, rfl⟩
 rw [hW0] at HE HK ⊢
 clear hW0
 obtain ⟨G, hG⟩ : ∃ G, w.heap.size = G := ⟨_, rfl⟩
 rw [hG] at HK ⊢
 have HG := Lib.hid hG; clear hG
 refine (CM.out _ HE.out).mono ?_
 rintro e w1 ⟨rfl, hb⟩
 by_cases g : E = 0
 ·rw [if_pos g]
  have HE1 := Lib.hid (below_then (below_then HE.out hb) (below_alloc1 w1 (.cells #[.int .i64 pa, .int .i64 pb] 30))); have HK1 := Lib.hid ((HK.out.on hb).new 30 #[.int .i64 pa, .int .i64 pb])
  have CX := Lib.hid (CW.out g)
  have CY := Lib.hid (CI.out g)
  have HM := Lib.hid (HL.out g)
  rw [if_pos g] at HR
  clear hb HE HK CM CW CI HL
  subst g
  go_upto_region 2 with fail
  obtain ⟨W1, hW1⟩ : ∃ W1, w1.alloc (.cells #[.int .i64 pa, .int .i64 pb] 30) = W1 := ⟨_, rfl⟩
  rw [hW1] at HE1 HK1 ⊢
  clear hW1
  obtain ⟨N, hN⟩ : ∃ N, w1.heap.size = N := ⟨_, rfl⟩
  rw [hN] at HK1 ⊢
  clear hN
  have p := HK1.out _ (.head _)
  have p0 := p.cell 0
  have p1 := p.cell 1
  simp at p0 p1
  clear p
  have f := HK1.out _ (.tail _ (.head _))
  have f1 := f.cell 1
  have f2 := f.cell 2
  simp at f1 f2
  clear f
  by_cases s : st = 3
  ·rw [if_pos s] at HR
   have CX' := Lib.hid (CX.out s)
   have CY' := Lib.hid (CY.out s)
   obtain ⟨_, _, _, q3, _⟩ := HM.out s
   have hkn := (List.getElem?_eq_some_iff.1 q3).1
   have Q3 := Lib.hid q3
   have sb : (st == 3) = true := by simp [s]
   have eR := HR.out.symm
   subst eR
   clear HR HM CX CY s
   have hc := HK1.out _ (.tail _ (.tail _ (.head _)))
   have hc0 := hc.cell 0
   have hc1 := hc.cell 1
   have hc2 := hc.cell 2
   have hc3 := hc.cell 3
   have hc4 := hc.cell 4
   have hc5 := hc.cell 5
   have hc6 := hc.cell 6
   have hc7 := hc.cell 7
   have hc8 := hc.cell 8
   have hc9 := hc.cell 9
   have hc10 := hc.cell 10
   have hc11 := hc.cell 11
   have hc12 := hc.cell 12
   have hc13 := hc.cell 13
   simp at hc0 hc1 hc2 hc3 hc4 hc5 hc6 hc7 hc8 hc9 hc10 hc11 hc12 hc13
   clear hc
   go_wp2_with fail
   refine (CX'.out _ HE1.out).mono ?_
   rintro e w2 ⟨A', c', rfl, hP, hb⟩
   have HE2 := Lib.hid (below_then HE1.out hb); have HK2 := Lib.hid (HK1.out.on hb)
   have CI := Lib.hid (CY'.out w2 (G + 1) A' c' hP (HK2.out _ (.tail _ (.head _))))
   rcases hP with hP | ⟨bb, oo, rfl, hbb, hcc⟩
   ·rw [hP] at hkn; simp at hkn
   obtain ⟨r0, r1⟩ := hcc k (ra, rb) Q3.out
   dsimp only at r0 r1
   have HR0 := Lib.hid r0
   have HLB := Lib.hid hbb
   clear hb HE1 HK1 CX' CY' p0 p1 f1 f2 hc0 hc1 hc2 hc3 hc4 hc5 hc6 hc7 hc8 hc9 hc10 hc11 hc12 hc13 hbb hcc r0 r1
   go_wp2_with fail
   refine CI.out.mono ?_
   rintro e w3 ⟨rfl, hb⟩
   have HE3 := Lib.hid (below_then HE2.out hb); have HK3 := Lib.hid (HK2.out.on hb)
   have r0 := (hb.cell (p := ⟨bb, oo + k * 2, none⟩) HLB.out).trans HR0.out
   have lbb := Nat.lt_of_lt_of_le HLB.out hb.size
   clear hb HE2 HK2 CI HR0 HLB
   have p := HK3.out _ (.head _)
   have p1 := p.cell 1
   simp at p1
   clear p
   have f := HK3.out _ (.tail _ (.head _))
   have f2 := f.cell 2
   simp at f2
   clear f
   have k1 : (k : Int) < (L.length : Int) := by omega
   have k2 : k < L.length := hkn
   go_upto_region 8 with fail
   go_region
   go_wp2
   refine bodyPost_ret (v := it (max ra x0, pb, 0)) (by simp [results, Tryz.results30, go_sem]) rfl ⟨rfl, HE3.out.drew⟩
  ·rw [if_neg s] at HR
   have eR := HR.out.symm
   subst eR
   have sb : (st == 3) = false := beq_eq_false_iff_ne.2 s
   clear HR HM CX CY
   go_upto_region 5 with fail
   go_region
   go_wp2
   refine bodyPost_ret (v := it (0, pb, 0)) (by simp [results, Tryz.results30, go_sem]) rfl ⟨rfl, HE1.out.drew⟩
 ·rw [if_neg g]
  rw [if_neg g] at HR
  have eR := HR.out.symm
  subst eR
  clear HR HL CW CI
  have HE1 := Lib.hid (below_then HE.out hb)
  clear hb HE HK CM
  go_wp2
  refine bodyPost_ret (v := it (0, 0, E)) (by simp [results, Tryz.results30, go_sem]) rfl ⟨rfl, ?_⟩
  repeat (first | exact HE1.out | refine Below.alloc ?_ (by have := HE1.out.size; omega) _)
end

section
open Go.RowKit

theorem ex_fill : fillErr exH exF = 0 := by decide +kernel
theorem ex_tab : tabOk exH.vol = true := by decide +kernel
theorem ex_le : firstX exH.vol ≤ lastX exH.vol := by decide +kernel
theorem ex_mass : tellS exH exF (denS exH exF (volS exH exF)) = (320, 480, 0) := by decide +kernel
theorem ex_heel : tellS exH exF (denS exH exF (momS exH exF)) = (256, 400, 0) := by decide +kernel
theorem ex_ullage : UllageS exH 400 400 800 800 = (49, 51, 0) := by decide +kernel
theorem ex_massErr : massErr 80 80 800 800 = 0 := by decide +kernel
theorem ex_over : overS exH.vol 40 60 = (400, 600, 0) := by decide +kernel
theorem ex_litres : litresS 80 80 800 800 = (100, 100) := by decide +kernel
theorem ex_mix : mixS 800 800 800 800 = (800, 800) := by decide +kernel
theorem ex_ull : ullS exH.vol 500 700 = (29, 51, 0) := by decide +kernel
theorem ex_meet : meetS 29 51 0 60 = (29, 51, 0) := by decide +kernel
theorem ex_moved : movedS exH.vol 1 500 700 0 60 800 800 = (⟨1, 3, 29, 51, 800, 800⟩, 0) := by
  unfold movedS; rw [ex_ull]; dsimp only; rw [ex_meet]; rfl
theorem ex_mom : momS exH exF = (320, 500) := by decide +kernel
theorem ex_prs : prs exMom = [⟨((0, 0, 0), (50, 400, 500)), by unfold Okp; decide⟩, ⟨((50, 400, 500), (100, 0, 0)), by unfold Okp; decide⟩] := by
  have h := prs_pcs (ps := exMom) (by decide +kernel)
  refine (List.map_inj_right (f := Subtype.val) (fun a b e => Subtype.ext e)).1 ?_
  rw [h]; rfl
theorem ex_runs : runsF (whereS 500 1000000000) (prs exMom) = [(50, 50)] := by rw [ex_prs]; decide +kernel
theorem ex_where : whereE exMom 500 1000000000 = 0 := by decide +kernel
theorem ex_worst : worstS exH exF 50 = (50, 500, 0) := by decide +kernel
end

end Go.Proofs.YtekkiedlajhaiaaGreat
