/- Arguments opened: a tank, an amount. No conditions. -/
import Derived.Test.YtbcefdaflnlhoaaGreatQ13
import Derived.Test.YtbcefdaflnlhoaaGreatQ00
import Derived.Test.YtbcefdaflnlhoaaGreatQ06
set_option linter.unusedVariables false
set_option linter.unusedSimpArgs false
set_option linter.constructorNameAsVariable false
namespace Go.Proofs.YtbcefdaflnlhoaaGreat

section
open Go.RowKit
attribute [local go_sem ↓] eqlRange neqRange
/-- what a hold has in it -/
structure FillD where
  hold : Int
  st : Int
  x0 : Int
  x1 : Int
  d0 : Int
  d1 : Int
abbrev fillV (f : FillD) : Value := .agg #[.int .i64 f.hold, .int .i64 f.st, .int .i64 f.x0, .int .i64 f.x1, .int .i64 f.d0, .int .i64 f.d1]
/-- ullage and density fit the state -/
def stateS (st : Int) (ne nd inp de : Bool) : Bool := (decide (st = 0) && (ne && nd)) || ((decide (1 ≤ st ∧ st ≤ 2) && (ne && de)) || (decide (3 ≤ st ∧ st ≤ 5) && (inp && de)))
/-- a fill is one of a valid hold -/
def fillS (h : HoldD) (f : FillD) : Bool := decide (f.hold = h.id) && stateS f.st (f.x0 == 0 && f.x1 == 0) (f.d0 == 0 && f.d1 == 0) (inB f.x0 f.x1 (firstX h.vol) (lastX h.vol)) (densS f.d0 f.d1)
def fillErr (h : HoldD) (f : FillD) : Int := if holdS h = true then (if fillS h f = true then 0 else 22) else 20
theorem fillErr_of {h : HoldD} {f : FillD} {a b : Bool} (g : holdS h = a) (e : fillS h f = b) : fillErr h f = if a = true then (if b = true then 0 else 22) else 20 := by unfold fillErr; rw [g, e]
theorem hold_tab {h : HoldD} (e : holdS h = true) : tabOk h.vol = true := by
  cases hm : measuresS h.vol
  · unfold holdS amtRest ctRest at e
    rw [hm] at e
    simp at e
  · exact measures_ok hm
end

section
open Go.ChangeShapes Go.WideShapes Go.ChangeAt Go.RowKit Go.Joins Go.Deep

set_option maxRecDepth 100000 in
theorem open_int1 {H : Type} {enc : TypeId × Value → H} {W : World} {fuel : Nat} {c0 : Value} {x : DataW H × List MemPlace} (h : DataW.trod enc Tryz.prog W 0 (fun _ => true) true fuel 3 [c0] = some x) : ∃ a : Int, c0 = .int .i64 a := by
  obtain ⟨p0, e0, _, _⟩ := DataW.trod_int Tryz.underlying3 h
  simp at e0
  exact ⟨p0, e0⟩
set_option maxRecDepth 100000 in
theorem open_range {H : Type} {enc : TypeId × Value → H} {W : World} {fuel : Nat} {c0 c1 : Value} {x : DataW H × List MemPlace} (h : DataW.trod enc Tryz.prog W 0 (fun _ => true) true fuel 23 [c0, c1] = some x) : ∃ a b : Int, c0 = .int .i64 a ∧ c1 = .int .i64 b := by
  obtain ⟨y0, y1, k, _, _, h0, h1⟩ := trod_struct2 Tryz.underlying23 h
  simp only [Tryz.cellsInt] at h0 h1
  obtain ⟨a, e0⟩ := open_int1 (c0 := c0) (by simpa using h0)
  obtain ⟨b, e1⟩ := open_int1 (c0 := c1) (by simpa using h1)
  exact ⟨a, b, e0, e1⟩
set_option maxRecDepth 100000 in
theorem open_tab1 {H : Type} {enc : TypeId × Value → H} {W : World} {fuel : Nat} {c0 : Value} {x : DataW H × List MemPlace} (h : DataW.trod enc Tryz.prog W 0 (fun _ => true) true fuel 26 [c0] = some x) : ∃ (A : Option Addr) (n c : Nat) (ps : List P3), c0 = .slice A n c ∧ TabIn W A n ps := by
  obtain ⟨y0, k, _, _, i0⟩ := trod_struct1 Tryz.underlying26 h
  simp only [Value.cells, Tryz.cellsPts] at i0
  obtain ⟨A, n, c, ps, e, h1, h2, h3⟩ := open_pts (v := c0) (by simpa using i0)
  exact ⟨A, n, c, ps, e, h1, h2, h3⟩
end

section
open Go.ChangeShapes Go.WideShapes Go.ChangeAt Go.RowKit Go.Joins Go.Deep

theorem Tryz.cellsTank : Tryz.prog.cellsOf 28 = 6 := by kernel_rfl
set_option maxRecDepth 100000 in
set_option maxHeartbeats 2000000 in
theorem open_tank {H : Type} {enc : TypeId × Value → H} {W : World} {base : Nat} {v : Value} {d : DataW H} {pl : List MemPlace} (hv : Value.okWide Tryz.prog W .any base 28 v) (h : DataW.Trod enc Tryz.prog W 0 (fun _ => true) true 28 v d pl) :
    ∃ (t : TankD) (m : HoldM), v = tankV t m ∧ TankIn W t m := by
  obtain ⟨cs, rfl, hsz⟩ := okWide_struct Tryz.underlying28 hv
  rw [Tryz.cellsTank] at hsz
  obtain ⟨l⟩ := cs
  match l, hsz with
  | [c0, c1, c2, c3, c4, c5], _ =>
    obtain ⟨fuel, hf⟩ := h
    obtain ⟨xs, n, _, hx, _, hlen, hg⟩ := DataW.trod_struct Tryz.underlying28 hf
    obtain ⟨y0, hy0⟩ : ∃ y, xs[0]? = some y := ⟨_, List.getElem?_eq_getElem (by rw [hlen]; decide)⟩
    have g0 := hg 0 _ rfl
    rw [hy0] at g0
    have k0 : DataW.trod enc Tryz.prog W 0 (fun _ => true) true n 3 [c0] = some y0 := by simpa [Value.cells, Tryz.cellsInt, Tryz.cellsRange, Tryz.cellsTable] using g0
    clear g0
    obtain ⟨n0, e0⟩ := open_int1 k0
    subst e0
    obtain ⟨y1, hy1⟩ : ∃ y, xs[1]? = some y := ⟨_, List.getElem?_eq_getElem (by rw [hlen]; decide)⟩
    have g1 := hg 1 _ rfl
    rw [hy1] at g1
    have k1 : DataW.trod enc Tryz.prog W 0 (fun _ => true) true n 23 [c1, c2] = some y1 := by simpa [Value.cells, Tryz.cellsInt, Tryz.cellsRange, Tryz.cellsTable] using g1
    clear g1
    obtain ⟨n1, n2, e1, e2⟩ := open_range k1
    subst e1 e2
    obtain ⟨y2, hy2⟩ : ∃ y, xs[2]? = some y := ⟨_, List.getElem?_eq_getElem (by rw [hlen]; decide)⟩
    have g2 := hg 2 _ rfl
    rw [hy2] at g2
    have k2 : DataW.trod enc Tryz.prog W 0 (fun _ => true) true n 26 [c3] = some y2 := by simpa [Value.cells, Tryz.cellsInt, Tryz.cellsRange, Tryz.cellsTable] using g2
    clear g2
    obtain ⟨A3, m3, q3, ps3, e3, t3⟩ := open_tab1 k2
    subst e3
    obtain ⟨y3, hy3⟩ : ∃ y, xs[3]? = some y := ⟨_, List.getElem?_eq_getElem (by rw [hlen]; decide)⟩
    have g3 := hg 3 _ rfl
    rw [hy3] at g3
    have k3 : DataW.trod enc Tryz.prog W 0 (fun _ => true) true n 26 [c4] = some y3 := by simpa [Value.cells, Tryz.cellsInt, Tryz.cellsRange, Tryz.cellsTable] using g3
    clear g3
    obtain ⟨A4, m4, q4, ps4, e4, t4⟩ := open_tab1 k3
    subst e4
    obtain ⟨y4, hy4⟩ : ∃ y, xs[4]? = some y := ⟨_, List.getElem?_eq_getElem (by rw [hlen]; decide)⟩
    have g4 := hg 4 _ rfl
    rw [hy4] at g4
    have k4 : DataW.trod enc Tryz.prog W 0 (fun _ => true) true n 26 [c5] = some y4 := by simpa [Value.cells, Tryz.cellsInt, Tryz.cellsRange, Tryz.cellsTable] using g4
    clear g4
    obtain ⟨A5, m5, q5, ps5, e5, t5⟩ := open_tab1 k4
    subst e5
    exact ⟨⟨n0, n1, n2, ps3, ps4, ps5⟩, ⟨A3, m3, q3, A4, m4, q4, A5, m5, q5⟩, rfl, t3, t4, t5⟩
end

end Go.Proofs.YtbcefdaflnlhoaaGreat
