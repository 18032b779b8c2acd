/- HoldTanks: whatever tank, level and mass come in, the law returns true and leaves its arguments as they were. No conditions. -/
import Derived.Test.YtbcefdaflnlhoaaGreatQ14
import Derived.Test.YtbcefdaflnlhoaaGreatQ37
set_option linter.unusedVariables false
set_option linter.unusedSimpArgs false
set_option linter.constructorNameAsVariable false
namespace Go.Proofs.YtbcefdaflnlhoaaGreat

section
open Go.ChangeShapes Go.WideShapes Go.ChangeAt Go.RowKit Go.Joins Go.Deep

theorem Tryz.cellsLevel : Tryz.prog.cellsOf 30 = 6 := by kernel_rfl
theorem Tryz.cellsBool : Tryz.prog.cellsOf 4 = 1 := by kernel_rfl
set_option maxRecDepth 100000 in
theorem open_bool1 {H : Type} {enc : TypeId × Value → H} {W : World} {fuel : Nat} {c0 : Value} {x : DataW H × List MemPlace} (h : DataW.trod enc Tryz.prog W 0 (fun _ => true) true fuel 4 [c0] = some x) : ∃ a : Bool, c0 = .bool a := by
  obtain ⟨p0, e0, _, _⟩ := DataW.trod_bool Tryz.underlying4 h
  simp at e0
  exact ⟨p0, e0⟩
set_option maxRecDepth 100000 in
set_option maxHeartbeats 2000000 in
theorem open_level {H : Type} {enc : TypeId × Value → H} {W : World} {base : Nat} {v : Value} {d : DataW H} {pl : List MemPlace} (hv : Value.okWide Tryz.prog W .any base 30 v) (h : DataW.Trod enc Tryz.prog W 0 (fun _ => true) true 30 v d pl) :
    ∃ (l : LevelD), v = levelV l := by
  obtain ⟨cs, rfl, hsz⟩ := okWide_struct Tryz.underlying30 hv
  rw [Tryz.cellsLevel] at hsz
  obtain ⟨l⟩ := cs
  match l, hsz with
  | [c0, c1, c2, c3, c4, c5], _ =>
    obtain ⟨fuel, hf⟩ := h
    obtain ⟨xs, n, _, hx, _, hlen, hg⟩ := DataW.trod_struct Tryz.underlying30 hf
    obtain ⟨y0, hy0⟩ : ∃ y, xs[0]? = some y := ⟨_, List.getElem?_eq_getElem (by rw [hlen]; decide)⟩
    have g0 := hg 0 _ rfl
    rw [hy0] at g0
    have k0 : DataW.trod enc Tryz.prog W 0 (fun _ => true) true n 3 [c0] = some y0 := by simpa [Value.cells, Tryz.cellsInt, Tryz.cellsRange, Tryz.cellsTable, Tryz.cellsBool] using g0
    clear g0
    obtain ⟨n0, e0⟩ := open_int1 k0
    subst e0
    obtain ⟨y1, hy1⟩ : ∃ y, xs[1]? = some y := ⟨_, List.getElem?_eq_getElem (by rw [hlen]; decide)⟩
    have g1 := hg 1 _ rfl
    rw [hy1] at g1
    have k1 : DataW.trod enc Tryz.prog W 0 (fun _ => true) true n 4 [c1] = some y1 := by simpa [Value.cells, Tryz.cellsInt, Tryz.cellsRange, Tryz.cellsTable, Tryz.cellsBool] using g1
    clear g1
    obtain ⟨n1, e1⟩ := open_bool1 k1
    subst e1
    obtain ⟨y2, hy2⟩ : ∃ y, xs[2]? = some y := ⟨_, List.getElem?_eq_getElem (by rw [hlen]; decide)⟩
    have g2 := hg 2 _ rfl
    rw [hy2] at g2
    have k2 : DataW.trod enc Tryz.prog W 0 (fun _ => true) true n 23 [c2, c3] = some y2 := by simpa [Value.cells, Tryz.cellsInt, Tryz.cellsRange, Tryz.cellsTable, Tryz.cellsBool] using g2
    clear g2
    obtain ⟨n2, n3, e2, e3⟩ := open_range k2
    subst e2 e3
    obtain ⟨y3, hy3⟩ : ∃ y, xs[3]? = some y := ⟨_, List.getElem?_eq_getElem (by rw [hlen]; decide)⟩
    have g3 := hg 3 _ rfl
    rw [hy3] at g3
    have k3 : DataW.trod enc Tryz.prog W 0 (fun _ => true) true n 23 [c4, c5] = some y3 := by simpa [Value.cells, Tryz.cellsInt, Tryz.cellsRange, Tryz.cellsTable, Tryz.cellsBool] using g3
    clear g3
    obtain ⟨n4, n5, e4, e5⟩ := open_range k3
    subst e4 e5
    exact ⟨⟨n0, n1, n2, n3, n4, n5⟩, rfl⟩
set_option maxRecDepth 100000 in
theorem open_rangeV {H : Type} {enc : TypeId × Value → H} {W : World} {base : Nat} {v : Value} {d : DataW H} {pl : List MemPlace} (hv : Value.okWide Tryz.prog W .any base 23 v) (h : DataW.Trod enc Tryz.prog W 0 (fun _ => true) true 23 v d pl) : ∃ a b : Int, v = rv a b := by
  obtain ⟨cs, rfl, hsz⟩ := okWide_struct Tryz.underlying23 hv
  rw [Tryz.cellsRange] at hsz
  obtain ⟨c0, c1, rfl⟩ := array2 hsz
  obtain ⟨fuel, hf⟩ := h
  obtain ⟨y0, y1, k, _, _, h0, h1⟩ := trod_struct2 Tryz.underlying23 hf
  simp only [Value.cells, Tryz.cellsInt] at h0 h1
  obtain ⟨n0, e0, _, w0⟩ := DataW.trod_int Tryz.underlying3 h0
  obtain ⟨n1, e1, _, w1⟩ := DataW.trod_int Tryz.underlying3 h1
  simp at e0 e1
  subst e0 e1
  exact ⟨n0, n1, rfl⟩

set_option maxRecDepth 100000 in
theorem holdTanks_lifted (os : Os) (started : os.Started) (H : Type) (enc : TypeId × Value → H) :
    ReturnsInHanded {} Tryz.checked os 3 .any (Rows.holdTanksSpec.pre6 enc Tryz.prog Tryz.f3 Rows.holdTanksRow.domain false) (Rows.holdTanksSpec.post enc Tryz.prog Tryz.f3 false true false false) := by
  refine returnsInHanded_of_change (C := Tryz.checked) own started (by kernel_rfl) Tryz.func3
    (ChangeSpec.witness6 (enc := enc) (C := Tryz.checked) false ⟨#[], #[.agg #[.int .i64 0, .int .i64 0, .int .i64 0, .slice none 0 0, .slice none 0 0, .slice none 0 0], .agg #[.int .i64 0, .bool false, .int .i64 0, .int .i64 0, .int .i64 0, .int .i64 0], .agg #[.int .i64 0, .int .i64 0]], []⟩ 8 (by kernel_rfl) (by kernel_rfl) (by kernel_rfl) (by kernel_rfl)) ?_
  intro W base args ds gs before hval0 hW hcnd _
  have hval : ∀ (j : Nat) t v, Tryz.f3.params[j]? = some t → args[j]? = some v → Value.okWide Tryz.prog W .any base t v := hval0
  have hW' := hW
  obtain ⟨p, q, hA0, hV, rfl, hfz, hnd⟩ := hW
  have hA : DataW.TrodAll enc Tryz.prog W 0 (fun _ => true) true Tryz.f3.params.toList args.toList ds p := hA0
  rw [Tryz.params3] at hA hval
  obtain ⟨v0, v1, v2, d0, d1, d2, p0, p1, p2, hargs, rfl, rfl, h0, h1, h2⟩ := trodAll_three hA
  obtain rfl : args = #[v0, v1, v2] := by cases args; simp_all
  obtain ⟨rfl, rfl⟩ := trodVars_none hV
  obtain ⟨t, m, rfl, ti⟩ := open_tank (hval 0 28 v0 rfl rfl) h0
  obtain ⟨lv, rfl⟩ := open_level (hval 1 30 v1 rfl rfl) h1
  obtain ⟨a, b, rfl⟩ := open_rangeV (hval 2 23 v2 rfl rfl) h2
  refine (holdTanks_walk t m lv a b W ti).mono fun e W' ⟨he, hb⟩ => ?_
  subst he
  exact ⟨_, rfl, law_post rfl rfl (by intro t ht; rw [Tryz.params3] at ht
                                      have : t = 28 ∨ t = 30 ∨ t = 23 := by simpa using ht
                                      rcases this with rfl | rfl | rfl <;> exact ⟨by kernel_rfl, of_decide_eq_true (by kernel_rfl)⟩) hW' rfl rfl rfl hb⟩

theorem holdTanks_holds : Rows.HoldTanksSaid :=
  OpenClaim.holds_of_wide 3 Tryz.f3 rfl rfl rfl rfl rfl rfl rfl ⟨rfl, rfl, rfl, rfl, rfl⟩ rfl rfl rfl rfl rfl (by kernel_rfl) Tryz.func3 (by kernel_rfl)
    (of_decide_eq_true (by kernel_rfl)) (by unfold Func.isWrapper; rw [if_neg (of_decide_eq_false (by kernel_rfl))]; exact ⟨rfl, rfl⟩)
    (fun os started H enc _ => holdTanks_lifted os started H enc)
end

end Go.Proofs.YtbcefdaflnlhoaaGreat
