/- FixRanges: whatever ranges and numbers come in, the law returns true and leaves its argument as it was. No conditions. -/
import Derived.Test.YthhcejcpopgkiaaJ0
import Derived.Test.YthhcejcpopgkiaaK1
set_option linter.unusedVariables false
set_option linter.unusedSimpArgs false
set_option linter.constructorNameAsVariable false
namespace Go.Proofs.Ythhcejcpopgkiaa
open Go.ChangeShapes Go.WideShapes Go.ChangeAt Go.RowKit Go.Joins

theorem Try.cellsRange : Try.prog.cellsOf 23 = 2 := by kernel_rfl
theorem Try.cellsInt : Try.prog.cellsOf 3 = 1 := by kernel_rfl
theorem Try.cellsTwo : Try.prog.cellsOf 25 = 6 := by kernel_rfl
theorem array6 {α : Type} {cs : Array α} (h : cs.size = 6) : ∃ c0 c1 c2 c3 c4 c5, cs = #[c0, c1, c2, c3, c4, c5] := by
  obtain ⟨l⟩ := cs
  match l, h with
  | [c0, c1, c2, c3, c4, c5], _ => exact ⟨c0, c1, c2, c3, c4, c5, rfl⟩
set_option maxRecDepth 100000 in
theorem open_two {H : Type} {enc : TypeId × Value → H} {W : World} {base : Nat} {v : Value} {d : DataW H} {ps : List MemPlace} (hv : Value.okWide Try.prog W .any base 25 v) (h : DataW.Trod enc Try.prog W 0 (fun _ => true) true 25 v d ps) :
    ∃ a b c d' n m : Int, v = .agg #[.int .i64 a, .int .i64 b, .int .i64 c, .int .i64 d', .int .i64 n, .int .i64 m] := by
  obtain ⟨cs, rfl, hsz⟩ := okWide_struct Try.underlying25 hv
  rw [Try.cellsTwo] at hsz
  obtain ⟨c0, c1, c2, c3, c4, c5, rfl⟩ := array6 hsz
  obtain ⟨fuel, hf⟩ := h
  obtain ⟨y0, y1, y2, y3, k, _, _, h0, h1, h2, h3⟩ := trod_struct4 Try.underlying25 hf
  simp only [Value.cells, Try.cellsRange, Try.cellsInt] at h0 h1 h2 h3
  obtain ⟨z0, z1, k0, _, _, i0, i1⟩ := trod_struct2 Try.underlying23 h0
  obtain ⟨z2, z3, k1, _, _, i2, i3⟩ := trod_struct2 Try.underlying23 h1
  simp only [Try.cellsInt] at i0 i1 i2 i3
  obtain ⟨a, e0, _, _⟩ := DataW.trod_int Try.underlying3 i0
  obtain ⟨b, e1, _, _⟩ := DataW.trod_int Try.underlying3 i1
  obtain ⟨c, e2, _, _⟩ := DataW.trod_int Try.underlying3 i2
  obtain ⟨d', e3, _, _⟩ := DataW.trod_int Try.underlying3 i3
  obtain ⟨n, e4, _, _⟩ := DataW.trod_int Try.underlying3 h2
  obtain ⟨m, e5, _, _⟩ := DataW.trod_int Try.underlying3 h3
  simp at e0 e1 e2 e3 e4 e5
  subst e0 e1 e2 e3 e4 e5
  exact ⟨a, b, c, d', n, m, rfl⟩

set_option maxRecDepth 100000 in
theorem fixRanges_lifted (os : Os) (started : os.Started) (H : Type) (enc : TypeId × Value → H) :
    ReturnsInHanded {} Try.checked os 3 .any (Rows.fixRangesSpec.pre6 enc Try.prog Try.f3 Rows.fixRangesRow.domain false) (Rows.fixRangesSpec.post enc Try.prog Try.f3 false true false false) := by
  refine returnsInHanded_of_change (C := Try.checked) own started (by kernel_rfl) Try.func3
    (ChangeSpec.witness6 (enc := enc) (C := Try.checked) false ⟨#[], #[.agg #[.int .i64 0, .int .i64 0, .int .i64 0, .int .i64 0, .int .i64 0, .int .i64 0]], []⟩ 8 (by kernel_rfl) (by kernel_rfl) (by kernel_rfl) (by kernel_rfl)) ?_
  intro W base args ds gs before hval0 hW hcnd _
  have hval : ∀ (j : Nat) t v, Try.f3.params[j]? = some t → args[j]? = some v → Value.okWide Try.prog W .any base t v := hval0
  have hW' := hW
  obtain ⟨p, q, hA0, hV, rfl, hfz, hnd⟩ := hW
  have hA : DataW.TrodAll enc Try.prog W 0 (fun _ => true) true Try.f3.params.toList args.toList ds p := hA0
  rw [Try.params3] at hA hval
  obtain ⟨v0, d0, hargs, rfl, h0⟩ := trodAll_one hA
  obtain rfl : args = #[v0] := by cases args; simp_all
  obtain ⟨rfl, rfl⟩ := trodVars_none hV
  obtain ⟨a, b, c, d, n, m, rfl⟩ := open_two (hval 0 25 v0 rfl rfl) h0
  refine (fixRanges_walk a b c d n m W).mono fun e W' ⟨he, hb⟩ => ?_
  subst he
  exact ⟨_, rfl, law_post rfl rfl (by intro t ht; rw [Try.params3] at ht; have : t = 25 := by simpa using ht
                                      subst this; exact ⟨by kernel_rfl, of_decide_eq_true (by kernel_rfl)⟩) hW' rfl rfl rfl hb⟩

theorem fixRanges_holds : Rows.FixRangesSaid :=
  OpenClaim.holds_of_wide 3 Try.f3 rfl rfl rfl rfl rfl rfl rfl ⟨rfl, rfl, rfl, rfl, rfl⟩ rfl rfl rfl rfl rfl (by kernel_rfl) Try.func3 (by kernel_rfl)
    (of_decide_eq_true (by kernel_rfl)) (by unfold Func.isWrapper; rw [if_neg (of_decide_eq_false (by kernel_rfl))]; exact ⟨rfl, rfl⟩)
    (fun os started H enc _ => fixRanges_lifted os started H enc)
end Go.Proofs.Ythhcejcpopgkiaa
