/- FixNarrows: whatever table, numbers and places come in, the law returns true and leaves its arguments as they were. No conditions. -/
import Derived.Test.YthhcejcpopgkiaaU1
import Derived.Test.YthhcejcpopgkiaaY1
import Derived.Deep.Slices
set_option linter.unusedVariables false
set_option linter.unusedSimpArgs false
set_option linter.constructorNameAsVariable false
namespace Go.Proofs.Ythhcejcpopgkiaa
open Go.ChangeShapes Go.WideShapes Go.ChangeAt Go.RowKit Go.Joins Go.Deep

theorem Try.cellsCurved : Try.prog.cellsOf 66 = 2 := by kernel_rfl
theorem Try.cellsNums : Try.prog.cellsOf 44 = 1 := by kernel_rfl
set_option maxRecDepth 100000 in
theorem open_curved {H : Type} {enc : TypeId × Value → H} {W : World} {base : Nat} {v : Value} {d : DataW H} {pl : List MemPlace} (hv : Value.okWide Try.prog W .any base 66 v) (h : DataW.Trod enc Try.prog W 0 (fun _ => true) true 66 v d pl) :
    ∃ (A A' : Option Addr) (n n' c c' : Nat) (ps : List P3) (cs : List Int), v = .agg #[.slice A n c, .slice A' n' c'] ∧ n = ps.length ∧ n' = cs.length ∧ n ≤ maxLen ∧ n' ≤ maxLen ∧ Pts W A ps ∧ (∀ z ∈ cs, I64 z) ∧ IntsP W A' cs := by
  obtain ⟨cs, rfl, hsz⟩ := okWide_struct Try.underlying66 hv
  rw [Try.cellsCurved] at hsz
  obtain ⟨c0, c1, rfl⟩ := array2 hsz
  obtain ⟨fuel, hf⟩ := h
  obtain ⟨y0, y1, k, _, _, h0, h1⟩ := trod_struct2 Try.underlying66 hf
  simp only [Value.cells, Try.cellsTable, Try.cellsNums] at h0 h1
  obtain ⟨x0, k0, _, _, i0⟩ := trod_struct1 Try.underlying43 h0
  simp only [Try.cellsPts] at i0
  obtain ⟨A, n, c, ps, e, g1, g2, g3⟩ := open_pts (v := c0) (by simpa using i0)
  obtain ⟨A', n', c', zs, e', g4, g5, g6, g7⟩ := open_nums (v := c1) (by simpa using h1)
  subst e e'
  exact ⟨A, A', n, n', c, c', ps, zs, rfl, g1, g4, g2, g5, g3, g6, g7⟩

set_option maxRecDepth 100000 in
theorem fixNarrows_lifted (os : Os) (started : os.Started) (H : Type) (enc : TypeId × Value → H) :
    ReturnsInHanded {} Try.checked os 11 .any (Rows.fixNarrowsSpec.pre6 enc Try.prog Try.f11 Rows.fixNarrowsRow.domain false) (Rows.fixNarrowsSpec.post enc Try.prog Try.f11 false true false false) := by
  refine returnsInHanded_of_change (C := Try.checked) own started (by kernel_rfl) Try.func11
    (ChangeSpec.witness6 (enc := enc) (C := Try.checked) false ⟨#[], #[.agg #[.slice none 0 0, .slice none 0 0], .slice none 0 0, .agg #[.int .i64 0, .int .i64 0]], []⟩ 8 (by kernel_rfl) (by kernel_rfl) (by kernel_rfl) (by kernel_rfl)) ?_
  intro W base args ds gs before hval0 hW hcnd _
  have hval : ∀ (j : Nat) t v, Try.f11.params[j]? = some t → args[j]? = some v → Value.okWide Try.prog W .any base t v := hval0
  have hW' := hW
  obtain ⟨p, q, hA0, hV, rfl, hfz, hnd⟩ := hW
  have hA : DataW.TrodAll enc Try.prog W 0 (fun _ => true) true Try.f11.params.toList args.toList ds p := hA0
  rw [Try.params11] at hA hval
  obtain ⟨v0, v1, v2, d0, d1, d2, p0, p1, p2, hargs, rfl, rfl, h0, h1, h2⟩ := trodAll_three hA
  obtain rfl : args = #[v0, v1, v2] := by cases args; simp_all
  obtain ⟨rfl, rfl⟩ := trodVars_none hV
  obtain ⟨A, A', n, n', c, c', ps, cs, rfl, hn, hn', hm, hm', hp, _, hq⟩ := open_curved (hval 0 66 v0 rfl rfl) h0
  obtain ⟨A2, n2, c2, cs2, rfl, hn2, hm2, _, hq2⟩ : ∃ (A : Option Addr) (n c : Nat) (cs : List Int), v1 = .slice A n c ∧ n = cs.length ∧ n ≤ maxLen ∧ (∀ z ∈ cs, I64 z) ∧ IntsP W A cs := by
    obtain ⟨a0, l0, k0, rfl⟩ := okWide_slice Try.underlying44 (hval 1 44 v1 rfl rfl)
    obtain ⟨fuel, hf⟩ := h1
    exact open_nums hf
  obtain ⟨x, y, rfl, _, _⟩ := open_two_ints (hval 2 45 v2 rfl rfl) h2
  refine (fixNarrows_walk A A' A2 n n' c c' n2 c2 ps cs cs2 x y W hn hn' hm hm' hp hq hn2 hm2 hq2).mono fun e W' ⟨he, hb⟩ => ?_
  subst he
  exact ⟨_, rfl, law_post rfl rfl (by intro t ht; rw [Try.params11] at ht
                                      have : t = 66 ∨ t = 44 ∨ t = 45 := by simpa using ht
                                      rcases this with rfl | rfl | rfl <;> exact ⟨by kernel_rfl, of_decide_eq_true (by kernel_rfl)⟩) hW' rfl rfl rfl hb⟩

theorem fixNarrows_holds : Rows.FixNarrowsSaid :=
  OpenClaim.holds_of_wide 11 Try.f11 rfl rfl rfl rfl rfl rfl rfl ⟨rfl, rfl, rfl, rfl, rfl⟩ rfl rfl rfl rfl rfl (by kernel_rfl) Try.func11 (by kernel_rfl)
    (of_decide_eq_true (by kernel_rfl)) (by unfold Func.isWrapper; rw [if_neg (of_decide_eq_false (by kernel_rfl))]; exact ⟨rfl, rfl⟩)
    (fun os started H enc _ => fixNarrows_lifted os started H enc)
end Go.Proofs.Ythhcejcpopgkiaa
