/- FixTables: whatever table, numbers and places come in, the law returns true and leaves its arguments as they were. No conditions. -/
import Derived.Test.YthhcejcpopgkiaaU1
import Derived.Test.YthhcejcpopgkiaaP2
import Derived.Deep.Slices
set_option linter.unusedVariables false
set_option linter.unusedSimpArgs false
set_option linter.constructorNameAsVariable false
namespace Go.Proofs.Ythhcejcpopgkiaa
open Go.ChangeShapes Go.WideShapes Go.ChangeAt Go.RowKit Go.Joins Go.Deep

set_option maxRecDepth 100000 in
theorem fixTables_lifted (os : Os) (started : os.Started) (H : Type) (enc : TypeId × Value → H) :
    ReturnsInHanded {} Try.checked os 5 .any (Rows.fixTablesSpec.pre6 enc Try.prog Try.f5 Rows.fixTablesRow.domain false) (Rows.fixTablesSpec.post enc Try.prog Try.f5 false true false false) := by
  refine returnsInHanded_of_change (C := Try.checked) own started (by kernel_rfl) Try.func5
    (ChangeSpec.witness6 (enc := enc) (C := Try.checked) false ⟨#[], #[.agg #[.slice none 0 0], .slice none 0 0, .agg #[.int .i64 0, .int .i64 0]], []⟩ 8 (by kernel_rfl) (by kernel_rfl) (by kernel_rfl) (by kernel_rfl)) ?_
  intro W base args ds gs before hval0 hW hcnd _
  have hval : ∀ (j : Nat) t v, Try.f5.params[j]? = some t → args[j]? = some v → Value.okWide Try.prog W .any base t v := hval0
  have hW' := hW
  obtain ⟨p, q, hA0, hV, rfl, hfz, hnd⟩ := hW
  have hA : DataW.TrodAll enc Try.prog W 0 (fun _ => true) true Try.f5.params.toList args.toList ds p := hA0
  rw [Try.params5] at hA hval
  obtain ⟨v0, v1, v2, d0, d1, d2, p0, p1, p2, hargs, rfl, rfl, h0, h1, h2⟩ := trodAll_three hA
  obtain rfl : args = #[v0, v1, v2] := by cases args; simp_all
  obtain ⟨rfl, rfl⟩ := trodVars_none hV
  obtain ⟨A, n, c, ps, rfl, hn, hm, hp⟩ := open_table (hval 0 43 v0 rfl rfl) h0
  obtain ⟨A', n', c', cs, rfl, hn', hm', _, hq⟩ : ∃ (A : Option Addr) (n c : Nat) (cs : List Int), v1 = .slice A n c ∧ n = cs.length ∧ n ≤ maxLen ∧ (∀ z ∈ cs, I64 z) ∧ IntsP W A cs := by
    obtain ⟨a0, l0, k0, rfl⟩ := okWide_slice Try.underlying44 (hval 1 44 v1 rfl rfl)
    obtain ⟨fuel, hf⟩ := h1
    exact open_nums hf
  obtain ⟨x, y, rfl, _, _⟩ := open_two_ints (hval 2 45 v2 rfl rfl) h2
  refine (fixTables_walk A A' n n' c c' ps cs x y W hn hn' hm hm' hp hq).mono fun e W' ⟨he, hb⟩ => ?_
  subst he
  exact ⟨_, rfl, law_post rfl rfl (by intro t ht; rw [Try.params5] at ht
                                      have : t = 43 ∨ t = 44 ∨ t = 45 := by simpa using ht
                                      rcases this with rfl | rfl | rfl <;> exact ⟨by kernel_rfl, of_decide_eq_true (by kernel_rfl)⟩) hW' rfl rfl rfl hb⟩

theorem fixTables_holds : Rows.FixTablesSaid :=
  OpenClaim.holds_of_wide 5 Try.f5 rfl rfl rfl rfl rfl rfl rfl ⟨rfl, rfl, rfl, rfl, rfl⟩ rfl rfl rfl rfl rfl (by kernel_rfl) Try.func5 (by kernel_rfl)
    (of_decide_eq_true (by kernel_rfl)) (by unfold Func.isWrapper; rw [if_neg (of_decide_eq_false (by kernel_rfl))]; exact ⟨rfl, rfl⟩)
    (fun os started H enc _ => fixTables_lifted os started H enc)
end Go.Proofs.Ythhcejcpopgkiaa
