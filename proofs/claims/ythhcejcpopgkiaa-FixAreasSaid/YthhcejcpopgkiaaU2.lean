/- Arguments opened: a table with numbers, arrays of three. No conditions. -/
import Derived.Test.YthhcejcpopgkiaaU1
set_option linter.unusedVariables false
set_option linter.unusedSimpArgs false
set_option linter.constructorNameAsVariable false
namespace Go.Proofs.Ythhcejcpopgkiaa
open Go.ChangeShapes Go.WideShapes Go.ChangeAt Go.RowKit Go.Joins Go.Deep

theorem Try.cellsCurved : Try.prog.cellsOf 66 = 2 := by kernel_rfl
theorem Try.cellsNums : Try.prog.cellsOf 44 = 1 := by kernel_rfl
theorem Try.cellsThreeInts : Try.prog.cellsOf 67 = 3 := by kernel_rfl
set_option maxRecDepth 100000 in
theorem open_curved {H : Type} {enc : TypeId × Value → H} {W : World} {base : Nat} {v : Value} {d : DataW H} {pl : List MemPlace} (hv : Value.okWide Try.prog W .any base 66 v) (h : DataW.Trod enc Try.prog W 0 (fun _ => true) true 66 v d pl) :
    ∃ (A A' : Option Addr) (n n' c c' : Nat) (ps : List P3) (cs : List Int), v = .agg #[.slice A n c, .slice A' n' c'] ∧ n = ps.length ∧ n' = cs.length ∧ n ≤ maxLen ∧ n' ≤ maxLen ∧ Pts W A ps ∧ (∀ z ∈ cs, I64 z) ∧ IntsP W A' cs := by
  obtain ⟨cs, rfl, hsz⟩ := okWide_struct Try.underlying66 hv
  rw [Try.cellsCurved] at hsz
  obtain ⟨c0, c1, rfl⟩ := array2 hsz
  obtain ⟨fuel, hf⟩ := h
  obtain ⟨y0, y1, k, _, _, h0, h1⟩ := trod_struct2 Try.underlying66 hf
  simp only [Value.cells, Try.cellsTable, Try.cellsNums] at h0 h1
  obtain ⟨x0, k0, _, _, i0⟩ := trod_struct1 Try.underlying43 h0
  simp only [Try.cellsPts] at i0
  obtain ⟨A, n, c, ps, e, g1, g2, g3⟩ := open_pts (v := c0) (by simpa using i0)
  obtain ⟨A', n', c', zs, e', g4, g5, g6, g7⟩ := open_nums (v := c1) (by simpa using h1)
  subst e e'
  exact ⟨A, A', n, n', c, c', ps, zs, rfl, g1, g4, g2, g5, g3, g6, g7⟩
theorem array3 {α : Type} {cs : Array α} (h : cs.size = 3) : ∃ c0 c1 c2, cs = #[c0, c1, c2] := by
  obtain ⟨l⟩ := cs
  match l, h with
  | [c0, c1, c2], _ => exact ⟨c0, c1, c2, rfl⟩
set_option maxRecDepth 100000 in
theorem open_three_ints {H : Type} {enc : TypeId × Value → H} {W : World} {base : Nat} {v : Value} {d : DataW H} {ps : List MemPlace} (hv : Value.okWide Try.prog W .any base 67 v) (h : DataW.Trod enc Try.prog W 0 (fun _ => true) true 67 v d ps) :
    ∃ x0 x1 x2 : Int, v = .agg #[.int .i64 x0, .int .i64 x1, .int .i64 x2] ∧ I64 x0 ∧ I64 x1 ∧ I64 x2 := by
  obtain ⟨cs, rfl, hsz⟩ := okWide_arr Try.underlying67 hv
  rw [Try.cellsThreeInts] at hsz
  obtain ⟨c0, c1, c2, rfl⟩ := array3 hsz
  obtain ⟨fuel, hf⟩ := h
  obtain ⟨xs, m, _, _, _, hl, hi⟩ := DataW.trod_array Try.underlying67 hf
  have one : ∀ (i : Nat) (c : Value), i < 3 → ((#[c0, c1, c2] : Array Value).toList.drop (i * 1)).take 1 = [c] → ∃ n : Int, c = .int .i64 n ∧ I64 n := by
    intro i c hi6 hc
    have h1 := hi i hi6
    simp only [Value.cells, Try.cellsInt] at h1
    rw [hc] at h1
    obtain ⟨y, hy⟩ : ∃ y, xs[i]? = some y := ⟨_, List.getElem?_eq_getElem (by omega)⟩
    rw [hy] at h1
    obtain ⟨n, e, _, hw⟩ := DataW.trod_int Try.underlying3 h1
    simp at e
    exact ⟨n, e, bounds_i64 hw⟩
  obtain ⟨x0, rfl, b0⟩ := one 0 c0 (by omega) rfl
  obtain ⟨x1, rfl, b1⟩ := one 1 c1 (by omega) rfl
  obtain ⟨x2, rfl, b2⟩ := one 2 c2 (by omega) rfl
  exact ⟨x0, x1, x2, rfl, b0, b1, b2⟩
end Go.Proofs.Ythhcejcpopgkiaa
