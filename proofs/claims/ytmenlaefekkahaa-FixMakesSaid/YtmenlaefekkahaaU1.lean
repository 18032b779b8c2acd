/- Arguments opened: ints, arrays of two, slices of ints, tables. No conditions. -/
import Derived.Test.YtmenlaefekkahaaJ0
import Derived.Test.YtmenlaefekkahaaU0
import Derived.Deep.Slices
import Derived.Deep.Strs
set_option linter.unusedVariables false
set_option linter.unusedSimpArgs false
set_option linter.constructorNameAsVariable false
namespace Go.Proofs.Ytmenlaefekkahaa
open Go.ChangeShapes Go.WideShapes Go.ChangeAt Go.RowKit Go.Joins Go.Deep

theorem Try.cellsRange : Try.prog.cellsOf 23 = 2 := by kernel_rfl
theorem Try.cellsInt : Try.prog.cellsOf 3 = 1 := by kernel_rfl
theorem okWide_arr {P : Program} {w : World} {r : Reach} {base : Nat} {t e : TypeId} {n : Nat} {v : Value} (ht : P.underlying t = some (.array n e)) (h : Value.okWide P w r base t v) : ∃ cs, v = .agg cs ∧ cs.size = P.cellsOf t := by
  simp only [Value.okWide, ht] at h
  obtain ⟨cs, h1, h2, _⟩ := h
  exact ⟨cs, h1, h2⟩
set_option maxRecDepth 100000 in
theorem open_int64 {H : Type} {enc : TypeId × Value → H} {W : World} {base : Nat} {v : Value} {d : DataW H} {ps : List MemPlace} (hv : Value.okWide Try.prog W .any base 3 v) (h : DataW.Trod enc Try.prog W 0 (fun _ => true) true 3 v d ps) : ∃ n : Int, v = .int .i64 n ∧ I64 n := by
  obtain ⟨n, rfl, _, _, hw⟩ := open_int Try.underlying3 hv h
  exact ⟨n, rfl, bounds_i64 hw⟩
theorem pick_list {α : Type} {Q : Nat → α → Prop} : ∀ n : Nat, (∀ i, i < n → ∃ x, Q i x) → ∃ l : List α, l.length = n ∧ ∀ i x, l[i]? = some x → Q i x
  | 0, _ => ⟨[], rfl, fun i x h => by simp at h⟩
  | n + 1, h => by
    obtain ⟨l, hl, hq⟩ := pick_list n fun i hi => h i (by omega)
    obtain ⟨x, hx⟩ := h n (by omega)
    refine ⟨l ++ [x], by simp [hl], fun i y hy => ?_⟩
    rcases Nat.lt_or_ge i n with c | c
    · rw [List.getElem?_append_left (by omega)] at hy
      exact hq i y hy
    · rw [List.getElem?_append_right (by omega), hl] at hy
      have : i = n := by
        rcases Nat.eq_or_lt_of_le c with e | e
        · exact e.symm
        · rw [List.getElem?_eq_none (by simp; omega)] at hy; cases hy
      subst this
      simp at hy
      subst hy
      exact hx
theorem spot_none {w : World} {a : Addr} {v : Value} (h : w.cell? a = some v) : a = ⟨a.block, a.off, none⟩ ∧ a.block < w.heap.size := by
  obtain ⟨b, o, s⟩ := a
  unfold World.cell? at h
  dsimp only at h ⊢
  split at h
  · rename_i c e f hc
    cases s with
    | none => exact ⟨rfl, (Array.getElem?_eq_some_iff.1 hc).1⟩
    | some k => simp at h
  · cases h
theorem addr_add (b o i : Nat) : (⟨b, o, none⟩ : Addr).add i = ⟨b, o + i, none⟩ := by
  by_cases h : i = 0
  · subst h; simp [Addr.add]
  · simp [Addr.add, h]
theorem Try.cellsPoint : Try.prog.cellsOf 87 = 3 := by kernel_rfl
theorem Try.cellsTable : Try.prog.cellsOf 43 = 1 := by kernel_rfl
theorem Try.cellsTwoInts : Try.prog.cellsOf 45 = 2 := by kernel_rfl
theorem Try.cellsPts : Try.prog.cellsOf 41 = 1 := by kernel_rfl

set_option maxRecDepth 100000 in
theorem open_pts {H : Type} {enc : TypeId × Value → H} {W : World} {fuel : Nat} {v : Value} {x : DataW H × List MemPlace} (h : DataW.trod enc Try.prog W 0 (fun _ => true) true fuel 41 [v] = some x) :
    ∃ (A : Option Addr) (n c : Nat) (ps : List P3), v = .slice A n c ∧ n = ps.length ∧ n ≤ maxLen ∧ Pts W A ps := by
  rcases open_slice Try.underlying41 h with ⟨e, _⟩ | ⟨a, len, cap, m, k, D, Pl, e, _, hl, hm, hmm, _, hi⟩
  · injection e with e _
    exact ⟨none, 0, 0, [], e, rfl, by unfold maxLen; omega, .inl rfl⟩
  · injection e with e _
    have hmc : m = cap := by simpa using hmm
    rw [Try.cellsPoint] at hi
    obtain ⟨ps, hps, hq⟩ := pick_list (Q := fun i (p : P3) => W.cell? (a.add (i * 3)) = some (.int .i64 p.1) ∧ W.cell? ((a.add (i * 3)).add 1) = some (.int .i64 p.2.1) ∧ W.cell? ((a.add (i * 3)).add 2) = some (.int .i64 p.2.2)) len (fun i hil => by
      obtain ⟨cs', h1, h2⟩ := hi i (by omega)
      obtain ⟨_, hlen, hat⟩ := World.cells?_some h1
      match cs', hlen with
      | [v0, v1, v2], _ =>
        obtain ⟨y0, y1, y2, k', _, _, i0, i1, i2⟩ := trod_struct3 Try.underlying87 h2
        simp only [Try.cellsInt] at i0 i1 i2
        obtain ⟨p0, e0, _, _⟩ := DataW.trod_int Try.underlying3 i0
        obtain ⟨p1, e1, _, _⟩ := DataW.trod_int Try.underlying3 i1
        obtain ⟨p2, e2, _, _⟩ := DataW.trod_int Try.underlying3 i2
        simp at e0 e1 e2
        subst e0 e1 e2
        exact ⟨(p0, p1, p2), by simpa [Addr.add] using hat 0 (by omega), by simpa using hat 1 (by omega), by simpa using hat 2 (by omega)⟩)
    refine ⟨some a, len, cap, ps, e, hps.symm, by omega, ?_⟩
    rcases Nat.lt_or_ge 0 len with c | c
    · obtain ⟨q0, _, _⟩ := hq 0 _ (List.getElem?_eq_getElem (show 0 < ps.length by omega))
      obtain ⟨ea, la⟩ := spot_none q0
      obtain ⟨b, o, s⟩ := a
      simp [Addr.add] at ea la
      subst ea
      exact .inr ⟨b, o, rfl, la, fun i p hp => by have h := hq i p hp; simp only [addr_add] at h; exact h⟩
    · exact .inl (List.eq_nil_of_length_eq_zero (by omega))
set_option maxRecDepth 100000 in
theorem open_table {H : Type} {enc : TypeId × Value → H} {W : World} {base : Nat} {v : Value} {d : DataW H} {pl : List MemPlace} (hv : Value.okWide Try.prog W .any base 43 v) (h : DataW.Trod enc Try.prog W 0 (fun _ => true) true 43 v d pl) :
    ∃ (A : Option Addr) (n c : Nat) (ps : List P3), v = tv A n c ∧ n = ps.length ∧ n ≤ maxLen ∧ Pts W A ps := by
  obtain ⟨cs, rfl, hsz⟩ := okWide_struct Try.underlying43 hv
  rw [Try.cellsTable] at hsz
  obtain ⟨l⟩ := cs
  match l, hsz with
  | [c0], _ =>
    obtain ⟨fuel, hf⟩ := h
    obtain ⟨y0, k, _, _, i0⟩ := trod_struct1 Try.underlying43 hf
    simp only [Value.cells, Try.cellsPts] at i0
    obtain ⟨A, n, c, ps, e, h1, h2, h3⟩ := open_pts (v := c0) (by simpa using i0)
    subst e
    exact ⟨A, n, c, ps, rfl, h1, h2, h3⟩
set_option maxRecDepth 100000 in
theorem open_nums {H : Type} {enc : TypeId × Value → H} {W : World} {fuel : Nat} {v : Value} {x : DataW H × List MemPlace} (h : DataW.trod enc Try.prog W 0 (fun _ => true) true fuel 44 [v] = some x) :
    ∃ (A : Option Addr) (n c : Nat) (cs : List Int), v = .slice A n c ∧ n = cs.length ∧ n ≤ maxLen ∧ (∀ z ∈ cs, I64 z) ∧ IntsP W A cs := by
  rcases open_ints Try.underlying44 Try.underlying3 Try.cellsInt h with ⟨e, _⟩ | ⟨a, len, cap, zs, e, _, hl, hm, hz, _, hi, hw⟩
  · injection e with e _
    exact ⟨none, 0, 0, [], e, rfl, by unfold maxLen; omega, by simp, .inl rfl⟩
  · injection e with e _
    have hzc : zs.length = cap := by simpa using hz
    refine ⟨some a, len, cap, zs.take len, e, by rw [List.length_take]; omega, by omega, fun z hz => bounds_i64 (hw z (List.mem_of_mem_take hz)), ?_⟩
    rcases Nat.lt_or_ge 0 len with c | c
    · have q0 := hi 0 (by omega)
      obtain ⟨ea, la⟩ := spot_none q0
      obtain ⟨b, o, s⟩ := a
      simp [Addr.add] at ea la
      subst ea
      refine .inr ⟨b, o, rfl, la, fun k x hx => ?_⟩
      have hk : k < len := by
        have := (List.getElem?_eq_some_iff.1 hx).1
        rw [List.length_take] at this; omega
      rw [List.getElem?_take_of_lt hk] at hx
      have := hi k (by omega)
      rw [List.getD_eq_getElem?_getD, hx] at this
      rw [addr_add] at this; exact this
    · exact .inl (List.eq_nil_of_length_eq_zero (by rw [List.length_take]; omega))
theorem array2 {α : Type} {cs : Array α} (h : cs.size = 2) : ∃ c0 c1, cs = #[c0, c1] := by
  obtain ⟨l⟩ := cs
  match l, h with
  | [c0, c1], _ => exact ⟨c0, c1, rfl⟩
set_option maxRecDepth 100000 in
theorem open_two_ints {H : Type} {enc : TypeId × Value → H} {W : World} {base : Nat} {v : Value} {d : DataW H} {ps : List MemPlace} (hv : Value.okWide Try.prog W .any base 45 v) (h : DataW.Trod enc Try.prog W 0 (fun _ => true) true 45 v d ps) :
    ∃ x0 x1 : Int, v = .agg #[.int .i64 x0, .int .i64 x1] ∧ I64 x0 ∧ I64 x1 := by
  obtain ⟨cs, rfl, hsz⟩ := okWide_arr Try.underlying45 hv
  rw [Try.cellsTwoInts] at hsz
  obtain ⟨c0, c1, rfl⟩ := array2 hsz
  obtain ⟨fuel, hf⟩ := h
  obtain ⟨xs, m, _, _, _, hl, hi⟩ := DataW.trod_array Try.underlying45 hf
  have one : ∀ (i : Nat) (c : Value), i < 2 → ((#[c0, c1] : Array Value).toList.drop (i * 1)).take 1 = [c] → ∃ n : Int, c = .int .i64 n ∧ I64 n := by
    intro i c hi6 hc
    have h1 := hi i hi6
    simp only [Value.cells, Try.cellsInt] at h1
    rw [hc] at h1
    obtain ⟨y, hy⟩ : ∃ y, xs[i]? = some y := ⟨_, List.getElem?_eq_getElem (by omega)⟩
    rw [hy] at h1
    obtain ⟨n, e, _, hw⟩ := DataW.trod_int Try.underlying3 h1
    simp at e
    exact ⟨n, e, bounds_i64 hw⟩
  obtain ⟨x0, rfl, b0⟩ := one 0 c0 (by omega) rfl
  obtain ⟨x1, rfl, b1⟩ := one 1 c1 (by omega) rfl
  exact ⟨x0, x1, rfl, b0, b1⟩

end Go.Proofs.Ytmenlaefekkahaa
