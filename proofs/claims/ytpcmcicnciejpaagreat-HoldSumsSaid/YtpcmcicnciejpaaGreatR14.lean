/- A pseudo-root: names what HoldSums takes of the base. -/
import Derived.Test.YtpcmcicnciejpaaGreatR13
set_option linter.unusedVariables false
set_option linter.unusedSimpArgs false
set_option linter.constructorNameAsVariable false
set_option maxRecDepth 100000
namespace Go.Proofs.YtpcmcicnciejpaaGreat

section
open Go.ChangeShapes Go.WideShapes Go.ChangeAt Go.RowKit Go.Joins Go.Deep

theorem Tryz.bytesInt : Tryz.prog.bytesOf 3 = 8 := by kernel_rfl
def Light {H : Type} (t : TypeId) (d : DataW H) : Prop := ∀ n ∈ d.weights Tryz.prog t, n ≤ reachBytes
theorem weights_all {H : Type} {P : Program} {e : TypeId} : ∀ {l : List (DataW H)} {d : DataW H}, d ∈ l → ∀ n ∈ d.weights P e, n ∈ DataW.weightsAll P e l
  | x :: l, d, h, n, hn => by
    simp only [DataW.weightsAll, List.mem_append]
    rcases List.mem_cons.1 h with rfl | h
    · exact .inl hn
    · exact .inr (weights_all h n hn)
theorem light_part {H : Type} {t : TypeId} {fs : Array Field} {parts : List (DataW H)} (hu : Tryz.prog.underlying t = some (.struct fs)) (h : Light t (.agg parts)) {j : Nat} {f : Field} {d : DataW H} (hf : fs[j]? = some f) (hd : parts[j]? = some d) : Light f.type d := fun n hn => by
  refine h n ?_
  simp only [DataW.weights, hu]
  exact DataW.weights_mem_each (j := j) (by simp [hf]) hd n hn
theorem open_numsW {H : Type} {enc : TypeId × Value → H} {W : World} {fuel : Nat} {v : Value} {x : DataW H × List MemPlace} (h : DataW.trod enc Tryz.prog W 0 (fun _ => true) true fuel 30 [v] = some x) (hw : Light 30 x.1) :
    ∃ (A : Option Addr) (n c : Nat) (cs : List Int), v = .slice A n c ∧ n = cs.length ∧ n ≤ 4611686018427387904 ∧ IntsP W A cs := by
  have hlen : ∀ (k : IntKind) (l : List Int), (lits (H := H) k l).length = l.length := fun k l => by simp [lits]
  rcases open_ints Tryz.underlying30 Tryz.underlying3 Tryz.cellsInt h with ⟨e, _⟩ | ⟨a, len, cap, zs, e, _, hl, hm, hz, hx, hi, _⟩
  · injection e with e _
    exact ⟨none, 0, 0, [], e, rfl, by omega, .inl rfl⟩
  · injection e with e _
    have hzc : zs.length = cap := by simpa using hz
    have hb : zs.length ≤ 4611686018427387904 := by
      have q := hw ((lits (H := H) .i64 (zs.take len)).length * 8 + (lits (H := H) .i64 (zs.drop len)).length * 8) (by
        rw [hx]
        simp only [DataW.weights, Tryz.underlying30, Tryz.bytesInt]
        rw [← Nat.add_mul]
        exact List.mem_cons_self)
      rw [hlen, hlen, List.length_take, List.length_drop] at q
      unfold reachBytes at q
      omega
    refine ⟨some a, len, cap, zs.take len, e, by rw [List.length_take]; omega, by omega, ?_⟩
    rcases Nat.lt_or_ge 0 len with c | c
    · have q0 := hi 0 (by omega)
      obtain ⟨ea, la⟩ := spot_none q0
      obtain ⟨b, o, s⟩ := a
      simp [Addr.add] at ea la
      subst ea
      refine .inr ⟨b, o, rfl, la, fun k x hx => ?_⟩
      have hk : k < len := by
        have := (List.getElem?_eq_some_iff.1 hx).1
        rw [List.length_take] at this; omega
      rw [List.getElem?_take_of_lt hk] at hx
      have := hi k (by omega)
      rw [List.getD_eq_getElem?_getD, hx] at this
      rw [addr_add] at this; exact this
    · exact .inl (List.eq_nil_of_length_eq_zero (by rw [List.length_take]; omega))
end

section
end

end Go.Proofs.YtpcmcicnciejpaaGreat
