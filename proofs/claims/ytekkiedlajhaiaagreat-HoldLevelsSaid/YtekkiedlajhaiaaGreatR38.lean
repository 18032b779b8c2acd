/- HoldLevels: whatever numbers come in, the law returns true and leaves its arguments as they were. No conditions. -/
import Derived.SizedLaws
import Derived.Test.YtekkiedlajhaiaaGreatR00
import Derived.Test.YtekkiedlajhaiaaGreatR07
import Derived.Test.YtekkiedlajhaiaaGreatR30
import Derived.Test.YtekkiedlajhaiaaGreatR37
set_option linter.unusedVariables false
set_option linter.unusedSimpArgs false
set_option linter.constructorNameAsVariable false
namespace Go.Proofs.YtekkiedlajhaiaaGreat

section
open Go.ChangeShapes Go.WideShapes Go.ChangeAt Go.RowKit Go.Joins Go.Deep

theorem Tryz.cellsNums : Tryz.prog.cellsOf 39 = 1 := by kernel_rfl
theorem Tryz.bytesInt : Tryz.prog.bytesOf 3 = 8 := by kernel_rfl
theorem Tryz.cellsRaw : Tryz.prog.cellsOf 41 = 4 := by kernel_rfl
theorem Tryz.cellsTruth : Tryz.prog.cellsOf 45 = 5 := by kernel_rfl
theorem Tryz.cellsFive : Tryz.prog.cellsOf 42 = 5 := by kernel_rfl
theorem Tryz.cellsThreeLists : Tryz.prog.cellsOf 43 = 3 := by kernel_rfl
def Light {H : Type} (t : TypeId) (d : DataW H) : Prop := ∀ n ∈ d.weights Tryz.prog t, n ≤ reachBytes
theorem weights_all {H : Type} {P : Program} {e : TypeId} : ∀ {l : List (DataW H)} {d : DataW H}, d ∈ l → ∀ n ∈ d.weights P e, n ∈ DataW.weightsAll P e l
  | x :: l, d, h, n, hn => by
    simp only [DataW.weightsAll, List.mem_append]
    rcases List.mem_cons.1 h with rfl | h
    · exact .inl hn
    · exact .inr (weights_all h n hn)
theorem light_part {H : Type} {t : TypeId} {fs : Array Field} {parts : List (DataW H)} (hu : Tryz.prog.underlying t = some (.struct fs)) (h : Light t (.agg parts)) {j : Nat} {f : Field} {d : DataW H} (hf : fs[j]? = some f) (hd : parts[j]? = some d) : Light f.type d := fun n hn => by
  refine h n ?_
  simp only [DataW.weights, hu]
  exact DataW.weights_mem_each (j := j) (by simp [hf]) hd n hn
theorem light_elem {H : Type} {t e : TypeId} {k : Nat} {parts : List (DataW H)} (hu : Tryz.prog.underlying t = some (.array k e)) (h : Light t (.agg parts)) {d : DataW H} (hd : d ∈ parts) : Light e d := fun n hn => by
  refine h n ?_
  simp only [DataW.weights, hu]
  exact weights_all hd n hn
set_option maxRecDepth 100000 in
theorem open_int1Y {H : Type} {enc : TypeId × Value → H} {W : World} {fuel : Nat} {c0 : Value} {x : DataW H × List MemPlace} (h : DataW.trod enc Tryz.prog W 0 (fun _ => true) true fuel 3 [c0] = some x) : ∃ a : Int, c0 = .int .i64 a := by
  obtain ⟨p0, e0, _, _⟩ := DataW.trod_int Tryz.underlying3 h
  simp at e0
  exact ⟨p0, e0⟩
set_option maxRecDepth 100000 in
theorem open_numsW {H : Type} {enc : TypeId × Value → H} {W : World} {fuel : Nat} {v : Value} {x : DataW H × List MemPlace} (h : DataW.trod enc Tryz.prog W 0 (fun _ => true) true fuel 39 [v] = some x) (hw : Light 39 x.1) :
    ∃ (A : Option Addr) (n c : Nat) (cs : List Int), v = .slice A n c ∧ n = cs.length ∧ n ≤ 4611686018427387904 ∧ IntsP W A cs := by
  have hlen : ∀ (k : IntKind) (l : List Int), (lits (H := H) k l).length = l.length := fun k l => by simp [lits]
  rcases open_ints Tryz.underlying39 Tryz.underlying3 Tryz.cellsInt h with ⟨e, _⟩ | ⟨a, len, cap, zs, e, _, hl, hm, hz, hx, hi, _⟩
  · injection e with e _
    exact ⟨none, 0, 0, [], e, rfl, by omega, .inl rfl⟩
  · injection e with e _
    have hzc : zs.length = cap := by simpa using hz
    have hb : zs.length ≤ 4611686018427387904 := by
      have q := hw ((lits (H := H) .i64 (zs.take len)).length * 8 + (lits (H := H) .i64 (zs.drop len)).length * 8) (by
        rw [hx]
        simp only [DataW.weights, Tryz.underlying39, Tryz.bytesInt]
        rw [← Nat.add_mul]
        exact List.mem_cons_self)
      rw [hlen, hlen, List.length_take, List.length_drop] at q
      unfold reachBytes at q
      omega
    refine ⟨some a, len, cap, zs.take len, e, by rw [List.length_take]; omega, by omega, ?_⟩
    rcases Nat.lt_or_ge 0 len with c | c
    · have q0 := hi 0 (by omega)
      obtain ⟨ea, la⟩ := spot_none q0
      obtain ⟨b, o, s⟩ := a
      simp [Addr.add] at ea la
      subst ea
      refine .inr ⟨b, o, rfl, la, fun k x hx => ?_⟩
      have hk : k < len := by
        have := (List.getElem?_eq_some_iff.1 hx).1
        rw [List.length_take] at this; omega
      rw [List.getElem?_take_of_lt hk] at hx
      have := hi k (by omega)
      rw [List.getD_eq_getElem?_getD, hx] at this
      rw [addr_add] at this; exact this
    · exact .inl (List.eq_nil_of_length_eq_zero (by rw [List.length_take]; omega))
set_option maxRecDepth 100000 in
set_option maxHeartbeats 2000000 in
theorem open_raw {H : Type} {enc : TypeId × Value → H} {W : World} {base : Nat} {v : Value} {d : DataW H} {pl : List MemPlace} (hv : Value.okWide Tryz.prog W .any base 41 v) (h : DataW.Trod enc Tryz.prog W 0 (fun _ => true) true 41 v d pl) (hw : Light 41 d) :
    ∃ (r : RawD) (m : RawM), v = rawV r m ∧ RawIn W r m := by
  obtain ⟨cs, rfl, hsz⟩ := okWide_struct Tryz.underlying41 hv
  rw [Tryz.cellsRaw] at hsz
  obtain ⟨l⟩ := cs
  match l, hsz with
  | [c0, c1, c2, c3], _ =>
    obtain ⟨fuel, hf⟩ := h
    obtain ⟨xs, n, _, hx, _, hlen, hg⟩ := DataW.trod_struct Tryz.underlying41 hf
    injection hx with hd _
    subst hd
    obtain ⟨y0, hy0⟩ : ∃ y, xs[0]? = some y := ⟨_, List.getElem?_eq_getElem (by rw [hlen]; decide)⟩
    have g0 := hg 0 _ rfl
    rw [hy0] at g0
    have k0 : DataW.trod enc Tryz.prog W 0 (fun _ => true) true n 3 [c0] = some y0 := by simpa [Value.cells, Tryz.cellsInt, Tryz.cellsNums, Tryz.cellsThreeLists] using g0
    clear g0
    obtain ⟨y1, hy1⟩ : ∃ y, xs[1]? = some y := ⟨_, List.getElem?_eq_getElem (by rw [hlen]; decide)⟩
    have g1 := hg 1 _ rfl
    rw [hy1] at g1
    have k1 : DataW.trod enc Tryz.prog W 0 (fun _ => true) true n 3 [c1] = some y1 := by simpa [Value.cells, Tryz.cellsInt, Tryz.cellsNums, Tryz.cellsThreeLists] using g1
    clear g1
    obtain ⟨y2, hy2⟩ : ∃ y, xs[2]? = some y := ⟨_, List.getElem?_eq_getElem (by rw [hlen]; decide)⟩
    have g2 := hg 2 _ rfl
    rw [hy2] at g2
    have k2 : DataW.trod enc Tryz.prog W 0 (fun _ => true) true n 39 [c2] = some y2 := by simpa [Value.cells, Tryz.cellsInt, Tryz.cellsNums, Tryz.cellsThreeLists] using g2
    clear g2
    obtain ⟨y3, hy3⟩ : ∃ y, xs[3]? = some y := ⟨_, List.getElem?_eq_getElem (by rw [hlen]; decide)⟩
    have g3 := hg 3 _ rfl
    rw [hy3] at g3
    have k3 : DataW.trod enc Tryz.prog W 0 (fun _ => true) true n 39 [c3] = some y3 := by simpa [Value.cells, Tryz.cellsInt, Tryz.cellsNums, Tryz.cellsThreeLists] using g3
    clear g3
    obtain ⟨n0, e0⟩ := open_int1Y k0
    obtain ⟨n1, e1⟩ := open_int1Y k1
    obtain ⟨A, a1, a2, st, e2, a4, a5, a6⟩ := open_numsW k2 (light_part Tryz.underlying41 hw (j := 2) rfl (by simp [hy2]))
    obtain ⟨B, b1, b2, vs, e3, b4, b5, b6⟩ := open_numsW k3 (light_part Tryz.underlying41 hw (j := 3) rfl (by simp [hy3]))
    subst e0 e1 e2 e3
    exact ⟨⟨n0, n1, st, vs⟩, ⟨A, a1, a2, B, b1, b2⟩, rfl, a4, a5, a6, b4, b5, b6⟩
set_option maxRecDepth 100000 in
theorem open_five {H : Type} {enc : TypeId × Value → H} {W : World} {base : Nat} {v : Value} {d : DataW H} {ps : List MemPlace} (hv : Value.okWide Tryz.prog W .any base 42 v) (h : DataW.Trod enc Tryz.prog W 0 (fun _ => true) true 42 v d ps) :
    ∃ x0 x1 x2 x3 x4 : Int, v = .agg #[.int .i64 x0, .int .i64 x1, .int .i64 x2, .int .i64 x3, .int .i64 x4] := by
  obtain ⟨cs, rfl, hsz⟩ := okWide_arr Tryz.underlying42 hv
  rw [Tryz.cellsFive] at hsz
  obtain ⟨l⟩ := cs
  match l, hsz with
  | [c0, c1, c2, c3, c4], _ =>
    obtain ⟨fuel, hf⟩ := h
    obtain ⟨xs, m, _, _, _, hl, hi⟩ := DataW.trod_array Tryz.underlying42 hf
    have one : ∀ (i : Nat) (c : Value), i < 5 → ((#[c0, c1, c2, c3, c4] : Array Value).toList.drop (i * 1)).take 1 = [c] → ∃ n : Int, c = .int .i64 n := by
      intro i c hi6 hc
      have h1 := hi i hi6
      simp only [Value.cells, Tryz.cellsInt] at h1
      rw [hc] at h1
      obtain ⟨y, hy⟩ : ∃ y, xs[i]? = some y := ⟨_, List.getElem?_eq_getElem (by omega)⟩
      rw [hy] at h1
      obtain ⟨n, e, _, _⟩ := DataW.trod_int Tryz.underlying3 h1
      simp at e
      exact ⟨n, e⟩
    obtain ⟨x0, rfl⟩ := one 0 c0 (by omega) rfl
    obtain ⟨x1, rfl⟩ := one 1 c1 (by omega) rfl
    obtain ⟨x2, rfl⟩ := one 2 c2 (by omega) rfl
    obtain ⟨x3, rfl⟩ := one 3 c3 (by omega) rfl
    obtain ⟨x4, rfl⟩ := one 4 c4 (by omega) rfl
    exact ⟨x0, x1, x2, x3, x4, rfl⟩
set_option maxRecDepth 100000 in
set_option maxHeartbeats 2000000 in
theorem open_truth {H : Type} {enc : TypeId × Value → H} {W : World} {base : Nat} {v : Value} {d : DataW H} {pl : List MemPlace} (hv : Value.okWide Tryz.prog W .any base 45 v) (h : DataW.Trod enc Tryz.prog W 0 (fun _ => true) true 45 v d pl) (hw : Light 45 d) :
    ∃ (Ca Cb Cc : Option Addr) (na ca nb cb nc cc : Nat) (k0 k1 k2 : List Int) (p q : Int), v = .agg #[.slice Ca na ca, .slice Cb nb cb, .slice Cc nc cc, .int .i64 p, .int .i64 q] ∧ (na = k0.length ∧ na ≤ 4611686018427387904 ∧ IntsP W Ca k0) ∧ (nb = k1.length ∧ nb ≤ 4611686018427387904 ∧ IntsP W Cb k1) ∧ (nc = k2.length ∧ nc ≤ 4611686018427387904 ∧ IntsP W Cc k2) := by
  obtain ⟨cs, rfl, hsz⟩ := okWide_struct Tryz.underlying45 hv
  rw [Tryz.cellsTruth] at hsz
  obtain ⟨l⟩ := cs
  match l, hsz with
  | [c0, c1, c2, c3, c4], _ =>
    obtain ⟨fuel, hf⟩ := h
    obtain ⟨xs, n, _, hx, _, hlen, hg⟩ := DataW.trod_struct Tryz.underlying45 hf
    injection hx with hd _
    subst hd
    obtain ⟨y0, hy0⟩ : ∃ y, xs[0]? = some y := ⟨_, List.getElem?_eq_getElem (by rw [hlen]; decide)⟩
    have g0 := hg 0 _ rfl
    rw [hy0] at g0
    have k0 : DataW.trod enc Tryz.prog W 0 (fun _ => true) true n 43 [c0, c1, c2] = some y0 := by simpa [Value.cells, Tryz.cellsInt, Tryz.cellsNums, Tryz.cellsThreeLists] using g0
    clear g0
    obtain ⟨y1, hy1⟩ : ∃ y, xs[1]? = some y := ⟨_, List.getElem?_eq_getElem (by rw [hlen]; decide)⟩
    have g1 := hg 1 _ rfl
    rw [hy1] at g1
    have k1 : DataW.trod enc Tryz.prog W 0 (fun _ => true) true n 3 [c3] = some y1 := by simpa [Value.cells, Tryz.cellsInt, Tryz.cellsNums, Tryz.cellsThreeLists] using g1
    clear g1
    obtain ⟨y2, hy2⟩ : ∃ y, xs[2]? = some y := ⟨_, List.getElem?_eq_getElem (by rw [hlen]; decide)⟩
    have g2 := hg 2 _ rfl
    rw [hy2] at g2
    have k2 : DataW.trod enc Tryz.prog W 0 (fun _ => true) true n 3 [c4] = some y2 := by simpa [Value.cells, Tryz.cellsInt, Tryz.cellsNums, Tryz.cellsThreeLists] using g2
    clear g2
    obtain ⟨n3, e3⟩ := open_int1Y k1
    obtain ⟨n4, e4⟩ := open_int1Y k2
    have hl0 := light_part Tryz.underlying45 hw (j := 0) (d := y0.1) rfl (by simp [hy0])
    obtain ⟨zs, m, _, hz, _, hl, hi⟩ := DataW.trod_array Tryz.underlying43 k0
    rw [hz] at hl0
    have one : ∀ (i : Nat) (c : Value), i < 3 → ([c0, c1, c2].drop (i * 1)).take 1 = [c] → ∃ (A : Option Addr) (n c' : Nat) (cs : List Int), c = .slice A n c' ∧ n = cs.length ∧ n ≤ 4611686018427387904 ∧ IntsP W A cs := by
      intro i c hi3 hc
      have h1 := hi i hi3
      simp only [Tryz.cellsNums] at h1
      rw [hc] at h1
      obtain ⟨y, hy⟩ : ∃ y, zs[i]? = some y := ⟨_, List.getElem?_eq_getElem (by omega)⟩
      rw [hy] at h1
      exact open_numsW h1 (light_elem Tryz.underlying43 hl0 (by
        simp only [List.mem_map]
        exact ⟨y, List.mem_of_getElem? hy, rfl⟩))
    obtain ⟨A, a1, a2, u0, e0, a4⟩ := one 0 c0 (by omega) rfl
    obtain ⟨B, b1, b2, u1, e1, b4⟩ := one 1 c1 (by omega) rfl
    obtain ⟨C, d1, d2, u2, e2, d4⟩ := one 2 c2 (by omega) rfl
    subst e0 e1 e2 e3 e4
    exact ⟨A, B, C, a1, a2, b1, b2, d1, d2, u0, u1, u2, n3, n4, rfl, a4, b4, d4⟩
end

section
open Go.ChangeShapes Go.WideShapes Go.ChangeAt Go.RowKit Go.Joins

set_option maxRecDepth 100000 in
theorem holdLevels_lifted (os : Os) (started : os.Started) (H : Type) (enc : TypeId × Value → H) :
    ReturnsInHanded {} Tryz.checked os 5 .any (Rows.holdLevelsSpec.pre6 enc Tryz.prog Tryz.f5 Rows.holdLevelsRow.domain false) (Rows.holdLevelsSpec.post enc Tryz.prog Tryz.f5 false true false false) := by
  refine returnsInHanded_of_change_sized (C := Tryz.checked) own started (by kernel_rfl) Tryz.func5
    (ChangeSpec.witness6 (enc := enc) (C := Tryz.checked) false ⟨#[], #[.agg #[.int .i64 0, .int .i64 0, .slice none 0 0, .slice none 0 0], .agg #[.int .i64 0, .int .i64 0, .int .i64 0, .int .i64 0, .int .i64 0], .agg #[.slice none 0 0, .slice none 0 0, .slice none 0 0, .int .i64 0, .int .i64 0]], []⟩ 8 (by kernel_rfl) (by kernel_rfl) (by kernel_rfl) (by kernel_rfl)) ?_
  intro W base args ds gs before hval0 hW hcnd hsz _
  have hval : ∀ (j : Nat) t v, Tryz.f5.params[j]? = some t → args[j]? = some v → Value.okWide Tryz.prog W .any base t v := hval0
  have hW' := hW
  obtain ⟨p, q, hA0, hV, rfl, hfz, hnd⟩ := hW
  have hA : DataW.TrodAll enc Tryz.prog W 0 (fun _ => true) true Tryz.f5.params.toList args.toList ds p := hA0
  rw [Tryz.params5] at hA hval
  have hsz2 : (DataW.weightsEach Tryz.prog (Tryz.f5.params.toList ++ Rows.holdLevelsSpec.plain.varTypes Tryz.prog) (ds ++ gs)).all (· ≤ reachBytes) = true := hsz
  rw [Tryz.params5] at hsz2
  obtain ⟨v0, v1, v2, d0, d1, d2, p0, p1, p2, hargs, rfl, rfl, h0, h1, h2⟩ := trodAll_three hA
  obtain rfl : args = #[v0, v1, v2] := by cases args; simp_all
  obtain ⟨rfl, rfl⟩ := trodVars_none hV
  have light : ∀ (j : Nat) (t : TypeId) (d : DataW H), ([41, 42, 45] : List TypeId)[j]? = some t → ([d0, d1, d2] : List (DataW H))[j]? = some d → Light t d := fun j t d ht hd n hn => by
    have q := List.all_eq_true.1 hsz2 n (DataW.weights_mem_each (j := j) (t := t) (d := d) (by
      have := List.getElem?_eq_some_iff.1 ht
      obtain ⟨hl, _⟩ := this
      rw [List.getElem?_append_left (by simpa using hl)]
      simpa using ht) (by
      have := List.getElem?_eq_some_iff.1 hd
      obtain ⟨hl, _⟩ := this
      rw [List.getElem?_append_left (by simpa using hl)]
      simpa using hd) n hn)
    simpa using q
  obtain ⟨r, m, rfl, hi⟩ := open_raw (hval 0 41 v0 rfl rfl) h0 (light 0 _ d0 rfl rfl)
  obtain ⟨x0, x1, x2, x3, x4, rfl⟩ := open_five (hval 1 42 v1 rfl rfl) h1
  obtain ⟨Ca, Cb, Cc, na, ca, nb, cb, nc, cc, k0, k1, k2, pl, de, rfl, g0, g1, g2⟩ := open_truth (hval 2 45 v2 rfl rfl) h2 (light 2 _ d2 rfl rfl)
  refine (holdLevels_walk r m x0 x1 x2 x3 x4 Ca Cb Cc na ca nb cb nc cc k0 k1 k2 pl de W hi g0 g1 g2).mono fun e W' ⟨he, hb⟩ => ?_
  subst he
  exact ⟨_, rfl, law_post rfl rfl (by intro t ht; rw [Tryz.params5] at ht
                                      have : t = 41 ∨ t = 42 ∨ t = 45 := by simpa using ht
                                      rcases this with rfl | rfl | rfl <;> exact ⟨by kernel_rfl, of_decide_eq_true (by kernel_rfl)⟩) hW' rfl rfl rfl hb⟩

theorem holdLevels_holds : Rows.HoldLevelsSaid :=
  OpenClaim.holds_of_wide 5 Tryz.f5 rfl rfl rfl rfl rfl rfl rfl ⟨rfl, rfl, rfl, rfl, rfl⟩ rfl rfl rfl rfl rfl (by kernel_rfl) Tryz.func5 (by kernel_rfl)
    (of_decide_eq_true (by kernel_rfl)) (by unfold Func.isWrapper; rw [if_neg (of_decide_eq_false (by kernel_rfl))]; exact ⟨rfl, rfl⟩)
    (fun os started H enc _ => holdLevels_lifted os started H enc)
end

end Go.Proofs.YtekkiedlajhaiaaGreat
