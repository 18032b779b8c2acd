/- Arguments opened, with the bytes that their lists have: numbers that describe a compartment, five numbers, numbers that choose curves. No conditions. -/
import Derived.Test.YtemlaaipnhmcoaaGreatRows
import Derived.WalkKit
import Derived.ProofKit
import Derived.OpenShut
import Derived.Lib.SmallJoins
import Derived.Deep.Slices
import Derived.Deep.Strs
import Derived.Test.YtemlaaipnhmcoaaGreatR08
import Derived.SizedLaws
import Derived.Test.YtemlaaipnhmcoaaGreatR16
set_option linter.unusedVariables false
set_option linter.unusedSimpArgs false
set_option linter.constructorNameAsVariable false
namespace Go.Proofs.YtemlaaipnhmcoaaGreat

section
open Go.ChangeShapes Go.WideShapes Go.ChangeAt Go.RowKit Go.Joins

theorem own : ownKnob Tryz.prog.godebug = none := by kernel_rfl
theorem laidOut : laidOutB Tryz.prog = true := by kernel_rfl

theorem trodAll_below {H : Type} {enc : TypeId × Value → H} {W W' : World} (hb : Below W.heap.size W W') :
    ∀ (ts : List TypeId) (vs : List Value) (ds : List (DataW H)) (ps : List MemPlace), (∀ t ∈ ts, Tryz.prog.readableRec t = true ∧ t < Tryz.prog.types.size) →
    DataW.TrodAll enc Tryz.prog W 0 (fun _ => true) true ts vs ds ps → (∀ x ∈ ps, x.block < W.heap.size) → DataW.TrodAll enc Tryz.prog W' 0 (fun b => decide (b < W.heap.size)) true ts vs ds ps
  | [], [], [], ps, _, h, _ => h
  | t :: ts, v :: vs, d :: ds, ps, ht, h, hlt => by
    obtain ⟨p, q, h0, h1, rfl⟩ := h
    exact ⟨p, q, Below.trod laidOut (ht t (by simp)).1 (ht t (by simp)).2 h0 hb (fun x hx => hlt x (by simp [hx])),
      trodAll_below hb ts vs ds q (fun t' h' => ht t' (by simp [h'])) h1 (fun x hx => hlt x (by simp [hx])), rfl⟩
  | [], [], _ :: _, _, _, h, _ => by cases h
  | [], _ :: _, _, _, _, h, _ => by cases h
  | _ :: _, [], _, _, _, h, _ => by cases h
  | _ :: _, _ :: _, [], _, _, h, _ => by cases h

theorem law_post {H : Type} {enc : TypeId × Value → H} {f : Func} {s : ChangeSpec} {W W' : World} {args : Array Value} {ds gs : List (DataW H)} {before : List MemPlace}
    (hv : s.vars = []) (hrt : f.resultTypes = #[4]) (hts : ∀ t ∈ f.params.toList, Tryz.prog.readableRec t = true ∧ t < Tryz.prog.types.size)
    (hW : DataW.Whole enc Tryz.prog f.params.toList s.vars false W args.toList ds gs before)
    (hres : (s.fn H (ds ++ gs)).results = [.lit (.bool true)]) (hargs : (s.fn H (ds ++ gs)).args = ds) (hvars : (s.fn H (ds ++ gs)).vars = []) (hb : Below W.heap.size W W') :
    s.post enc Tryz.prog f false true false false W args (.bool true) W' := by
  have hW' := hW
  obtain ⟨p, q, hA, hV, rfl, hfz, hnd⟩ := hW
  rw [hv] at hV
  obtain ⟨rfl, rfl⟩ := trodVars_none hV
  have hA' := trodAll_below hb _ _ _ _ hts hA (fun x hx => by simpa using hW'.lt x (by simp [hx]))
  refine ⟨_, _, _, [], p, [], hW', ?_, ?_, ?_, hb.frame _, fun h => by cases h⟩
  · rw [hres, hrt]
    exact trodAll_mk1 (shut_bool Tryz.underlying4 true)
  · rw [hargs]
    exact hA'
  · rw [hvars, hv]
    rfl
end

section
open Go.ChangeShapes Go.WideShapes Go.ChangeAt Go.RowKit Go.Joins Go.Deep

theorem Tryz.cellsInt : Tryz.prog.cellsOf 3 = 1 := by kernel_rfl
theorem okWide_arr {P : Program} {w : World} {r : Reach} {base : Nat} {t e : TypeId} {n : Nat} {v : Value} (ht : P.underlying t = some (.array n e)) (h : Value.okWide P w r base t v) : ∃ cs, v = .agg cs ∧ cs.size = P.cellsOf t := by
  simp only [Value.okWide, ht] at h
  obtain ⟨cs, h1, h2, _⟩ := h
  exact ⟨cs, h1, h2⟩
theorem spot_none {w : World} {a : Addr} {v : Value} (h : w.cell? a = some v) : a = ⟨a.block, a.off, none⟩ ∧ a.block < w.heap.size := by
  obtain ⟨b, o, s⟩ := a
  unfold World.cell? at h
  dsimp only at h ⊢
  split at h
  · rename_i c e f hc
    cases s with
    | none => exact ⟨rfl, (Array.getElem?_eq_some_iff.1 hc).1⟩
    | some k => simp at h
  · cases h
theorem addr_add (b o i : Nat) : (⟨b, o, none⟩ : Addr).add i = ⟨b, o + i, none⟩ := by
  by_cases h : i = 0
  · subst h; simp [Addr.add]
  · simp [Addr.add, h]
theorem Tryz.cellsTwoInts : Tryz.prog.cellsOf 28 = 2 := by kernel_rfl
theorem array2 {α : Type} {cs : Array α} (h : cs.size = 2) : ∃ c0 c1, cs = #[c0, c1] := by
  obtain ⟨l⟩ := cs
  match l, h with
  | [c0, c1], _ => exact ⟨c0, c1, rfl⟩
set_option maxRecDepth 100000 in
theorem open_two_ints {H : Type} {enc : TypeId × Value → H} {W : World} {base : Nat} {v : Value} {d : DataW H} {ps : List MemPlace} (hv : Value.okWide Tryz.prog W .any base 28 v) (h : DataW.Trod enc Tryz.prog W 0 (fun _ => true) true 28 v d ps) :
    ∃ x0 x1 : Int, v = .agg #[.int .i64 x0, .int .i64 x1] ∧ I64 x0 ∧ I64 x1 := by
  obtain ⟨cs, rfl, hsz⟩ := okWide_arr Tryz.underlying28 hv
  rw [Tryz.cellsTwoInts] at hsz
  obtain ⟨c0, c1, rfl⟩ := array2 hsz
  obtain ⟨fuel, hf⟩ := h
  obtain ⟨xs, m, _, _, _, hl, hi⟩ := DataW.trod_array Tryz.underlying28 hf
  have one : ∀ (i : Nat) (c : Value), i < 2 → ((#[c0, c1] : Array Value).toList.drop (i * 1)).take 1 = [c] → ∃ n : Int, c = .int .i64 n ∧ I64 n := by
    intro i c hi6 hc
    have h1 := hi i hi6
    simp only [Value.cells, Tryz.cellsInt] at h1
    rw [hc] at h1
    obtain ⟨y, hy⟩ : ∃ y, xs[i]? = some y := ⟨_, List.getElem?_eq_getElem (by omega)⟩
    rw [hy] at h1
    obtain ⟨n, e, _, hw⟩ := DataW.trod_int Tryz.underlying3 h1
    simp at e
    exact ⟨n, e, bounds_i64 hw⟩
  obtain ⟨x0, rfl, b0⟩ := one 0 c0 (by omega) rfl
  obtain ⟨x1, rfl, b1⟩ := one 1 c1 (by omega) rfl
  exact ⟨x0, x1, rfl, b0, b1⟩
end

section
open Go.ChangeShapes Go.WideShapes Go.ChangeAt Go.RowKit Go.Joins Go.Deep

theorem Tryz.cellsNums : Tryz.prog.cellsOf 22 = 1 := by kernel_rfl
theorem Tryz.bytesInt : Tryz.prog.bytesOf 3 = 8 := by kernel_rfl
theorem Tryz.cellsRaw : Tryz.prog.cellsOf 24 = 4 := by kernel_rfl
theorem Tryz.cellsTruth : Tryz.prog.cellsOf 27 = 5 := by kernel_rfl
theorem Tryz.cellsFive : Tryz.prog.cellsOf 53 = 5 := by kernel_rfl
theorem Tryz.cellsThreeLists : Tryz.prog.cellsOf 25 = 3 := by kernel_rfl
def Light {H : Type} (t : TypeId) (d : DataW H) : Prop := ∀ n ∈ d.weights Tryz.prog t, n ≤ reachBytes
theorem weights_all {H : Type} {P : Program} {e : TypeId} : ∀ {l : List (DataW H)} {d : DataW H}, d ∈ l → ∀ n ∈ d.weights P e, n ∈ DataW.weightsAll P e l
  | x :: l, d, h, n, hn => by
    simp only [DataW.weightsAll, List.mem_append]
    rcases List.mem_cons.1 h with rfl | h
    · exact .inl hn
    · exact .inr (weights_all h n hn)
theorem light_part {H : Type} {t : TypeId} {fs : Array Field} {parts : List (DataW H)} (hu : Tryz.prog.underlying t = some (.struct fs)) (h : Light t (.agg parts)) {j : Nat} {f : Field} {d : DataW H} (hf : fs[j]? = some f) (hd : parts[j]? = some d) : Light f.type d := fun n hn => by
  refine h n ?_
  simp only [DataW.weights, hu]
  exact DataW.weights_mem_each (j := j) (by simp [hf]) hd n hn
theorem light_elem {H : Type} {t e : TypeId} {k : Nat} {parts : List (DataW H)} (hu : Tryz.prog.underlying t = some (.array k e)) (h : Light t (.agg parts)) {d : DataW H} (hd : d ∈ parts) : Light e d := fun n hn => by
  refine h n ?_
  simp only [DataW.weights, hu]
  exact weights_all hd n hn
set_option maxRecDepth 100000 in
theorem open_int1Y {H : Type} {enc : TypeId × Value → H} {W : World} {fuel : Nat} {c0 : Value} {x : DataW H × List MemPlace} (h : DataW.trod enc Tryz.prog W 0 (fun _ => true) true fuel 3 [c0] = some x) : ∃ a : Int, c0 = .int .i64 a := by
  obtain ⟨p0, e0, _, _⟩ := DataW.trod_int Tryz.underlying3 h
  simp at e0
  exact ⟨p0, e0⟩
set_option maxRecDepth 100000 in
theorem open_numsW {H : Type} {enc : TypeId × Value → H} {W : World} {fuel : Nat} {v : Value} {x : DataW H × List MemPlace} (h : DataW.trod enc Tryz.prog W 0 (fun _ => true) true fuel 22 [v] = some x) (hw : Light 22 x.1) :
    ∃ (A : Option Addr) (n c : Nat) (cs : List Int), v = .slice A n c ∧ n = cs.length ∧ n ≤ 4611686018427387904 ∧ IntsP W A cs := by
  have hlen : ∀ (k : IntKind) (l : List Int), (lits (H := H) k l).length = l.length := fun k l => by simp [lits]
  rcases open_ints Tryz.underlying22 Tryz.underlying3 Tryz.cellsInt h with ⟨e, _⟩ | ⟨a, len, cap, zs, e, _, hl, hm, hz, hx, hi, _⟩
  · injection e with e _
    exact ⟨none, 0, 0, [], e, rfl, by omega, .inl rfl⟩
  · injection e with e _
    have hzc : zs.length = cap := by simpa using hz
    have hb : zs.length ≤ 4611686018427387904 := by
      have q := hw ((lits (H := H) .i64 (zs.take len)).length * 8 + (lits (H := H) .i64 (zs.drop len)).length * 8) (by
        rw [hx]
        simp only [DataW.weights, Tryz.underlying22, Tryz.bytesInt]
        rw [← Nat.add_mul]
        exact List.mem_cons_self)
      rw [hlen, hlen, List.length_take, List.length_drop] at q
      unfold reachBytes at q
      omega
    refine ⟨some a, len, cap, zs.take len, e, by rw [List.length_take]; omega, by omega, ?_⟩
    rcases Nat.lt_or_ge 0 len with c | c
    · have q0 := hi 0 (by omega)
      obtain ⟨ea, la⟩ := spot_none q0
      obtain ⟨b, o, s⟩ := a
      simp [Addr.add] at ea la
      subst ea
      refine .inr ⟨b, o, rfl, la, fun k x hx => ?_⟩
      have hk : k < len := by
        have := (List.getElem?_eq_some_iff.1 hx).1
        rw [List.length_take] at this; omega
      rw [List.getElem?_take_of_lt hk] at hx
      have := hi k (by omega)
      rw [List.getD_eq_getElem?_getD, hx] at this
      rw [addr_add] at this; exact this
    · exact .inl (List.eq_nil_of_length_eq_zero (by rw [List.length_take]; omega))
set_option maxRecDepth 100000 in
set_option maxHeartbeats 2000000 in
theorem open_raw {H : Type} {enc : TypeId × Value → H} {W : World} {base : Nat} {v : Value} {d : DataW H} {pl : List MemPlace} (hv : Value.okWide Tryz.prog W .any base 24 v) (h : DataW.Trod enc Tryz.prog W 0 (fun _ => true) true 24 v d pl) (hw : Light 24 d) :
    ∃ (r : RawD) (m : RawM), v = rawV r m ∧ RawIn W r m := by
  obtain ⟨cs, rfl, hsz⟩ := okWide_struct Tryz.underlying24 hv
  rw [Tryz.cellsRaw] at hsz
  obtain ⟨l⟩ := cs
  match l, hsz with
  | [c0, c1, c2, c3], _ =>
    obtain ⟨fuel, hf⟩ := h
    obtain ⟨xs, n, _, hx, _, hlen, hg⟩ := DataW.trod_struct Tryz.underlying24 hf
    injection hx with hd _
    subst hd
    obtain ⟨y0, hy0⟩ : ∃ y, xs[0]? = some y := ⟨_, List.getElem?_eq_getElem (by rw [hlen]; decide)⟩
    have g0 := hg 0 _ rfl
    rw [hy0] at g0
    have k0 : DataW.trod enc Tryz.prog W 0 (fun _ => true) true n 3 [c0] = some y0 := by simpa [Value.cells, Tryz.cellsInt, Tryz.cellsNums, Tryz.cellsThreeLists] using g0
    clear g0
    obtain ⟨y1, hy1⟩ : ∃ y, xs[1]? = some y := ⟨_, List.getElem?_eq_getElem (by rw [hlen]; decide)⟩
    have g1 := hg 1 _ rfl
    rw [hy1] at g1
    have k1 : DataW.trod enc Tryz.prog W 0 (fun _ => true) true n 3 [c1] = some y1 := by simpa [Value.cells, Tryz.cellsInt, Tryz.cellsNums, Tryz.cellsThreeLists] using g1
    clear g1
    obtain ⟨y2, hy2⟩ : ∃ y, xs[2]? = some y := ⟨_, List.getElem?_eq_getElem (by rw [hlen]; decide)⟩
    have g2 := hg 2 _ rfl
    rw [hy2] at g2
    have k2 : DataW.trod enc Tryz.prog W 0 (fun _ => true) true n 22 [c2] = some y2 := by simpa [Value.cells, Tryz.cellsInt, Tryz.cellsNums, Tryz.cellsThreeLists] using g2
    clear g2
    obtain ⟨y3, hy3⟩ : ∃ y, xs[3]? = some y := ⟨_, List.getElem?_eq_getElem (by rw [hlen]; decide)⟩
    have g3 := hg 3 _ rfl
    rw [hy3] at g3
    have k3 : DataW.trod enc Tryz.prog W 0 (fun _ => true) true n 22 [c3] = some y3 := by simpa [Value.cells, Tryz.cellsInt, Tryz.cellsNums, Tryz.cellsThreeLists] using g3
    clear g3
    obtain ⟨n0, e0⟩ := open_int1Y k0
    obtain ⟨n1, e1⟩ := open_int1Y k1
    obtain ⟨A, a1, a2, st, e2, a4, a5, a6⟩ := open_numsW k2 (light_part Tryz.underlying24 hw (j := 2) rfl (by simp [hy2]))
    obtain ⟨B, b1, b2, vs, e3, b4, b5, b6⟩ := open_numsW k3 (light_part Tryz.underlying24 hw (j := 3) rfl (by simp [hy3]))
    subst e0 e1 e2 e3
    exact ⟨⟨n0, n1, st, vs⟩, ⟨A, a1, a2, B, b1, b2⟩, rfl, a4, a5, a6, b4, b5, b6⟩
set_option maxRecDepth 100000 in
theorem open_five {H : Type} {enc : TypeId × Value → H} {W : World} {base : Nat} {v : Value} {d : DataW H} {ps : List MemPlace} (hv : Value.okWide Tryz.prog W .any base 53 v) (h : DataW.Trod enc Tryz.prog W 0 (fun _ => true) true 53 v d ps) :
    ∃ x0 x1 x2 x3 x4 : Int, v = .agg #[.int .i64 x0, .int .i64 x1, .int .i64 x2, .int .i64 x3, .int .i64 x4] := by
  obtain ⟨cs, rfl, hsz⟩ := okWide_arr Tryz.underlying53 hv
  rw [Tryz.cellsFive] at hsz
  obtain ⟨l⟩ := cs
  match l, hsz with
  | [c0, c1, c2, c3, c4], _ =>
    obtain ⟨fuel, hf⟩ := h
    obtain ⟨xs, m, _, _, _, hl, hi⟩ := DataW.trod_array Tryz.underlying53 hf
    have one : ∀ (i : Nat) (c : Value), i < 5 → ((#[c0, c1, c2, c3, c4] : Array Value).toList.drop (i * 1)).take 1 = [c] → ∃ n : Int, c = .int .i64 n := by
      intro i c hi6 hc
      have h1 := hi i hi6
      simp only [Value.cells, Tryz.cellsInt] at h1
      rw [hc] at h1
      obtain ⟨y, hy⟩ : ∃ y, xs[i]? = some y := ⟨_, List.getElem?_eq_getElem (by omega)⟩
      rw [hy] at h1
      obtain ⟨n, e, _, _⟩ := DataW.trod_int Tryz.underlying3 h1
      simp at e
      exact ⟨n, e⟩
    obtain ⟨x0, rfl⟩ := one 0 c0 (by omega) rfl
    obtain ⟨x1, rfl⟩ := one 1 c1 (by omega) rfl
    obtain ⟨x2, rfl⟩ := one 2 c2 (by omega) rfl
    obtain ⟨x3, rfl⟩ := one 3 c3 (by omega) rfl
    obtain ⟨x4, rfl⟩ := one 4 c4 (by omega) rfl
    exact ⟨x0, x1, x2, x3, x4, rfl⟩
set_option maxRecDepth 100000 in
set_option maxHeartbeats 2000000 in
theorem open_truth {H : Type} {enc : TypeId × Value → H} {W : World} {base : Nat} {v : Value} {d : DataW H} {pl : List MemPlace} (hv : Value.okWide Tryz.prog W .any base 27 v) (h : DataW.Trod enc Tryz.prog W 0 (fun _ => true) true 27 v d pl) (hw : Light 27 d) :
    ∃ (Ca Cb Cc : Option Addr) (na ca nb cb nc cc : Nat) (k0 k1 k2 : List Int) (p q : Int), v = .agg #[.slice Ca na ca, .slice Cb nb cb, .slice Cc nc cc, .int .i64 p, .int .i64 q] ∧ (na = k0.length ∧ na ≤ 4611686018427387904 ∧ IntsP W Ca k0) ∧ (nb = k1.length ∧ nb ≤ 4611686018427387904 ∧ IntsP W Cb k1) ∧ (nc = k2.length ∧ nc ≤ 4611686018427387904 ∧ IntsP W Cc k2) := by
  obtain ⟨cs, rfl, hsz⟩ := okWide_struct Tryz.underlying27 hv
  rw [Tryz.cellsTruth] at hsz
  obtain ⟨l⟩ := cs
  match l, hsz with
  | [c0, c1, c2, c3, c4], _ =>
    obtain ⟨fuel, hf⟩ := h
    obtain ⟨xs, n, _, hx, _, hlen, hg⟩ := DataW.trod_struct Tryz.underlying27 hf
    injection hx with hd _
    subst hd
    obtain ⟨y0, hy0⟩ : ∃ y, xs[0]? = some y := ⟨_, List.getElem?_eq_getElem (by rw [hlen]; decide)⟩
    have g0 := hg 0 _ rfl
    rw [hy0] at g0
    have k0 : DataW.trod enc Tryz.prog W 0 (fun _ => true) true n 25 [c0, c1, c2] = some y0 := by simpa [Value.cells, Tryz.cellsInt, Tryz.cellsNums, Tryz.cellsThreeLists] using g0
    clear g0
    obtain ⟨y1, hy1⟩ : ∃ y, xs[1]? = some y := ⟨_, List.getElem?_eq_getElem (by rw [hlen]; decide)⟩
    have g1 := hg 1 _ rfl
    rw [hy1] at g1
    have k1 : DataW.trod enc Tryz.prog W 0 (fun _ => true) true n 3 [c3] = some y1 := by simpa [Value.cells, Tryz.cellsInt, Tryz.cellsNums, Tryz.cellsThreeLists] using g1
    clear g1
    obtain ⟨y2, hy2⟩ : ∃ y, xs[2]? = some y := ⟨_, List.getElem?_eq_getElem (by rw [hlen]; decide)⟩
    have g2 := hg 2 _ rfl
    rw [hy2] at g2
    have k2 : DataW.trod enc Tryz.prog W 0 (fun _ => true) true n 3 [c4] = some y2 := by simpa [Value.cells, Tryz.cellsInt, Tryz.cellsNums, Tryz.cellsThreeLists] using g2
    clear g2
    obtain ⟨n3, e3⟩ := open_int1Y k1
    obtain ⟨n4, e4⟩ := open_int1Y k2
    have hl0 := light_part Tryz.underlying27 hw (j := 0) (d := y0.1) rfl (by simp [hy0])
    obtain ⟨zs, m, _, hz, _, hl, hi⟩ := DataW.trod_array Tryz.underlying25 k0
    rw [hz] at hl0
    have one : ∀ (i : Nat) (c : Value), i < 3 → ([c0, c1, c2].drop (i * 1)).take 1 = [c] → ∃ (A : Option Addr) (n c' : Nat) (cs : List Int), c = .slice A n c' ∧ n = cs.length ∧ n ≤ 4611686018427387904 ∧ IntsP W A cs := by
      intro i c hi3 hc
      have h1 := hi i hi3
      simp only [Tryz.cellsNums] at h1
      rw [hc] at h1
      obtain ⟨y, hy⟩ : ∃ y, zs[i]? = some y := ⟨_, List.getElem?_eq_getElem (by omega)⟩
      rw [hy] at h1
      exact open_numsW h1 (light_elem Tryz.underlying25 hl0 (by
        simp only [List.mem_map]
        exact ⟨y, List.mem_of_getElem? hy, rfl⟩))
    obtain ⟨A, a1, a2, u0, e0, a4⟩ := one 0 c0 (by omega) rfl
    obtain ⟨B, b1, b2, u1, e1, b4⟩ := one 1 c1 (by omega) rfl
    obtain ⟨C, d1, d2, u2, e2, d4⟩ := one 2 c2 (by omega) rfl
    subst e0 e1 e2 e3 e4
    exact ⟨A, B, C, a1, a2, b1, b2, d1, d2, u0, u1, u2, n3, n4, rfl, a4, b4, d4⟩
end

end Go.Proofs.YtemlaaipnhmcoaaGreat
