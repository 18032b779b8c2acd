/- A pseudo-root: names what the law's walk and row take of the base. -/
import Derived.Test.YtmglhhbfkohkcaaGreatDoorRows
import Derived.WalkKit
import Derived.ProofKit
import Derived.OpenShut
import Derived.Lib.SmallJoins
import Derived.Deep.Slices
import Derived.Deep.Strs
import Derived.Test.YtmglhhbfkohkcaaGreatDoorR03
import Derived.Deep.AppendLies
import Derived.Test.YtmglhhbfkohkcaaGreatDoorR01
import Derived.BigQuiet
import Derived.Deep.RegionHeld3
set_option linter.unusedVariables false
set_option linter.unusedSimpArgs false
set_option linter.constructorNameAsVariable false
namespace Go.Proofs.YtmglhhbfkohkcaaGreatDoor

section
open Go.ChangeShapes Go.WideShapes Go.ChangeAt Go.RowKit Go.Joins

theorem own : ownKnob Tryz.prog.godebug = none := by kernel_rfl
theorem laidOut : laidOutB Tryz.prog = true := by kernel_rfl

theorem trodAll_below {H : Type} {enc : TypeId × Value → H} {W W' : World} (hb : Below W.heap.size W W') :
    ∀ (ts : List TypeId) (vs : List Value) (ds : List (DataW H)) (ps : List MemPlace), (∀ t ∈ ts, Tryz.prog.readableRec t = true ∧ t < Tryz.prog.types.size) →
    DataW.TrodAll enc Tryz.prog W 0 (fun _ => true) true ts vs ds ps → (∀ x ∈ ps, x.block < W.heap.size) → DataW.TrodAll enc Tryz.prog W' 0 (fun b => decide (b < W.heap.size)) true ts vs ds ps
  | [], [], [], ps, _, h, _ => h
  | t :: ts, v :: vs, d :: ds, ps, ht, h, hlt => by
    obtain ⟨p, q, h0, h1, rfl⟩ := h
    exact ⟨p, q, Below.trod laidOut (ht t (by simp)).1 (ht t (by simp)).2 h0 hb (fun x hx => hlt x (by simp [hx])),
      trodAll_below hb ts vs ds q (fun t' h' => ht t' (by simp [h'])) h1 (fun x hx => hlt x (by simp [hx])), rfl⟩
  | [], [], _ :: _, _, _, h, _ => by cases h
  | [], _ :: _, _, _, _, h, _ => by cases h
  | _ :: _, [], _, _, _, h, _ => by cases h
  | _ :: _, _ :: _, [], _, _, h, _ => by cases h

theorem law_post {H : Type} {enc : TypeId × Value → H} {f : Func} {s : ChangeSpec} {W W' : World} {args : Array Value} {ds gs : List (DataW H)} {before : List MemPlace}
    (hv : s.vars = []) (hrt : f.resultTypes = #[4]) (hts : ∀ t ∈ f.params.toList, Tryz.prog.readableRec t = true ∧ t < Tryz.prog.types.size)
    (hW : DataW.Whole enc Tryz.prog f.params.toList s.vars false W args.toList ds gs before)
    (hres : (s.fn H (ds ++ gs)).results = [.lit (.bool true)]) (hargs : (s.fn H (ds ++ gs)).args = ds) (hvars : (s.fn H (ds ++ gs)).vars = []) (hb : Below W.heap.size W W') :
    s.post enc Tryz.prog f false true false false W args (.bool true) W' := by
  have hW' := hW
  obtain ⟨p, q, hA, hV, rfl, hfz, hnd⟩ := hW
  rw [hv] at hV
  obtain ⟨rfl, rfl⟩ := trodVars_none hV
  have hA' := trodAll_below hb _ _ _ _ hts hA (fun x hx => by simpa using hW'.lt x (by simp [hx]))
  refine ⟨_, _, _, [], p, [], hW', ?_, ?_, ?_, hb.frame _, fun h => by cases h⟩
  · rw [hres, hrt]
    exact trodAll_mk1 (shut_bool Tryz.underlying4 true)
  · rw [hargs]
    exact hA'
  · rw [hvars, hv]
    rfl
end

section
open Go.ChangeShapes Go.WideShapes Go.ChangeAt Go.RowKit Go.Joins Go.Deep

theorem Tryz.cellsInt : Tryz.prog.cellsOf 3 = 1 := by kernel_rfl
theorem pick_list {α : Type} {Q : Nat → α → Prop} : ∀ n : Nat, (∀ i, i < n → ∃ x, Q i x) → ∃ l : List α, l.length = n ∧ ∀ i x, l[i]? = some x → Q i x
  | 0, _ => ⟨[], rfl, fun i x h => by simp at h⟩
  | n + 1, h => by
    obtain ⟨l, hl, hq⟩ := pick_list n fun i hi => h i (by omega)
    obtain ⟨x, hx⟩ := h n (by omega)
    refine ⟨l ++ [x], by simp [hl], fun i y hy => ?_⟩
    rcases Nat.lt_or_ge i n with c | c
    · rw [List.getElem?_append_left (by omega)] at hy
      exact hq i y hy
    · rw [List.getElem?_append_right (by omega), hl] at hy
      have : i = n := by
        rcases Nat.eq_or_lt_of_le c with e | e
        · exact e.symm
        · rw [List.getElem?_eq_none (by simp; omega)] at hy; cases hy
      subst this
      simp at hy
      subst hy
      exact hx
theorem spot_none {w : World} {a : Addr} {v : Value} (h : w.cell? a = some v) : a = ⟨a.block, a.off, none⟩ ∧ a.block < w.heap.size := by
  obtain ⟨b, o, s⟩ := a
  unfold World.cell? at h
  dsimp only at h ⊢
  split at h
  · rename_i c e f hc
    cases s with
    | none => exact ⟨rfl, (Array.getElem?_eq_some_iff.1 hc).1⟩
    | some k => simp at h
  · cases h
theorem addr_add (b o i : Nat) : (⟨b, o, none⟩ : Addr).add i = ⟨b, o + i, none⟩ := by
  by_cases h : i = 0
  · subst h; simp [Addr.add]
  · simp [Addr.add, h]
theorem Tryz.cellsPoint : Tryz.prog.cellsOf 39 = 3 := by kernel_rfl
theorem Tryz.cellsTable : Tryz.prog.cellsOf 24 = 1 := by kernel_rfl
theorem Tryz.cellsPts : Tryz.prog.cellsOf 22 = 1 := by kernel_rfl

set_option maxRecDepth 100000 in
theorem open_pts {H : Type} {enc : TypeId × Value → H} {W : World} {fuel : Nat} {v : Value} {x : DataW H × List MemPlace} (h : DataW.trod enc Tryz.prog W 0 (fun _ => true) true fuel 22 [v] = some x) :
    ∃ (A : Option Addr) (n c : Nat) (ps : List P3), v = .slice A n c ∧ n = ps.length ∧ n ≤ maxLen ∧ Pts W A ps := by
  rcases open_slice Tryz.underlying22 h with ⟨e, _⟩ | ⟨a, len, cap, m, k, D, Pl, e, _, hl, hm, hmm, _, hi⟩
  · injection e with e _
    exact ⟨none, 0, 0, [], e, rfl, by unfold maxLen; omega, .inl rfl⟩
  · injection e with e _
    have hmc : m = cap := by simpa using hmm
    rw [Tryz.cellsPoint] at hi
    obtain ⟨ps, hps, hq⟩ := pick_list (Q := fun i (p : P3) => W.cell? (a.add (i * 3)) = some (.int .i64 p.1) ∧ W.cell? ((a.add (i * 3)).add 1) = some (.int .i64 p.2.1) ∧ W.cell? ((a.add (i * 3)).add 2) = some (.int .i64 p.2.2)) len (fun i hil => by
      obtain ⟨cs', h1, h2⟩ := hi i (by omega)
      obtain ⟨_, hlen, hat⟩ := World.cells?_some h1
      match cs', hlen with
      | [v0, v1, v2], _ =>
        obtain ⟨y0, y1, y2, k', _, _, i0, i1, i2⟩ := trod_struct3 Tryz.underlying39 h2
        simp only [Tryz.cellsInt] at i0 i1 i2
        obtain ⟨p0, e0, _, _⟩ := DataW.trod_int Tryz.underlying3 i0
        obtain ⟨p1, e1, _, _⟩ := DataW.trod_int Tryz.underlying3 i1
        obtain ⟨p2, e2, _, _⟩ := DataW.trod_int Tryz.underlying3 i2
        simp at e0 e1 e2
        subst e0 e1 e2
        exact ⟨(p0, p1, p2), by simpa [Addr.add] using hat 0 (by omega), by simpa using hat 1 (by omega), by simpa using hat 2 (by omega)⟩)
    refine ⟨some a, len, cap, ps, e, hps.symm, by omega, ?_⟩
    rcases Nat.lt_or_ge 0 len with c | c
    · obtain ⟨q0, _, _⟩ := hq 0 _ (List.getElem?_eq_getElem (show 0 < ps.length by omega))
      obtain ⟨ea, la⟩ := spot_none q0
      obtain ⟨b, o, s⟩ := a
      simp [Addr.add] at ea la
      subst ea
      exact .inr ⟨b, o, rfl, la, fun i p hp => by have h := hq i p hp; simp only [addr_add] at h; exact h⟩
    · exact .inl (List.eq_nil_of_length_eq_zero (by omega))
set_option maxRecDepth 100000 in
theorem open_table {H : Type} {enc : TypeId × Value → H} {W : World} {base : Nat} {v : Value} {d : DataW H} {pl : List MemPlace} (hv : Value.okWide Tryz.prog W .any base 24 v) (h : DataW.Trod enc Tryz.prog W 0 (fun _ => true) true 24 v d pl) :
    ∃ (A : Option Addr) (n c : Nat) (ps : List P3), v = tv A n c ∧ n = ps.length ∧ n ≤ maxLen ∧ Pts W A ps := by
  obtain ⟨cs, rfl, hsz⟩ := okWide_struct Tryz.underlying24 hv
  rw [Tryz.cellsTable] at hsz
  obtain ⟨l⟩ := cs
  match l, hsz with
  | [c0], _ =>
    obtain ⟨fuel, hf⟩ := h
    obtain ⟨y0, k, _, _, i0⟩ := trod_struct1 Tryz.underlying24 hf
    simp only [Value.cells, Tryz.cellsPts] at i0
    obtain ⟨A, n, c, ps, e, h1, h2, h3⟩ := open_pts (v := c0) (by simpa using i0)
    subst e
    exact ⟨A, n, c, ps, rfl, h1, h2, h3⟩
end

section
open Go.RowKit

def Apart (v v' : Value) : Prop := ∀ g, v.ownBlock = some g → v'.ownBlock = some g → False
theorem Apart.symm {v v' : Value} (h : Apart v v') : Apart v' v := fun g a b => h g b a
def LinesAt (base : Nat) (W : World) (v1 v2 v3 : Value) (L : List P3) : Prop :=
  OwnInts base W v1 (L.map (·.1)) ∧ OwnInts base W v2 (L.map (·.2.1)) ∧ OwnInts base W v3 (L.map (·.2.2)) ∧ Apart v1 v2 ∧ Apart v1 v3 ∧ Apart v2 v3
theorem LinesAt.alloc {base : Nat} {W : World} {v1 v2 v3 : Value} {L : List P3} (h : LinesAt base W v1 v2 v3 L) (o : Obj) : LinesAt base (W.alloc o) v1 v2 v3 L :=
  ⟨h.1.alloc o, h.2.1.alloc o, h.2.2.1.alloc o, h.2.2.2⟩
end

section
open Go.RowKit

theorem Pts.block {w : World} {A : Option Addr} {ps : List P3} (h : Pts w A ps) (hl : 1 ≤ ps.length) : ∃ b o, A = some ⟨b, o, none⟩ ∧ b < w.heap.size ∧ PtsAt w b o ps := by
  rcases h with h | ⟨b, o, h1, h2, h3⟩
  · rw [h] at hl; simp at hl
  · exact ⟨b, o, h1, h2, h3⟩

end

section
open Go.RowKit

theorem OwnPts.alloc {base : Nat} {w : World} {v : Value} {l : List P3} (h : OwnPts base w v l) (o : Obj) : OwnPts base (w.alloc o) v l := World.ownsRow.alloc h o
theorem OwnPts.below {base : Nat} {X Y : World} {v : Value} {L : List P3} (ho : OwnPts base X v L) (hb : Below X.heap.size X Y) : OwnPts base Y v L := ho.grown (below_grownNone hb) (fun _ e => by cases e)
end

section
open Go.RowKit
attribute [local go_sem ↓] neqPoint
set_option maxRecDepth 100000 in
set_option maxHeartbeats 1000000 in
theorem same_empty (A A' : Option Addr) (c c' : Nat) (w : World) :
  Calls Tryz.prog 8 #[tv A 0 c, tv A' 0 c'] w fun e w' => e = .returned (.bool true) ∧ Below w.heap.size w w' := by
 go_enter Tryz.func8, Tryz.ntmps8
 go_wp2_with fail
 go_loopw [16] (fun i wr => i = .int .i64 0 ∧ Below w.heap.size w wr) (fun i _ => 0)
 case atStart => exact ⟨rfl, below_a2 (Below.refl _ _)⟩
 case round =>
  obtain ⟨rfl, hB⟩ := hrel
  have HB := Lib.hid hB; clear hB
  go_wp2
  go_ret
  exact ⟨rfl, HB.out⟩
end

section
open Go.RowKit

theorem same_all (A A' : Option Addr) (n n' c c' : Nat) (L : List P3) (w : World) (hn : n = L.length) (hn' : n' = L.length) (hm : n ≤ maxLen) (hp : Pts w A L) (hp' : Pts w A' L) :
    Calls Tryz.prog 8 #[tv A n c, tv A' n' c'] w fun e w' => e = .returned (.bool true) ∧ Below w.heap.size w w' := by
  subst hn'
  rcases Nat.lt_or_ge 0 L.length with hl | hl
  · obtain ⟨b, o, rfl, hb, hc⟩ := hp.block hl
    obtain ⟨b', o', rfl, hb', hc'⟩ := hp'.block hl
    rw [← hn]
    exact same_yes b o b' o' n c c' L w hn hm hb hb' hc hc'
  · have h0 : L.length = 0 := by omega
    rw [h0] at hn ⊢
    subst hn
    exact same_empty A A' c c' w
end

section
theorem px1 : True := by
  have := @sane_any; have := @same_all; have := @open_table; have := @law_post; have := @own; have := @laidOut; have := @bool_to; have := @int_to; have := @OwnPts.alloc; have := @OwnPts.grown; have := @Pts.below; have := @Pts.keep; have := @Blk.far; have := @tabOk; have := @Only.below
  trivial
end

end Go.Proofs.YtmglhhbfkohkcaaGreatDoor
