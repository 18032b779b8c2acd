/- Holds and tanks in memory; the closures of checkEach, slices.IndexFunc and slices.ContainsFunc as checkEach calls them (hold). Their conditions: the list lies in memory, the closure's variables are boxes. -/
import Derived.Deep.DeepCutAuto
import Derived.Test.YtpcmcicnciejpaaGreatR03
import Derived.Test.YtpcmcicnciejpaaGreatR04
import Derived.Test.YtpcmcicnciejpaaGreatR01
import Derived.Test.YtpcmcicnciejpaaGreatR02
import Derived.Test.YtpcmcicnciejpaaGreatR06
import Derived.Test.YtpcmcicnciejpaaGreatR08
import Derived.Deep.RegionHeld3
import Derived.Test.YtpcmcicnciejpaaGreatR05
import Derived.Deep.WholeRow
import Derived.Test.YtpcmcicnciejpaaGreatR07
import Derived.Test.YtpcmcicnciejpaaGreatQ98
set_option linter.unusedVariables false
set_option linter.unusedSimpArgs false
set_option linter.constructorNameAsVariable false
namespace Go.Proofs.YtpcmcicnciejpaaGreat

section
open Go.RowKit

theorem OwnPts.pts {base : Nat} {w : World} {v : Value} {L : List P3} (ho : OwnPts base w v L) (hne : 0 < L.length) :
    ∃ g cap, v = .slice (some ⟨g, 0, none⟩) L.length cap ∧ base ≤ g ∧ g < w.heap.size ∧ PtsAt w g 0 L := by
  have ho' : w.ownsRow base 66 3 v L.length (ptCells L) := ho
  obtain ⟨g, cap, rfl, h1, h2⟩ := ho'.form hne
  refine ⟨g, cap, rfl, h1, h2, fun k p hp => ?_⟩
  have hk : k < L.length := (List.getElem?_eq_some_iff.1 hp).1
  have hcell : ∀ i, i < 3 → (ptCells L)[k * 3 + i]? = [Value.int .i64 p.1, .int .i64 p.2.1, .int .i64 p.2.2][i]? := by
    intro i hi
    clear ho ho' h1 h2 hne
    induction L generalizing k with
    | nil => cases hp
    | cons q L ih =>
      cases k with
      | zero =>
        simp at hp; subst hp
        have : i = 0 ∨ i = 1 ∨ i = 2 := by omega
        rcases this with rfl | rfl | rfl <;> simp [ptCells]
      | succ k =>
        have e : ptCells (q :: L) = [Value.int .i64 q.1, .int .i64 q.2.1, .int .i64 q.2.2] ++ ptCells L := by simp [ptCells]
        rw [e, List.getElem?_append_right (by simp; omega)]
        have := ih k (by simpa using hp) (by simpa using hk)
        rw [← this]
        congr 1
        simp; omega
  have c := fun i (hi : i < 3) => (ho'.cellAt (k * 3 + i) (by omega)).trans (hcell i hi)
  refine ⟨?_, ?_, ?_⟩
  · rw [Nat.zero_add]; exact c 0 (by omega)
  · rw [Nat.zero_add]; exact c 1 (by omega)
  · rw [Nat.zero_add]; exact c 2 (by omega)
theorem OwnRuns.mem {base : Nat} {w : World} {v : Value} {r : Int × Int} (ho : OwnRuns base w v [r]) :
    ∃ g cap, v = .slice (some ⟨g, 0, none⟩) 1 cap ∧ g < w.heap.size ∧ RunsMem w g 0 [r] := by
  have ho' : w.ownsRow base 35 2 v 1 (runCells [r]) := ho
  obtain ⟨g, cap, rfl, _, h2⟩ := ho'.form (by omega)
  refine ⟨g, cap, rfl, h2, fun k p hp => ?_⟩
  have c0 := ho'.cellAt 0 (by omega)
  have c1 := ho'.cellAt 1 (by omega)
  cases k with
  | zero => simp at hp; subst hp; exact ⟨c0, c1⟩
  | succ k => simp at hp
end

section
open Go.RowKit
attribute [local go_sem ↓] eqlRange neqRange
end

section
open Go.RowKit

def heavyS (a b c d : Int) : Int × Int := ((a * c) / 1000, (b * d + 999) / 1000)
end

section
open Go.RowKit

theorem dense_heavy (a b c d : Int) (h1 : 0 ≤ a) (h2 : a ≤ b) (h3 : b ≤ 1000000000) (h4 : 0 ≤ c) (h5 : c ≤ d) (h6 : d ≤ 2000) :
    (denseS a b c d).1 = (heavyS a b c d).1 ∧ (denseS a b c d).2.1 = (heavyS a b c d).2 := by
  have e1 : a * c ≤ a * d := Int.mul_le_mul_of_nonneg_left h5 h1
  have e2 : b * c ≤ b * d := Int.mul_le_mul_of_nonneg_left h5 (by omega)
  have e3 : a * c ≤ b * c := Int.mul_le_mul_of_nonneg_right h2 h4
  have e4 : a * d ≤ b * d := Int.mul_le_mul_of_nonneg_right h2 (by omega)
  have e5 : 0 ≤ a * c := Int.mul_nonneg h1 h4
  have e6 : b * d ≤ 1000000000 * 2000 := Int.mul_le_mul h3 h6 (by omega) (by omega)
  have v1 : vR a b = true := (vR_iff a b).2 (by omega)
  have v2 : vR c d = true := (vR_iff c d).2 (by omega)
  have m1 : min (min (min (a * c) (a * d)) (b * c)) (b * d) = a * c := by omega
  have m2 : max (max (max (a * c) (a * d)) (b * c)) (b * d) = b * d := by omega
  have v3 : vR (a * c) (b * d) = true := (vR_iff _ _).2 (by omega)
  have em : mulS a b c d = (a * c, b * d, 0) := by
    unfold mulS twoS
    rw [m1, m2]
    unfold bigS
    simp [v1, v2, v3]
  have v4 : vR (a * c * 1 / 1000) (-(-(b * d) * 1 / 1000)) = true := (vR_iff _ _).2 (by omega)
  have es : denseS a b c d = (a * c * 1 / 1000, -(-(b * d) * 1 / 1000), 0) := by
    unfold denseS
    rw [em]
    unfold scaleS
    dsimp only
    rw [if_pos v3, if_pos (by omega), if_neg (by omega)]
    unfold bigS
    rw [if_pos v4]
  rw [es]
  unfold heavyS
  dsimp only
  constructor <;> omega
end

section
open Go.RowKit

theorem foldG_all {lo hi : Int} : ∀ (l : List (Int × Int)) (s : Int × Int × Bool), s.2.2 = true → lo ≤ s.1 → s.1 ≤ s.2.1 → s.2.1 ≤ hi → (∀ r ∈ l, lo ≤ r.1 ∧ r.1 ≤ r.2 ∧ r.2 ≤ hi) →
    lo ≤ (l.foldl stepG s).1 ∧ (l.foldl stepG s).1 ≤ (l.foldl stepG s).2.1 ∧ (l.foldl stepG s).2.1 ≤ hi
  | [], s, _, h1, h2, h3, _ => ⟨h1, h2, h3⟩
  | z :: l, s, h, h1, h2, h3, hl => by
    rw [List.foldl_cons]
    have e : stepG s z = (min s.1 z.1, max s.2.1 z.2, true) := by unfold stepG; rw [if_pos h]
    rw [e]
    have hz := hl z (by simp)
    exact foldG_all l _ rfl (by dsimp only; omega) (by dsimp only; omega) (by dsimp only; omega) (fun r hr => hl r (by simp [hr]))
theorem foldG_in {lo hi : Int} {l : List (Int × Int)} (hne : l ≠ []) (hl : ∀ r ∈ l, lo ≤ r.1 ∧ r.1 ≤ r.2 ∧ r.2 ≤ hi) : lo ≤ (foldG l).1 ∧ (foldG l).1 ≤ (foldG l).2.1 ∧ (foldG l).2.1 ≤ hi := by
  cases l with
  | nil => exact absurd rfl hne
  | cons z l =>
    unfold foldG
    rw [List.foldl_cons]
    have e : stepG (0, 0, false) z = (z.1, z.2, true) := rfl
    rw [e]
    have hz := hl z (by simp)
    exact foldG_all l _ rfl hz.1 hz.2.1 hz.2.2 (fun r hr => hl r (by simp [hr]))
theorem atS_nonneg {ps : List P3} {x : Int} (hm : measuresS ps = true) (h1 : firstX ps ≤ x) (h2 : x ≤ lastX ps) : 0 ≤ (atS ps x).1 := by
  have ht := measures_ok hm
  have hp : ∀ p ∈ ps, 0 ≤ p.2.1 := by
    unfold measuresS at hm
    simp only [Bool.and_eq_true, List.all_eq_true, decide_eq_true_eq] at hm
    exact hm.2
  obtain ⟨i, pq, hi, b1, b2, _⟩ := piece_at ht h1 h2
  obtain ⟨m1, m2, m3⟩ := piece_mem ht hi
  have e := atS_any ht hi b1 b2
  have e1 := pAt_start pq.1 pq.2
  have e2 := atS_any ht hi m3 (Int.le_refl _)
  rw [atS_point ht m2] at e2
  have q1 := hp _ m1
  have q2 := hp _ m2
  rw [e]
  rcases pAt_low_way pq.1 pq.2 with w | w
  · have := w _ _ b1; rw [e1] at this; dsimp only at this; omega
  · have := w _ _ b2; rw [← e2] at this; dsimp only at this; omega
theorem over_in {ps : List P3} {a b : Int} (hm : measuresS ps = true) (h : inB a b (firstX ps) (lastX ps) = true) : 0 ≤ (overS ps a b).1 ∧ (overS ps a b).1 ≤ (overS ps a b).2.1 ∧ (overS ps a b).2.1 ≤ 1000000000 := by
  have ht := measures_ok hm
  simp only [inB, decide_eq_true_eq] at h
  have hall : ∀ r ∈ (cornersS ps a b).map (atS ps), (0 : Int) ≤ r.1 ∧ r.1 ≤ r.2 ∧ r.2 ≤ 1000000000 := by
    intro r hr
    obtain ⟨c, hc, rfl⟩ := List.mem_map.1 hr
    have hcb : a ≤ c ∧ c ≤ b := by
      rcases corners_mem hc with q | q <;> omega
    have q1 := atS_in ht (show firstX ps ≤ c by omega) (show c ≤ lastX ps by omega)
    have q2 := atS_nonneg hm (show firstX ps ≤ c by omega) (show c ≤ lastX ps by omega)
    simp only [inB, decide_eq_true_eq] at q1
    omega
  have hg := foldG_in (by simpa using corners_ne ps a b) hall
  unfold overS
  split
  · exact hg
  · dsimp only; omega
theorem hold_parts {h : HoldD} (e : holdS h = true) : (amountS h.t0 h.t1 = true ∧ amountS h.u0 h.u1 = true ∧ amountS h.v0 h.v1 = true ∧ amountS h.h0 h.h1 = true) ∧ (measuresS h.vol = true ∧ measuresS h.mom = true ∧ measuresS h.hei = true) ∧ (alongS h.vol h.mom = true ∧ alongS h.vol h.hei = true) ∧ (fallsS h.vol = true ∧ fallsS h.hei = true) := by
  unfold holdS amtRest ctRest at e
  simp only [Bool.and_eq_true] at e
  exact ⟨⟨e.2.1, e.2.2.1, e.2.2.2.1, e.2.2.2.2.1⟩, ⟨e.2.2.2.2.2.1, e.2.2.2.2.2.2.1.1, e.2.2.2.2.2.2.2.1.1⟩, ⟨e.2.2.2.2.2.2.1.2, e.2.2.2.2.2.2.2.1.2⟩, ⟨e.2.2.2.2.2.2.2.2.1, e.2.2.2.2.2.2.2.2.2⟩⟩
theorem fill_zero {h : HoldD} {f : FillD} (e : fillErr h f = 0) : holdS h = true ∧ fillS h f = true := by
  unfold fillErr at e
  split at e
  · rename_i g
    split at e
    · rename_i k
      exact ⟨g, k⟩
    · omega
  · omega
theorem fill_dens {h : HoldD} {f : FillD} (e : fillErr h f = 0) : 0 ≤ f.d0 ∧ f.d0 ≤ f.d1 ∧ f.d1 ≤ 2000 := by
  have g := (fill_zero e).2
  unfold fillS stateS densS at g
  simp only [Bool.and_eq_true, Bool.or_eq_true, decide_eq_true_eq, beq_iff_eq, inB] at g
  omega
theorem fill_place {h : HoldD} {f : FillD} (e : fillErr h f = 0) (s : 3 ≤ f.st) : inB f.x0 f.x1 (firstX h.vol) (lastX h.vol) = true := by
  have g := (fill_zero e).2
  unfold fillS stateS at g
  simp only [Bool.and_eq_true, Bool.or_eq_true, decide_eq_true_eq] at g
  rcases g.2 with q | q | q
  · omega
  · omega
  · exact q.2.1
def Amt (p : Int × Int) : Prop := 0 ≤ p.1 ∧ p.1 ≤ p.2 ∧ p.2 ≤ 1000000000
theorem amt_of {a b : Int} (h : amountS a b = true) : Amt (a, b) := by
  unfold amountS at h
  simp only [inB, decide_eq_true_eq] at h
  exact ⟨by dsimp only; omega, by dsimp only; omega, by dsimp only; omega⟩
theorem amt_zero : Amt (0, 0) := ⟨by decide, by decide, by decide⟩
theorem along_in {ps qs : List P3} {a b : Int} (h : alongS ps qs = true) (g : inB a b (firstX ps) (lastX ps) = true) : inB a b (firstX qs) (lastX qs) = true := by
  unfold alongS at h
  simp only [Bool.and_eq_true, decide_eq_true_eq] at h
  rw [← h.1, ← h.2]; exact g
theorem mom_amt {h : HoldD} {f : FillD} (e : fillErr h f = 0) : Amt (momS h f) := by
  obtain ⟨⟨a1, a2, a3, a4⟩, ⟨m1, m2, m3⟩, ⟨l1, l2⟩, _⟩ := hold_parts (fill_zero e).1
  unfold momS
  split
  · exact amt_zero
  · split
    · exact amt_of a1
    · split
      · exact amt_of a2
      · split
        · exact over_in m2 (along_in l1 (fill_place e (by omega)))
        · exact amt_zero
theorem den_heavy {h : HoldD} {f : FillD} (e : fillErr h f = 0) {v : Int × Int} (hv : Amt v) : heavyS v.1 v.2 f.d0 f.d1 = denS h f v := by
  obtain ⟨d1, d2, d3⟩ := fill_dens e
  obtain ⟨q1, q2⟩ := dense_heavy v.1 v.2 f.d0 f.d1 hv.1 hv.2.1 hv.2.2 d1 d2 d3
  unfold denS
  rw [q1, q2]
end

section
open Go.RowKit

theorem boxes_lt {W : World} {L : List (Nat × TypeId × Array Value)} (h : Boxes W L) : ∀ p ∈ L, p.1 ≠ W.heap.size := fun p hp => Nat.ne_of_lt (h p hp).lt
theorem Boxes.sub {W : World} {L L' : List (Nat × TypeId × Array Value)} (h : Boxes W L) (hs : ∀ x ∈ L', x ∈ L) : Boxes W L' := fun p hp => h p (hs p hp)
theorem Boxes.row {W : World} {L L' : List (Nat × TypeId × Array Value)} (h : Boxes W L) {g : Nat} {t : TypeId} {old : Array Value} (hm : (g, t, old) ∈ L) (hs : ∀ p ∈ L', p ∈ L ∧ p.1 ≠ g) (cs : Array Value) :
    Boxes (W.setRow g cs) ((g, t, cs) :: L') := fun p hp => by
  rcases List.mem_cons.1 hp with rfl | hp
  · exact setRow_heap W g _ _ t _ (h _ hm)
  · exact (h p (hs p hp).1).farRow (hs p hp).2 cs

set_option maxRecDepth 100000 in
set_option maxHeartbeats 4000000 in
theorem pour_walk (vol mom hei : List P3) (id al ah t0 t1 u0 u1 v0 v1 h0 h1 : Int) (A B C : Option Addr) (n c mm d l ee : Nat) (fh st x0 x1 d0 d1 a b e0 e1 p q r s v0' v1' up uq de se : Int) (ja kv jc jd ks : Nat) (w : World) (hi : HoldIn w ⟨id, al, ah, vol, mom, hei, t0, t1, u0, u1, v0, v1, h0, h1⟩ ⟨A, n, c, B, mm, d, C, l, ee⟩)
  (g1 : fillErr ⟨id, al, ah, vol, mom, hei, t0, t1, u0, u1, v0, v1, h0, h1⟩ ⟨fh, st, x0, x1, d0, d1⟩ = 0) (g2 : massErr a b e0 e1 = 0) (g3 : ¬ a < 0) (ht : tabOk vol = true) (hle : firstX vol ≤ lastX vol)
  (q0 : 0 ≤ st) (q5 : st ≤ 5) (hM : mM st = #[fnV ja, fnV kv, fnV jc, fnV jd, fnV ks, .int .i64 0, .int .i64 de, .int .i64 se]) (hk : (kv = 135 ∧ ks = 137) ∨ (kv = 128 ∧ ks = 129))
  (hC4 : ∀ W, Below w.heap.size w W → Calls Tryz.prog kv #[.agg #[.int .i64 id, .int .i64 al, .int .i64 ah, .slice A n c, .slice B mm d, .slice C l ee, .int .i64 t0, .int .i64 t1, .int .i64 u0, .int .i64 u1, .int .i64 v0, .int .i64 v1, .int .i64 h0, .int .i64 h1], .agg #[.int .i64 fh, .int .i64 st, .int .i64 x0, .int .i64 x1, .int .i64 d0, .int .i64 d1]] W fun e w' => e = .returned (rv p q) ∧ Below W.heap.size W w')
  (hC7 : ∀ W, Below w.heap.size w W → Calls Tryz.prog ks #[.agg #[.int .i64 id, .int .i64 al, .int .i64 ah, .slice A n c, .slice B mm d, .slice C l ee, .int .i64 t0, .int .i64 t1, .int .i64 u0, .int .i64 u1, .int .i64 v0, .int .i64 v1, .int .i64 h0, .int .i64 h1], .agg #[.int .i64 fh, .int .i64 st, .int .i64 x0, .int .i64 x1, .int .i64 d0, .int .i64 d1]] W fun e w' => e = .returned (rv up uq) ∧ Below W.heap.size W w')
  (k2 : litresS a b e0 e1 = (r, s)) (k3 : IntKind.i64.wrap (p + r) = v0') (k4 : IntKind.i64.wrap (q + s) = v1') :
  Calls Tryz.prog 29 #[.agg #[.int .i64 id, .int .i64 al, .int .i64 ah, .slice A n c, .slice B mm d, .slice C l ee, .int .i64 t0, .int .i64 t1, .int .i64 u0, .int .i64 u1, .int .i64 v0, .int .i64 v1, .int .i64 h0, .int .i64 h1], .agg #[.int .i64 fh, .int .i64 st, .int .i64 x0, .int .i64 x1, .int .i64 d0, .int .i64 d1], rv a b, rv e0 e1] w fun e w' => e = .returned (ft (movedS vol id v0' v1' (firstX vol) uq (mixS d0 d1 e0 e1).1 (mixS d0 d1 e0 e1).2)) ∧ Below w.heap.size w w' := by
 have HE := Lib.hid (show Below w.heap.size w (((((w.alloc (.cells #[.int .i64 id, .int .i64 al, .int .i64 ah, .slice A n c, .slice B mm d, .slice C l ee, .int .i64 t0, .int .i64 t1, .int .i64 u0, .int .i64 u1, .int .i64 v0, .int .i64 v1, .int .i64 h0, .int .i64 h1] 40)).alloc (.cells #[.int .i64 fh, .int .i64 st, .int .i64 x0, .int .i64 x1, .int .i64 d0, .int .i64 d1] 43)).alloc (.cells #[.int .i64 a, .int .i64 b] 35)).alloc (.cells #[.int .i64 e0, .int .i64 e1] 35)).alloc (.cells #[.int .i64 0, .int .i64 0, .int .i64 0, .int .i64 0, .int .i64 0, .int .i64 0] 43)) from below_a5 (Below.refl _ _))
 have HK := Lib.hid (boxes5' w 40 43 35 35 43 #[.int .i64 id, .int .i64 al, .int .i64 ah, .slice A n c, .slice B mm d, .slice C l ee, .int .i64 t0, .int .i64 t1, .int .i64 u0, .int .i64 u1, .int .i64 v0, .int .i64 v1, .int .i64 h0, .int .i64 h1] #[.int .i64 fh, .int .i64 st, .int .i64 x0, .int .i64 x1, .int .i64 d0, .int .i64 d1] #[.int .i64 a, .int .i64 b] #[.int .i64 e0, .int .i64 e1] #[.int .i64 0, .int .i64 0, .int .i64 0, .int .i64 0, .int .i64 0, .int .i64 0])
 obtain ⟨i1, i2, i3⟩ := hi
 dsimp only at i1 i2 i3
 have C1 : Hid (∀ W, Below w.heap.size w W → Calls Tryz.prog 35 #[.agg #[.int .i64 id, .int .i64 al, .int .i64 ah, .slice A n c, .slice B mm d, .slice C l ee, .int .i64 t0, .int .i64 t1, .int .i64 u0, .int .i64 u1, .int .i64 v0, .int .i64 v1, .int .i64 h0, .int .i64 h1], .agg #[.int .i64 fh, .int .i64 st, .int .i64 x0, .int .i64 x1, .int .i64 d0, .int .i64 d1]] W fun e w' => e = .returned (.int .i64 0) ∧ Below W.heap.size W w') := Lib.hid fun W hW => int_to (checkFill_any ⟨id, al, ah, vol, mom, hei, t0, t1, u0, u1, v0, v1, h0, h1⟩ ⟨A, n, c, B, mm, d, C, l, ee⟩ ⟨fh, st, x0, x1, d0, d1⟩ W ⟨i1.below hW, i2.below hW, i3.below hW⟩) g1
 have C2 : Hid (∀ W, Calls Tryz.prog 53 #[rv a b, rv e0 e1] W fun e w' => e = .returned (.int .i64 0) ∧ Below W.heap.size W w') := Lib.hid fun W => int_to (checkMass_any a b e0 e1 W) g2
 have C3 : Hid (∀ W, Calls Tryz.prog 40 #[.agg #[.int .i64 fh, .int .i64 st, .int .i64 x0, .int .i64 x1, .int .i64 d0, .int .i64 d1]] W fun e w' => e = .returned (.agg #[fnV ja, fnV kv, fnV jc, fnV jd, fnV ks, .int .i64 0, .int .i64 de, .int .i64 se]) ∧ Below W.heap.size W w') := Lib.hid fun W => by
  have := meaningOf_any fh st x0 x1 d0 d1 W q0 q5
  rwa [hM] at this
 have C4 := Lib.hid hC4
 have C7 := Lib.hid hC7
 have HKV := Lib.hid hk
 have C5 : Hid (∀ W, Calls Tryz.prog 54 #[rv a b, rv e0 e1] W fun e w' => e = .returned (rv r s) ∧ Below W.heap.size W w') := Lib.hid fun W => by
  obtain ⟨m1, m2⟩ := massErr_zero g2
  have := hlitres_any a b e0 e1 W (vR_small m1) (dens_in m2)
  rwa [k2] at this
 have C6 : Hid (∀ W, Below w.heap.size w W → Calls Tryz.prog 55 #[tv A n c] W fun e w' => e = .returned (rv (firstX vol) (lastX vol)) ∧ Below W.heap.size W w') := Lib.hid fun W hW => hplaces_tab A n c vol W (i1.below hW) ht
 have C8 : Hid (∀ W, Calls Tryz.prog 57 #[rv d0 d1, rv e0 e1] W fun e w' => e = .returned (rv (mixS d0 d1 e0 e1).1 (mixS d0 d1 e0 e1).2) ∧ Below W.heap.size W w') := Lib.hid fun W => mix_any d0 d1 e0 e1 W
 obtain ⟨⟨j0, j1⟩, hj⟩ : ∃ j, mixS d0 d1 e0 e1 = j := ⟨_, rfl⟩
 rw [hj] at C8 ⊢
 obtain ⟨R, hR⟩ : ∃ R, movedS vol id v0' v1' (firstX vol) uq j0 j1 = R := ⟨_, rfl⟩
 have C9 : Hid (∀ W, Below w.heap.size w W → Calls Tryz.prog 56 #[.agg #[.int .i64 id, .int .i64 al, .int .i64 ah, .slice A n c, .slice B mm d, .slice C l ee, .int .i64 t0, .int .i64 t1, .int .i64 u0, .int .i64 u1, .int .i64 v0, .int .i64 v1, .int .i64 h0, .int .i64 h1], rv v0' v1', rv (firstX vol) uq, rv j0 j1] W fun e w' => e = .returned (ft R) ∧ Below W.heap.size W w') := Lib.hid fun W hW => by
  rw [← hR]; exact moved_any vol id al ah t0 t1 u0 u1 v0 v1 h0 h1 A B C n c mm d l ee v0' v1' (firstX vol) uq j0 j1 W (i1.below hW) ht hle
 dsimp only
 rw [hR]
 clear hR hj g1 g2 ht hle k2 i1 i2 i3 hC4 hC7 hk hM q0 q5
 generalize firstX vol = f0 at *
 generalize lastX vol = f1 at *
 obtain ⟨⟨ff0, ff1, ff2, ff3, ff4, ff5⟩, re⟩ := R
 go_enter Tryz.func29, Tryz.ntmps29
 go_wp2_with fail
 obtain ⟨W0, hW0⟩ : ∃ W0, (((((w.alloc (.cells #[.int .i64 id, .int .i64 al, .int .i64 ah, .slice A n c, .slice B mm d, .slice C l ee, .int .i64 t0, .int .i64 t1, .int .i64 u0, .int .i64 u1, .int .i64 v0, .int .i64 v1, .int .i64 h0, .int .i64 h1] 40)).alloc (.cells #[.int .i64 fh, .int .i64 st, .int .i64 x0, .int .i64 x1, .int .i64 d0, .int .i64 d1] 43)).alloc (.cells #[.int .i64 a, .int .i64 b] 35)).alloc (.cells #[.int .i64 e0, .int .i64 e1] 35)).alloc (.cells #[.int .i64 0, .int .i64 0, .int .i64 0, .int .i64 0, .int .i64 0, .int .i64 0] 43)) = W0 := ⟨_, rfl⟩
 rw [hW0] at HE HK ⊢
 clear hW0
 obtain ⟨G, hG⟩ : ∃ G, w.heap.size = G := ⟨_, rfl⟩
 rw [hG] at HK ⊢
 have HG := Lib.hid hG; clear hG
 refine (C1.out _ HE.out).mono ?_
 rintro e w1 ⟨rfl, hb⟩
 have HE1 := Lib.hid (below_then HE.out hb); have HK1 := Lib.hid (HK.out.on hb)
 clear hb HE HK C1
 have m := HK1.out _ (.tail _ (.tail _ (.head _)))
 have m0 := m.cell 0
 have m1 := m.cell 1
 simp at m0 m1
 clear m
 have n := HK1.out _ (.tail _ (.head _))
 have n0 := n.cell 0
 have n1 := n.cell 1
 simp at n0 n1
 clear n
 go_wp2_with fail
 refine (C2.out _).mono ?_
 rintro e w2 ⟨rfl, hb⟩
 have HE2 := Lib.hid (below_then HE1.out hb); have HK2 := Lib.hid (HK1.out.on hb)
 clear hb HE1 HK1 C2 m0 m1 n0 n1
 have m := HK2.out _ (.tail _ (.tail _ (.head _)))
 have m0 := m.cell 0
 simp at m0
 clear m
 have f := HK2.out _ (.tail _ (.tail _ (.tail _ (.head _))))
 have f0 := f.cell 0
 have f1 := f.cell 1
 have f2 := f.cell 2
 have f3 := f.cell 3
 have f4 := f.cell 4
 have f5 := f.cell 5
 simp at f0 f1 f2 f3 f4 f5
 clear f
 go_wp2_with fail
 refine (C3.out _).mono ?_
 rintro e w3 ⟨rfl, hb⟩
 have HE3 := Lib.hid (below_then (below_then HE2.out hb) (below_alloc1 w3 (.cells #[fnV ja, fnV kv, fnV jc, fnV jd, fnV ks, .int .i64 0, .int .i64 de, .int .i64 se] 99))); have HK3 := Lib.hid ((HK2.out.on hb).new 99 #[fnV ja, fnV kv, fnV jc, fnV jd, fnV ks, .int .i64 0, .int .i64 de, .int .i64 se])
 have HD3 := Lib.hid (boxes_lt (HK2.out.on hb))
 clear hb HE2 HK2 C3 m0 f0 f1 f2 f3 f4 f5
 go_upto_region 10 with fail
 obtain ⟨W3, hW3⟩ : ∃ W3, w3.alloc (.cells #[fnV ja, fnV kv, fnV jc, fnV jd, fnV ks, .int .i64 0, .int .i64 de, .int .i64 se] 99) = W3 := ⟨_, rfl⟩
 rw [hW3] at HE3 HK3 ⊢
 clear hW3
 obtain ⟨M, hM⟩ : ∃ M, w3.heap.size = M := ⟨_, rfl⟩
 rw [hM] at HK3 HD3 ⊢
 clear hM
 have s := HK3.out _ (.head _)
 have s5 := s.cell 5
 simp at s5
 clear s
 go_upto_region 12 with fail
 clear s5
 obtain ⟨ML, hML⟩ : ∃ ML : Array Value, #[fnV ja, fnV kv, fnV jc, fnV jd, fnV ks, .int .i64 0, .int .i64 de, .int .i64 se] = ML := ⟨_, rfl⟩
 rw [hML] at HK3
 have HM1 : Hid (ML[1]? = some (fnV kv)) := Lib.hid (by rw [← hML]; rfl)
 have HM4 : Hid (ML[4]? = some (fnV ks)) := Lib.hid (by rw [← hML]; rfl)
 clear hML
 go_cut [13, 14] (fun s13 s14 wx => ∃ N1 N2, s13 = .pointer (some ⟨N1, 0, none⟩) ∧ s14 = .pointer (some ⟨N2, 0, none⟩) ∧ Boxes wx ((N2, 35, #[.int .i64 r, .int .i64 s]) :: (N1, 35, #[.int .i64 p, .int .i64 q]) :: ((M, 99, ML) :: [(G + 1 + 1 + 1 + 1, 43, #[.int .i64 0, .int .i64 0, .int .i64 0, .int .i64 0, .int .i64 0, .int .i64 0]), (G + 1 + 1 + 1, 35, #[.int .i64 e0, .int .i64 e1]), (G + 1 + 1, 35, #[.int .i64 a, .int .i64 b]), (G + 1, 43, #[.int .i64 fh, .int .i64 st, .int .i64 x0, .int .i64 x1, .int .i64 d0, .int .i64 d1]), (G, 40, #[.int .i64 id, .int .i64 al, .int .i64 ah, .slice A n c, .slice B mm d, .slice C l ee, .int .i64 t0, .int .i64 t1, .int .i64 u0, .int .i64 u1, .int .i64 v0, .int .i64 v1, .int .i64 h0, .int .i64 h1])] : List (Nat × TypeId × Array Value))) ∧ Below w.heap.size w wx ∧ G + 1 + 1 + 1 + 1 ≠ N1 ∧ G + 1 + 1 + 1 + 1 ≠ N2)
 case first =>
  rcases HKV.out with ⟨rfl, rfl⟩ | ⟨rfl, rfl⟩
  all_goals
   have hS0 : Boxes W3.drew ((M, 99, ML) :: [(G + 1 + 1 + 1 + 1, 43, #[.int .i64 0, .int .i64 0, .int .i64 0, .int .i64 0, .int .i64 0, .int .i64 0]), (G + 1 + 1 + 1, 35, #[.int .i64 e0, .int .i64 e1]), (G + 1 + 1, 35, #[.int .i64 a, .int .i64 b]), (G + 1, 43, #[.int .i64 fh, .int .i64 st, .int .i64 x0, .int .i64 x1, .int .i64 d0, .int .i64 d1]), (G, 40, #[.int .i64 id, .int .i64 al, .int .i64 ah, .slice A n c, .slice B mm d, .slice C l ee, .int .i64 t0, .int .i64 t1, .int .i64 u0, .int .i64 u1, .int .i64 v0, .int .i64 v1, .int .i64 h0, .int .i64 h1])] : List (Nat × TypeId × Array Value)) := HK3.out
   have HEd := Lib.hid HE3.out.drew
   have HKd := Lib.hid hS0
   refine wp_region_held_drew (S := fun w' => Boxes w' ((M, 99, ML) :: [(G + 1 + 1 + 1 + 1, 43, #[.int .i64 0, .int .i64 0, .int .i64 0, .int .i64 0, .int .i64 0, .int .i64 0]), (G + 1 + 1 + 1, 35, #[.int .i64 e0, .int .i64 e1]), (G + 1 + 1, 35, #[.int .i64 a, .int .i64 b]), (G + 1, 43, #[.int .i64 fh, .int .i64 st, .int .i64 x0, .int .i64 x1, .int .i64 d0, .int .i64 d1]), (G, 40, #[.int .i64 id, .int .i64 al, .int .i64 ah, .slice A n c, .slice B mm d, .slice C l ee, .int .i64 t0, .int .i64 t1, .int .i64 u0, .int .i64 u1, .int .i64 v0, .int .i64 v1, .int .i64 h0, .int .i64 h1])] : List (Nat × TypeId × Array Value))) (by kernel_rfl) hS0 (fun hHeld => ?_)
   obtain ⟨W4, hW⟩ : ∃ W', W3.drew = W' := ⟨_, rfl⟩
   rw [hW] at HEd HKd hHeld ⊢
   clear hW hS0 HE3 HK3
   refine tK 43 (i := 0) (v := .pointer (some ⟨M, 1, none⟩)) rfl rfl (by kernel_rfl) ?_ hHeld ?_
   ·intro w hSw; clear hSw; go_simp; try with_reducible rfl
   simp only [uZ, uS]
   refine wpAnyH_take (i := 1) (v := ?_) rfl (by kernel_rfl) (by kernel_rfl) (by kernel_rfl) (fun _ _ _ h => h) (Or.inl ⟨by kernel_rfl, ?_⟩) hHeld ?_
   rotate_left
   ·intro w hSw; have c1 := (hSw _ (.head _)).cell 1; rw [HM1.out] at c1; clear hSw; go_simp; try with_reducible rfl
   change wpAnyH _ _ _ _ _ _ _ (Act.put _ (some 44) _) _
   try simp only [Act.put, uA, uZ, uS]
   refine tK 45 (i := 2) (v := .agg #[.int .i64 id, .int .i64 al, .int .i64 ah, .slice A n c, .slice B mm d, .slice C l ee, .int .i64 t0, .int .i64 t1, .int .i64 u0, .int .i64 u1, .int .i64 v0, .int .i64 v1, .int .i64 h0, .int .i64 h1]) rfl rfl (by kernel_rfl) ?_ hHeld ?_
   ·intro w hSw; have hz := (hSw _ (.tail _ (.tail _ (.tail _ (.tail _ (.tail _ (.head _))))))); have c0 := hz.cell 0; have c1 := hz.cell 1; have c2 := hz.cell 2; have c3 := hz.cell 3; have c4 := hz.cell 4; have c5 := hz.cell 5; have c6 := hz.cell 6; have c7 := hz.cell 7; have c8 := hz.cell 8; have c9 := hz.cell 9; have c10 := hz.cell 10; have c11 := hz.cell 11; have c12 := hz.cell 12; have c13 := hz.cell 13; simp at c0 c1 c2 c3 c4 c5 c6 c7 c8 c9 c10 c11 c12 c13; clear hz hSw; go_simp; try with_reducible rfl
   simp only [uZ, uS]
   refine tK 46 (i := 3) (v := .agg #[.int .i64 fh, .int .i64 st, .int .i64 x0, .int .i64 x1, .int .i64 d0, .int .i64 d1]) rfl rfl (by kernel_rfl) ?_ hHeld ?_
   ·intro w hSw; have hz := (hSw _ (.tail _ (.tail _ (.tail _ (.tail _ (.head _)))))); have c0 := hz.cell 0; have c1 := hz.cell 1; have c2 := hz.cell 2; have c3 := hz.cell 3; have c4 := hz.cell 4; have c5 := hz.cell 5; simp at c0 c1 c2 c3 c4 c5; clear hz hSw; go_simp; try with_reducible rfl
   simp only [uZ, uS]
   refine tK 48 (i := 5) (v := rv a b) rfl rfl (by kernel_rfl) ?_ hHeld ?_
   ·intro w hSw; have hz := (hSw _ (.tail _ (.tail _ (.tail _ (.head _))))); have c0 := hz.cell 0; have c1 := hz.cell 1; simp at c0 c1; clear hz hSw; go_simp; try with_reducible rfl
   simp only [uZ, uS]
   refine tK 49 (i := 6) (v := rv e0 e1) rfl rfl (by kernel_rfl) ?_ hHeld ?_
   ·intro w hSw; have hz := (hSw _ (.tail _ (.tail _ (.head _)))); have c0 := hz.cell 0; have c1 := hz.cell 1; simp at c0 c1; clear hz hSw; go_simp; try with_reducible rfl
   simp only [uZ, uS]
   have HEq := HEd
   have HKq := HKd
   clear HEd HKd
   rename World => yq
   refine wpAnyH_ready (rs := [4, 8, 9]) (by kernel_rfl) (by simp) ?_
   refine AllReadyH.cons rfl (fun K hK => ?_) (AllReadyH.cons rfl (fun K hK => ?_) (AllReadyH.cons rfl (fun K hK => ?_) AllReadyH.nil))
   all_goals
    go_simp
    first
    | (
     (with_reducible refine (C4.out _ HEq.out).mono ?_)
     rintro e yn ⟨rfl, hb⟩
     have HEr := Lib.hid (below_then HEq.out hb)
     have HKr := Lib.hid (HKq.out.on hb)
     have hS := hHeld.on hb
     clear hb
     refine hK.out _ _ hS (fun hHeld2 => ?_)
     try simp only [Act.put, uA, uZ, uS]
     clear hS hK K hHeld HEq HKq
     have hHeld := hHeld2
     clear hHeld2
     have HEq := HEr
     clear HEr
     have HKq := HKr
     clear HKr
     rename World => yq)
    | (
     (with_reducible refine (C5.out _).mono ?_)
     rintro e yn ⟨rfl, hb⟩
     have HEr := Lib.hid (below_then HEq.out hb)
     have HKr := Lib.hid (HKq.out.on hb)
     have hS := hHeld.on hb
     clear hb
     refine hK.out _ _ hS (fun hHeld2 => ?_)
     try simp only [Act.put, uA, uZ, uS]
     clear hS hK K hHeld HEq HKq
     have hHeld := hHeld2
     clear hHeld2
     have HEq := HEr
     clear HEr
     have HKq := HKr
     clear HKr
     rename World => yq)
    | (
     have hNA := NA
     have HEr := Lib.hid (below_then HEq.out (below_alloc1 yq (.cells #[.int .i64 0, .int .i64 0] 35)))
     have HKr := Lib.hid (HKq.out.new 35 #[.int .i64 0, .int .i64 0])
     have hS := hHeld.on (below_alloc1 yq (.cells #[.int .i64 0, .int .i64 0] 35))
     have HDB := Lib.hid (boxes_lt HKq.out)
     have HZB := Lib.hid HEq.out.size
     refine hK.out _ _ hS (fun hHeld2 => ?_)
     try simp only [Act.put, uA, uZ, uS]
     clear hS hK K hHeld HEq HKq
     have hHeld := hHeld2
     clear hHeld2
     have HEq := HEr
     clear HEr
     have HKq := HKr
     clear HKr
     clear hNA
     obtain ⟨y2, hW⟩ : ∃ W', yq.alloc (.cells #[.int .i64 0, .int .i64 0] 35) = W' := ⟨_, rfl⟩
     rw [hW] at HEq HKq hHeld ⊢
     clear hW
     obtain ⟨NB, hN⟩ : ∃ N, yq.heap.size = N := ⟨_, rfl⟩
     rw [hN] at HKq HDB HZB ⊢
     clear hN
     rename World => yq)
    | (
     have HEr := Lib.hid (below_then HEq.out (below_alloc1 yq (.cells #[.int .i64 0, .int .i64 0] 35)))
     have HKr := Lib.hid (HKq.out.new 35 #[.int .i64 0, .int .i64 0])
     have hS := hHeld.on (below_alloc1 yq (.cells #[.int .i64 0, .int .i64 0] 35))
     have HDA := Lib.hid (boxes_lt HKq.out)
     have HZA := Lib.hid HEq.out.size
     refine hK.out _ _ hS (fun hHeld2 => ?_)
     try simp only [Act.put, uA, uZ, uS]
     clear hS hK K hHeld HEq HKq
     have hHeld := hHeld2
     clear hHeld2
     have HEq := HEr
     clear HEr
     have HKq := HKr
     clear HKr
     obtain ⟨y2, hW⟩ : ∃ W', yq.alloc (.cells #[.int .i64 0, .int .i64 0] 35) = W' := ⟨_, rfl⟩
     rw [hW] at HEq HKq hHeld ⊢
     clear hW
     obtain ⟨NA, hN⟩ : ∃ N, yq.heap.size = N := ⟨_, rfl⟩
     rw [hN] at HKq HDA HZA ⊢
     clear hN
     rename World => yq)
   refine wpAnyH_ready (rs := [7, 8, 9]) (by kernel_rfl) (by simp) ?_
   refine AllReadyH.cons rfl (fun K hK => ?_) (AllReadyH.cons rfl (fun K hK => ?_) (AllReadyH.cons rfl (fun K hK => ?_) AllReadyH.nil))
   rotate_left 3
   refine wpAnyH_ready (rs := [4, 9]) (by kernel_rfl) (by simp) ?_
   refine AllReadyH.cons rfl (fun K hK => ?_) (AllReadyH.cons rfl (fun K hK => ?_) AllReadyH.nil)
   rotate_left 2
   refine wpAnyH_ready (rs := [4, 8]) (by kernel_rfl) (by simp) ?_
   refine AllReadyH.cons rfl (fun K hK => ?_) (AllReadyH.cons rfl (fun K hK => ?_) AllReadyH.nil)
   rotate_left 2
   all_goals
    go_simp
    first
    | (
     (with_reducible refine (C4.out _ HEq.out).mono ?_)
     rintro e yn ⟨rfl, hb⟩
     have HEr := Lib.hid (below_then HEq.out hb)
     have HKr := Lib.hid (HKq.out.on hb)
     have hS := hHeld.on hb
     clear hb
     refine hK.out _ _ hS (fun hHeld2 => ?_)
     try simp only [Act.put, uA, uZ, uS]
     clear hS hK K hHeld HEq HKq
     have hHeld := hHeld2
     clear hHeld2
     have HEq := HEr
     clear HEr
     have HKq := HKr
     clear HKr
     rename World => yq)
    | (
     (with_reducible refine (C5.out _).mono ?_)
     rintro e yn ⟨rfl, hb⟩
     have HEr := Lib.hid (below_then HEq.out hb)
     have HKr := Lib.hid (HKq.out.on hb)
     have hS := hHeld.on hb
     clear hb
     refine hK.out _ _ hS (fun hHeld2 => ?_)
     try simp only [Act.put, uA, uZ, uS]
     clear hS hK K hHeld HEq HKq
     have hHeld := hHeld2
     clear hHeld2
     have HEq := HEr
     clear HEr
     have HKq := HKr
     clear HKr
     rename World => yq)
    | (
     have hNA := NA
     have HEr := Lib.hid (below_then HEq.out (below_alloc1 yq (.cells #[.int .i64 0, .int .i64 0] 35)))
     have HKr := Lib.hid (HKq.out.new 35 #[.int .i64 0, .int .i64 0])
     have hS := hHeld.on (below_alloc1 yq (.cells #[.int .i64 0, .int .i64 0] 35))
     have HDB := Lib.hid (boxes_lt HKq.out)
     have HZB := Lib.hid HEq.out.size
     refine hK.out _ _ hS (fun hHeld2 => ?_)
     try simp only [Act.put, uA, uZ, uS]
     clear hS hK K hHeld HEq HKq
     have hHeld := hHeld2
     clear hHeld2
     have HEq := HEr
     clear HEr
     have HKq := HKr
     clear HKr
     clear hNA
     obtain ⟨y2, hW⟩ : ∃ W', yq.alloc (.cells #[.int .i64 0, .int .i64 0] 35) = W' := ⟨_, rfl⟩
     rw [hW] at HEq HKq hHeld ⊢
     clear hW
     obtain ⟨NB, hN⟩ : ∃ N, yq.heap.size = N := ⟨_, rfl⟩
     rw [hN] at HKq HDB HZB ⊢
     clear hN
     rename World => yq)
    | (
     have HEr := Lib.hid (below_then HEq.out (below_alloc1 yq (.cells #[.int .i64 0, .int .i64 0] 35)))
     have HKr := Lib.hid (HKq.out.new 35 #[.int .i64 0, .int .i64 0])
     have hS := hHeld.on (below_alloc1 yq (.cells #[.int .i64 0, .int .i64 0] 35))
     have HDA := Lib.hid (boxes_lt HKq.out)
     have HZA := Lib.hid HEq.out.size
     refine hK.out _ _ hS (fun hHeld2 => ?_)
     try simp only [Act.put, uA, uZ, uS]
     clear hS hK K hHeld HEq HKq
     have hHeld := hHeld2
     clear hHeld2
     have HEq := HEr
     clear HEr
     have HKq := HKr
     clear HKr
     obtain ⟨y2, hW⟩ : ∃ W', yq.alloc (.cells #[.int .i64 0, .int .i64 0] 35) = W' := ⟨_, rfl⟩
     rw [hW] at HEq HKq hHeld ⊢
     clear hW
     obtain ⟨NA, hN⟩ : ∃ N, yq.heap.size = N := ⟨_, rfl⟩
     rw [hN] at HKq HDA HZA ⊢
     clear hN
     rename World => yq)
   refine wpAnyH_ready (rs := [8, 9]) (by kernel_rfl) (by simp) ?_
   refine AllReadyH.cons rfl (fun K hK => ?_) (AllReadyH.cons rfl (fun K hK => ?_) AllReadyH.nil)
   rotate_left 2
   refine wpAnyH_ready (rs := [7, 9]) (by kernel_rfl) (by simp) ?_
   refine AllReadyH.cons rfl (fun K hK => ?_) (AllReadyH.cons rfl (fun K hK => ?_) AllReadyH.nil)
   rotate_left 2
   refine wpAnyH_ready (rs := [7, 8]) (by kernel_rfl) (by simp) ?_
   refine AllReadyH.cons rfl (fun K hK => ?_) (AllReadyH.cons rfl (fun K hK => ?_) AllReadyH.nil)
   rotate_left 2
   refine wpAnyH_ready (rs := [7, 9]) (by kernel_rfl) (by simp) ?_
   refine AllReadyH.cons rfl (fun K hK => ?_) (AllReadyH.cons rfl (fun K hK => ?_) AllReadyH.nil)
   rotate_left 2
   refine wpAnyH_ready (rs := [4]) (by kernel_rfl) (by simp) ?_
   refine AllReadyH.cons rfl (fun K hK => ?_) AllReadyH.nil
   rotate_left 1
   refine wpAnyH_ready (rs := [7, 8]) (by kernel_rfl) (by simp) ?_
   refine AllReadyH.cons rfl (fun K hK => ?_) (AllReadyH.cons rfl (fun K hK => ?_) AllReadyH.nil)
   rotate_left 2
   refine wpAnyH_ready (rs := [4]) (by kernel_rfl) (by simp) ?_
   refine AllReadyH.cons rfl (fun K hK => ?_) AllReadyH.nil
   rotate_left 1
   all_goals
    go_simp
    first
    | (
     (with_reducible refine (C4.out _ HEq.out).mono ?_)
     rintro e yn ⟨rfl, hb⟩
     have HEr := Lib.hid (below_then HEq.out hb)
     have HKr := Lib.hid (HKq.out.on hb)
     have hS := hHeld.on hb
     clear hb
     refine hK.out _ _ hS (fun hHeld2 => ?_)
     try simp only [Act.put, uA, uZ, uS]
     clear hS hK K hHeld HEq HKq
     have hHeld := hHeld2
     clear hHeld2
     have HEq := HEr
     clear HEr
     have HKq := HKr
     clear HKr
     rename World => yq)
    | (
     (with_reducible refine (C5.out _).mono ?_)
     rintro e yn ⟨rfl, hb⟩
     have HEr := Lib.hid (below_then HEq.out hb)
     have HKr := Lib.hid (HKq.out.on hb)
     have hS := hHeld.on hb
     clear hb
     refine hK.out _ _ hS (fun hHeld2 => ?_)
     try simp only [Act.put, uA, uZ, uS]
     clear hS hK K hHeld HEq HKq
     have hHeld := hHeld2
     clear hHeld2
     have HEq := HEr
     clear HEr
     have HKq := HKr
     clear HKr
     rename World => yq)
    | (
     have hNA := NA
     have HEr := Lib.hid (below_then HEq.out (below_alloc1 yq (.cells #[.int .i64 0, .int .i64 0] 35)))
     have HKr := Lib.hid (HKq.out.new 35 #[.int .i64 0, .int .i64 0])
     have hS := hHeld.on (below_alloc1 yq (.cells #[.int .i64 0, .int .i64 0] 35))
     have HDB := Lib.hid (boxes_lt HKq.out)
     have HZB := Lib.hid HEq.out.size
     refine hK.out _ _ hS (fun hHeld2 => ?_)
     try simp only [Act.put, uA, uZ, uS]
     clear hS hK K hHeld HEq HKq
     have hHeld := hHeld2
     clear hHeld2
     have HEq := HEr
     clear HEr
     have HKq := HKr
     clear HKr
     clear hNA
     obtain ⟨y2, hW⟩ : ∃ W', yq.alloc (.cells #[.int .i64 0, .int .i64 0] 35) = W' := ⟨_, rfl⟩
     rw [hW] at HEq HKq hHeld ⊢
     clear hW
     obtain ⟨NB, hN⟩ : ∃ N, yq.heap.size = N := ⟨_, rfl⟩
     rw [hN] at HKq HDB HZB ⊢
     clear hN
     rename World => yq)
    | (
     have HEr := Lib.hid (below_then HEq.out (below_alloc1 yq (.cells #[.int .i64 0, .int .i64 0] 35)))
     have HKr := Lib.hid (HKq.out.new 35 #[.int .i64 0, .int .i64 0])
     have hS := hHeld.on (below_alloc1 yq (.cells #[.int .i64 0, .int .i64 0] 35))
     have HDA := Lib.hid (boxes_lt HKq.out)
     have HZA := Lib.hid HEq.out.size
     refine hK.out _ _ hS (fun hHeld2 => ?_)
     try simp only [Act.put, uA, uZ, uS]
     clear hS hK K hHeld HEq HKq
     have hHeld := hHeld2
     clear hHeld2
     have HEq := HEr
     clear HEr
     have HKq := HKr
     clear HKr
     obtain ⟨y2, hW⟩ : ∃ W', yq.alloc (.cells #[.int .i64 0, .int .i64 0] 35) = W' := ⟨_, rfl⟩
     rw [hW] at HEq HKq hHeld ⊢
     clear hW
     obtain ⟨NA, hN⟩ : ∃ N, yq.heap.size = N := ⟨_, rfl⟩
     rw [hN] at HKq HDA HZA ⊢
     clear hN
     rename World => yq)
   refine wpAnyH_ready (rs := [9]) (by kernel_rfl) (by simp) ?_
   refine AllReadyH.cons rfl (fun K hK => ?_) AllReadyH.nil
   rotate_left 1
   refine wpAnyH_ready (rs := [8]) (by kernel_rfl) (by simp) ?_
   refine AllReadyH.cons rfl (fun K hK => ?_) AllReadyH.nil
   rotate_left 1
   refine wpAnyH_ready (rs := [9]) (by kernel_rfl) (by simp) ?_
   refine AllReadyH.cons rfl (fun K hK => ?_) AllReadyH.nil
   rotate_left 1
   refine wpAnyH_ready (rs := [7]) (by kernel_rfl) (by simp) ?_
   refine AllReadyH.cons rfl (fun K hK => ?_) AllReadyH.nil
   rotate_left 1
   refine wpAnyH_ready (rs := [8]) (by kernel_rfl) (by simp) ?_
   refine AllReadyH.cons rfl (fun K hK => ?_) AllReadyH.nil
   rotate_left 1
   refine wpAnyH_ready (rs := [7]) (by kernel_rfl) (by simp) ?_
   refine AllReadyH.cons rfl (fun K hK => ?_) AllReadyH.nil
   rotate_left 1
   refine wpAnyH_ready (rs := [9]) (by kernel_rfl) (by simp) ?_
   refine AllReadyH.cons rfl (fun K hK => ?_) AllReadyH.nil
   rotate_left 1
   refine wpAnyH_ready (rs := [7]) (by kernel_rfl) (by simp) ?_
   refine AllReadyH.cons rfl (fun K hK => ?_) AllReadyH.nil
   rotate_left 1
   refine wpAnyH_ready (rs := [7]) (by kernel_rfl) (by simp) ?_
   refine AllReadyH.cons rfl (fun K hK => ?_) AllReadyH.nil
   rotate_left 1
   refine wpAnyH_ready (rs := [8]) (by kernel_rfl) (by simp) ?_
   refine AllReadyH.cons rfl (fun K hK => ?_) AllReadyH.nil
   rotate_left 1
   refine wpAnyH_ready (rs := [7]) (by kernel_rfl) (by simp) ?_
   refine AllReadyH.cons rfl (fun K hK => ?_) AllReadyH.nil
   rotate_left 1
   refine wpAnyH_ready (rs := [7]) (by kernel_rfl) (by simp) ?_
   refine AllReadyH.cons rfl (fun K hK => ?_) AllReadyH.nil
   rotate_left 1
   all_goals
    go_simp
    first
    | (
     (with_reducible refine (C4.out _ HEq.out).mono ?_)
     rintro e yn ⟨rfl, hb⟩
     have HEr := Lib.hid (below_then HEq.out hb)
     have HKr := Lib.hid (HKq.out.on hb)
     have hS := hHeld.on hb
     clear hb
     refine hK.out _ _ hS (fun hHeld2 => ?_)
     try simp only [Act.put, uA, uZ, uS]
     clear hS hK K hHeld HEq HKq
     have hHeld := hHeld2
     clear hHeld2
     have HEq := HEr
     clear HEr
     have HKq := HKr
     clear HKr
     rename World => yq)
    | (
     (with_reducible refine (C5.out _).mono ?_)
     rintro e yn ⟨rfl, hb⟩
     have HEr := Lib.hid (below_then HEq.out hb)
     have HKr := Lib.hid (HKq.out.on hb)
     have hS := hHeld.on hb
     clear hb
     refine hK.out _ _ hS (fun hHeld2 => ?_)
     try simp only [Act.put, uA, uZ, uS]
     clear hS hK K hHeld HEq HKq
     have hHeld := hHeld2
     clear hHeld2
     have HEq := HEr
     clear HEr
     have HKq := HKr
     clear HKr
     rename World => yq)
    | (
     have hNA := NA
     have HEr := Lib.hid (below_then HEq.out (below_alloc1 yq (.cells #[.int .i64 0, .int .i64 0] 35)))
     have HKr := Lib.hid (HKq.out.new 35 #[.int .i64 0, .int .i64 0])
     have hS := hHeld.on (below_alloc1 yq (.cells #[.int .i64 0, .int .i64 0] 35))
     have HDB := Lib.hid (boxes_lt HKq.out)
     have HZB := Lib.hid HEq.out.size
     refine hK.out _ _ hS (fun hHeld2 => ?_)
     try simp only [Act.put, uA, uZ, uS]
     clear hS hK K hHeld HEq HKq
     have hHeld := hHeld2
     clear hHeld2
     have HEq := HEr
     clear HEr
     have HKq := HKr
     clear HKr
     clear hNA
     obtain ⟨y2, hW⟩ : ∃ W', yq.alloc (.cells #[.int .i64 0, .int .i64 0] 35) = W' := ⟨_, rfl⟩
     rw [hW] at HEq HKq hHeld ⊢
     clear hW
     obtain ⟨NB, hN⟩ : ∃ N, yq.heap.size = N := ⟨_, rfl⟩
     rw [hN] at HKq HDB HZB ⊢
     clear hN
     rename World => yq)
    | (
     have HEr := Lib.hid (below_then HEq.out (below_alloc1 yq (.cells #[.int .i64 0, .int .i64 0] 35)))
     have HKr := Lib.hid (HKq.out.new 35 #[.int .i64 0, .int .i64 0])
     have hS := hHeld.on (below_alloc1 yq (.cells #[.int .i64 0, .int .i64 0] 35))
     have HDA := Lib.hid (boxes_lt HKq.out)
     have HZA := Lib.hid HEq.out.size
     refine hK.out _ _ hS (fun hHeld2 => ?_)
     try simp only [Act.put, uA, uZ, uS]
     clear hS hK K hHeld HEq HKq
     have hHeld := hHeld2
     clear hHeld2
     have HEq := HEr
     clear HEr
     have HKq := HKr
     clear HKr
     obtain ⟨y2, hW⟩ : ∃ W', yq.alloc (.cells #[.int .i64 0, .int .i64 0] 35) = W' := ⟨_, rfl⟩
     rw [hW] at HEq HKq hHeld ⊢
     clear hW
     obtain ⟨NA, hN⟩ : ∃ N, yq.heap.size = N := ⟨_, rfl⟩
     rw [hN] at HKq HDA HZA ⊢
     clear hN
     rename World => yq)
   all_goals
    first
    | (
     refine wpAnyH_ready (rs := [10]) (by kernel_rfl) (by simp) ?_
     refine AllReadyH.cons rfl (fun K hK => ?_) AllReadyH.nil
     rw [if_pos (by kernel_rfl)]
     have ne1 : ∀ zz ∈ ((NB, 35, #[.int .i64 0, .int .i64 0]) :: ((M, 99, ML) :: [(G + 1 + 1 + 1 + 1, 43, #[.int .i64 0, .int .i64 0, .int .i64 0, .int .i64 0, .int .i64 0, .int .i64 0]), (G + 1 + 1 + 1, 35, #[.int .i64 e0, .int .i64 e1]), (G + 1 + 1, 35, #[.int .i64 a, .int .i64 b]), (G + 1, 43, #[.int .i64 fh, .int .i64 st, .int .i64 x0, .int .i64 x1, .int .i64 d0, .int .i64 d1]), (G, 40, #[.int .i64 id, .int .i64 al, .int .i64 ah, .slice A n c, .slice B mm d, .slice C l ee, .int .i64 t0, .int .i64 t1, .int .i64 u0, .int .i64 u1, .int .i64 v0, .int .i64 v1, .int .i64 h0, .int .i64 h1])] : List (Nat × TypeId × Array Value)) : List (Nat × TypeId × Array Value)), zz.1 ≠ NA := fun x hx => (List.mem_cons.1 hx).elim (fun e => by rw [e]; have q := HDB.out _ (.head _); exact fun z => q z.symm) (fun h => HDA.out x h)
     have HK1 : Hid (Boxes (yq.setRow NA #[.int .i64 p, .int .i64 q]) ((NA, 35, #[.int .i64 p, .int .i64 q]) :: (NB, 35, #[.int .i64 0, .int .i64 0]) :: ((M, 99, ML) :: [(G + 1 + 1 + 1 + 1, 43, #[.int .i64 0, .int .i64 0, .int .i64 0, .int .i64 0, .int .i64 0, .int .i64 0]), (G + 1 + 1 + 1, 35, #[.int .i64 e0, .int .i64 e1]), (G + 1 + 1, 35, #[.int .i64 a, .int .i64 b]), (G + 1, 43, #[.int .i64 fh, .int .i64 st, .int .i64 x0, .int .i64 x1, .int .i64 d0, .int .i64 d1]), (G, 40, #[.int .i64 id, .int .i64 al, .int .i64 ah, .slice A n c, .slice B mm d, .slice C l ee, .int .i64 t0, .int .i64 t1, .int .i64 u0, .int .i64 u1, .int .i64 v0, .int .i64 v1, .int .i64 h0, .int .i64 h1])] : List (Nat × TypeId × Array Value)))) := Lib.hid (Boxes.row HKq.out (.tail _ (.head _)) (fun p hp => ⟨(by rcases List.mem_cons.1 hp with rfl | hp; exact .head _; exact .tail _ (.tail _ hp)), ne1 p hp⟩) #[.int .i64 p, .int .i64 q])
     have HE1 := Lib.hid (below_setRow HEq.out (show w.heap.size ≤ NA from HZA.out) #[.int .i64 p, .int .i64 q])
     have hS := hHeld.farRow (g := NA) (fun p hp => ne1 p (.tail _ hp)) #[.int .i64 p, .int .i64 q]
     refine wp_store_row 35 (.tmp 13) (.tmp 47) rfl NA #[.int .i64 p, .int .i64 q] rfl rfl 35 _ (HKq.out _ (.tail _ (.head _))) (by kernel_rfl) rfl (by kernel_rfl) ?_
     obtain ⟨y1, hW⟩ : ∃ W', yq.setRow NA #[.int .i64 p, .int .i64 q] = W' := ⟨_, rfl⟩
     rw [hW] at HE1 HK1 hS ⊢
     refine hK.out _ _ hS (fun hHeld2 => ?_)
     try simp only [Act.put, uA, uZ, uS]
     clear hW hS hK K hHeld ne1 HEq HKq
     have hHeld := hHeld2
     clear hHeld2
     refine wpAnyH_ready (rs := [11]) (by kernel_rfl) (by simp) ?_
     refine AllReadyH.cons rfl (fun K hK => ?_) AllReadyH.nil
     rw [if_pos (by kernel_rfl)]
     have ne2 : ∀ zz ∈ ((NA, 35, #[.int .i64 p, .int .i64 q]) :: ((M, 99, ML) :: [(G + 1 + 1 + 1 + 1, 43, #[.int .i64 0, .int .i64 0, .int .i64 0, .int .i64 0, .int .i64 0, .int .i64 0]), (G + 1 + 1 + 1, 35, #[.int .i64 e0, .int .i64 e1]), (G + 1 + 1, 35, #[.int .i64 a, .int .i64 b]), (G + 1, 43, #[.int .i64 fh, .int .i64 st, .int .i64 x0, .int .i64 x1, .int .i64 d0, .int .i64 d1]), (G, 40, #[.int .i64 id, .int .i64 al, .int .i64 ah, .slice A n c, .slice B mm d, .slice C l ee, .int .i64 t0, .int .i64 t1, .int .i64 u0, .int .i64 u1, .int .i64 v0, .int .i64 v1, .int .i64 h0, .int .i64 h1])] : List (Nat × TypeId × Array Value)) : List (Nat × TypeId × Array Value)), zz.1 ≠ NB := fun x hx => (List.mem_cons.1 hx).elim (fun e => by rw [e]; have q := HDB.out _ (.head _); exact q) (fun h => HDB.out x (.tail _ h))
     have HK2 : Hid (Boxes (y1.setRow NB #[.int .i64 r, .int .i64 s]) ((NB, 35, #[.int .i64 r, .int .i64 s]) :: (NA, 35, #[.int .i64 p, .int .i64 q]) :: ((M, 99, ML) :: [(G + 1 + 1 + 1 + 1, 43, #[.int .i64 0, .int .i64 0, .int .i64 0, .int .i64 0, .int .i64 0, .int .i64 0]), (G + 1 + 1 + 1, 35, #[.int .i64 e0, .int .i64 e1]), (G + 1 + 1, 35, #[.int .i64 a, .int .i64 b]), (G + 1, 43, #[.int .i64 fh, .int .i64 st, .int .i64 x0, .int .i64 x1, .int .i64 d0, .int .i64 d1]), (G, 40, #[.int .i64 id, .int .i64 al, .int .i64 ah, .slice A n c, .slice B mm d, .slice C l ee, .int .i64 t0, .int .i64 t1, .int .i64 u0, .int .i64 u1, .int .i64 v0, .int .i64 v1, .int .i64 h0, .int .i64 h1])] : List (Nat × TypeId × Array Value)))) := Lib.hid (Boxes.row HK1.out (.tail _ (.head _)) (fun p hp => ⟨(by rcases List.mem_cons.1 hp with rfl | hp; exact .head _; exact .tail _ (.tail _ hp)), ne2 p hp⟩) #[.int .i64 r, .int .i64 s])
     have HE2 := Lib.hid (below_setRow HE1.out (show w.heap.size ≤ NB from HZB.out) #[.int .i64 r, .int .i64 s])
     have hS := hHeld.farRow (g := NB) (fun p hp => ne2 p (.tail _ hp)) #[.int .i64 r, .int .i64 s]
     refine wp_store_row 35 (.tmp 14) (.tmp 50) rfl NB #[.int .i64 r, .int .i64 s] rfl rfl 35 _ (HK1.out _ (.tail _ (.head _))) (by kernel_rfl) rfl (by kernel_rfl) ?_
     obtain ⟨y2, hW⟩ : ∃ W', y1.setRow NB #[.int .i64 r, .int .i64 s] = W' := ⟨_, rfl⟩
     rw [hW] at HE2 HK2 hS ⊢
     refine hK.out _ _ hS (fun hHeld2 => ?_)
     try simp only [Act.put, uA, uZ, uS]
     clear hW hS hK K hHeld ne2 HE1 HK1
     have hHeld := hHeld2
     clear hHeld2
     refine wpAnyH_done (by kernel_rfl) ?_ _
     go_wp2_with fail
     go_meet
     exact ⟨NA, NB, rfl, rfl, HK2.out, HE2.out, HDA.out (_, _, _) (.tail _ (.head _)), HDB.out (_, _, _) (.tail _ (.tail _ (.head _)))⟩)
    | (
     refine wpAnyH_ready (rs := [10]) (by kernel_rfl) (by simp) ?_
     refine AllReadyH.cons rfl (fun K hK => ?_) AllReadyH.nil
     rw [if_pos (by kernel_rfl)]
     have ne3 : ∀ zz ∈ ((NA, 35, #[.int .i64 0, .int .i64 0]) :: ((M, 99, ML) :: [(G + 1 + 1 + 1 + 1, 43, #[.int .i64 0, .int .i64 0, .int .i64 0, .int .i64 0, .int .i64 0, .int .i64 0]), (G + 1 + 1 + 1, 35, #[.int .i64 e0, .int .i64 e1]), (G + 1 + 1, 35, #[.int .i64 a, .int .i64 b]), (G + 1, 43, #[.int .i64 fh, .int .i64 st, .int .i64 x0, .int .i64 x1, .int .i64 d0, .int .i64 d1]), (G, 40, #[.int .i64 id, .int .i64 al, .int .i64 ah, .slice A n c, .slice B mm d, .slice C l ee, .int .i64 t0, .int .i64 t1, .int .i64 u0, .int .i64 u1, .int .i64 v0, .int .i64 v1, .int .i64 h0, .int .i64 h1])] : List (Nat × TypeId × Array Value)) : List (Nat × TypeId × Array Value)), zz.1 ≠ NB := fun x hx => (List.mem_cons.1 hx).elim (fun e => by rw [e]; have q := HDB.out _ (.head _); exact q) (fun h => HDB.out x (.tail _ h))
     have HK3 : Hid (Boxes (yq.setRow NB #[.int .i64 p, .int .i64 q]) ((NB, 35, #[.int .i64 p, .int .i64 q]) :: (NA, 35, #[.int .i64 0, .int .i64 0]) :: ((M, 99, ML) :: [(G + 1 + 1 + 1 + 1, 43, #[.int .i64 0, .int .i64 0, .int .i64 0, .int .i64 0, .int .i64 0, .int .i64 0]), (G + 1 + 1 + 1, 35, #[.int .i64 e0, .int .i64 e1]), (G + 1 + 1, 35, #[.int .i64 a, .int .i64 b]), (G + 1, 43, #[.int .i64 fh, .int .i64 st, .int .i64 x0, .int .i64 x1, .int .i64 d0, .int .i64 d1]), (G, 40, #[.int .i64 id, .int .i64 al, .int .i64 ah, .slice A n c, .slice B mm d, .slice C l ee, .int .i64 t0, .int .i64 t1, .int .i64 u0, .int .i64 u1, .int .i64 v0, .int .i64 v1, .int .i64 h0, .int .i64 h1])] : List (Nat × TypeId × Array Value)))) := Lib.hid (Boxes.row HKq.out (.head _) (fun p hp => ⟨.tail _ hp, ne3 p hp⟩) #[.int .i64 p, .int .i64 q])
     have HE3 := Lib.hid (below_setRow HEq.out (show w.heap.size ≤ NB from HZB.out) #[.int .i64 p, .int .i64 q])
     have hS := hHeld.farRow (g := NB) (fun p hp => ne3 p (.tail _ hp)) #[.int .i64 p, .int .i64 q]
     refine wp_store_row 35 (.tmp 13) (.tmp 47) rfl NB #[.int .i64 p, .int .i64 q] rfl rfl 35 _ (HKq.out _ (.head _)) (by kernel_rfl) rfl (by kernel_rfl) ?_
     obtain ⟨y3, hW⟩ : ∃ W', yq.setRow NB #[.int .i64 p, .int .i64 q] = W' := ⟨_, rfl⟩
     rw [hW] at HE3 HK3 hS ⊢
     refine hK.out _ _ hS (fun hHeld2 => ?_)
     try simp only [Act.put, uA, uZ, uS]
     clear hW hS hK K hHeld ne3 HEq HKq
     have hHeld := hHeld2
     clear hHeld2
     refine wpAnyH_ready (rs := [11]) (by kernel_rfl) (by simp) ?_
     refine AllReadyH.cons rfl (fun K hK => ?_) AllReadyH.nil
     rw [if_pos (by kernel_rfl)]
     have ne4 : ∀ zz ∈ ((NB, 35, #[.int .i64 p, .int .i64 q]) :: ((M, 99, ML) :: [(G + 1 + 1 + 1 + 1, 43, #[.int .i64 0, .int .i64 0, .int .i64 0, .int .i64 0, .int .i64 0, .int .i64 0]), (G + 1 + 1 + 1, 35, #[.int .i64 e0, .int .i64 e1]), (G + 1 + 1, 35, #[.int .i64 a, .int .i64 b]), (G + 1, 43, #[.int .i64 fh, .int .i64 st, .int .i64 x0, .int .i64 x1, .int .i64 d0, .int .i64 d1]), (G, 40, #[.int .i64 id, .int .i64 al, .int .i64 ah, .slice A n c, .slice B mm d, .slice C l ee, .int .i64 t0, .int .i64 t1, .int .i64 u0, .int .i64 u1, .int .i64 v0, .int .i64 v1, .int .i64 h0, .int .i64 h1])] : List (Nat × TypeId × Array Value)) : List (Nat × TypeId × Array Value)), zz.1 ≠ NA := fun x hx => (List.mem_cons.1 hx).elim (fun e => by rw [e]; have q := HDB.out _ (.head _); exact fun z => q z.symm) (fun h => HDA.out x h)
     have HK4 : Hid (Boxes (y3.setRow NA #[.int .i64 r, .int .i64 s]) ((NA, 35, #[.int .i64 r, .int .i64 s]) :: (NB, 35, #[.int .i64 p, .int .i64 q]) :: ((M, 99, ML) :: [(G + 1 + 1 + 1 + 1, 43, #[.int .i64 0, .int .i64 0, .int .i64 0, .int .i64 0, .int .i64 0, .int .i64 0]), (G + 1 + 1 + 1, 35, #[.int .i64 e0, .int .i64 e1]), (G + 1 + 1, 35, #[.int .i64 a, .int .i64 b]), (G + 1, 43, #[.int .i64 fh, .int .i64 st, .int .i64 x0, .int .i64 x1, .int .i64 d0, .int .i64 d1]), (G, 40, #[.int .i64 id, .int .i64 al, .int .i64 ah, .slice A n c, .slice B mm d, .slice C l ee, .int .i64 t0, .int .i64 t1, .int .i64 u0, .int .i64 u1, .int .i64 v0, .int .i64 v1, .int .i64 h0, .int .i64 h1])] : List (Nat × TypeId × Array Value)))) := Lib.hid (Boxes.row HK3.out (.tail _ (.head _)) (fun p hp => ⟨(by rcases List.mem_cons.1 hp with rfl | hp; exact .head _; exact .tail _ (.tail _ hp)), ne4 p hp⟩) #[.int .i64 r, .int .i64 s])
     have HE4 := Lib.hid (below_setRow HE3.out (show w.heap.size ≤ NA from HZA.out) #[.int .i64 r, .int .i64 s])
     have hS := hHeld.farRow (g := NA) (fun p hp => ne4 p (.tail _ hp)) #[.int .i64 r, .int .i64 s]
     refine wp_store_row 35 (.tmp 14) (.tmp 50) rfl NA #[.int .i64 r, .int .i64 s] rfl rfl 35 _ (HK3.out _ (.tail _ (.head _))) (by kernel_rfl) rfl (by kernel_rfl) ?_
     obtain ⟨y4, hW⟩ : ∃ W', y3.setRow NA #[.int .i64 r, .int .i64 s] = W' := ⟨_, rfl⟩
     rw [hW] at HE4 HK4 hS ⊢
     refine hK.out _ _ hS (fun hHeld2 => ?_)
     try simp only [Act.put, uA, uZ, uS]
     clear hW hS hK K hHeld ne4 HE3 HK3
     have hHeld := hHeld2
     clear hHeld2
     refine wpAnyH_done (by kernel_rfl) ?_ _
     go_wp2_with fail
     go_meet
     exact ⟨NB, NA, rfl, rfl, HK4.out, HE4.out, HDB.out (_, _, _) (.tail _ (.tail _ (.head _))), HDA.out (_, _, _) (.tail _ (.head _))⟩)
 case rest =>
  obtain ⟨N1, N2, rfl, rfl, hB, hE, n1, n2⟩ := hcut
  have HE5 := Lib.hid hE
  have HK5 := Lib.hid hB
  have Hn1 := Lib.hid n1
  have Hn2 := Lib.hid n2
  clear hB hE n1 n2 HE3 HK3 C4 C5
  have ua := HK5.out _ (.tail _ (.head _))
  have ua0 := ua.cell 0
  have ua1 := ua.cell 1
  simp at ua0 ua1
  clear ua
  have za := HK5.out _ (.head _)
  have za0 := za.cell 0
  have za1 := za.cell 1
  simp at za0 za1
  clear za
  have HE6 := Lib.hid (below_then HE5.out (below_alloc1 wc (.cells #[.int .i64 v0', .int .i64 v1'] 35)))
  have HK6 := Lib.hid (HK5.out.new 35 #[.int .i64 v0', .int .i64 v1'])
  have HDV := Lib.hid (boxes_lt HK5.out)
  clear HE5 HK5
  go_upto_region 14 with fail
  obtain ⟨W6, hW6⟩ : ∃ W6, wc.alloc (.cells #[.int .i64 v0', .int .i64 v1'] 35) = W6 := ⟨_, rfl⟩
  rw [hW6] at HE6 HK6 ⊢
  clear hW6
  obtain ⟨V, hV⟩ : ∃ V, wc.heap.size = V := ⟨_, rfl⟩
  rw [hV] at HK6 HDV ⊢
  clear hV
  have HK6' : Hid (Boxes W6 ((V, 35, #[.int .i64 v0', .int .i64 v1']) :: ((M, 99, ML) :: [(G + 1 + 1 + 1 + 1, 43, #[.int .i64 0, .int .i64 0, .int .i64 0, .int .i64 0, .int .i64 0, .int .i64 0]), (G + 1 + 1 + 1, 35, #[.int .i64 e0, .int .i64 e1]), (G + 1 + 1, 35, #[.int .i64 a, .int .i64 b]), (G + 1, 43, #[.int .i64 fh, .int .i64 st, .int .i64 x0, .int .i64 x1, .int .i64 d0, .int .i64 d1]), (G, 40, #[.int .i64 id, .int .i64 al, .int .i64 ah, .slice A n c, .slice B mm d, .slice C l ee, .int .i64 t0, .int .i64 t1, .int .i64 u0, .int .i64 u1, .int .i64 v0, .int .i64 v1, .int .i64 h0, .int .i64 h1])] : List (Nat × TypeId × Array Value)) : List (Nat × TypeId × Array Value))) := Lib.hid (HK6.out.sub (fun x hx => (List.mem_cons.1 hx).elim (fun e => by rw [e]; exact .head _) (fun h => .tail _ (.tail _ (.tail _ h)))))
  have HV4 := Lib.hid (HDV.out (_, _, _) (.tail _ (.tail _ (.tail _ (.head _)))))
  clear HK6 HDV
  go_cut [16] (fun s16 wx => ∃ N3, s16 = .pointer (some ⟨N3, 0, none⟩) ∧ Boxes wx ((N3, 35, #[.int .i64 f0, .int .i64 uq]) :: ((V, 35, #[.int .i64 v0', .int .i64 v1']) :: ((M, 99, ML) :: [(G + 1 + 1 + 1 + 1, 43, #[.int .i64 0, .int .i64 0, .int .i64 0, .int .i64 0, .int .i64 0, .int .i64 0]), (G + 1 + 1 + 1, 35, #[.int .i64 e0, .int .i64 e1]), (G + 1 + 1, 35, #[.int .i64 a, .int .i64 b]), (G + 1, 43, #[.int .i64 fh, .int .i64 st, .int .i64 x0, .int .i64 x1, .int .i64 d0, .int .i64 d1]), (G, 40, #[.int .i64 id, .int .i64 al, .int .i64 ah, .slice A n c, .slice B mm d, .slice C l ee, .int .i64 t0, .int .i64 t1, .int .i64 u0, .int .i64 u1, .int .i64 v0, .int .i64 v1, .int .i64 h0, .int .i64 h1])] : List (Nat × TypeId × Array Value)) : List (Nat × TypeId × Array Value))) ∧ Below w.heap.size w wx ∧ G + 1 + 1 + 1 + 1 ≠ N3)
  case first =>
   rcases HKV.out with ⟨rfl, rfl⟩ | ⟨rfl, rfl⟩
   all_goals
    have hS0 : Boxes W6.drew ((V, 35, #[.int .i64 v0', .int .i64 v1']) :: ((M, 99, ML) :: [(G + 1 + 1 + 1 + 1, 43, #[.int .i64 0, .int .i64 0, .int .i64 0, .int .i64 0, .int .i64 0, .int .i64 0]), (G + 1 + 1 + 1, 35, #[.int .i64 e0, .int .i64 e1]), (G + 1 + 1, 35, #[.int .i64 a, .int .i64 b]), (G + 1, 43, #[.int .i64 fh, .int .i64 st, .int .i64 x0, .int .i64 x1, .int .i64 d0, .int .i64 d1]), (G, 40, #[.int .i64 id, .int .i64 al, .int .i64 ah, .slice A n c, .slice B mm d, .slice C l ee, .int .i64 t0, .int .i64 t1, .int .i64 u0, .int .i64 u1, .int .i64 v0, .int .i64 v1, .int .i64 h0, .int .i64 h1])] : List (Nat × TypeId × Array Value)) : List (Nat × TypeId × Array Value)) := HK6'.out
    have HEd := Lib.hid HE6.out.drew
    have HKd := Lib.hid hS0
    refine wp_region_held_drew (S := fun w' => Boxes w' ((V, 35, #[.int .i64 v0', .int .i64 v1']) :: ((M, 99, ML) :: [(G + 1 + 1 + 1 + 1, 43, #[.int .i64 0, .int .i64 0, .int .i64 0, .int .i64 0, .int .i64 0, .int .i64 0]), (G + 1 + 1 + 1, 35, #[.int .i64 e0, .int .i64 e1]), (G + 1 + 1, 35, #[.int .i64 a, .int .i64 b]), (G + 1, 43, #[.int .i64 fh, .int .i64 st, .int .i64 x0, .int .i64 x1, .int .i64 d0, .int .i64 d1]), (G, 40, #[.int .i64 id, .int .i64 al, .int .i64 ah, .slice A n c, .slice B mm d, .slice C l ee, .int .i64 t0, .int .i64 t1, .int .i64 u0, .int .i64 u1, .int .i64 v0, .int .i64 v1, .int .i64 h0, .int .i64 h1])] : List (Nat × TypeId × Array Value)) : List (Nat × TypeId × Array Value))) (by kernel_rfl) hS0 (fun hHeld => ?_)
    obtain ⟨W7, hW⟩ : ∃ W', W6.drew = W' := ⟨_, rfl⟩
    rw [hW] at HEd HKd hHeld ⊢
    clear hW hS0 HE6 HK6'
    refine tK 62 (i := 0) (v := .pointer (some ⟨G, 3, none⟩)) rfl rfl (by kernel_rfl) ?_ hHeld ?_
    ·intro w hSw; clear hSw; go_simp; try with_reducible rfl
    simp only [uZ, uS]
    refine tK 63 (i := 1) (v := tv A n c) rfl rfl (by kernel_rfl) ?_ hHeld ?_
    ·intro w hSw; have hz := (hSw _ (.tail _ (.tail _ (.tail _ (.tail _ (.tail _ (.tail _ (.head _)))))))); have c3 := hz.cell 3; simp at c3; clear hz hSw; go_simp; try with_reducible rfl
    simp only [uZ, uS]
    refine tK 66 (i := 4) (v := .pointer (some ⟨M, 4, none⟩)) rfl rfl (by kernel_rfl) ?_ hHeld ?_
    ·intro w hSw; clear hSw; go_simp; try with_reducible rfl
    simp only [uZ, uS]
    refine wpAnyH_take (i := 5) (v := ?_) rfl (by kernel_rfl) (by kernel_rfl) (by kernel_rfl) (fun _ _ _ h => h) (Or.inl ⟨by kernel_rfl, ?_⟩) hHeld ?_
    rotate_left
    ·intro w hSw; have c1 := (hSw _ (.tail _ (.head _))).cell 4; rw [HM4.out] at c1; clear hSw; go_simp; try with_reducible rfl
    change wpAnyH _ _ _ _ _ _ _ (Act.put _ (some 67) _) _
    try simp only [Act.put, uA, uZ, uS]
    refine tK 68 (i := 6) (v := .agg #[.int .i64 id, .int .i64 al, .int .i64 ah, .slice A n c, .slice B mm d, .slice C l ee, .int .i64 t0, .int .i64 t1, .int .i64 u0, .int .i64 u1, .int .i64 v0, .int .i64 v1, .int .i64 h0, .int .i64 h1]) rfl rfl (by kernel_rfl) ?_ hHeld ?_
    ·intro w hSw; have hz := (hSw _ (.tail _ (.tail _ (.tail _ (.tail _ (.tail _ (.tail _ (.head _)))))))); have c0 := hz.cell 0; have c1 := hz.cell 1; have c2 := hz.cell 2; have c3 := hz.cell 3; have c4 := hz.cell 4; have c5 := hz.cell 5; have c6 := hz.cell 6; have c7 := hz.cell 7; have c8 := hz.cell 8; have c9 := hz.cell 9; have c10 := hz.cell 10; have c11 := hz.cell 11; have c12 := hz.cell 12; have c13 := hz.cell 13; simp at c0 c1 c2 c3 c4 c5 c6 c7 c8 c9 c10 c11 c12 c13; clear hz hSw; go_simp; try with_reducible rfl
    simp only [uZ, uS]
    refine tK 69 (i := 7) (v := .agg #[.int .i64 fh, .int .i64 st, .int .i64 x0, .int .i64 x1, .int .i64 d0, .int .i64 d1]) rfl rfl (by kernel_rfl) ?_ hHeld ?_
    ·intro w hSw; have hz := (hSw _ (.tail _ (.tail _ (.tail _ (.tail _ (.tail _ (.head _))))))); have c0 := hz.cell 0; have c1 := hz.cell 1; have c2 := hz.cell 2; have c3 := hz.cell 3; have c4 := hz.cell 4; have c5 := hz.cell 5; simp at c0 c1 c2 c3 c4 c5; clear hz hSw; go_simp; try with_reducible rfl
    simp only [uZ, uS]
    have HEq := HEd
    have HKq := HKd
    clear HEd HKd
    rename World => yq
    refine wpAnyH_ready (rs := [2, 11]) (by kernel_rfl) (by simp) ?_
    refine AllReadyH.cons rfl (fun K hK => ?_) (AllReadyH.cons rfl (fun K hK => ?_) AllReadyH.nil)
    all_goals
     go_simp
     first
     | (
      (with_reducible refine (C6.out _ HEq.out).mono ?_)
      rintro e yn ⟨rfl, hb⟩
      have HEr := Lib.hid (below_then HEq.out hb)
      have HKr := Lib.hid (HKq.out.on hb)
      have hS := hHeld.on hb
      clear hb
      refine hK.out _ _ hS (fun hHeld2 => ?_)
      try simp only [Act.put, uA, uZ, uS]
      clear hS hK K hHeld HEq HKq
      have hHeld := hHeld2
      clear hHeld2
      have HEq := HEr
      clear HEr
      have HKq := HKr
      clear HKr
      refine tK 65 (i := 3) (v := .int .i64 f0) rfl rfl (by kernel_rfl) ?_ hHeld ?_
      ·intro w hSw; clear hSw; go_simp; try with_reducible rfl
      simp only [uZ, uS]
      rename World => yq)
     | (
      (with_reducible refine (C7.out _ HEq.out).mono ?_)
      rintro e yn ⟨rfl, hb⟩
      have HEr := Lib.hid (below_then HEq.out hb)
      have HKr := Lib.hid (HKq.out.on hb)
      have hS := hHeld.on hb
      clear hb
      refine hK.out _ _ hS (fun hHeld2 => ?_)
      try simp only [Act.put, uA, uZ, uS]
      clear hS hK K hHeld HEq HKq
      have hHeld := hHeld2
      clear hHeld2
      have HEq := HEr
      clear HEr
      have HKq := HKr
      clear HKr
      refine tK 71 (i := 9) (v := .int .i64 uq) rfl rfl (by kernel_rfl) ?_ hHeld ?_
      ·intro w hSw; clear hSw; go_simp; try with_reducible rfl
      simp only [uZ, uS]
      refine tK 72 (i := 10) (v := rv f0 uq) rfl rfl (by kernel_rfl) ?_ hHeld ?_
      ·intro w hSw; clear hSw; go_simp; try with_reducible rfl
      simp only [uZ, uS]
      rename World => yq)
     | (
      have HEr := Lib.hid (below_then HEq.out (below_alloc1 yq (.cells #[.int .i64 0, .int .i64 0] 35)))
      have HKr := Lib.hid (HKq.out.new 35 #[.int .i64 0, .int .i64 0])
      have hS := hHeld.on (below_alloc1 yq (.cells #[.int .i64 0, .int .i64 0] 35))
      have HDA := Lib.hid (boxes_lt HKq.out)
      have HZA := Lib.hid HEq.out.size
      refine hK.out _ _ hS (fun hHeld2 => ?_)
      try simp only [Act.put, uA, uZ, uS]
      clear hS hK K hHeld HEq HKq
      have hHeld := hHeld2
      clear hHeld2
      have HEq := HEr
      clear HEr
      have HKq := HKr
      clear HKr
      obtain ⟨y2, hW⟩ : ∃ W', yq.alloc (.cells #[.int .i64 0, .int .i64 0] 35) = W' := ⟨_, rfl⟩
      rw [hW] at HEq HKq hHeld ⊢
      clear hW
      obtain ⟨NA, hN⟩ : ∃ N, yq.heap.size = N := ⟨_, rfl⟩
      rw [hN] at HKq HDA HZA ⊢
      clear hN
      rename World => yq)
    refine wpAnyH_ready (rs := [8, 11]) (by kernel_rfl) (by simp) ?_
    refine AllReadyH.cons rfl (fun K hK => ?_) (AllReadyH.cons rfl (fun K hK => ?_) AllReadyH.nil)
    rotate_left 2
    refine wpAnyH_ready (rs := [2]) (by kernel_rfl) (by simp) ?_
    refine AllReadyH.cons rfl (fun K hK => ?_) AllReadyH.nil
    rotate_left 1
    all_goals
     go_simp
     first
     | (
      (with_reducible refine (C6.out _ HEq.out).mono ?_)
      rintro e yn ⟨rfl, hb⟩
      have HEr := Lib.hid (below_then HEq.out hb)
      have HKr := Lib.hid (HKq.out.on hb)
      have hS := hHeld.on hb
      clear hb
      refine hK.out _ _ hS (fun hHeld2 => ?_)
      try simp only [Act.put, uA, uZ, uS]
      clear hS hK K hHeld HEq HKq
      have hHeld := hHeld2
      clear hHeld2
      have HEq := HEr
      clear HEr
      have HKq := HKr
      clear HKr
      refine tK 65 (i := 3) (v := .int .i64 f0) rfl rfl (by kernel_rfl) ?_ hHeld ?_
      ·intro w hSw; clear hSw; go_simp; try with_reducible rfl
      simp only [uZ, uS]
      rename World => yq)
     | (
      (with_reducible refine (C7.out _ HEq.out).mono ?_)
      rintro e yn ⟨rfl, hb⟩
      have HEr := Lib.hid (below_then HEq.out hb)
      have HKr := Lib.hid (HKq.out.on hb)
      have hS := hHeld.on hb
      clear hb
      refine hK.out _ _ hS (fun hHeld2 => ?_)
      try simp only [Act.put, uA, uZ, uS]
      clear hS hK K hHeld HEq HKq
      have hHeld := hHeld2
      clear hHeld2
      have HEq := HEr
      clear HEr
      have HKq := HKr
      clear HKr
      refine tK 71 (i := 9) (v := .int .i64 uq) rfl rfl (by kernel_rfl) ?_ hHeld ?_
      ·intro w hSw; clear hSw; go_simp; try with_reducible rfl
      simp only [uZ, uS]
      refine tK 72 (i := 10) (v := rv f0 uq) rfl rfl (by kernel_rfl) ?_ hHeld ?_
      ·intro w hSw; clear hSw; go_simp; try with_reducible rfl
      simp only [uZ, uS]
      rename World => yq)
     | (
      have HEr := Lib.hid (below_then HEq.out (below_alloc1 yq (.cells #[.int .i64 0, .int .i64 0] 35)))
      have HKr := Lib.hid (HKq.out.new 35 #[.int .i64 0, .int .i64 0])
      have hS := hHeld.on (below_alloc1 yq (.cells #[.int .i64 0, .int .i64 0] 35))
      have HDA := Lib.hid (boxes_lt HKq.out)
      have HZA := Lib.hid HEq.out.size
      refine hK.out _ _ hS (fun hHeld2 => ?_)
      try simp only [Act.put, uA, uZ, uS]
      clear hS hK K hHeld HEq HKq
      have hHeld := hHeld2
      clear hHeld2
      have HEq := HEr
      clear HEr
      have HKq := HKr
      clear HKr
      obtain ⟨y2, hW⟩ : ∃ W', yq.alloc (.cells #[.int .i64 0, .int .i64 0] 35) = W' := ⟨_, rfl⟩
      rw [hW] at HEq HKq hHeld ⊢
      clear hW
      obtain ⟨NA, hN⟩ : ∃ N, yq.heap.size = N := ⟨_, rfl⟩
      rw [hN] at HKq HDA HZA ⊢
      clear hN
      rename World => yq)
    refine wpAnyH_ready (rs := [11]) (by kernel_rfl) (by simp) ?_
    refine AllReadyH.cons rfl (fun K hK => ?_) AllReadyH.nil
    rotate_left 1
    refine wpAnyH_ready (rs := [8]) (by kernel_rfl) (by simp) ?_
    refine AllReadyH.cons rfl (fun K hK => ?_) AllReadyH.nil
    rotate_left 1
    refine wpAnyH_ready (rs := [8]) (by kernel_rfl) (by simp) ?_
    refine AllReadyH.cons rfl (fun K hK => ?_) AllReadyH.nil
    rotate_left 1
    all_goals
     go_simp
     first
     | (
      (with_reducible refine (C6.out _ HEq.out).mono ?_)
      rintro e yn ⟨rfl, hb⟩
      have HEr := Lib.hid (below_then HEq.out hb)
      have HKr := Lib.hid (HKq.out.on hb)
      have hS := hHeld.on hb
      clear hb
      refine hK.out _ _ hS (fun hHeld2 => ?_)
      try simp only [Act.put, uA, uZ, uS]
      clear hS hK K hHeld HEq HKq
      have hHeld := hHeld2
      clear hHeld2
      have HEq := HEr
      clear HEr
      have HKq := HKr
      clear HKr
      refine tK 65 (i := 3) (v := .int .i64 f0) rfl rfl (by kernel_rfl) ?_ hHeld ?_
      ·intro w hSw; clear hSw; go_simp; try with_reducible rfl
      simp only [uZ, uS]
      rename World => yq)
     | (
      (with_reducible refine (C7.out _ HEq.out).mono ?_)
      rintro e yn ⟨rfl, hb⟩
      have HEr := Lib.hid (below_then HEq.out hb)
      have HKr := Lib.hid (HKq.out.on hb)
      have hS := hHeld.on hb
      clear hb
      refine hK.out _ _ hS (fun hHeld2 => ?_)
      try simp only [Act.put, uA, uZ, uS]
      clear hS hK K hHeld HEq HKq
      have hHeld := hHeld2
      clear hHeld2
      have HEq := HEr
      clear HEr
      have HKq := HKr
      clear HKr
      refine tK 71 (i := 9) (v := .int .i64 uq) rfl rfl (by kernel_rfl) ?_ hHeld ?_
      ·intro w hSw; clear hSw; go_simp; try with_reducible rfl
      simp only [uZ, uS]
      refine tK 72 (i := 10) (v := rv f0 uq) rfl rfl (by kernel_rfl) ?_ hHeld ?_
      ·intro w hSw; clear hSw; go_simp; try with_reducible rfl
      simp only [uZ, uS]
      rename World => yq)
     | (
      have HEr := Lib.hid (below_then HEq.out (below_alloc1 yq (.cells #[.int .i64 0, .int .i64 0] 35)))
      have HKr := Lib.hid (HKq.out.new 35 #[.int .i64 0, .int .i64 0])
      have hS := hHeld.on (below_alloc1 yq (.cells #[.int .i64 0, .int .i64 0] 35))
      have HDA := Lib.hid (boxes_lt HKq.out)
      have HZA := Lib.hid HEq.out.size
      refine hK.out _ _ hS (fun hHeld2 => ?_)
      try simp only [Act.put, uA, uZ, uS]
      clear hS hK K hHeld HEq HKq
      have hHeld := hHeld2
      clear hHeld2
      have HEq := HEr
      clear HEr
      have HKq := HKr
      clear HKr
      obtain ⟨y2, hW⟩ : ∃ W', yq.alloc (.cells #[.int .i64 0, .int .i64 0] 35) = W' := ⟨_, rfl⟩
      rw [hW] at HEq HKq hHeld ⊢
      clear hW
      obtain ⟨NA, hN⟩ : ∃ N, yq.heap.size = N := ⟨_, rfl⟩
      rw [hN] at HKq HDA HZA ⊢
      clear hN
      rename World => yq)
    all_goals
     first
     | (
      refine wpAnyH_ready (rs := [12]) (by kernel_rfl) (by simp) ?_
      refine AllReadyH.cons rfl (fun K hK => ?_) AllReadyH.nil
      rw [if_pos (by kernel_rfl)]
      have ne1 : ∀ zz ∈ (((V, 35, #[.int .i64 v0', .int .i64 v1']) :: ((M, 99, ML) :: [(G + 1 + 1 + 1 + 1, 43, #[.int .i64 0, .int .i64 0, .int .i64 0, .int .i64 0, .int .i64 0, .int .i64 0]), (G + 1 + 1 + 1, 35, #[.int .i64 e0, .int .i64 e1]), (G + 1 + 1, 35, #[.int .i64 a, .int .i64 b]), (G + 1, 43, #[.int .i64 fh, .int .i64 st, .int .i64 x0, .int .i64 x1, .int .i64 d0, .int .i64 d1]), (G, 40, #[.int .i64 id, .int .i64 al, .int .i64 ah, .slice A n c, .slice B mm d, .slice C l ee, .int .i64 t0, .int .i64 t1, .int .i64 u0, .int .i64 u1, .int .i64 v0, .int .i64 v1, .int .i64 h0, .int .i64 h1])] : List (Nat × TypeId × Array Value)) : List (Nat × TypeId × Array Value)) : List (Nat × TypeId × Array Value)), zz.1 ≠ NA := HDA.out
      have HK1 : Hid (Boxes (yq.setRow NA #[.int .i64 f0, .int .i64 uq]) ((NA, 35, #[.int .i64 f0, .int .i64 uq]) :: ((V, 35, #[.int .i64 v0', .int .i64 v1']) :: ((M, 99, ML) :: [(G + 1 + 1 + 1 + 1, 43, #[.int .i64 0, .int .i64 0, .int .i64 0, .int .i64 0, .int .i64 0, .int .i64 0]), (G + 1 + 1 + 1, 35, #[.int .i64 e0, .int .i64 e1]), (G + 1 + 1, 35, #[.int .i64 a, .int .i64 b]), (G + 1, 43, #[.int .i64 fh, .int .i64 st, .int .i64 x0, .int .i64 x1, .int .i64 d0, .int .i64 d1]), (G, 40, #[.int .i64 id, .int .i64 al, .int .i64 ah, .slice A n c, .slice B mm d, .slice C l ee, .int .i64 t0, .int .i64 t1, .int .i64 u0, .int .i64 u1, .int .i64 v0, .int .i64 v1, .int .i64 h0, .int .i64 h1])] : List (Nat × TypeId × Array Value)) : List (Nat × TypeId × Array Value)))) := Lib.hid (Boxes.row HKq.out (.head _) (fun p hp => ⟨.tail _ hp, ne1 p hp⟩) #[.int .i64 f0, .int .i64 uq])
      have HE1 := Lib.hid (below_setRow HEq.out (show w.heap.size ≤ NA from HZA.out) #[.int .i64 f0, .int .i64 uq])
      have hS := hHeld.farRow (g := NA) (fun p hp => ne1 p (hp)) #[.int .i64 f0, .int .i64 uq]
      refine wp_store_row 35 (.tmp 16) (.tmp 72) rfl NA #[.int .i64 f0, .int .i64 uq] rfl rfl 35 _ (HKq.out _ (.head _)) (by kernel_rfl) rfl (by kernel_rfl) ?_
      obtain ⟨y1, hW⟩ : ∃ W', yq.setRow NA #[.int .i64 f0, .int .i64 uq] = W' := ⟨_, rfl⟩
      rw [hW] at HE1 HK1 hS ⊢
      refine hK.out _ _ hS (fun hHeld2 => ?_)
      try simp only [Act.put, uA, uZ, uS]
      clear hW hS hK K hHeld ne1 HEq HKq
      have hHeld := hHeld2
      clear hHeld2
      refine wpAnyH_done (by kernel_rfl) ?_ _
      go_wp2_with fail
      go_meet
      exact ⟨NA, rfl, HK1.out, HE1.out, HDA.out (_, _, _) (.tail _ (.tail _ (.head _)))⟩)
  case rest =>
   obtain ⟨N3, rfl, hB, hE, n3⟩ := hcut
   rename World => W8
   have HE8 := Lib.hid hE
   have HK8 := Lib.hid hB
   have HN3 := Lib.hid n3
   clear hB hE n3 HE6 HK6' C6 C7
   go_upto_region 15 with fail
   have HK8' : Hid (Boxes W8 [(N3, 35, #[.int .i64 f0, .int .i64 uq]), (V, 35, #[.int .i64 v0', .int .i64 v1']), (M, 99, ML), (G + 1 + 1 + 1, 35, #[.int .i64 e0, .int .i64 e1]), (G + 1 + 1, 35, #[.int .i64 a, .int .i64 b]), (G + 1, 43, #[.int .i64 fh, .int .i64 st, .int .i64 x0, .int .i64 x1, .int .i64 d0, .int .i64 d1]), (G, 40, #[.int .i64 id, .int .i64 al, .int .i64 ah, .slice A n c, .slice B mm d, .slice C l ee, .int .i64 t0, .int .i64 t1, .int .i64 u0, .int .i64 u1, .int .i64 v0, .int .i64 v1, .int .i64 h0, .int .i64 h1])]) := Lib.hid (HK8.out.sub (fun x hx => by
    simp only [List.mem_cons, List.not_mem_nil, or_false] at hx ⊢
    rcases hx with h | h | h | h | h | h | h <;> simp [h]))
   have HK9 : Hid (Blk W8 (G + 1 + 1 + 1 + 1) 43 #[.int .i64 0, .int .i64 0, .int .i64 0, .int .i64 0, .int .i64 0, .int .i64 0]) := Lib.hid (HK8.out _ (.tail _ (.tail _ (.tail _ (.head _)))))
   have hne : ∀ zz ∈ ([(N3, 35, #[.int .i64 f0, .int .i64 uq]), (V, 35, #[.int .i64 v0', .int .i64 v1']), (M, 99, ML), (G + 1 + 1 + 1, 35, #[.int .i64 e0, .int .i64 e1]), (G + 1 + 1, 35, #[.int .i64 a, .int .i64 b]), (G + 1, 43, #[.int .i64 fh, .int .i64 st, .int .i64 x0, .int .i64 x1, .int .i64 d0, .int .i64 d1]), (G, 40, #[.int .i64 id, .int .i64 al, .int .i64 ah, .slice A n c, .slice B mm d, .slice C l ee, .int .i64 t0, .int .i64 t1, .int .i64 u0, .int .i64 u1, .int .i64 v0, .int .i64 v1, .int .i64 h0, .int .i64 h1])] : List (Nat × TypeId × Array Value)), zz.1 ≠ (G + 1 + 1 + 1 + 1) := by
    have a1 := HN3.out; have a2 := HV4.out; have a3 := HD3.out (_, _, _) (.head _)
    intro zz hz
    simp only [List.mem_cons, List.not_mem_nil, or_false] at hz
    rcases hz with h | h | h | h | h | h | h <;> (rw [h]; dsimp only at a1 a2 a3 ⊢; omega)
   have HNE := Lib.hid hne
   clear hne HK8
   have hS0 : Boxes W8.drew [(N3, 35, #[.int .i64 f0, .int .i64 uq]), (V, 35, #[.int .i64 v0', .int .i64 v1']), (M, 99, ML), (G + 1 + 1 + 1, 35, #[.int .i64 e0, .int .i64 e1]), (G + 1 + 1, 35, #[.int .i64 a, .int .i64 b]), (G + 1, 43, #[.int .i64 fh, .int .i64 st, .int .i64 x0, .int .i64 x1, .int .i64 d0, .int .i64 d1]), (G, 40, #[.int .i64 id, .int .i64 al, .int .i64 ah, .slice A n c, .slice B mm d, .slice C l ee, .int .i64 t0, .int .i64 t1, .int .i64 u0, .int .i64 u1, .int .i64 v0, .int .i64 v1, .int .i64 h0, .int .i64 h1])] := HK8'.out
   have HEd := Lib.hid HE8.out.drew
   have HKd : Hid (Blk W8.drew (G + 1 + 1 + 1 + 1) 43 #[.int .i64 0, .int .i64 0, .int .i64 0, .int .i64 0, .int .i64 0, .int .i64 0]) := Lib.hid HK9.out.drew
   refine wp_region_held_drew (S := fun w' => Boxes w' [(N3, 35, #[.int .i64 f0, .int .i64 uq]), (V, 35, #[.int .i64 v0', .int .i64 v1']), (M, 99, ML), (G + 1 + 1 + 1, 35, #[.int .i64 e0, .int .i64 e1]), (G + 1 + 1, 35, #[.int .i64 a, .int .i64 b]), (G + 1, 43, #[.int .i64 fh, .int .i64 st, .int .i64 x0, .int .i64 x1, .int .i64 d0, .int .i64 d1]), (G, 40, #[.int .i64 id, .int .i64 al, .int .i64 ah, .slice A n c, .slice B mm d, .slice C l ee, .int .i64 t0, .int .i64 t1, .int .i64 u0, .int .i64 u1, .int .i64 v0, .int .i64 v1, .int .i64 h0, .int .i64 h1])]) (by kernel_rfl) hS0 (fun hHeld => ?_)
   obtain ⟨W9, hW⟩ : ∃ W', W8.drew = W' := ⟨_, rfl⟩
   rw [hW] at HEd HKd hHeld ⊢
   clear hW hS0 HE8 HK8'
   clear HK9
   refine tK 73 (i := 0) (v := .agg #[.int .i64 id, .int .i64 al, .int .i64 ah, .slice A n c, .slice B mm d, .slice C l ee, .int .i64 t0, .int .i64 t1, .int .i64 u0, .int .i64 u1, .int .i64 v0, .int .i64 v1, .int .i64 h0, .int .i64 h1]) rfl rfl (by kernel_rfl) ?_ hHeld ?_
   ·intro w hSw; have hz := (hSw _ (.tail _ (.tail _ (.tail _ (.tail _ (.tail _ (.tail _ (.head _)))))))); have c0 := hz.cell 0; have c1 := hz.cell 1; have c2 := hz.cell 2; have c3 := hz.cell 3; have c4 := hz.cell 4; have c5 := hz.cell 5; have c6 := hz.cell 6; have c7 := hz.cell 7; have c8 := hz.cell 8; have c9 := hz.cell 9; have c10 := hz.cell 10; have c11 := hz.cell 11; have c12 := hz.cell 12; have c13 := hz.cell 13; simp at c0 c1 c2 c3 c4 c5 c6 c7 c8 c9 c10 c11 c12 c13; clear hz hSw; go_simp; try with_reducible rfl
   simp only [uZ, uS]
   refine tK 74 (i := 1) (v := rv v0' v1') rfl rfl (by kernel_rfl) ?_ hHeld ?_
   ·intro w hSw; have hz := (hSw _ (.tail _ (.head _))); have c0 := hz.cell 0; have c1 := hz.cell 1; simp at c0 c1; clear hz hSw; go_simp; try with_reducible rfl
   simp only [uZ, uS]
   refine tK 75 (i := 2) (v := rv f0 uq) rfl rfl (by kernel_rfl) ?_ hHeld ?_
   ·intro w hSw; have hz := (hSw _ (.head _)); have c0 := hz.cell 0; have c1 := hz.cell 1; simp at c0 c1; clear hz hSw; go_simp; try with_reducible rfl
   simp only [uZ, uS]
   refine tK 76 (i := 3) (v := .pointer (some ⟨G + 1, 4, none⟩)) rfl rfl (by kernel_rfl) ?_ hHeld ?_
   ·intro w hSw; clear hSw; go_simp; try with_reducible rfl
   simp only [uZ, uS]
   refine tK 77 (i := 4) (v := rv d0 d1) rfl rfl (by kernel_rfl) ?_ hHeld ?_
   ·intro w hSw; have hz := (hSw _ (.tail _ (.tail _ (.tail _ (.tail _ (.tail _ (.head _))))))); have c4 := hz.cell 4; have c5 := hz.cell 5; simp at c4 c5; clear hz hSw; go_simp; try with_reducible rfl
   simp only [uZ, uS]
   refine tK 78 (i := 5) (v := rv e0 e1) rfl rfl (by kernel_rfl) ?_ hHeld ?_
   ·intro w hSw; have hz := (hSw _ (.tail _ (.tail _ (.tail _ (.head _))))); have c0 := hz.cell 0; have c1 := hz.cell 1; simp at c0 c1; clear hz hSw; go_simp; try with_reducible rfl
   simp only [uZ, uS]
   refine wpAnyH_ready (rs := [6]) (by kernel_rfl) (by simp) ?_
   refine AllReadyH.cons rfl (fun K hK => ?_) AllReadyH.nil
   go_simp
   (with_reducible refine (C8.out _).mono ?_)
   rintro e ya ⟨rfl, hb⟩
   have HEa := Lib.hid (below_then HEd.out hb); have HKa := Lib.hid (blkOn HKd.out hb)
   have hS := hHeld.on hb
   clear hb
   refine hK.out _ _ (hS) (fun hHeld2 => ?_)
   try simp only [Act.put, uA, uZ, uS]
   clear hK K hHeld
   have hHeld := hHeld2
   clear hHeld2
   clear hS HEd HKd
   refine wpAnyH_ready (rs := [7]) (by kernel_rfl) (by simp) ?_
   refine AllReadyH.cons rfl (fun K hK => ?_) AllReadyH.nil
   go_simp
   (with_reducible refine (C9.out _ HEa.out).mono ?_)
   rintro e yb ⟨rfl, hb⟩
   have HEb := Lib.hid (below_then HEa.out hb); have HKb := Lib.hid (blkOn HKa.out hb)
   have hS := hHeld.on hb
   clear hb
   refine hK.out _ _ (hS) (fun hHeld2 => ?_)
   try simp only [Act.put, uA, uZ, uS]
   clear hK K hHeld
   have hHeld := hHeld2
   clear hHeld2
   clear hS HEa HKa
   refine tK 81 (i := 8) (v := .agg #[.int .i64 ff0, .int .i64 ff1, .int .i64 ff2, .int .i64 ff3, .int .i64 ff4, .int .i64 ff5]) rfl rfl (by kernel_rfl) ?_ hHeld ?_
   ·intro w hSw; clear hSw; go_simp; try with_reducible rfl
   simp only [uZ, uS]
   refine tK 82 (i := 9) (v := .int .i64 re) rfl rfl (by kernel_rfl) ?_ hHeld ?_
   ·intro w hSw; clear hSw; go_simp; try with_reducible rfl
   simp only [uZ, uS]
   refine wpAnyH_ready (rs := [10]) (by kernel_rfl) (by simp) ?_
   refine AllReadyH.cons rfl (fun K hK => ?_) AllReadyH.nil
   rw [if_pos (by kernel_rfl)]
   have HKR : Hid (Blk (yb.setRow (G + 1 + 1 + 1 + 1) #[.int .i64 ff0, .int .i64 ff1, .int .i64 ff2, .int .i64 ff3, .int .i64 ff4, .int .i64 ff5]) (G + 1 + 1 + 1 + 1) 43 #[.int .i64 ff0, .int .i64 ff1, .int .i64 ff2, .int .i64 ff3, .int .i64 ff4, .int .i64 ff5]) := Lib.hid (setRow_heap yb (G + 1 + 1 + 1 + 1) _ _ 43 _ HKb.out)
   have HE9 := Lib.hid (below_setRow HEb.out (show w.heap.size ≤ G + 1 + 1 + 1 + 1 by have := HG.out; omega) #[.int .i64 ff0, .int .i64 ff1, .int .i64 ff2, .int .i64 ff3, .int .i64 ff4, .int .i64 ff5])
   have hS := hHeld.farRow (g := (G + 1 + 1 + 1 + 1)) HNE.out #[.int .i64 ff0, .int .i64 ff1, .int .i64 ff2, .int .i64 ff3, .int .i64 ff4, .int .i64 ff5]
   refine wp_store_row 43 (.tmp 8) (.tmp 81) rfl (G + 1 + 1 + 1 + 1) #[.int .i64 ff0, .int .i64 ff1, .int .i64 ff2, .int .i64 ff3, .int .i64 ff4, .int .i64 ff5] rfl rfl 43 _ HKb.out (by kernel_rfl) rfl (by kernel_rfl) ?_
   obtain ⟨Wz, hW⟩ : ∃ W', yb.setRow (G + 1 + 1 + 1 + 1) #[.int .i64 ff0, .int .i64 ff1, .int .i64 ff2, .int .i64 ff3, .int .i64 ff4, .int .i64 ff5] = W' := ⟨_, rfl⟩
   rw [hW] at HKR HE9 hS ⊢
   refine hK.out _ _ hS (fun hHeld2 => ?_)
   try simp only [Act.put, uA, uZ, uS]
   clear hW hS hK K hHeld HKb HEb
   have hHeld := hHeld2
   clear hHeld2
   refine tK 9 (i := 11) (v := .int .i64 re) rfl rfl (by kernel_rfl) ?_ hHeld ?_
   ·intro w hSw; clear hSw; go_simp; try with_reducible rfl
   simp only [uZ, uS]
   refine wpAnyH_done (by kernel_rfl) ?_ _
   clear hHeld
   go_wp2
   exact bodyPost_ret (v := .tuple #[.agg #[.int .i64 ff0, .int .i64 ff1, .int .i64 ff2, .int .i64 ff3, .int .i64 ff4, .int .i64 ff5], .int .i64 re]) (results_cell_tmp_row Tryz.results29 _ _ (G + 1 + 1 + 1 + 1) 43 #[.int .i64 ff0, .int .i64 ff1, .int .i64 ff2, .int .i64 ff3, .int .i64 ff4, .int .i64 ff5] (0, 0) _ _ rfl rfl HKR.out Tryz.underlying43 rfl (by kernel_rfl)) rfl ⟨rfl, HE9.out⟩
theorem pour_three (vol mom hei : List P3) (id al ah t0 t1 u0 u1 v0 v1 h0 h1 : Int) (A B C : Option Addr) (n c mm d l ee : Nat) (fh x0 x1 d0 d1 a b e0 e1 p q r s v0' v1' : Int) (w : World) (hi : HoldIn w ⟨id, al, ah, vol, mom, hei, t0, t1, u0, u1, v0, v1, h0, h1⟩ ⟨A, n, c, B, mm, d, C, l, ee⟩)
    (g1 : fillErr ⟨id, al, ah, vol, mom, hei, t0, t1, u0, u1, v0, v1, h0, h1⟩ ⟨fh, 3, x0, x1, d0, d1⟩ = 0) (g2 : massErr a b e0 e1 = 0) (g3 : ¬ a < 0) (ht : tabOk vol = true) (hle : firstX vol ≤ lastX vol)
    (k1 : overS vol x0 x1 = (p, q, 0)) (k2 : litresS a b e0 e1 = (r, s)) (k3 : IntKind.i64.wrap (p + r) = v0') (k4 : IntKind.i64.wrap (q + s) = v1') :
    Calls Tryz.prog 29 #[.agg #[.int .i64 id, .int .i64 al, .int .i64 ah, .slice A n c, .slice B mm d, .slice C l ee, .int .i64 t0, .int .i64 t1, .int .i64 u0, .int .i64 u1, .int .i64 v0, .int .i64 v1, .int .i64 h0, .int .i64 h1], .agg #[.int .i64 fh, .int .i64 3, .int .i64 x0, .int .i64 x1, .int .i64 d0, .int .i64 d1], rv a b, rv e0 e1] w fun e w' => e = .returned (ft (movedS vol id v0' v1' (firstX vol) x1 (mixS d0 d1 e0 e1).1 (mixS d0 d1 e0 e1).2)) ∧ Below w.heap.size w w' :=
  pour_walk vol mom hei id al ah t0 t1 u0 u1 v0 v1 h0 h1 A B C n c mm d l ee fh 3 x0 x1 d0 d1 a b e0 e1 p q r s v0' v1' x0 x1 0 0 _ _ _ _ _ w hi g1 g2 g3 ht hle (by omega) (by omega) rfl (.inl ⟨rfl, rfl⟩)
    (fun W hW => by
      have := partlyVol_to vol id al ah t0 t1 u0 u1 v0 v1 h0 h1 A B C n c mm d l ee fh 3 x0 x1 d0 d1 W (hi.1.below hW)
      rwa [k1] at this)
    (fun W hW => partlySur_to id al ah t0 t1 u0 u1 v0 v1 h0 h1 A B C n c mm d l ee fh 3 x0 x1 d0 d1 W) k2 k3 k4
end

section
open Go.RowKit

theorem fieldM3 (b0 b1 b2 b3 b4 b5 b6 b7 : Value) (w : World) : (Instr.field 99 (.agg #[b0, b1, b2, b3, b4, b5, b6, b7]) 3).run Tryz.prog w = .ok b3 w := by kernel_rfl
attribute [local go_sem ↓] fieldM3
abbrev wt (m0 m1 a0 a1 z0 z1 e : Int) : Value := .tuple #[.agg #[.int .i64 m0, .int .i64 m1, .int .i64 a0, .int .i64 a1, .int .i64 z0, .int .i64 z1], .int .i64 e]

set_option maxRecDepth 100000 in
set_option maxHeartbeats 4000000 in
theorem hweight_0 (E p r s t : Int) (ma mb mc me : Nat) (mx my mz : Int) (id al ah t0 t1 u0 u1 v0 v1 h0 h1 : Int) (A B C : Option Addr) (n c mm d l ee : Nat) (fh st x0 x1 d0 d1 : Int) (w : World)
  (C1 : ∀ W, Below w.heap.size w W → Calls Tryz.prog 27 #[.agg #[.int .i64 id, .int .i64 al, .int .i64 ah, .slice A n c, .slice B mm d, .slice C l ee, .int .i64 t0, .int .i64 t1, .int .i64 u0, .int .i64 u1, .int .i64 v0, .int .i64 v1, .int .i64 h0, .int .i64 h1], .agg #[.int .i64 fh, .int .i64 st, .int .i64 x0, .int .i64 x1, .int .i64 d0, .int .i64 d1]] W fun e w' => e = .returned (.tuple #[rv p r, .int .i64 E]) ∧ Below W.heap.size W w')
  (C2 : E = 0 → ∀ W, Calls Tryz.prog 40 #[.agg #[.int .i64 fh, .int .i64 st, .int .i64 x0, .int .i64 x1, .int .i64 d0, .int .i64 d1]] W fun e w' => e = .returned (.agg #[fnV ma, fnV mb, fnV mc, fnV 128, fnV me, .int .i64 mx, .int .i64 my, .int .i64 mz]) ∧ Below W.heap.size W w')
  (C3 : E = 0 → ∀ W, Below w.heap.size w W → Calls Tryz.prog 128 #[.agg #[.int .i64 id, .int .i64 al, .int .i64 ah, .slice A n c, .slice B mm d, .slice C l ee, .int .i64 t0, .int .i64 t1, .int .i64 u0, .int .i64 u1, .int .i64 v0, .int .i64 v1, .int .i64 h0, .int .i64 h1], .agg #[.int .i64 fh, .int .i64 st, .int .i64 x0, .int .i64 x1, .int .i64 d0, .int .i64 d1]] W fun e w' => e = .returned (rv s t) ∧ Below W.heap.size W w') :
  Calls Tryz.prog 21 #[.agg #[.int .i64 id, .int .i64 al, .int .i64 ah, .slice A n c, .slice B mm d, .slice C l ee, .int .i64 t0, .int .i64 t1, .int .i64 u0, .int .i64 u1, .int .i64 v0, .int .i64 v1, .int .i64 h0, .int .i64 h1], .agg #[.int .i64 fh, .int .i64 st, .int .i64 x0, .int .i64 x1, .int .i64 d0, .int .i64 d1]] w fun e w' => e = .returned (if E = 0 then wt p r al ah s t 0 else wt 0 0 0 0 0 0 E) ∧ Below w.heap.size w w' := by
 have HE := Lib.hid (show Below w.heap.size w (((w.alloc (.cells #[.int .i64 id, .int .i64 al, .int .i64 ah, .slice A n c, .slice B mm d, .slice C l ee, .int .i64 t0, .int .i64 t1, .int .i64 u0, .int .i64 u1, .int .i64 v0, .int .i64 v1, .int .i64 h0, .int .i64 h1] 40)).alloc (.cells #[.int .i64 fh, .int .i64 st, .int .i64 x0, .int .i64 x1, .int .i64 d0, .int .i64 d1] 43)).alloc (.cells #[.int .i64 0, .int .i64 0, .int .i64 0, .int .i64 0, .int .i64 0, .int .i64 0] 73)) from below_a3 (Below.refl _ _))
 have HK := Lib.hid (boxes3' w 40 43 73 #[.int .i64 id, .int .i64 al, .int .i64 ah, .slice A n c, .slice B mm d, .slice C l ee, .int .i64 t0, .int .i64 t1, .int .i64 u0, .int .i64 u1, .int .i64 v0, .int .i64 v1, .int .i64 h0, .int .i64 h1] #[.int .i64 fh, .int .i64 st, .int .i64 x0, .int .i64 x1, .int .i64 d0, .int .i64 d1] #[.int .i64 0, .int .i64 0, .int .i64 0, .int .i64 0, .int .i64 0, .int .i64 0])
 have D1 := Lib.hid C1
 have D2 := Lib.hid C2
 have D3 := Lib.hid C3
 clear C1 C2 C3
 obtain ⟨R, hR⟩ : ∃ R, (if E = 0 then wt p r al ah s t 0 else wt 0 0 0 0 0 0 E) = R := ⟨_, rfl⟩
 rw [hR]
 have HR := Lib.hid hR
 clear hR
 go_enter Tryz.func21, Tryz.ntmps21
 go_wp2_with fail
 obtain ⟨W0, hW0⟩ : ∃ W0, (((w.alloc (.cells #[.int .i64 id, .int .i64 al, .int .i64 ah, .slice A n c, .slice B mm d, .slice C l ee, .int .i64 t0, .int .i64 t1, .int .i64 u0, .int .i64 u1, .int .i64 v0, .int .i64 v1, .int .i64 h0, .int .i64 h1] 40)).alloc (.cells #[.int .i64 fh, .int .i64 st, .int .i64 x0, .int .i64 x1, .int .i64 d0, .int .i64 d1] 43)).alloc (.cells #[.int .i64 0, .int .i64 0, .int .i64 0, .int .i64 0, .int .i64 0, .int .i64 0] 73)) = W0 := ⟨_, rfl⟩
 rw [hW0] at HE HK ⊢
 clear hW0
 obtain ⟨G, hG⟩ : ∃ G, w.heap.size = G := ⟨_, rfl⟩
 rw [hG] at HK ⊢
 have HG := Lib.hid hG; clear hG
 refine (D1.out _ HE.out).mono ?_
 rintro e w1 ⟨rfl, hb⟩
 have HE1 := Lib.hid (below_then (below_then HE.out hb) (below_alloc1 w1 (.cells #[.int .i64 p, .int .i64 r] 35))); have HK1 := Lib.hid ((HK.out.on hb).new 35 #[.int .i64 p, .int .i64 r])
 have HDM := Lib.hid (boxes_lt (HK.out.on hb))
 clear hb HE HK D1
 go_upto_region 2 with fail
 obtain ⟨W1, hW⟩ : ∃ W1, w1.alloc (.cells #[.int .i64 p, .int .i64 r] 35) = W1 := ⟨_, rfl⟩
 rw [hW] at HE1 HK1 ⊢
 clear hW
 obtain ⟨M, hM⟩ : ∃ M, w1.heap.size = M := ⟨_, rfl⟩
 rw [hM] at HK1 HDM ⊢
 clear hM
 by_cases g : E = 0
 ·have eR := HR.out
  rw [if_pos g] at eR
  subst eR
  have X2 := Lib.hid (D2.out g)
  have X3 := Lib.hid (D3.out g)
  clear HR D2 D3
  subst g
  go_upto_region 4 with fail
  go_cut [8] (fun s8 wx => ∃ N3, s8 = .pointer (some ⟨N3, 0, none⟩) ∧ Boxes wx ((N3, 35, #[.int .i64 s, .int .i64 t]) :: ((M, 35, #[.int .i64 p, .int .i64 r]) :: [(G + 1 + 1, 73, #[.int .i64 0, .int .i64 0, .int .i64 0, .int .i64 0, .int .i64 0, .int .i64 0]), (G + 1, 43, #[.int .i64 fh, .int .i64 st, .int .i64 x0, .int .i64 x1, .int .i64 d0, .int .i64 d1]), (G, 40, #[.int .i64 id, .int .i64 al, .int .i64 ah, .slice A n c, .slice B mm d, .slice C l ee, .int .i64 t0, .int .i64 t1, .int .i64 u0, .int .i64 u1, .int .i64 v0, .int .i64 v1, .int .i64 h0, .int .i64 h1])] : List (Nat × TypeId × Array Value))) ∧ Below w.heap.size w wx ∧ G + 1 + 1 ≠ N3)
  case first =>
   have hS0 : Boxes W1.drew ((M, 35, #[.int .i64 p, .int .i64 r]) :: [(G + 1 + 1, 73, #[.int .i64 0, .int .i64 0, .int .i64 0, .int .i64 0, .int .i64 0, .int .i64 0]), (G + 1, 43, #[.int .i64 fh, .int .i64 st, .int .i64 x0, .int .i64 x1, .int .i64 d0, .int .i64 d1]), (G, 40, #[.int .i64 id, .int .i64 al, .int .i64 ah, .slice A n c, .slice B mm d, .slice C l ee, .int .i64 t0, .int .i64 t1, .int .i64 u0, .int .i64 u1, .int .i64 v0, .int .i64 v1, .int .i64 h0, .int .i64 h1])] : List (Nat × TypeId × Array Value)) := HK1.out
   have HEd := Lib.hid HE1.out.drew
   have HKd := Lib.hid hS0
   refine wp_region_held_drew (S := fun w' => Boxes w' ((M, 35, #[.int .i64 p, .int .i64 r]) :: [(G + 1 + 1, 73, #[.int .i64 0, .int .i64 0, .int .i64 0, .int .i64 0, .int .i64 0, .int .i64 0]), (G + 1, 43, #[.int .i64 fh, .int .i64 st, .int .i64 x0, .int .i64 x1, .int .i64 d0, .int .i64 d1]), (G, 40, #[.int .i64 id, .int .i64 al, .int .i64 ah, .slice A n c, .slice B mm d, .slice C l ee, .int .i64 t0, .int .i64 t1, .int .i64 u0, .int .i64 u1, .int .i64 v0, .int .i64 v1, .int .i64 h0, .int .i64 h1])] : List (Nat × TypeId × Array Value))) (by kernel_rfl) hS0 (fun hHeld => ?_)
   obtain ⟨W2, hW⟩ : ∃ W', W1.drew = W' := ⟨_, rfl⟩
   rw [hW] at HEd HKd hHeld ⊢
   clear hW hS0 HE1 HK1
   refine tK 19 (i := 0) (v := .agg #[.int .i64 fh, .int .i64 st, .int .i64 x0, .int .i64 x1, .int .i64 d0, .int .i64 d1]) rfl rfl (by kernel_rfl) ?_ hHeld ?_
   ·intro w hSw; have hz := (hSw _ (.tail _ (.tail _ (.head _)))); have c0 := hz.cell 0; have c1 := hz.cell 1; have c2 := hz.cell 2; have c3 := hz.cell 3; have c4 := hz.cell 4; have c5 := hz.cell 5; simp at c0 c1 c2 c3 c4 c5; clear hz hSw; go_simp; try with_reducible rfl
   simp only [uZ, uS]
   refine tK 22 (i := 3) (v := .agg #[.int .i64 id, .int .i64 al, .int .i64 ah, .slice A n c, .slice B mm d, .slice C l ee, .int .i64 t0, .int .i64 t1, .int .i64 u0, .int .i64 u1, .int .i64 v0, .int .i64 v1, .int .i64 h0, .int .i64 h1]) rfl rfl (by kernel_rfl) ?_ hHeld ?_
   ·intro w hSw; have hz := (hSw _ (.tail _ (.tail _ (.tail _ (.head _))))); have c0 := hz.cell 0; have c1 := hz.cell 1; have c2 := hz.cell 2; have c3 := hz.cell 3; have c4 := hz.cell 4; have c5 := hz.cell 5; have c6 := hz.cell 6; have c7 := hz.cell 7; have c8 := hz.cell 8; have c9 := hz.cell 9; have c10 := hz.cell 10; have c11 := hz.cell 11; have c12 := hz.cell 12; have c13 := hz.cell 13; simp at c0 c1 c2 c3 c4 c5 c6 c7 c8 c9 c10 c11 c12 c13; clear hz hSw; go_simp; try with_reducible rfl
   simp only [uZ, uS]
   refine tK 23 (i := 4) (v := .agg #[.int .i64 fh, .int .i64 st, .int .i64 x0, .int .i64 x1, .int .i64 d0, .int .i64 d1]) rfl rfl (by kernel_rfl) ?_ hHeld ?_
   ·intro w hSw; have hz := (hSw _ (.tail _ (.tail _ (.head _)))); have c0 := hz.cell 0; have c1 := hz.cell 1; have c2 := hz.cell 2; have c3 := hz.cell 3; have c4 := hz.cell 4; have c5 := hz.cell 5; simp at c0 c1 c2 c3 c4 c5; clear hz hSw; go_simp; try with_reducible rfl
   simp only [uZ, uS]
   refine wpAnyH_ready (rs := [1, 6]) (by kernel_rfl) (by simp) ?_
   refine AllReadyH.cons rfl (fun K hK => ?_) (AllReadyH.cons rfl (fun K hK => ?_) AllReadyH.nil)
   ·skip
    go_simp
    (with_reducible refine (X2.out _).mono ?_)
    rintro e y1 ⟨rfl, hb⟩
    have HE1 := Lib.hid (below_then HEd.out hb); have HK1 := Lib.hid (HKd.out.on hb)
    have hS := hHeld.on hb
    clear hb
    refine hK.out _ _ hS (fun hHeld2 => ?_)
    try simp only [Act.put, uA, uZ, uS]
    clear hS hK K hHeld HEd HKd
    have hHeld := hHeld2
    clear hHeld2
    refine tK 21 (i := 2) (v := fnV 128) rfl rfl (by kernel_rfl) ?_ hHeld ?_
    ·intro w hSw; clear hSw; go_simp; try with_reducible rfl
    simp only [uZ, uS]
    refine wpAnyH_ready (rs := [5, 6]) (by kernel_rfl) (by simp) ?_
    refine AllReadyH.cons rfl (fun K hK => ?_) (AllReadyH.cons rfl (fun K hK => ?_) AllReadyH.nil)
    ·skip
     go_simp
     (with_reducible refine (X3.out _ HE1.out).mono ?_)
     rintro e y2 ⟨rfl, hb⟩
     have HE2 := Lib.hid (below_then HE1.out hb); have HK2 := Lib.hid (HK1.out.on hb)
     have hS := hHeld.on hb
     clear hb
     refine hK.out _ _ hS (fun hHeld2 => ?_)
     try simp only [Act.put, uA, uZ, uS]
     clear hS hK K hHeld HE1 HK1
     have hHeld := hHeld2
     clear hHeld2
     refine wpAnyH_ready (rs := [6]) (by kernel_rfl) (by simp) ?_
     refine AllReadyH.cons rfl (fun K hK => ?_) AllReadyH.nil
     go_simp
     have HE3 := Lib.hid (below_then HE2.out (below_alloc1 y2 (.cells #[.int .i64 0, .int .i64 0] 35))); have HK3 := Lib.hid (HK2.out.new 35 #[.int .i64 0, .int .i64 0])
     have hS := hHeld.on (below_alloc1 y2 (.cells #[.int .i64 0, .int .i64 0] 35))
     have HD3 := Lib.hid (boxes_lt HK2.out)
     have HZ3 := Lib.hid HE2.out.size
     refine hK.out _ _ hS (fun hHeld2 => ?_)
     try simp only [Act.put, uA, uZ, uS]
     clear hS hK K hHeld HE2 HK2
     have hHeld := hHeld2
     clear hHeld2
     obtain ⟨y3, hW⟩ : ∃ W', y2.alloc (.cells #[.int .i64 0, .int .i64 0] 35) = W' := ⟨_, rfl⟩
     rw [hW] at HE3 HK3 hHeld ⊢
     clear hW
     obtain ⟨N3, hN⟩ : ∃ N, y2.heap.size = N := ⟨_, rfl⟩
     rw [hN] at HK3 HD3 HZ3 ⊢
     clear hN
     refine wpAnyH_ready (rs := [7]) (by kernel_rfl) (by simp) ?_
     refine AllReadyH.cons rfl (fun K hK => ?_) AllReadyH.nil
     rw [if_pos (by kernel_rfl)]
     have ne4 : ∀ zz ∈ (((M, 35, #[.int .i64 p, .int .i64 r]) :: [(G + 1 + 1, 73, #[.int .i64 0, .int .i64 0, .int .i64 0, .int .i64 0, .int .i64 0, .int .i64 0]), (G + 1, 43, #[.int .i64 fh, .int .i64 st, .int .i64 x0, .int .i64 x1, .int .i64 d0, .int .i64 d1]), (G, 40, #[.int .i64 id, .int .i64 al, .int .i64 ah, .slice A n c, .slice B mm d, .slice C l ee, .int .i64 t0, .int .i64 t1, .int .i64 u0, .int .i64 u1, .int .i64 v0, .int .i64 v1, .int .i64 h0, .int .i64 h1])] : List (Nat × TypeId × Array Value)) : List (Nat × TypeId × Array Value)), zz.1 ≠ N3 := HD3.out
     have HK4 : Hid (Boxes (y3.setRow N3 #[.int .i64 s, .int .i64 t]) ((N3, 35, #[.int .i64 s, .int .i64 t]) :: ((M, 35, #[.int .i64 p, .int .i64 r]) :: [(G + 1 + 1, 73, #[.int .i64 0, .int .i64 0, .int .i64 0, .int .i64 0, .int .i64 0, .int .i64 0]), (G + 1, 43, #[.int .i64 fh, .int .i64 st, .int .i64 x0, .int .i64 x1, .int .i64 d0, .int .i64 d1]), (G, 40, #[.int .i64 id, .int .i64 al, .int .i64 ah, .slice A n c, .slice B mm d, .slice C l ee, .int .i64 t0, .int .i64 t1, .int .i64 u0, .int .i64 u1, .int .i64 v0, .int .i64 v1, .int .i64 h0, .int .i64 h1])] : List (Nat × TypeId × Array Value)))) := Lib.hid (Boxes.row HK3.out (.head _) (fun p hp => ⟨.tail _ hp, ne4 p hp⟩) #[.int .i64 s, .int .i64 t])
     have HE4 := Lib.hid (below_setRow HE3.out (show w.heap.size ≤ N3 from HZ3.out) #[.int .i64 s, .int .i64 t])
     have hS := hHeld.farRow (g := N3) (fun p hp => ne4 p (hp)) #[.int .i64 s, .int .i64 t]
     refine wp_store_row 35 (.tmp 8) (.tmp 24) rfl N3 #[.int .i64 s, .int .i64 t] rfl rfl 35 _ (HK3.out _ (.head _)) (by kernel_rfl) rfl (by kernel_rfl) ?_
     obtain ⟨y4, hW⟩ : ∃ W', y3.setRow N3 #[.int .i64 s, .int .i64 t] = W' := ⟨_, rfl⟩
     rw [hW] at HE4 HK4 hS ⊢
     refine hK.out _ _ hS (fun hHeld2 => ?_)
     try simp only [Act.put, uA, uZ, uS]
     clear hW hS hK K hHeld ne4 HE3 HK3
     have hHeld := hHeld2
     clear hHeld2
     refine wpAnyH_done (by kernel_rfl) ?_ _
     go_wp2_with fail
     go_meet
     exact ⟨N3, rfl, HK4.out, HE4.out, HD3.out (_, _, _) (.tail _ (.head _))⟩
    ·skip
     go_simp
     have HE5 := Lib.hid (below_then HE1.out (below_alloc1 y1 (.cells #[.int .i64 0, .int .i64 0] 35))); have HK5 := Lib.hid (HK1.out.new 35 #[.int .i64 0, .int .i64 0])
     have hS := hHeld.on (below_alloc1 y1 (.cells #[.int .i64 0, .int .i64 0] 35))
     have HD5 := Lib.hid (boxes_lt HK1.out)
     have HZ5 := Lib.hid HE1.out.size
     refine hK.out _ _ hS (fun hHeld2 => ?_)
     try simp only [Act.put, uA, uZ, uS]
     clear hS hK K hHeld HE1 HK1
     have hHeld := hHeld2
     clear hHeld2
     obtain ⟨y5, hW⟩ : ∃ W', y1.alloc (.cells #[.int .i64 0, .int .i64 0] 35) = W' := ⟨_, rfl⟩
     rw [hW] at HE5 HK5 hHeld ⊢
     clear hW
     obtain ⟨N5, hN⟩ : ∃ N, y1.heap.size = N := ⟨_, rfl⟩
     rw [hN] at HK5 HD5 HZ5 ⊢
     clear hN
     refine wpAnyH_ready (rs := [5]) (by kernel_rfl) (by simp) ?_
     refine AllReadyH.cons rfl (fun K hK => ?_) AllReadyH.nil
     go_simp
     (with_reducible refine (X3.out _ HE5.out).mono ?_)
     rintro e y6 ⟨rfl, hb⟩
     have HE6 := Lib.hid (below_then HE5.out hb); have HK6 := Lib.hid (HK5.out.on hb)
     have hS := hHeld.on hb
     clear hb
     refine hK.out _ _ hS (fun hHeld2 => ?_)
     try simp only [Act.put, uA, uZ, uS]
     clear hS hK K hHeld HE5 HK5
     have hHeld := hHeld2
     clear hHeld2
     refine wpAnyH_ready (rs := [7]) (by kernel_rfl) (by simp) ?_
     refine AllReadyH.cons rfl (fun K hK => ?_) AllReadyH.nil
     rw [if_pos (by kernel_rfl)]
     have ne7 : ∀ zz ∈ (((M, 35, #[.int .i64 p, .int .i64 r]) :: [(G + 1 + 1, 73, #[.int .i64 0, .int .i64 0, .int .i64 0, .int .i64 0, .int .i64 0, .int .i64 0]), (G + 1, 43, #[.int .i64 fh, .int .i64 st, .int .i64 x0, .int .i64 x1, .int .i64 d0, .int .i64 d1]), (G, 40, #[.int .i64 id, .int .i64 al, .int .i64 ah, .slice A n c, .slice B mm d, .slice C l ee, .int .i64 t0, .int .i64 t1, .int .i64 u0, .int .i64 u1, .int .i64 v0, .int .i64 v1, .int .i64 h0, .int .i64 h1])] : List (Nat × TypeId × Array Value)) : List (Nat × TypeId × Array Value)), zz.1 ≠ N5 := HD5.out
     have HK7 : Hid (Boxes (y6.setRow N5 #[.int .i64 s, .int .i64 t]) ((N5, 35, #[.int .i64 s, .int .i64 t]) :: ((M, 35, #[.int .i64 p, .int .i64 r]) :: [(G + 1 + 1, 73, #[.int .i64 0, .int .i64 0, .int .i64 0, .int .i64 0, .int .i64 0, .int .i64 0]), (G + 1, 43, #[.int .i64 fh, .int .i64 st, .int .i64 x0, .int .i64 x1, .int .i64 d0, .int .i64 d1]), (G, 40, #[.int .i64 id, .int .i64 al, .int .i64 ah, .slice A n c, .slice B mm d, .slice C l ee, .int .i64 t0, .int .i64 t1, .int .i64 u0, .int .i64 u1, .int .i64 v0, .int .i64 v1, .int .i64 h0, .int .i64 h1])] : List (Nat × TypeId × Array Value)))) := Lib.hid (Boxes.row HK6.out (.head _) (fun p hp => ⟨.tail _ hp, ne7 p hp⟩) #[.int .i64 s, .int .i64 t])
     have HE7 := Lib.hid (below_setRow HE6.out (show w.heap.size ≤ N5 from HZ5.out) #[.int .i64 s, .int .i64 t])
     have hS := hHeld.farRow (g := N5) (fun p hp => ne7 p (hp)) #[.int .i64 s, .int .i64 t]
     refine wp_store_row 35 (.tmp 8) (.tmp 24) rfl N5 #[.int .i64 s, .int .i64 t] rfl rfl 35 _ (HK6.out _ (.head _)) (by kernel_rfl) rfl (by kernel_rfl) ?_
     obtain ⟨y7, hW⟩ : ∃ W', y6.setRow N5 #[.int .i64 s, .int .i64 t] = W' := ⟨_, rfl⟩
     rw [hW] at HE7 HK7 hS ⊢
     refine hK.out _ _ hS (fun hHeld2 => ?_)
     try simp only [Act.put, uA, uZ, uS]
     clear hW hS hK K hHeld ne7 HE6 HK6
     have hHeld := hHeld2
     clear hHeld2
     refine wpAnyH_done (by kernel_rfl) ?_ _
     go_wp2_with fail
     go_meet
     exact ⟨N5, rfl, HK7.out, HE7.out, HD5.out (_, _, _) (.tail _ (.head _))⟩
   ·skip
    go_simp
    have HE8 := Lib.hid (below_then HEd.out (below_alloc1 W2 (.cells #[.int .i64 0, .int .i64 0] 35))); have HK8 := Lib.hid (HKd.out.new 35 #[.int .i64 0, .int .i64 0])
    have hS := hHeld.on (below_alloc1 W2 (.cells #[.int .i64 0, .int .i64 0] 35))
    have HD8 := Lib.hid (boxes_lt HKd.out)
    have HZ8 := Lib.hid HEd.out.size
    refine hK.out _ _ hS (fun hHeld2 => ?_)
    try simp only [Act.put, uA, uZ, uS]
    clear hS hK K hHeld HEd HKd
    have hHeld := hHeld2
    clear hHeld2
    obtain ⟨y8, hW⟩ : ∃ W', W2.alloc (.cells #[.int .i64 0, .int .i64 0] 35) = W' := ⟨_, rfl⟩
    rw [hW] at HE8 HK8 hHeld ⊢
    clear hW
    obtain ⟨N8, hN⟩ : ∃ N, W2.heap.size = N := ⟨_, rfl⟩
    rw [hN] at HK8 HD8 HZ8 ⊢
    clear hN
    refine wpAnyH_ready (rs := [1]) (by kernel_rfl) (by simp) ?_
    refine AllReadyH.cons rfl (fun K hK => ?_) AllReadyH.nil
    go_simp
    (with_reducible refine (X2.out _).mono ?_)
    rintro e y9 ⟨rfl, hb⟩
    have HE9 := Lib.hid (below_then HE8.out hb); have HK9 := Lib.hid (HK8.out.on hb)
    have hS := hHeld.on hb
    clear hb
    refine hK.out _ _ hS (fun hHeld2 => ?_)
    try simp only [Act.put, uA, uZ, uS]
    clear hS hK K hHeld HE8 HK8
    have hHeld := hHeld2
    clear hHeld2
    refine tK 21 (i := 2) (v := fnV 128) rfl rfl (by kernel_rfl) ?_ hHeld ?_
    ·intro w hSw; clear hSw; go_simp; try with_reducible rfl
    simp only [uZ, uS]
    refine wpAnyH_ready (rs := [5]) (by kernel_rfl) (by simp) ?_
    refine AllReadyH.cons rfl (fun K hK => ?_) AllReadyH.nil
    go_simp
    (with_reducible refine (X3.out _ HE9.out).mono ?_)
    rintro e y10 ⟨rfl, hb⟩
    have HE10 := Lib.hid (below_then HE9.out hb); have HK10 := Lib.hid (HK9.out.on hb)
    have hS := hHeld.on hb
    clear hb
    refine hK.out _ _ hS (fun hHeld2 => ?_)
    try simp only [Act.put, uA, uZ, uS]
    clear hS hK K hHeld HE9 HK9
    have hHeld := hHeld2
    clear hHeld2
    refine wpAnyH_ready (rs := [7]) (by kernel_rfl) (by simp) ?_
    refine AllReadyH.cons rfl (fun K hK => ?_) AllReadyH.nil
    rw [if_pos (by kernel_rfl)]
    have ne11 : ∀ zz ∈ (((M, 35, #[.int .i64 p, .int .i64 r]) :: [(G + 1 + 1, 73, #[.int .i64 0, .int .i64 0, .int .i64 0, .int .i64 0, .int .i64 0, .int .i64 0]), (G + 1, 43, #[.int .i64 fh, .int .i64 st, .int .i64 x0, .int .i64 x1, .int .i64 d0, .int .i64 d1]), (G, 40, #[.int .i64 id, .int .i64 al, .int .i64 ah, .slice A n c, .slice B mm d, .slice C l ee, .int .i64 t0, .int .i64 t1, .int .i64 u0, .int .i64 u1, .int .i64 v0, .int .i64 v1, .int .i64 h0, .int .i64 h1])] : List (Nat × TypeId × Array Value)) : List (Nat × TypeId × Array Value)), zz.1 ≠ N8 := HD8.out
    have HK11 : Hid (Boxes (y10.setRow N8 #[.int .i64 s, .int .i64 t]) ((N8, 35, #[.int .i64 s, .int .i64 t]) :: ((M, 35, #[.int .i64 p, .int .i64 r]) :: [(G + 1 + 1, 73, #[.int .i64 0, .int .i64 0, .int .i64 0, .int .i64 0, .int .i64 0, .int .i64 0]), (G + 1, 43, #[.int .i64 fh, .int .i64 st, .int .i64 x0, .int .i64 x1, .int .i64 d0, .int .i64 d1]), (G, 40, #[.int .i64 id, .int .i64 al, .int .i64 ah, .slice A n c, .slice B mm d, .slice C l ee, .int .i64 t0, .int .i64 t1, .int .i64 u0, .int .i64 u1, .int .i64 v0, .int .i64 v1, .int .i64 h0, .int .i64 h1])] : List (Nat × TypeId × Array Value)))) := Lib.hid (Boxes.row HK10.out (.head _) (fun p hp => ⟨.tail _ hp, ne11 p hp⟩) #[.int .i64 s, .int .i64 t])
    have HE11 := Lib.hid (below_setRow HE10.out (show w.heap.size ≤ N8 from HZ8.out) #[.int .i64 s, .int .i64 t])
    have hS := hHeld.farRow (g := N8) (fun p hp => ne11 p (hp)) #[.int .i64 s, .int .i64 t]
    refine wp_store_row 35 (.tmp 8) (.tmp 24) rfl N8 #[.int .i64 s, .int .i64 t] rfl rfl 35 _ (HK10.out _ (.head _)) (by kernel_rfl) rfl (by kernel_rfl) ?_
    obtain ⟨y11, hW⟩ : ∃ W', y10.setRow N8 #[.int .i64 s, .int .i64 t] = W' := ⟨_, rfl⟩
    rw [hW] at HE11 HK11 hS ⊢
    refine hK.out _ _ hS (fun hHeld2 => ?_)
    try simp only [Act.put, uA, uZ, uS]
    clear hW hS hK K hHeld ne11 HE10 HK10
    have hHeld := hHeld2
    clear hHeld2
    refine wpAnyH_done (by kernel_rfl) ?_ _
    go_wp2_with fail
    go_meet
    exact ⟨N8, rfl, HK11.out, HE11.out, HD8.out (_, _, _) (.tail _ (.head _))⟩
  case rest =>
   obtain ⟨N3, rfl, hB, hE, n3⟩ := hcut
   have HE5 := Lib.hid hE
   have HK5 := Lib.hid hB
   rename World => W5
   clear hB hE n3 HE1 HK1 HDM X2 X3
   have aa := HK5.out _ (.head _)
   have aa0 := aa.cell 0
   have aa1 := aa.cell 1
   simp at aa0 aa1
   clear aa
   have ab := HK5.out _ (.tail _ (.head _))
   have ab0 := ab.cell 0
   have ab1 := ab.cell 1
   simp at ab0 ab1
   clear ab
   have ac := HK5.out _ (.tail _ (.tail _ (.tail _ (.tail _ (.head _)))))
   have ac1 := ac.cell 1
   have ac2 := ac.cell 2
   simp at ac1 ac2
   clear ac
   go_upto_region 5 with fail
   refine wp_region_lit ?_
   refine wpList_plain rfl (fun K hK => ?_)
   go_simp
   refine hK _ _ ?_
   clear hK K
   refine wpList_plain rfl (fun K hK => ?_)
   go_simp
   refine hK _ _ ?_
   clear hK K
   refine wpList_plain rfl (fun K hK => ?_)
   go_simp
   refine hK _ _ ?_
   clear hK K
   refine wpList_plain rfl (fun K hK => ?_)
   go_simp
   refine hK _ _ ?_
   clear hK K
   refine wpList_plain rfl (fun K hK => ?_)
   go_simp
   refine hK _ _ ?_
   clear hK K
   have HKR : Hid (Blk (W5.setRow (G + 1 + 1) #[.int .i64 p, .int .i64 r, .int .i64 al, .int .i64 ah, .int .i64 s, .int .i64 t]) (G + 1 + 1) 73 #[.int .i64 p, .int .i64 r, .int .i64 al, .int .i64 ah, .int .i64 s, .int .i64 t]) := Lib.hid (setRow_heap W5 (G + 1 + 1) _ _ 73 _ (HK5.out _ (.tail _ (.tail _ (.head _)))))
   have HE9 := Lib.hid (below_setRow HE5.out (show w.heap.size ≤ G + 1 + 1 by have := HG.out; omega) #[.int .i64 p, .int .i64 r, .int .i64 al, .int .i64 ah, .int .i64 s, .int .i64 t])
   refine wpList_store_row rfl 73 (.tmp 4) (.tmp 29) rfl (G + 1 + 1) #[.int .i64 p, .int .i64 r, .int .i64 al, .int .i64 ah, .int .i64 s, .int .i64 t] rfl rfl 73 _ (HK5.out _ (.tail _ (.tail _ (.head _)))) (by kernel_rfl) rfl (by kernel_rfl) ?_
   obtain ⟨W9, hW9⟩ : ∃ W9, W5.setRow (G + 1 + 1) #[.int .i64 p, .int .i64 r, .int .i64 al, .int .i64 ah, .int .i64 s, .int .i64 t] = W9 := ⟨_, rfl⟩
   rw [hW9] at HKR HE9 ⊢
   clear hW9
   go_wp2
   exact bodyPost_ret (v := .tuple #[.agg #[.int .i64 p, .int .i64 r, .int .i64 al, .int .i64 ah, .int .i64 s, .int .i64 t], .int .i64 0]) (results_cell_tmp_row Tryz.results21 _ _ (G + 1 + 1) 73 #[.int .i64 p, .int .i64 r, .int .i64 al, .int .i64 ah, .int .i64 s, .int .i64 t] (0, 0) _ _ rfl rfl HKR.out Tryz.underlying73 rfl (by kernel_rfl)) rfl ⟨rfl, HE9.out⟩
 ·have eR := HR.out
  rw [if_neg g] at eR
  subst eR
  clear HR D2 D3
  go_upto_region 3 with fail
  refine wp_region_lit ?_
  refine wpList_plain rfl (fun K hK => ?_)
  go_simp
  refine hK _ _ ?_
  clear hK K
  refine wpList_plain rfl (fun K hK => ?_)
  go_simp
  refine hK _ _ ?_
  clear hK K
  have HKR : Hid (Blk (W1.setRow (G + 1 + 1) #[.int .i64 0, .int .i64 0, .int .i64 0, .int .i64 0, .int .i64 0, .int .i64 0]) (G + 1 + 1) 73 #[.int .i64 0, .int .i64 0, .int .i64 0, .int .i64 0, .int .i64 0, .int .i64 0]) := Lib.hid (setRow_heap W1 (G + 1 + 1) _ _ 73 _ (HK1.out _ (.tail _ (.head _))))
  have HE9 := Lib.hid (below_setRow HE1.out (show w.heap.size ≤ G + 1 + 1 by have := HG.out; omega) #[.int .i64 0, .int .i64 0, .int .i64 0, .int .i64 0, .int .i64 0, .int .i64 0])
  refine wpList_store_row rfl 73 (.tmp 4) (.tmp 17) rfl (G + 1 + 1) #[.int .i64 0, .int .i64 0, .int .i64 0, .int .i64 0, .int .i64 0, .int .i64 0] rfl rfl 73 _ (HK1.out _ (.tail _ (.head _))) (by kernel_rfl) rfl (by kernel_rfl) ?_
  obtain ⟨W9, hW9⟩ : ∃ W9, W1.setRow (G + 1 + 1) #[.int .i64 0, .int .i64 0, .int .i64 0, .int .i64 0, .int .i64 0, .int .i64 0] = W9 := ⟨_, rfl⟩
  rw [hW9] at HKR HE9 ⊢
  clear hW9
  go_wp2
  exact bodyPost_ret (v := .tuple #[.agg #[.int .i64 0, .int .i64 0, .int .i64 0, .int .i64 0, .int .i64 0, .int .i64 0], .int .i64 E]) (results_cell_tmp_row Tryz.results21 _ _ (G + 1 + 1) 73 #[.int .i64 0, .int .i64 0, .int .i64 0, .int .i64 0, .int .i64 0, .int .i64 0] (0, 0) _ _ rfl rfl HKR.out Tryz.underlying73 rfl (by kernel_rfl)) rfl ⟨rfl, HE9.out⟩

set_option maxRecDepth 100000 in
set_option maxHeartbeats 4000000 in
theorem hweight_1 (E p r s t : Int) (ma mb mc me : Nat) (mx my mz : Int) (id al ah t0 t1 u0 u1 v0 v1 h0 h1 : Int) (A B C : Option Addr) (n c mm d l ee : Nat) (fh st x0 x1 d0 d1 : Int) (w : World)
  (C1 : ∀ W, Below w.heap.size w W → Calls Tryz.prog 27 #[.agg #[.int .i64 id, .int .i64 al, .int .i64 ah, .slice A n c, .slice B mm d, .slice C l ee, .int .i64 t0, .int .i64 t1, .int .i64 u0, .int .i64 u1, .int .i64 v0, .int .i64 v1, .int .i64 h0, .int .i64 h1], .agg #[.int .i64 fh, .int .i64 st, .int .i64 x0, .int .i64 x1, .int .i64 d0, .int .i64 d1]] W fun e w' => e = .returned (.tuple #[rv p r, .int .i64 E]) ∧ Below W.heap.size W w')
  (C2 : E = 0 → ∀ W, Calls Tryz.prog 40 #[.agg #[.int .i64 fh, .int .i64 st, .int .i64 x0, .int .i64 x1, .int .i64 d0, .int .i64 d1]] W fun e w' => e = .returned (.agg #[fnV ma, fnV mb, fnV mc, fnV 132, fnV me, .int .i64 mx, .int .i64 my, .int .i64 mz]) ∧ Below W.heap.size W w')
  (C3 : E = 0 → ∀ W, Below w.heap.size w W → Calls Tryz.prog 132 #[.agg #[.int .i64 id, .int .i64 al, .int .i64 ah, .slice A n c, .slice B mm d, .slice C l ee, .int .i64 t0, .int .i64 t1, .int .i64 u0, .int .i64 u1, .int .i64 v0, .int .i64 v1, .int .i64 h0, .int .i64 h1], .agg #[.int .i64 fh, .int .i64 st, .int .i64 x0, .int .i64 x1, .int .i64 d0, .int .i64 d1]] W fun e w' => e = .returned (rv s t) ∧ Below W.heap.size W w') :
  Calls Tryz.prog 21 #[.agg #[.int .i64 id, .int .i64 al, .int .i64 ah, .slice A n c, .slice B mm d, .slice C l ee, .int .i64 t0, .int .i64 t1, .int .i64 u0, .int .i64 u1, .int .i64 v0, .int .i64 v1, .int .i64 h0, .int .i64 h1], .agg #[.int .i64 fh, .int .i64 st, .int .i64 x0, .int .i64 x1, .int .i64 d0, .int .i64 d1]] w fun e w' => e = .returned (if E = 0 then wt p r al ah s t 0 else wt 0 0 0 0 0 0 E) ∧ Below w.heap.size w w' := by
 have HE := Lib.hid (show Below w.heap.size w (((w.alloc (.cells #[.int .i64 id, .int .i64 al, .int .i64 ah, .slice A n c, .slice B mm d, .slice C l ee, .int .i64 t0, .int .i64 t1, .int .i64 u0, .int .i64 u1, .int .i64 v0, .int .i64 v1, .int .i64 h0, .int .i64 h1] 40)).alloc (.cells #[.int .i64 fh, .int .i64 st, .int .i64 x0, .int .i64 x1, .int .i64 d0, .int .i64 d1] 43)).alloc (.cells #[.int .i64 0, .int .i64 0, .int .i64 0, .int .i64 0, .int .i64 0, .int .i64 0] 73)) from below_a3 (Below.refl _ _))
 have HK := Lib.hid (boxes3' w 40 43 73 #[.int .i64 id, .int .i64 al, .int .i64 ah, .slice A n c, .slice B mm d, .slice C l ee, .int .i64 t0, .int .i64 t1, .int .i64 u0, .int .i64 u1, .int .i64 v0, .int .i64 v1, .int .i64 h0, .int .i64 h1] #[.int .i64 fh, .int .i64 st, .int .i64 x0, .int .i64 x1, .int .i64 d0, .int .i64 d1] #[.int .i64 0, .int .i64 0, .int .i64 0, .int .i64 0, .int .i64 0, .int .i64 0])
 have D1 := Lib.hid C1
 have D2 := Lib.hid C2
 have D3 := Lib.hid C3
 clear C1 C2 C3
 obtain ⟨R, hR⟩ : ∃ R, (if E = 0 then wt p r al ah s t 0 else wt 0 0 0 0 0 0 E) = R := ⟨_, rfl⟩
 rw [hR]
 have HR := Lib.hid hR
 clear hR
 go_enter Tryz.func21, Tryz.ntmps21
 go_wp2_with fail
 obtain ⟨W0, hW0⟩ : ∃ W0, (((w.alloc (.cells #[.int .i64 id, .int .i64 al, .int .i64 ah, .slice A n c, .slice B mm d, .slice C l ee, .int .i64 t0, .int .i64 t1, .int .i64 u0, .int .i64 u1, .int .i64 v0, .int .i64 v1, .int .i64 h0, .int .i64 h1] 40)).alloc (.cells #[.int .i64 fh, .int .i64 st, .int .i64 x0, .int .i64 x1, .int .i64 d0, .int .i64 d1] 43)).alloc (.cells #[.int .i64 0, .int .i64 0, .int .i64 0, .int .i64 0, .int .i64 0, .int .i64 0] 73)) = W0 := ⟨_, rfl⟩
 rw [hW0] at HE HK ⊢
 clear hW0
 obtain ⟨G, hG⟩ : ∃ G, w.heap.size = G := ⟨_, rfl⟩
 rw [hG] at HK ⊢
 have HG := Lib.hid hG; clear hG
 refine (D1.out _ HE.out).mono ?_
 rintro e w1 ⟨rfl, hb⟩
 have HE1 := Lib.hid (below_then (below_then HE.out hb) (below_alloc1 w1 (.cells #[.int .i64 p, .int .i64 r] 35))); have HK1 := Lib.hid ((HK.out.on hb).new 35 #[.int .i64 p, .int .i64 r])
 have HDM := Lib.hid (boxes_lt (HK.out.on hb))
 clear hb HE HK D1
 go_upto_region 2 with fail
 obtain ⟨W1, hW⟩ : ∃ W1, w1.alloc (.cells #[.int .i64 p, .int .i64 r] 35) = W1 := ⟨_, rfl⟩
 rw [hW] at HE1 HK1 ⊢
 clear hW
 obtain ⟨M, hM⟩ : ∃ M, w1.heap.size = M := ⟨_, rfl⟩
 rw [hM] at HK1 HDM ⊢
 clear hM
 by_cases g : E = 0
 ·have eR := HR.out
  rw [if_pos g] at eR
  subst eR
  have X2 := Lib.hid (D2.out g)
  have X3 := Lib.hid (D3.out g)
  clear HR D2 D3
  subst g
  go_upto_region 4 with fail
  go_cut [8] (fun s8 wx => ∃ N3, s8 = .pointer (some ⟨N3, 0, none⟩) ∧ Boxes wx ((N3, 35, #[.int .i64 s, .int .i64 t]) :: ((M, 35, #[.int .i64 p, .int .i64 r]) :: [(G + 1 + 1, 73, #[.int .i64 0, .int .i64 0, .int .i64 0, .int .i64 0, .int .i64 0, .int .i64 0]), (G + 1, 43, #[.int .i64 fh, .int .i64 st, .int .i64 x0, .int .i64 x1, .int .i64 d0, .int .i64 d1]), (G, 40, #[.int .i64 id, .int .i64 al, .int .i64 ah, .slice A n c, .slice B mm d, .slice C l ee, .int .i64 t0, .int .i64 t1, .int .i64 u0, .int .i64 u1, .int .i64 v0, .int .i64 v1, .int .i64 h0, .int .i64 h1])] : List (Nat × TypeId × Array Value))) ∧ Below w.heap.size w wx ∧ G + 1 + 1 ≠ N3)
  case first =>
   have hS0 : Boxes W1.drew ((M, 35, #[.int .i64 p, .int .i64 r]) :: [(G + 1 + 1, 73, #[.int .i64 0, .int .i64 0, .int .i64 0, .int .i64 0, .int .i64 0, .int .i64 0]), (G + 1, 43, #[.int .i64 fh, .int .i64 st, .int .i64 x0, .int .i64 x1, .int .i64 d0, .int .i64 d1]), (G, 40, #[.int .i64 id, .int .i64 al, .int .i64 ah, .slice A n c, .slice B mm d, .slice C l ee, .int .i64 t0, .int .i64 t1, .int .i64 u0, .int .i64 u1, .int .i64 v0, .int .i64 v1, .int .i64 h0, .int .i64 h1])] : List (Nat × TypeId × Array Value)) := HK1.out
   have HEd := Lib.hid HE1.out.drew
   have HKd := Lib.hid hS0
   refine wp_region_held_drew (S := fun w' => Boxes w' ((M, 35, #[.int .i64 p, .int .i64 r]) :: [(G + 1 + 1, 73, #[.int .i64 0, .int .i64 0, .int .i64 0, .int .i64 0, .int .i64 0, .int .i64 0]), (G + 1, 43, #[.int .i64 fh, .int .i64 st, .int .i64 x0, .int .i64 x1, .int .i64 d0, .int .i64 d1]), (G, 40, #[.int .i64 id, .int .i64 al, .int .i64 ah, .slice A n c, .slice B mm d, .slice C l ee, .int .i64 t0, .int .i64 t1, .int .i64 u0, .int .i64 u1, .int .i64 v0, .int .i64 v1, .int .i64 h0, .int .i64 h1])] : List (Nat × TypeId × Array Value))) (by kernel_rfl) hS0 (fun hHeld => ?_)
   obtain ⟨W2, hW⟩ : ∃ W', W1.drew = W' := ⟨_, rfl⟩
   rw [hW] at HEd HKd hHeld ⊢
   clear hW hS0 HE1 HK1
   refine tK 19 (i := 0) (v := .agg #[.int .i64 fh, .int .i64 st, .int .i64 x0, .int .i64 x1, .int .i64 d0, .int .i64 d1]) rfl rfl (by kernel_rfl) ?_ hHeld ?_
   ·intro w hSw; have hz := (hSw _ (.tail _ (.tail _ (.head _)))); have c0 := hz.cell 0; have c1 := hz.cell 1; have c2 := hz.cell 2; have c3 := hz.cell 3; have c4 := hz.cell 4; have c5 := hz.cell 5; simp at c0 c1 c2 c3 c4 c5; clear hz hSw; go_simp; try with_reducible rfl
   simp only [uZ, uS]
   refine tK 22 (i := 3) (v := .agg #[.int .i64 id, .int .i64 al, .int .i64 ah, .slice A n c, .slice B mm d, .slice C l ee, .int .i64 t0, .int .i64 t1, .int .i64 u0, .int .i64 u1, .int .i64 v0, .int .i64 v1, .int .i64 h0, .int .i64 h1]) rfl rfl (by kernel_rfl) ?_ hHeld ?_
   ·intro w hSw; have hz := (hSw _ (.tail _ (.tail _ (.tail _ (.head _))))); have c0 := hz.cell 0; have c1 := hz.cell 1; have c2 := hz.cell 2; have c3 := hz.cell 3; have c4 := hz.cell 4; have c5 := hz.cell 5; have c6 := hz.cell 6; have c7 := hz.cell 7; have c8 := hz.cell 8; have c9 := hz.cell 9; have c10 := hz.cell 10; have c11 := hz.cell 11; have c12 := hz.cell 12; have c13 := hz.cell 13; simp at c0 c1 c2 c3 c4 c5 c6 c7 c8 c9 c10 c11 c12 c13; clear hz hSw; go_simp; try with_reducible rfl
   simp only [uZ, uS]
   refine tK 23 (i := 4) (v := .agg #[.int .i64 fh, .int .i64 st, .int .i64 x0, .int .i64 x1, .int .i64 d0, .int .i64 d1]) rfl rfl (by kernel_rfl) ?_ hHeld ?_
   ·intro w hSw; have hz := (hSw _ (.tail _ (.tail _ (.head _)))); have c0 := hz.cell 0; have c1 := hz.cell 1; have c2 := hz.cell 2; have c3 := hz.cell 3; have c4 := hz.cell 4; have c5 := hz.cell 5; simp at c0 c1 c2 c3 c4 c5; clear hz hSw; go_simp; try with_reducible rfl
   simp only [uZ, uS]
   refine wpAnyH_ready (rs := [1, 6]) (by kernel_rfl) (by simp) ?_
   refine AllReadyH.cons rfl (fun K hK => ?_) (AllReadyH.cons rfl (fun K hK => ?_) AllReadyH.nil)
   ·skip
    go_simp
    (with_reducible refine (X2.out _).mono ?_)
    rintro e y1 ⟨rfl, hb⟩
    have HE1 := Lib.hid (below_then HEd.out hb); have HK1 := Lib.hid (HKd.out.on hb)
    have hS := hHeld.on hb
    clear hb
    refine hK.out _ _ hS (fun hHeld2 => ?_)
    try simp only [Act.put, uA, uZ, uS]
    clear hS hK K hHeld HEd HKd
    have hHeld := hHeld2
    clear hHeld2
    refine tK 21 (i := 2) (v := fnV 132) rfl rfl (by kernel_rfl) ?_ hHeld ?_
    ·intro w hSw; clear hSw; go_simp; try with_reducible rfl
    simp only [uZ, uS]
    refine wpAnyH_ready (rs := [5, 6]) (by kernel_rfl) (by simp) ?_
    refine AllReadyH.cons rfl (fun K hK => ?_) (AllReadyH.cons rfl (fun K hK => ?_) AllReadyH.nil)
    ·skip
     go_simp
     (with_reducible refine (X3.out _ HE1.out).mono ?_)
     rintro e y2 ⟨rfl, hb⟩
     have HE2 := Lib.hid (below_then HE1.out hb); have HK2 := Lib.hid (HK1.out.on hb)
     have hS := hHeld.on hb
     clear hb
     refine hK.out _ _ hS (fun hHeld2 => ?_)
     try simp only [Act.put, uA, uZ, uS]
     clear hS hK K hHeld HE1 HK1
     have hHeld := hHeld2
     clear hHeld2
     refine wpAnyH_ready (rs := [6]) (by kernel_rfl) (by simp) ?_
     refine AllReadyH.cons rfl (fun K hK => ?_) AllReadyH.nil
     go_simp
     have HE3 := Lib.hid (below_then HE2.out (below_alloc1 y2 (.cells #[.int .i64 0, .int .i64 0] 35))); have HK3 := Lib.hid (HK2.out.new 35 #[.int .i64 0, .int .i64 0])
     have hS := hHeld.on (below_alloc1 y2 (.cells #[.int .i64 0, .int .i64 0] 35))
     have HD3 := Lib.hid (boxes_lt HK2.out)
     have HZ3 := Lib.hid HE2.out.size
     refine hK.out _ _ hS (fun hHeld2 => ?_)
     try simp only [Act.put, uA, uZ, uS]
     clear hS hK K hHeld HE2 HK2
     have hHeld := hHeld2
     clear hHeld2
     obtain ⟨y3, hW⟩ : ∃ W', y2.alloc (.cells #[.int .i64 0, .int .i64 0] 35) = W' := ⟨_, rfl⟩
     rw [hW] at HE3 HK3 hHeld ⊢
     clear hW
     obtain ⟨N3, hN⟩ : ∃ N, y2.heap.size = N := ⟨_, rfl⟩
     rw [hN] at HK3 HD3 HZ3 ⊢
     clear hN
     refine wpAnyH_ready (rs := [7]) (by kernel_rfl) (by simp) ?_
     refine AllReadyH.cons rfl (fun K hK => ?_) AllReadyH.nil
     rw [if_pos (by kernel_rfl)]
     have ne4 : ∀ zz ∈ (((M, 35, #[.int .i64 p, .int .i64 r]) :: [(G + 1 + 1, 73, #[.int .i64 0, .int .i64 0, .int .i64 0, .int .i64 0, .int .i64 0, .int .i64 0]), (G + 1, 43, #[.int .i64 fh, .int .i64 st, .int .i64 x0, .int .i64 x1, .int .i64 d0, .int .i64 d1]), (G, 40, #[.int .i64 id, .int .i64 al, .int .i64 ah, .slice A n c, .slice B mm d, .slice C l ee, .int .i64 t0, .int .i64 t1, .int .i64 u0, .int .i64 u1, .int .i64 v0, .int .i64 v1, .int .i64 h0, .int .i64 h1])] : List (Nat × TypeId × Array Value)) : List (Nat × TypeId × Array Value)), zz.1 ≠ N3 := HD3.out
     have HK4 : Hid (Boxes (y3.setRow N3 #[.int .i64 s, .int .i64 t]) ((N3, 35, #[.int .i64 s, .int .i64 t]) :: ((M, 35, #[.int .i64 p, .int .i64 r]) :: [(G + 1 + 1, 73, #[.int .i64 0, .int .i64 0, .int .i64 0, .int .i64 0, .int .i64 0, .int .i64 0]), (G + 1, 43, #[.int .i64 fh, .int .i64 st, .int .i64 x0, .int .i64 x1, .int .i64 d0, .int .i64 d1]), (G, 40, #[.int .i64 id, .int .i64 al, .int .i64 ah, .slice A n c, .slice B mm d, .slice C l ee, .int .i64 t0, .int .i64 t1, .int .i64 u0, .int .i64 u1, .int .i64 v0, .int .i64 v1, .int .i64 h0, .int .i64 h1])] : List (Nat × TypeId × Array Value)))) := Lib.hid (Boxes.row HK3.out (.head _) (fun p hp => ⟨.tail _ hp, ne4 p hp⟩) #[.int .i64 s, .int .i64 t])
     have HE4 := Lib.hid (below_setRow HE3.out (show w.heap.size ≤ N3 from HZ3.out) #[.int .i64 s, .int .i64 t])
     have hS := hHeld.farRow (g := N3) (fun p hp => ne4 p (hp)) #[.int .i64 s, .int .i64 t]
     refine wp_store_row 35 (.tmp 8) (.tmp 24) rfl N3 #[.int .i64 s, .int .i64 t] rfl rfl 35 _ (HK3.out _ (.head _)) (by kernel_rfl) rfl (by kernel_rfl) ?_
     obtain ⟨y4, hW⟩ : ∃ W', y3.setRow N3 #[.int .i64 s, .int .i64 t] = W' := ⟨_, rfl⟩
     rw [hW] at HE4 HK4 hS ⊢
     refine hK.out _ _ hS (fun hHeld2 => ?_)
     try simp only [Act.put, uA, uZ, uS]
     clear hW hS hK K hHeld ne4 HE3 HK3
     have hHeld := hHeld2
     clear hHeld2
     refine wpAnyH_done (by kernel_rfl) ?_ _
     go_wp2_with fail
     go_meet
     exact ⟨N3, rfl, HK4.out, HE4.out, HD3.out (_, _, _) (.tail _ (.head _))⟩
    ·skip
     go_simp
     have HE5 := Lib.hid (below_then HE1.out (below_alloc1 y1 (.cells #[.int .i64 0, .int .i64 0] 35))); have HK5 := Lib.hid (HK1.out.new 35 #[.int .i64 0, .int .i64 0])
     have hS := hHeld.on (below_alloc1 y1 (.cells #[.int .i64 0, .int .i64 0] 35))
     have HD5 := Lib.hid (boxes_lt HK1.out)
     have HZ5 := Lib.hid HE1.out.size
     refine hK.out _ _ hS (fun hHeld2 => ?_)
     try simp only [Act.put, uA, uZ, uS]
     clear hS hK K hHeld HE1 HK1
     have hHeld := hHeld2
     clear hHeld2
     obtain ⟨y5, hW⟩ : ∃ W', y1.alloc (.cells #[.int .i64 0, .int .i64 0] 35) = W' := ⟨_, rfl⟩
     rw [hW] at HE5 HK5 hHeld ⊢
     clear hW
     obtain ⟨N5, hN⟩ : ∃ N, y1.heap.size = N := ⟨_, rfl⟩
     rw [hN] at HK5 HD5 HZ5 ⊢
     clear hN
     refine wpAnyH_ready (rs := [5]) (by kernel_rfl) (by simp) ?_
     refine AllReadyH.cons rfl (fun K hK => ?_) AllReadyH.nil
     go_simp
     (with_reducible refine (X3.out _ HE5.out).mono ?_)
     rintro e y6 ⟨rfl, hb⟩
     have HE6 := Lib.hid (below_then HE5.out hb); have HK6 := Lib.hid (HK5.out.on hb)
     have hS := hHeld.on hb
     clear hb
     refine hK.out _ _ hS (fun hHeld2 => ?_)
     try simp only [Act.put, uA, uZ, uS]
     clear hS hK K hHeld HE5 HK5
     have hHeld := hHeld2
     clear hHeld2
     refine wpAnyH_ready (rs := [7]) (by kernel_rfl) (by simp) ?_
     refine AllReadyH.cons rfl (fun K hK => ?_) AllReadyH.nil
     rw [if_pos (by kernel_rfl)]
     have ne7 : ∀ zz ∈ (((M, 35, #[.int .i64 p, .int .i64 r]) :: [(G + 1 + 1, 73, #[.int .i64 0, .int .i64 0, .int .i64 0, .int .i64 0, .int .i64 0, .int .i64 0]), (G + 1, 43, #[.int .i64 fh, .int .i64 st, .int .i64 x0, .int .i64 x1, .int .i64 d0, .int .i64 d1]), (G, 40, #[.int .i64 id, .int .i64 al, .int .i64 ah, .slice A n c, .slice B mm d, .slice C l ee, .int .i64 t0, .int .i64 t1, .int .i64 u0, .int .i64 u1, .int .i64 v0, .int .i64 v1, .int .i64 h0, .int .i64 h1])] : List (Nat × TypeId × Array Value)) : List (Nat × TypeId × Array Value)), zz.1 ≠ N5 := HD5.out
     have HK7 : Hid (Boxes (y6.setRow N5 #[.int .i64 s, .int .i64 t]) ((N5, 35, #[.int .i64 s, .int .i64 t]) :: ((M, 35, #[.int .i64 p, .int .i64 r]) :: [(G + 1 + 1, 73, #[.int .i64 0, .int .i64 0, .int .i64 0, .int .i64 0, .int .i64 0, .int .i64 0]), (G + 1, 43, #[.int .i64 fh, .int .i64 st, .int .i64 x0, .int .i64 x1, .int .i64 d0, .int .i64 d1]), (G, 40, #[.int .i64 id, .int .i64 al, .int .i64 ah, .slice A n c, .slice B mm d, .slice C l ee, .int .i64 t0, .int .i64 t1, .int .i64 u0, .int .i64 u1, .int .i64 v0, .int .i64 v1, .int .i64 h0, .int .i64 h1])] : List (Nat × TypeId × Array Value)))) := Lib.hid (Boxes.row HK6.out (.head _) (fun p hp => ⟨.tail _ hp, ne7 p hp⟩) #[.int .i64 s, .int .i64 t])
     have HE7 := Lib.hid (below_setRow HE6.out (show w.heap.size ≤ N5 from HZ5.out) #[.int .i64 s, .int .i64 t])
     have hS := hHeld.farRow (g := N5) (fun p hp => ne7 p (hp)) #[.int .i64 s, .int .i64 t]
     refine wp_store_row 35 (.tmp 8) (.tmp 24) rfl N5 #[.int .i64 s, .int .i64 t] rfl rfl 35 _ (HK6.out _ (.head _)) (by kernel_rfl) rfl (by kernel_rfl) ?_
     obtain ⟨y7, hW⟩ : ∃ W', y6.setRow N5 #[.int .i64 s, .int .i64 t] = W' := ⟨_, rfl⟩
     rw [hW] at HE7 HK7 hS ⊢
     refine hK.out _ _ hS (fun hHeld2 => ?_)
     try simp only [Act.put, uA, uZ, uS]
     clear hW hS hK K hHeld ne7 HE6 HK6
     have hHeld := hHeld2
     clear hHeld2
     refine wpAnyH_done (by kernel_rfl) ?_ _
     go_wp2_with fail
     go_meet
     exact ⟨N5, rfl, HK7.out, HE7.out, HD5.out (_, _, _) (.tail _ (.head _))⟩
   ·skip
    go_simp
    have HE8 := Lib.hid (below_then HEd.out (below_alloc1 W2 (.cells #[.int .i64 0, .int .i64 0] 35))); have HK8 := Lib.hid (HKd.out.new 35 #[.int .i64 0, .int .i64 0])
    have hS := hHeld.on (below_alloc1 W2 (.cells #[.int .i64 0, .int .i64 0] 35))
    have HD8 := Lib.hid (boxes_lt HKd.out)
    have HZ8 := Lib.hid HEd.out.size
    refine hK.out _ _ hS (fun hHeld2 => ?_)
    try simp only [Act.put, uA, uZ, uS]
    clear hS hK K hHeld HEd HKd
    have hHeld := hHeld2
    clear hHeld2
    obtain ⟨y8, hW⟩ : ∃ W', W2.alloc (.cells #[.int .i64 0, .int .i64 0] 35) = W' := ⟨_, rfl⟩
    rw [hW] at HE8 HK8 hHeld ⊢
    clear hW
    obtain ⟨N8, hN⟩ : ∃ N, W2.heap.size = N := ⟨_, rfl⟩
    rw [hN] at HK8 HD8 HZ8 ⊢
    clear hN
    refine wpAnyH_ready (rs := [1]) (by kernel_rfl) (by simp) ?_
    refine AllReadyH.cons rfl (fun K hK => ?_) AllReadyH.nil
    go_simp
    (with_reducible refine (X2.out _).mono ?_)
    rintro e y9 ⟨rfl, hb⟩
    have HE9 := Lib.hid (below_then HE8.out hb); have HK9 := Lib.hid (HK8.out.on hb)
    have hS := hHeld.on hb
    clear hb
    refine hK.out _ _ hS (fun hHeld2 => ?_)
    try simp only [Act.put, uA, uZ, uS]
    clear hS hK K hHeld HE8 HK8
    have hHeld := hHeld2
    clear hHeld2
    refine tK 21 (i := 2) (v := fnV 132) rfl rfl (by kernel_rfl) ?_ hHeld ?_
    ·intro w hSw; clear hSw; go_simp; try with_reducible rfl
    simp only [uZ, uS]
    refine wpAnyH_ready (rs := [5]) (by kernel_rfl) (by simp) ?_
    refine AllReadyH.cons rfl (fun K hK => ?_) AllReadyH.nil
    go_simp
    (with_reducible refine (X3.out _ HE9.out).mono ?_)
    rintro e y10 ⟨rfl, hb⟩
    have HE10 := Lib.hid (below_then HE9.out hb); have HK10 := Lib.hid (HK9.out.on hb)
    have hS := hHeld.on hb
    clear hb
    refine hK.out _ _ hS (fun hHeld2 => ?_)
    try simp only [Act.put, uA, uZ, uS]
    clear hS hK K hHeld HE9 HK9
    have hHeld := hHeld2
    clear hHeld2
    refine wpAnyH_ready (rs := [7]) (by kernel_rfl) (by simp) ?_
    refine AllReadyH.cons rfl (fun K hK => ?_) AllReadyH.nil
    rw [if_pos (by kernel_rfl)]
    have ne11 : ∀ zz ∈ (((M, 35, #[.int .i64 p, .int .i64 r]) :: [(G + 1 + 1, 73, #[.int .i64 0, .int .i64 0, .int .i64 0, .int .i64 0, .int .i64 0, .int .i64 0]), (G + 1, 43, #[.int .i64 fh, .int .i64 st, .int .i64 x0, .int .i64 x1, .int .i64 d0, .int .i64 d1]), (G, 40, #[.int .i64 id, .int .i64 al, .int .i64 ah, .slice A n c, .slice B mm d, .slice C l ee, .int .i64 t0, .int .i64 t1, .int .i64 u0, .int .i64 u1, .int .i64 v0, .int .i64 v1, .int .i64 h0, .int .i64 h1])] : List (Nat × TypeId × Array Value)) : List (Nat × TypeId × Array Value)), zz.1 ≠ N8 := HD8.out
    have HK11 : Hid (Boxes (y10.setRow N8 #[.int .i64 s, .int .i64 t]) ((N8, 35, #[.int .i64 s, .int .i64 t]) :: ((M, 35, #[.int .i64 p, .int .i64 r]) :: [(G + 1 + 1, 73, #[.int .i64 0, .int .i64 0, .int .i64 0, .int .i64 0, .int .i64 0, .int .i64 0]), (G + 1, 43, #[.int .i64 fh, .int .i64 st, .int .i64 x0, .int .i64 x1, .int .i64 d0, .int .i64 d1]), (G, 40, #[.int .i64 id, .int .i64 al, .int .i64 ah, .slice A n c, .slice B mm d, .slice C l ee, .int .i64 t0, .int .i64 t1, .int .i64 u0, .int .i64 u1, .int .i64 v0, .int .i64 v1, .int .i64 h0, .int .i64 h1])] : List (Nat × TypeId × Array Value)))) := Lib.hid (Boxes.row HK10.out (.head _) (fun p hp => ⟨.tail _ hp, ne11 p hp⟩) #[.int .i64 s, .int .i64 t])
    have HE11 := Lib.hid (below_setRow HE10.out (show w.heap.size ≤ N8 from HZ8.out) #[.int .i64 s, .int .i64 t])
    have hS := hHeld.farRow (g := N8) (fun p hp => ne11 p (hp)) #[.int .i64 s, .int .i64 t]
    refine wp_store_row 35 (.tmp 8) (.tmp 24) rfl N8 #[.int .i64 s, .int .i64 t] rfl rfl 35 _ (HK10.out _ (.head _)) (by kernel_rfl) rfl (by kernel_rfl) ?_
    obtain ⟨y11, hW⟩ : ∃ W', y10.setRow N8 #[.int .i64 s, .int .i64 t] = W' := ⟨_, rfl⟩
    rw [hW] at HE11 HK11 hS ⊢
    refine hK.out _ _ hS (fun hHeld2 => ?_)
    try simp only [Act.put, uA, uZ, uS]
    clear hW hS hK K hHeld ne11 HE10 HK10
    have hHeld := hHeld2
    clear hHeld2
    refine wpAnyH_done (by kernel_rfl) ?_ _
    go_wp2_with fail
    go_meet
    exact ⟨N8, rfl, HK11.out, HE11.out, HD8.out (_, _, _) (.tail _ (.head _))⟩
  case rest =>
   obtain ⟨N3, rfl, hB, hE, n3⟩ := hcut
   have HE5 := Lib.hid hE
   have HK5 := Lib.hid hB
   rename World => W5
   clear hB hE n3 HE1 HK1 HDM X2 X3
   have aa := HK5.out _ (.head _)
   have aa0 := aa.cell 0
   have aa1 := aa.cell 1
   simp at aa0 aa1
   clear aa
   have ab := HK5.out _ (.tail _ (.head _))
   have ab0 := ab.cell 0
   have ab1 := ab.cell 1
   simp at ab0 ab1
   clear ab
   have ac := HK5.out _ (.tail _ (.tail _ (.tail _ (.tail _ (.head _)))))
   have ac1 := ac.cell 1
   have ac2 := ac.cell 2
   simp at ac1 ac2
   clear ac
   go_upto_region 5 with fail
   refine wp_region_lit ?_
   refine wpList_plain rfl (fun K hK => ?_)
   go_simp
   refine hK _ _ ?_
   clear hK K
   refine wpList_plain rfl (fun K hK => ?_)
   go_simp
   refine hK _ _ ?_
   clear hK K
   refine wpList_plain rfl (fun K hK => ?_)
   go_simp
   refine hK _ _ ?_
   clear hK K
   refine wpList_plain rfl (fun K hK => ?_)
   go_simp
   refine hK _ _ ?_
   clear hK K
   refine wpList_plain rfl (fun K hK => ?_)
   go_simp
   refine hK _ _ ?_
   clear hK K
   have HKR : Hid (Blk (W5.setRow (G + 1 + 1) #[.int .i64 p, .int .i64 r, .int .i64 al, .int .i64 ah, .int .i64 s, .int .i64 t]) (G + 1 + 1) 73 #[.int .i64 p, .int .i64 r, .int .i64 al, .int .i64 ah, .int .i64 s, .int .i64 t]) := Lib.hid (setRow_heap W5 (G + 1 + 1) _ _ 73 _ (HK5.out _ (.tail _ (.tail _ (.head _)))))
   have HE9 := Lib.hid (below_setRow HE5.out (show w.heap.size ≤ G + 1 + 1 by have := HG.out; omega) #[.int .i64 p, .int .i64 r, .int .i64 al, .int .i64 ah, .int .i64 s, .int .i64 t])
   refine wpList_store_row rfl 73 (.tmp 4) (.tmp 29) rfl (G + 1 + 1) #[.int .i64 p, .int .i64 r, .int .i64 al, .int .i64 ah, .int .i64 s, .int .i64 t] rfl rfl 73 _ (HK5.out _ (.tail _ (.tail _ (.head _)))) (by kernel_rfl) rfl (by kernel_rfl) ?_
   obtain ⟨W9, hW9⟩ : ∃ W9, W5.setRow (G + 1 + 1) #[.int .i64 p, .int .i64 r, .int .i64 al, .int .i64 ah, .int .i64 s, .int .i64 t] = W9 := ⟨_, rfl⟩
   rw [hW9] at HKR HE9 ⊢
   clear hW9
   go_wp2
   exact bodyPost_ret (v := .tuple #[.agg #[.int .i64 p, .int .i64 r, .int .i64 al, .int .i64 ah, .int .i64 s, .int .i64 t], .int .i64 0]) (results_cell_tmp_row Tryz.results21 _ _ (G + 1 + 1) 73 #[.int .i64 p, .int .i64 r, .int .i64 al, .int .i64 ah, .int .i64 s, .int .i64 t] (0, 0) _ _ rfl rfl HKR.out Tryz.underlying73 rfl (by kernel_rfl)) rfl ⟨rfl, HE9.out⟩
 ·have eR := HR.out
  rw [if_neg g] at eR
  subst eR
  clear HR D2 D3
  go_upto_region 3 with fail
  refine wp_region_lit ?_
  refine wpList_plain rfl (fun K hK => ?_)
  go_simp
  refine hK _ _ ?_
  clear hK K
  refine wpList_plain rfl (fun K hK => ?_)
  go_simp
  refine hK _ _ ?_
  clear hK K
  have HKR : Hid (Blk (W1.setRow (G + 1 + 1) #[.int .i64 0, .int .i64 0, .int .i64 0, .int .i64 0, .int .i64 0, .int .i64 0]) (G + 1 + 1) 73 #[.int .i64 0, .int .i64 0, .int .i64 0, .int .i64 0, .int .i64 0, .int .i64 0]) := Lib.hid (setRow_heap W1 (G + 1 + 1) _ _ 73 _ (HK1.out _ (.tail _ (.head _))))
  have HE9 := Lib.hid (below_setRow HE1.out (show w.heap.size ≤ G + 1 + 1 by have := HG.out; omega) #[.int .i64 0, .int .i64 0, .int .i64 0, .int .i64 0, .int .i64 0, .int .i64 0])
  refine wpList_store_row rfl 73 (.tmp 4) (.tmp 17) rfl (G + 1 + 1) #[.int .i64 0, .int .i64 0, .int .i64 0, .int .i64 0, .int .i64 0, .int .i64 0] rfl rfl 73 _ (HK1.out _ (.tail _ (.head _))) (by kernel_rfl) rfl (by kernel_rfl) ?_
  obtain ⟨W9, hW9⟩ : ∃ W9, W1.setRow (G + 1 + 1) #[.int .i64 0, .int .i64 0, .int .i64 0, .int .i64 0, .int .i64 0, .int .i64 0] = W9 := ⟨_, rfl⟩
  rw [hW9] at HKR HE9 ⊢
  clear hW9
  go_wp2
  exact bodyPost_ret (v := .tuple #[.agg #[.int .i64 0, .int .i64 0, .int .i64 0, .int .i64 0, .int .i64 0, .int .i64 0], .int .i64 E]) (results_cell_tmp_row Tryz.results21 _ _ (G + 1 + 1) 73 #[.int .i64 0, .int .i64 0, .int .i64 0, .int .i64 0, .int .i64 0, .int .i64 0] (0, 0) _ _ rfl rfl HKR.out Tryz.underlying73 rfl (by kernel_rfl)) rfl ⟨rfl, HE9.out⟩

set_option maxRecDepth 100000 in
set_option maxHeartbeats 4000000 in
theorem hweight_2 (E p r s t : Int) (ma mb mc me : Nat) (mx my mz : Int) (id al ah t0 t1 u0 u1 v0 v1 h0 h1 : Int) (A B C : Option Addr) (n c mm d l ee : Nat) (fh st x0 x1 d0 d1 : Int) (w : World)
  (C1 : ∀ W, Below w.heap.size w W → Calls Tryz.prog 27 #[.agg #[.int .i64 id, .int .i64 al, .int .i64 ah, .slice A n c, .slice B mm d, .slice C l ee, .int .i64 t0, .int .i64 t1, .int .i64 u0, .int .i64 u1, .int .i64 v0, .int .i64 v1, .int .i64 h0, .int .i64 h1], .agg #[.int .i64 fh, .int .i64 st, .int .i64 x0, .int .i64 x1, .int .i64 d0, .int .i64 d1]] W fun e w' => e = .returned (.tuple #[rv p r, .int .i64 E]) ∧ Below W.heap.size W w')
  (C2 : E = 0 → ∀ W, Calls Tryz.prog 40 #[.agg #[.int .i64 fh, .int .i64 st, .int .i64 x0, .int .i64 x1, .int .i64 d0, .int .i64 d1]] W fun e w' => e = .returned (.agg #[fnV ma, fnV mb, fnV mc, fnV 136, fnV me, .int .i64 mx, .int .i64 my, .int .i64 mz]) ∧ Below W.heap.size W w')
  (C3 : E = 0 → ∀ W, Below w.heap.size w W → Calls Tryz.prog 136 #[.agg #[.int .i64 id, .int .i64 al, .int .i64 ah, .slice A n c, .slice B mm d, .slice C l ee, .int .i64 t0, .int .i64 t1, .int .i64 u0, .int .i64 u1, .int .i64 v0, .int .i64 v1, .int .i64 h0, .int .i64 h1], .agg #[.int .i64 fh, .int .i64 st, .int .i64 x0, .int .i64 x1, .int .i64 d0, .int .i64 d1]] W fun e w' => e = .returned (rv s t) ∧ Below W.heap.size W w') :
  Calls Tryz.prog 21 #[.agg #[.int .i64 id, .int .i64 al, .int .i64 ah, .slice A n c, .slice B mm d, .slice C l ee, .int .i64 t0, .int .i64 t1, .int .i64 u0, .int .i64 u1, .int .i64 v0, .int .i64 v1, .int .i64 h0, .int .i64 h1], .agg #[.int .i64 fh, .int .i64 st, .int .i64 x0, .int .i64 x1, .int .i64 d0, .int .i64 d1]] w fun e w' => e = .returned (if E = 0 then wt p r al ah s t 0 else wt 0 0 0 0 0 0 E) ∧ Below w.heap.size w w' := by
 have HE := Lib.hid (show Below w.heap.size w (((w.alloc (.cells #[.int .i64 id, .int .i64 al, .int .i64 ah, .slice A n c, .slice B mm d, .slice C l ee, .int .i64 t0, .int .i64 t1, .int .i64 u0, .int .i64 u1, .int .i64 v0, .int .i64 v1, .int .i64 h0, .int .i64 h1] 40)).alloc (.cells #[.int .i64 fh, .int .i64 st, .int .i64 x0, .int .i64 x1, .int .i64 d0, .int .i64 d1] 43)).alloc (.cells #[.int .i64 0, .int .i64 0, .int .i64 0, .int .i64 0, .int .i64 0, .int .i64 0] 73)) from below_a3 (Below.refl _ _))
 have HK := Lib.hid (boxes3' w 40 43 73 #[.int .i64 id, .int .i64 al, .int .i64 ah, .slice A n c, .slice B mm d, .slice C l ee, .int .i64 t0, .int .i64 t1, .int .i64 u0, .int .i64 u1, .int .i64 v0, .int .i64 v1, .int .i64 h0, .int .i64 h1] #[.int .i64 fh, .int .i64 st, .int .i64 x0, .int .i64 x1, .int .i64 d0, .int .i64 d1] #[.int .i64 0, .int .i64 0, .int .i64 0, .int .i64 0, .int .i64 0, .int .i64 0])
 have D1 := Lib.hid C1
 have D2 := Lib.hid C2
 have D3 := Lib.hid C3
 clear C1 C2 C3
 obtain ⟨R, hR⟩ : ∃ R, (if E = 0 then wt p r al ah s t 0 else wt 0 0 0 0 0 0 E) = R := ⟨_, rfl⟩
 rw [hR]
 have HR := Lib.hid hR
 clear hR
 go_enter Tryz.func21, Tryz.ntmps21
 go_wp2_with fail
 obtain ⟨W0, hW0⟩ : ∃ W0, (((w.alloc (.cells #[.int .i64 id, .int .i64 al, .int .i64 ah, .slice A n c, .slice B mm d, .slice C l ee, .int .i64 t0, .int .i64 t1, .int .i64 u0, .int .i64 u1, .int .i64 v0, .int .i64 v1, .int .i64 h0, .int .i64 h1] 40)).alloc (.cells #[.int .i64 fh, .int .i64 st, .int .i64 x0, .int .i64 x1, .int .i64 d0, .int .i64 d1] 43)).alloc (.cells #[.int .i64 0, .int .i64 0, .int .i64 0, .int .i64 0, .int .i64 0, .int .i64 0] 73)) = W0 := ⟨_, rfl⟩
 rw [hW0] at HE HK ⊢
 clear hW0
 obtain ⟨G, hG⟩ : ∃ G, w.heap.size = G := ⟨_, rfl⟩
 rw [hG] at HK ⊢
 have HG := Lib.hid hG; clear hG
 refine (D1.out _ HE.out).mono ?_
 rintro e w1 ⟨rfl, hb⟩
 have HE1 := Lib.hid (below_then (below_then HE.out hb) (below_alloc1 w1 (.cells #[.int .i64 p, .int .i64 r] 35))); have HK1 := Lib.hid ((HK.out.on hb).new 35 #[.int .i64 p, .int .i64 r])
 have HDM := Lib.hid (boxes_lt (HK.out.on hb))
 clear hb HE HK D1
 go_upto_region 2 with fail
 obtain ⟨W1, hW⟩ : ∃ W1, w1.alloc (.cells #[.int .i64 p, .int .i64 r] 35) = W1 := ⟨_, rfl⟩
 rw [hW] at HE1 HK1 ⊢
 clear hW
 obtain ⟨M, hM⟩ : ∃ M, w1.heap.size = M := ⟨_, rfl⟩
 rw [hM] at HK1 HDM ⊢
 clear hM
 by_cases g : E = 0
 ·have eR := HR.out
  rw [if_pos g] at eR
  subst eR
  have X2 := Lib.hid (D2.out g)
  have X3 := Lib.hid (D3.out g)
  clear HR D2 D3
  subst g
  go_upto_region 4 with fail
  go_cut [8] (fun s8 wx => ∃ N3, s8 = .pointer (some ⟨N3, 0, none⟩) ∧ Boxes wx ((N3, 35, #[.int .i64 s, .int .i64 t]) :: ((M, 35, #[.int .i64 p, .int .i64 r]) :: [(G + 1 + 1, 73, #[.int .i64 0, .int .i64 0, .int .i64 0, .int .i64 0, .int .i64 0, .int .i64 0]), (G + 1, 43, #[.int .i64 fh, .int .i64 st, .int .i64 x0, .int .i64 x1, .int .i64 d0, .int .i64 d1]), (G, 40, #[.int .i64 id, .int .i64 al, .int .i64 ah, .slice A n c, .slice B mm d, .slice C l ee, .int .i64 t0, .int .i64 t1, .int .i64 u0, .int .i64 u1, .int .i64 v0, .int .i64 v1, .int .i64 h0, .int .i64 h1])] : List (Nat × TypeId × Array Value))) ∧ Below w.heap.size w wx ∧ G + 1 + 1 ≠ N3)
  case first =>
   have hS0 : Boxes W1.drew ((M, 35, #[.int .i64 p, .int .i64 r]) :: [(G + 1 + 1, 73, #[.int .i64 0, .int .i64 0, .int .i64 0, .int .i64 0, .int .i64 0, .int .i64 0]), (G + 1, 43, #[.int .i64 fh, .int .i64 st, .int .i64 x0, .int .i64 x1, .int .i64 d0, .int .i64 d1]), (G, 40, #[.int .i64 id, .int .i64 al, .int .i64 ah, .slice A n c, .slice B mm d, .slice C l ee, .int .i64 t0, .int .i64 t1, .int .i64 u0, .int .i64 u1, .int .i64 v0, .int .i64 v1, .int .i64 h0, .int .i64 h1])] : List (Nat × TypeId × Array Value)) := HK1.out
   have HEd := Lib.hid HE1.out.drew
   have HKd := Lib.hid hS0
   refine wp_region_held_drew (S := fun w' => Boxes w' ((M, 35, #[.int .i64 p, .int .i64 r]) :: [(G + 1 + 1, 73, #[.int .i64 0, .int .i64 0, .int .i64 0, .int .i64 0, .int .i64 0, .int .i64 0]), (G + 1, 43, #[.int .i64 fh, .int .i64 st, .int .i64 x0, .int .i64 x1, .int .i64 d0, .int .i64 d1]), (G, 40, #[.int .i64 id, .int .i64 al, .int .i64 ah, .slice A n c, .slice B mm d, .slice C l ee, .int .i64 t0, .int .i64 t1, .int .i64 u0, .int .i64 u1, .int .i64 v0, .int .i64 v1, .int .i64 h0, .int .i64 h1])] : List (Nat × TypeId × Array Value))) (by kernel_rfl) hS0 (fun hHeld => ?_)
   obtain ⟨W2, hW⟩ : ∃ W', W1.drew = W' := ⟨_, rfl⟩
   rw [hW] at HEd HKd hHeld ⊢
   clear hW hS0 HE1 HK1
   refine tK 19 (i := 0) (v := .agg #[.int .i64 fh, .int .i64 st, .int .i64 x0, .int .i64 x1, .int .i64 d0, .int .i64 d1]) rfl rfl (by kernel_rfl) ?_ hHeld ?_
   ·intro w hSw; have hz := (hSw _ (.tail _ (.tail _ (.head _)))); have c0 := hz.cell 0; have c1 := hz.cell 1; have c2 := hz.cell 2; have c3 := hz.cell 3; have c4 := hz.cell 4; have c5 := hz.cell 5; simp at c0 c1 c2 c3 c4 c5; clear hz hSw; go_simp; try with_reducible rfl
   simp only [uZ, uS]
   refine tK 22 (i := 3) (v := .agg #[.int .i64 id, .int .i64 al, .int .i64 ah, .slice A n c, .slice B mm d, .slice C l ee, .int .i64 t0, .int .i64 t1, .int .i64 u0, .int .i64 u1, .int .i64 v0, .int .i64 v1, .int .i64 h0, .int .i64 h1]) rfl rfl (by kernel_rfl) ?_ hHeld ?_
   ·intro w hSw; have hz := (hSw _ (.tail _ (.tail _ (.tail _ (.head _))))); have c0 := hz.cell 0; have c1 := hz.cell 1; have c2 := hz.cell 2; have c3 := hz.cell 3; have c4 := hz.cell 4; have c5 := hz.cell 5; have c6 := hz.cell 6; have c7 := hz.cell 7; have c8 := hz.cell 8; have c9 := hz.cell 9; have c10 := hz.cell 10; have c11 := hz.cell 11; have c12 := hz.cell 12; have c13 := hz.cell 13; simp at c0 c1 c2 c3 c4 c5 c6 c7 c8 c9 c10 c11 c12 c13; clear hz hSw; go_simp; try with_reducible rfl
   simp only [uZ, uS]
   refine tK 23 (i := 4) (v := .agg #[.int .i64 fh, .int .i64 st, .int .i64 x0, .int .i64 x1, .int .i64 d0, .int .i64 d1]) rfl rfl (by kernel_rfl) ?_ hHeld ?_
   ·intro w hSw; have hz := (hSw _ (.tail _ (.tail _ (.head _)))); have c0 := hz.cell 0; have c1 := hz.cell 1; have c2 := hz.cell 2; have c3 := hz.cell 3; have c4 := hz.cell 4; have c5 := hz.cell 5; simp at c0 c1 c2 c3 c4 c5; clear hz hSw; go_simp; try with_reducible rfl
   simp only [uZ, uS]
   refine wpAnyH_ready (rs := [1, 6]) (by kernel_rfl) (by simp) ?_
   refine AllReadyH.cons rfl (fun K hK => ?_) (AllReadyH.cons rfl (fun K hK => ?_) AllReadyH.nil)
   ·skip
    go_simp
    (with_reducible refine (X2.out _).mono ?_)
    rintro e y1 ⟨rfl, hb⟩
    have HE1 := Lib.hid (below_then HEd.out hb); have HK1 := Lib.hid (HKd.out.on hb)
    have hS := hHeld.on hb
    clear hb
    refine hK.out _ _ hS (fun hHeld2 => ?_)
    try simp only [Act.put, uA, uZ, uS]
    clear hS hK K hHeld HEd HKd
    have hHeld := hHeld2
    clear hHeld2
    refine tK 21 (i := 2) (v := fnV 136) rfl rfl (by kernel_rfl) ?_ hHeld ?_
    ·intro w hSw; clear hSw; go_simp; try with_reducible rfl
    simp only [uZ, uS]
    refine wpAnyH_ready (rs := [5, 6]) (by kernel_rfl) (by simp) ?_
    refine AllReadyH.cons rfl (fun K hK => ?_) (AllReadyH.cons rfl (fun K hK => ?_) AllReadyH.nil)
    ·skip
     go_simp
     (with_reducible refine (X3.out _ HE1.out).mono ?_)
     rintro e y2 ⟨rfl, hb⟩
     have HE2 := Lib.hid (below_then HE1.out hb); have HK2 := Lib.hid (HK1.out.on hb)
     have hS := hHeld.on hb
     clear hb
     refine hK.out _ _ hS (fun hHeld2 => ?_)
     try simp only [Act.put, uA, uZ, uS]
     clear hS hK K hHeld HE1 HK1
     have hHeld := hHeld2
     clear hHeld2
     refine wpAnyH_ready (rs := [6]) (by kernel_rfl) (by simp) ?_
     refine AllReadyH.cons rfl (fun K hK => ?_) AllReadyH.nil
     go_simp
     have HE3 := Lib.hid (below_then HE2.out (below_alloc1 y2 (.cells #[.int .i64 0, .int .i64 0] 35))); have HK3 := Lib.hid (HK2.out.new 35 #[.int .i64 0, .int .i64 0])
     have hS := hHeld.on (below_alloc1 y2 (.cells #[.int .i64 0, .int .i64 0] 35))
     have HD3 := Lib.hid (boxes_lt HK2.out)
     have HZ3 := Lib.hid HE2.out.size
     refine hK.out _ _ hS (fun hHeld2 => ?_)
     try simp only [Act.put, uA, uZ, uS]
     clear hS hK K hHeld HE2 HK2
     have hHeld := hHeld2
     clear hHeld2
     obtain ⟨y3, hW⟩ : ∃ W', y2.alloc (.cells #[.int .i64 0, .int .i64 0] 35) = W' := ⟨_, rfl⟩
     rw [hW] at HE3 HK3 hHeld ⊢
     clear hW
     obtain ⟨N3, hN⟩ : ∃ N, y2.heap.size = N := ⟨_, rfl⟩
     rw [hN] at HK3 HD3 HZ3 ⊢
     clear hN
     refine wpAnyH_ready (rs := [7]) (by kernel_rfl) (by simp) ?_
     refine AllReadyH.cons rfl (fun K hK => ?_) AllReadyH.nil
     rw [if_pos (by kernel_rfl)]
     have ne4 : ∀ zz ∈ (((M, 35, #[.int .i64 p, .int .i64 r]) :: [(G + 1 + 1, 73, #[.int .i64 0, .int .i64 0, .int .i64 0, .int .i64 0, .int .i64 0, .int .i64 0]), (G + 1, 43, #[.int .i64 fh, .int .i64 st, .int .i64 x0, .int .i64 x1, .int .i64 d0, .int .i64 d1]), (G, 40, #[.int .i64 id, .int .i64 al, .int .i64 ah, .slice A n c, .slice B mm d, .slice C l ee, .int .i64 t0, .int .i64 t1, .int .i64 u0, .int .i64 u1, .int .i64 v0, .int .i64 v1, .int .i64 h0, .int .i64 h1])] : List (Nat × TypeId × Array Value)) : List (Nat × TypeId × Array Value)), zz.1 ≠ N3 := HD3.out
     have HK4 : Hid (Boxes (y3.setRow N3 #[.int .i64 s, .int .i64 t]) ((N3, 35, #[.int .i64 s, .int .i64 t]) :: ((M, 35, #[.int .i64 p, .int .i64 r]) :: [(G + 1 + 1, 73, #[.int .i64 0, .int .i64 0, .int .i64 0, .int .i64 0, .int .i64 0, .int .i64 0]), (G + 1, 43, #[.int .i64 fh, .int .i64 st, .int .i64 x0, .int .i64 x1, .int .i64 d0, .int .i64 d1]), (G, 40, #[.int .i64 id, .int .i64 al, .int .i64 ah, .slice A n c, .slice B mm d, .slice C l ee, .int .i64 t0, .int .i64 t1, .int .i64 u0, .int .i64 u1, .int .i64 v0, .int .i64 v1, .int .i64 h0, .int .i64 h1])] : List (Nat × TypeId × Array Value)))) := Lib.hid (Boxes.row HK3.out (.head _) (fun p hp => ⟨.tail _ hp, ne4 p hp⟩) #[.int .i64 s, .int .i64 t])
     have HE4 := Lib.hid (below_setRow HE3.out (show w.heap.size ≤ N3 from HZ3.out) #[.int .i64 s, .int .i64 t])
     have hS := hHeld.farRow (g := N3) (fun p hp => ne4 p (hp)) #[.int .i64 s, .int .i64 t]
     refine wp_store_row 35 (.tmp 8) (.tmp 24) rfl N3 #[.int .i64 s, .int .i64 t] rfl rfl 35 _ (HK3.out _ (.head _)) (by kernel_rfl) rfl (by kernel_rfl) ?_
     obtain ⟨y4, hW⟩ : ∃ W', y3.setRow N3 #[.int .i64 s, .int .i64 t] = W' := ⟨_, rfl⟩
     rw [hW] at HE4 HK4 hS ⊢
     refine hK.out _ _ hS (fun hHeld2 => ?_)
     try simp only [Act.put, uA, uZ, uS]
     clear hW hS hK K hHeld ne4 HE3 HK3
     have hHeld := hHeld2
     clear hHeld2
     refine wpAnyH_done (by kernel_rfl) ?_ _
     go_wp2_with fail
     go_meet
     exact ⟨N3, rfl, HK4.out, HE4.out, HD3.out (_, _, _) (.tail _ (.head _))⟩
    ·skip
     go_simp
     have HE5 := Lib.hid (below_then HE1.out (below_alloc1 y1 (.cells #[.int .i64 0, .int .i64 0] 35))); have HK5 := Lib.hid (HK1.out.new 35 #[.int .i64 0, .int .i64 0])
     have hS := hHeld.on (below_alloc1 y1 (.cells #[.int .i64 0, .int .i64 0] 35))
     have HD5 := Lib.hid (boxes_lt HK1.out)
     have HZ5 := Lib.hid HE1.out.size
     refine hK.out _ _ hS (fun hHeld2 => ?_)
     try simp only [Act.put, uA, uZ, uS]
     clear hS hK K hHeld HE1 HK1
     have hHeld := hHeld2
     clear hHeld2
     obtain ⟨y5, hW⟩ : ∃ W', y1.alloc (.cells #[.int .i64 0, .int .i64 0] 35) = W' := ⟨_, rfl⟩
     rw [hW] at HE5 HK5 hHeld ⊢
     clear hW
     obtain ⟨N5, hN⟩ : ∃ N, y1.heap.size = N := ⟨_, rfl⟩
     rw [hN] at HK5 HD5 HZ5 ⊢
     clear hN
     refine wpAnyH_ready (rs := [5]) (by kernel_rfl) (by simp) ?_
     refine AllReadyH.cons rfl (fun K hK => ?_) AllReadyH.nil
     go_simp
     (with_reducible refine (X3.out _ HE5.out).mono ?_)
     rintro e y6 ⟨rfl, hb⟩
     have HE6 := Lib.hid (below_then HE5.out hb); have HK6 := Lib.hid (HK5.out.on hb)
     have hS := hHeld.on hb
     clear hb
     refine hK.out _ _ hS (fun hHeld2 => ?_)
     try simp only [Act.put, uA, uZ, uS]
     clear hS hK K hHeld HE5 HK5
     have hHeld := hHeld2
     clear hHeld2
     refine wpAnyH_ready (rs := [7]) (by kernel_rfl) (by simp) ?_
     refine AllReadyH.cons rfl (fun K hK => ?_) AllReadyH.nil
     rw [if_pos (by kernel_rfl)]
     have ne7 : ∀ zz ∈ (((M, 35, #[.int .i64 p, .int .i64 r]) :: [(G + 1 + 1, 73, #[.int .i64 0, .int .i64 0, .int .i64 0, .int .i64 0, .int .i64 0, .int .i64 0]), (G + 1, 43, #[.int .i64 fh, .int .i64 st, .int .i64 x0, .int .i64 x1, .int .i64 d0, .int .i64 d1]), (G, 40, #[.int .i64 id, .int .i64 al, .int .i64 ah, .slice A n c, .slice B mm d, .slice C l ee, .int .i64 t0, .int .i64 t1, .int .i64 u0, .int .i64 u1, .int .i64 v0, .int .i64 v1, .int .i64 h0, .int .i64 h1])] : List (Nat × TypeId × Array Value)) : List (Nat × TypeId × Array Value)), zz.1 ≠ N5 := HD5.out
     have HK7 : Hid (Boxes (y6.setRow N5 #[.int .i64 s, .int .i64 t]) ((N5, 35, #[.int .i64 s, .int .i64 t]) :: ((M, 35, #[.int .i64 p, .int .i64 r]) :: [(G + 1 + 1, 73, #[.int .i64 0, .int .i64 0, .int .i64 0, .int .i64 0, .int .i64 0, .int .i64 0]), (G + 1, 43, #[.int .i64 fh, .int .i64 st, .int .i64 x0, .int .i64 x1, .int .i64 d0, .int .i64 d1]), (G, 40, #[.int .i64 id, .int .i64 al, .int .i64 ah, .slice A n c, .slice B mm d, .slice C l ee, .int .i64 t0, .int .i64 t1, .int .i64 u0, .int .i64 u1, .int .i64 v0, .int .i64 v1, .int .i64 h0, .int .i64 h1])] : List (Nat × TypeId × Array Value)))) := Lib.hid (Boxes.row HK6.out (.head _) (fun p hp => ⟨.tail _ hp, ne7 p hp⟩) #[.int .i64 s, .int .i64 t])
     have HE7 := Lib.hid (below_setRow HE6.out (show w.heap.size ≤ N5 from HZ5.out) #[.int .i64 s, .int .i64 t])
     have hS := hHeld.farRow (g := N5) (fun p hp => ne7 p (hp)) #[.int .i64 s, .int .i64 t]
     refine wp_store_row 35 (.tmp 8) (.tmp 24) rfl N5 #[.int .i64 s, .int .i64 t] rfl rfl 35 _ (HK6.out _ (.head _)) (by kernel_rfl) rfl (by kernel_rfl) ?_
     obtain ⟨y7, hW⟩ : ∃ W', y6.setRow N5 #[.int .i64 s, .int .i64 t] = W' := ⟨_, rfl⟩
     rw [hW] at HE7 HK7 hS ⊢
     refine hK.out _ _ hS (fun hHeld2 => ?_)
     try simp only [Act.put, uA, uZ, uS]
     clear hW hS hK K hHeld ne7 HE6 HK6
     have hHeld := hHeld2
     clear hHeld2
     refine wpAnyH_done (by kernel_rfl) ?_ _
     go_wp2_with fail
     go_meet
     exact ⟨N5, rfl, HK7.out, HE7.out, HD5.out (_, _, _) (.tail _ (.head _))⟩
   ·skip
    go_simp
    have HE8 := Lib.hid (below_then HEd.out (below_alloc1 W2 (.cells #[.int .i64 0, .int .i64 0] 35))); have HK8 := Lib.hid (HKd.out.new 35 #[.int .i64 0, .int .i64 0])
    have hS := hHeld.on (below_alloc1 W2 (.cells #[.int .i64 0, .int .i64 0] 35))
    have HD8 := Lib.hid (boxes_lt HKd.out)
    have HZ8 := Lib.hid HEd.out.size
    refine hK.out _ _ hS (fun hHeld2 => ?_)
    try simp only [Act.put, uA, uZ, uS]
    clear hS hK K hHeld HEd HKd
    have hHeld := hHeld2
    clear hHeld2
    obtain ⟨y8, hW⟩ : ∃ W', W2.alloc (.cells #[.int .i64 0, .int .i64 0] 35) = W' := ⟨_, rfl⟩
    rw [hW] at HE8 HK8 hHeld ⊢
    clear hW
    obtain ⟨N8, hN⟩ : ∃ N, W2.heap.size = N := ⟨_, rfl⟩
    rw [hN] at HK8 HD8 HZ8 ⊢
    clear hN
    refine wpAnyH_ready (rs := [1]) (by kernel_rfl) (by simp) ?_
    refine AllReadyH.cons rfl (fun K hK => ?_) AllReadyH.nil
    go_simp
    (with_reducible refine (X2.out _).mono ?_)
    rintro e y9 ⟨rfl, hb⟩
    have HE9 := Lib.hid (below_then HE8.out hb); have HK9 := Lib.hid (HK8.out.on hb)
    have hS := hHeld.on hb
    clear hb
    refine hK.out _ _ hS (fun hHeld2 => ?_)
    try simp only [Act.put, uA, uZ, uS]
    clear hS hK K hHeld HE8 HK8
    have hHeld := hHeld2
    clear hHeld2
    refine tK 21 (i := 2) (v := fnV 136) rfl rfl (by kernel_rfl) ?_ hHeld ?_
    ·intro w hSw; clear hSw; go_simp; try with_reducible rfl
    simp only [uZ, uS]
    refine wpAnyH_ready (rs := [5]) (by kernel_rfl) (by simp) ?_
    refine AllReadyH.cons rfl (fun K hK => ?_) AllReadyH.nil
    go_simp
    (with_reducible refine (X3.out _ HE9.out).mono ?_)
    rintro e y10 ⟨rfl, hb⟩
    have HE10 := Lib.hid (below_then HE9.out hb); have HK10 := Lib.hid (HK9.out.on hb)
    have hS := hHeld.on hb
    clear hb
    refine hK.out _ _ hS (fun hHeld2 => ?_)
    try simp only [Act.put, uA, uZ, uS]
    clear hS hK K hHeld HE9 HK9
    have hHeld := hHeld2
    clear hHeld2
    refine wpAnyH_ready (rs := [7]) (by kernel_rfl) (by simp) ?_
    refine AllReadyH.cons rfl (fun K hK => ?_) AllReadyH.nil
    rw [if_pos (by kernel_rfl)]
    have ne11 : ∀ zz ∈ (((M, 35, #[.int .i64 p, .int .i64 r]) :: [(G + 1 + 1, 73, #[.int .i64 0, .int .i64 0, .int .i64 0, .int .i64 0, .int .i64 0, .int .i64 0]), (G + 1, 43, #[.int .i64 fh, .int .i64 st, .int .i64 x0, .int .i64 x1, .int .i64 d0, .int .i64 d1]), (G, 40, #[.int .i64 id, .int .i64 al, .int .i64 ah, .slice A n c, .slice B mm d, .slice C l ee, .int .i64 t0, .int .i64 t1, .int .i64 u0, .int .i64 u1, .int .i64 v0, .int .i64 v1, .int .i64 h0, .int .i64 h1])] : List (Nat × TypeId × Array Value)) : List (Nat × TypeId × Array Value)), zz.1 ≠ N8 := HD8.out
    have HK11 : Hid (Boxes (y10.setRow N8 #[.int .i64 s, .int .i64 t]) ((N8, 35, #[.int .i64 s, .int .i64 t]) :: ((M, 35, #[.int .i64 p, .int .i64 r]) :: [(G + 1 + 1, 73, #[.int .i64 0, .int .i64 0, .int .i64 0, .int .i64 0, .int .i64 0, .int .i64 0]), (G + 1, 43, #[.int .i64 fh, .int .i64 st, .int .i64 x0, .int .i64 x1, .int .i64 d0, .int .i64 d1]), (G, 40, #[.int .i64 id, .int .i64 al, .int .i64 ah, .slice A n c, .slice B mm d, .slice C l ee, .int .i64 t0, .int .i64 t1, .int .i64 u0, .int .i64 u1, .int .i64 v0, .int .i64 v1, .int .i64 h0, .int .i64 h1])] : List (Nat × TypeId × Array Value)))) := Lib.hid (Boxes.row HK10.out (.head _) (fun p hp => ⟨.tail _ hp, ne11 p hp⟩) #[.int .i64 s, .int .i64 t])
    have HE11 := Lib.hid (below_setRow HE10.out (show w.heap.size ≤ N8 from HZ8.out) #[.int .i64 s, .int .i64 t])
    have hS := hHeld.farRow (g := N8) (fun p hp => ne11 p (hp)) #[.int .i64 s, .int .i64 t]
    refine wp_store_row 35 (.tmp 8) (.tmp 24) rfl N8 #[.int .i64 s, .int .i64 t] rfl rfl 35 _ (HK10.out _ (.head _)) (by kernel_rfl) rfl (by kernel_rfl) ?_
    obtain ⟨y11, hW⟩ : ∃ W', y10.setRow N8 #[.int .i64 s, .int .i64 t] = W' := ⟨_, rfl⟩
    rw [hW] at HE11 HK11 hS ⊢
    refine hK.out _ _ hS (fun hHeld2 => ?_)
    try simp only [Act.put, uA, uZ, uS]
    clear hW hS hK K hHeld ne11 HE10 HK10
    have hHeld := hHeld2
    clear hHeld2
    refine wpAnyH_done (by kernel_rfl) ?_ _
    go_wp2_with fail
    go_meet
    exact ⟨N8, rfl, HK11.out, HE11.out, HD8.out (_, _, _) (.tail _ (.head _))⟩
  case rest =>
   obtain ⟨N3, rfl, hB, hE, n3⟩ := hcut
   have HE5 := Lib.hid hE
   have HK5 := Lib.hid hB
   rename World => W5
   clear hB hE n3 HE1 HK1 HDM X2 X3
   have aa := HK5.out _ (.head _)
   have aa0 := aa.cell 0
   have aa1 := aa.cell 1
   simp at aa0 aa1
   clear aa
   have ab := HK5.out _ (.tail _ (.head _))
   have ab0 := ab.cell 0
   have ab1 := ab.cell 1
   simp at ab0 ab1
   clear ab
   have ac := HK5.out _ (.tail _ (.tail _ (.tail _ (.tail _ (.head _)))))
   have ac1 := ac.cell 1
   have ac2 := ac.cell 2
   simp at ac1 ac2
   clear ac
   go_upto_region 5 with fail
   refine wp_region_lit ?_
   refine wpList_plain rfl (fun K hK => ?_)
   go_simp
   refine hK _ _ ?_
   clear hK K
   refine wpList_plain rfl (fun K hK => ?_)
   go_simp
   refine hK _ _ ?_
   clear hK K
   refine wpList_plain rfl (fun K hK => ?_)
   go_simp
   refine hK _ _ ?_
   clear hK K
   refine wpList_plain rfl (fun K hK => ?_)
   go_simp
   refine hK _ _ ?_
   clear hK K
   refine wpList_plain rfl (fun K hK => ?_)
   go_simp
   refine hK _ _ ?_
   clear hK K
   have HKR : Hid (Blk (W5.setRow (G + 1 + 1) #[.int .i64 p, .int .i64 r, .int .i64 al, .int .i64 ah, .int .i64 s, .int .i64 t]) (G + 1 + 1) 73 #[.int .i64 p, .int .i64 r, .int .i64 al, .int .i64 ah, .int .i64 s, .int .i64 t]) := Lib.hid (setRow_heap W5 (G + 1 + 1) _ _ 73 _ (HK5.out _ (.tail _ (.tail _ (.head _)))))
   have HE9 := Lib.hid (below_setRow HE5.out (show w.heap.size ≤ G + 1 + 1 by have := HG.out; omega) #[.int .i64 p, .int .i64 r, .int .i64 al, .int .i64 ah, .int .i64 s, .int .i64 t])
   refine wpList_store_row rfl 73 (.tmp 4) (.tmp 29) rfl (G + 1 + 1) #[.int .i64 p, .int .i64 r, .int .i64 al, .int .i64 ah, .int .i64 s, .int .i64 t] rfl rfl 73 _ (HK5.out _ (.tail _ (.tail _ (.head _)))) (by kernel_rfl) rfl (by kernel_rfl) ?_
   obtain ⟨W9, hW9⟩ : ∃ W9, W5.setRow (G + 1 + 1) #[.int .i64 p, .int .i64 r, .int .i64 al, .int .i64 ah, .int .i64 s, .int .i64 t] = W9 := ⟨_, rfl⟩
   rw [hW9] at HKR HE9 ⊢
   clear hW9
   go_wp2
   exact bodyPost_ret (v := .tuple #[.agg #[.int .i64 p, .int .i64 r, .int .i64 al, .int .i64 ah, .int .i64 s, .int .i64 t], .int .i64 0]) (results_cell_tmp_row Tryz.results21 _ _ (G + 1 + 1) 73 #[.int .i64 p, .int .i64 r, .int .i64 al, .int .i64 ah, .int .i64 s, .int .i64 t] (0, 0) _ _ rfl rfl HKR.out Tryz.underlying73 rfl (by kernel_rfl)) rfl ⟨rfl, HE9.out⟩
 ·have eR := HR.out
  rw [if_neg g] at eR
  subst eR
  clear HR D2 D3
  go_upto_region 3 with fail
  refine wp_region_lit ?_
  refine wpList_plain rfl (fun K hK => ?_)
  go_simp
  refine hK _ _ ?_
  clear hK K
  refine wpList_plain rfl (fun K hK => ?_)
  go_simp
  refine hK _ _ ?_
  clear hK K
  have HKR : Hid (Blk (W1.setRow (G + 1 + 1) #[.int .i64 0, .int .i64 0, .int .i64 0, .int .i64 0, .int .i64 0, .int .i64 0]) (G + 1 + 1) 73 #[.int .i64 0, .int .i64 0, .int .i64 0, .int .i64 0, .int .i64 0, .int .i64 0]) := Lib.hid (setRow_heap W1 (G + 1 + 1) _ _ 73 _ (HK1.out _ (.tail _ (.head _))))
  have HE9 := Lib.hid (below_setRow HE1.out (show w.heap.size ≤ G + 1 + 1 by have := HG.out; omega) #[.int .i64 0, .int .i64 0, .int .i64 0, .int .i64 0, .int .i64 0, .int .i64 0])
  refine wpList_store_row rfl 73 (.tmp 4) (.tmp 17) rfl (G + 1 + 1) #[.int .i64 0, .int .i64 0, .int .i64 0, .int .i64 0, .int .i64 0, .int .i64 0] rfl rfl 73 _ (HK1.out _ (.tail _ (.head _))) (by kernel_rfl) rfl (by kernel_rfl) ?_
  obtain ⟨W9, hW9⟩ : ∃ W9, W1.setRow (G + 1 + 1) #[.int .i64 0, .int .i64 0, .int .i64 0, .int .i64 0, .int .i64 0, .int .i64 0] = W9 := ⟨_, rfl⟩
  rw [hW9] at HKR HE9 ⊢
  clear hW9
  go_wp2
  exact bodyPost_ret (v := .tuple #[.agg #[.int .i64 0, .int .i64 0, .int .i64 0, .int .i64 0, .int .i64 0, .int .i64 0], .int .i64 E]) (results_cell_tmp_row Tryz.results21 _ _ (G + 1 + 1) 73 #[.int .i64 0, .int .i64 0, .int .i64 0, .int .i64 0, .int .i64 0, .int .i64 0] (0, 0) _ _ rfl rfl HKR.out Tryz.underlying73 rfl (by kernel_rfl)) rfl ⟨rfl, HE9.out⟩

def weightV (h : HoldD) (f : FillD) : Value := if fillErr h f = 0 then wt (denS h f (volS h f)).1 (denS h f (volS h f)).2 h.al h.ah (heiS h f).1 (heiS h f).2 0 else wt 0 0 0 0 0 0 (fillErr h f)
theorem hWeight_any (h : HoldD) (m : HoldM) (f : FillD) (w : World) (hi : HoldIn w h m) :
    Calls Tryz.prog 21 #[holdV h m, fillV f] w fun e w' => e = .returned (weightV h f) ∧ Below w.heap.size w w' := by
  obtain ⟨E, hE⟩ : ∃ E, fillErr h f = E := ⟨_, rfl⟩
  have hM : tellS h f (denS h f (volS h f)) = ((tellS h f (denS h f (volS h f))).1, (tellS h f (denS h f (volS h f))).2.1, E) := by
    unfold tellS; rw [hE]; by_cases g : E = 0
    · rw [if_pos g]; dsimp only; rw [g]
    · rw [if_neg g]
  have C1 := fun W (hW : Below w.heap.size w W) => rt_to (hMass_any h m f W (hi.below hW)) hM
  have hc := fun (e : E = 0) W (hW : Below w.heap.size w W) => heiF_to h m f W (hi.below hW) (fill_state (hE.trans e)).1 (fill_state (hE.trans e)).2
  have e1 : E = 0 → (tellS h f (denS h f (volS h f))).1 = (denS h f (volS h f)).1 ∧ (tellS h f (denS h f (volS h f))).2.1 = (denS h f (volS h f)).2 := fun e => by unfold tellS; rw [hE, if_pos e]; exact ⟨rfl, rfl⟩
  have goalE : weightV h f = if E = 0 then wt (tellS h f (denS h f (volS h f))).1 (tellS h f (denS h f (volS h f))).2.1 h.al h.ah (heiS h f).1 (heiS h f).2 0 else wt 0 0 0 0 0 0 E := by
    unfold weightV; rw [hE]; by_cases g : E = 0
    · rw [if_pos g, if_pos g, (e1 g).1, (e1 g).2]
    · rw [if_neg g, if_neg g]
  rw [goalE]
  clear goalE e1
  generalize (tellS h f (denS h f (volS h f))).1 = p at *
  generalize (tellS h f (denS h f (volS h f))).2.1 = r at *
  have q := fun (e : E = 0) => fill_state (hE.trans e)
  generalize (heiS h f).1 = s at *
  generalize (heiS h f).2 = t at *
  clear hM hE
  obtain ⟨id, al, ah, vol, mom, hei, t0, t1, u0, u1, v0, v1, h0, h1⟩ := h
  obtain ⟨A, n, c, B, mm, d, C, l, ee⟩ := m
  obtain ⟨fh, st, x0, x1, d0, d1⟩ := f
  dsimp only at C1 hc q ⊢
  by_cases k0 : st = 0
  · subst k0
    exact hweight_0 E p r s t _ _ _ _ _ _ _ id al ah t0 t1 u0 u1 v0 v1 h0 h1 A B C n c mm d l ee fh 0 x0 x1 d0 d1 w C1 (fun e W => (show mM 0 = emptyM from rfl) ▸ meaningOf_any fh 0 x0 x1 d0 d1 W (by omega) (by omega)) hc
  · by_cases k1 : st = 1
    · subst k1
      exact hweight_1 E p r s t _ _ _ _ _ _ _ id al ah t0 t1 u0 u1 v0 v1 h0 h1 A B C n c mm d l ee fh 1 x0 x1 d0 d1 w C1 (fun e W => (show mM 1 = filledM 98 from rfl) ▸ meaningOf_any fh 1 x0 x1 d0 d1 W (by omega) (by omega)) hc
    · by_cases k2 : st = 2
      · subst k2
        exact hweight_1 E p r s t _ _ _ _ _ _ _ id al ah t0 t1 u0 u1 v0 v1 h0 h1 A B C n c mm d l ee fh 2 x0 x1 d0 d1 w C1 (fun e W => (show mM 2 = filledM 99 from rfl) ▸ meaningOf_any fh 2 x0 x1 d0 d1 W (by omega) (by omega)) hc
      · by_cases k3 : st = 3
        · subst k3
          exact hweight_2 E p r s t _ _ _ _ _ _ _ id al ah t0 t1 u0 u1 v0 v1 h0 h1 A B C n c mm d l ee fh 3 x0 x1 d0 d1 w C1 (fun e W => (show mM 3 = partlyM 101 from rfl) ▸ meaningOf_any fh 3 x0 x1 d0 d1 W (by omega) (by omega)) hc
        · have k4 : E = 0 → mM st = heldM ∧ heiF st = 136 := fun e => by
            obtain ⟨z0, z5⟩ := q e
            have : st = 4 ∨ st = 5 := by omega
            rcases this with rfl | rfl <;> exact ⟨rfl, rfl⟩
          exact hweight_2 E p r s t _ _ _ _ _ _ _ id al ah t0 t1 u0 u1 v0 v1 h0 h1 A B C n c mm d l ee fh st x0 x1 d0 d1 w C1 (fun e W => (k4 e).1 ▸ meaningOf_any fh st x0 x1 d0 d1 W (q e).1 (q e).2) (fun e W hW => (k4 e).2 ▸ hc e W hW)
end

section
open Go.RowKit
attribute [local go_sem ↓] eqlRange neqRange
def sumH (a b c d : Int) : Int × Int := ((addS a b c d).1, (addS a b c d).2.1)

set_option maxRecDepth 100000 in
set_option maxHeartbeats 4000000 in
theorem hsum_any (a b c d : Int) (w : World) :
  Calls Tryz.prog 23 #[rv a b, rv c d] w fun e w' => e = .returned (rv (sumH a b c d).1 (sumH a b c d).2) ∧ Below w.heap.size w w' := by
 have HE := Lib.hid (show Below w.heap.size w (((w.alloc (.cells #[.int .i64 a, .int .i64 b] 35)).alloc (.cells #[.int .i64 c, .int .i64 d] 35)).alloc (.cells #[.int .i64 0, .int .i64 0] 35)) from below_a3 (Below.refl _ _))
 have HK := Lib.hid (boxes3' w 35 35 35 #[.int .i64 a, .int .i64 b] #[.int .i64 c, .int .i64 d] #[.int .i64 0, .int .i64 0])
 have CC : Hid (∀ W, Calls Tryz.prog 44 #[rv a b, rv c d] W fun e w' => e = .returned (rt (addS a b c d)) ∧ Below W.heap.size W w') := Lib.hid fun W => add_any a b c d W
 unfold sumH
 generalize addS a b c d = R at *
 obtain ⟨p, q, r⟩ := R
 go_enter Tryz.func23, Tryz.ntmps23
 go_wp2_with fail
 obtain ⟨W0, hW0⟩ : ∃ W0, (((w.alloc (.cells #[.int .i64 a, .int .i64 b] 35)).alloc (.cells #[.int .i64 c, .int .i64 d] 35)).alloc (.cells #[.int .i64 0, .int .i64 0] 35)) = W0 := ⟨_, rfl⟩
 rw [hW0] at HE HK ⊢
 clear hW0
 obtain ⟨G, hG⟩ : ∃ G, w.heap.size = G := ⟨_, rfl⟩
 rw [hG] at HK ⊢
 have HG := Lib.hid hG; clear hG
 refine (CC.out _).mono ?_
 rintro e w1 ⟨rfl, hb⟩
 have HE1 := Lib.hid (below_then (below_then HE.out hb) (below_alloc1 w1 (.cells #[.int .i64 p, .int .i64 q] 35))); have HK1 := Lib.hid ((HK.out.on hb).new 35 #[.int .i64 p, .int .i64 q])
 clear hb HE HK CC
 go_upto_region 2 with fail
 obtain ⟨W1, hW1⟩ : ∃ W1, w1.alloc (.cells #[.int .i64 p, .int .i64 q] 35) = W1 := ⟨_, rfl⟩
 rw [hW1] at HE1 HK1 ⊢
 clear hW1
 obtain ⟨N, hN⟩ : ∃ N, w1.heap.size = N := ⟨_, rfl⟩
 rw [hN] at HK1 ⊢
 clear hN
 have p := HK1.out _ (.head _)
 have p0 := p.cell 0
 have p1 := p.cell 1
 simp at p0 p1
 clear p
 have z := HK1.out _ (.tail _ (.head _))
 have z0 := z.cell 0
 have zf0 := z.frozen 0
 have z1 := z.cell 1
 have zf1 := z.frozen 1
 have zl := z.lt
 simp at z0 zf0 z1 zf1
 clear z
 go_wp2
 refine bodyPost_ret (v := rv p q) (by simp [results, Tryz.results23, go_sem, z0, z1]) rfl ⟨rfl, ?_⟩
 have hg := HG.out
 repeat (first | exact HE1.out | refine Below.setCell ?_ (by simp <;> omega) _)

section
attribute [local go_sem ↓] eqRange9
set_option maxRecDepth 100000 in
set_option maxHeartbeats 4000000 in
theorem eqWeightV (a b c e f g : Int) (w : World) : (Op.equalIn 10000 73 (.agg #[.int .i64 a, .int .i64 b, .int .i64 c, .int .i64 e, .int .i64 f, .int .i64 g]) (.agg #[.int .i64 a, .int .i64 b, .int .i64 c, .int .i64 e, .int .i64 f, .int .i64 g])).run Tryz.prog w = .ok true w := by
  have u3 := Tryz.underlying3
  have hS : Tryz.prog.underlying 73 = some (.struct (Tryz.prog.fieldsOf 73)) := by kernel_rfl
  have hp : Tryz.prog.stoodInHeld 73 = false := by kernel_rfl
  rw [show (10000 : Nat) = 9999 + 1 from rfl, run_equalIn_agg w 9999 73 _ _ hS hp]
  clear hS hp
  simp only [Program.fieldsOf, Tryz.underlying73]
  go_simp
end
@[go_sem] theorem eqGuardWeightV (op : BinOp) (x y : Operand) (xs ys : Array Value) (w : World) : (eqGuard op 73 x y (.agg xs) (.agg ys)).run Tryz.prog w = .ok () w :=
  run_eqGuard_agg w op 73 x y xs ys (by kernel_rfl)
theorem neqWeightSame (a b c e f g : Int) (w : World) : (binOp .neq 73 (.agg #[.int .i64 a, .int .i64 b, .int .i64 c, .int .i64 e, .int .i64 f, .int .i64 g]) (.agg #[.int .i64 a, .int .i64 b, .int .i64 c, .int .i64 e, .int .i64 f, .int .i64 g])).run Tryz.prog w = .ok (.bool false) w := by
  rw [run_neq_struct, eqWeightV]; rfl
attribute [local go_sem ↓] neqWeightSame
structure WD where
  m0 : Int
  m1 : Int
  a0 : Int
  a1 : Int
  z0 : Int
  z1 : Int
def WsMem (w : World) (b : Nat) (L : List WD) : Prop := ∀ k r, L[k]? = some r → w.cell? ⟨b, k * 6, none⟩ = some (.int .i64 r.m0) ∧ w.cell? ⟨b, k * 6 + 1, none⟩ = some (.int .i64 r.m1) ∧ w.cell? ⟨b, k * 6 + 2, none⟩ = some (.int .i64 r.a0) ∧ w.cell? ⟨b, k * 6 + 3, none⟩ = some (.int .i64 r.a1) ∧ w.cell? ⟨b, k * 6 + 4, none⟩ = some (.int .i64 r.z0) ∧ w.cell? ⟨b, k * 6 + 5, none⟩ = some (.int .i64 r.z1)
theorem WsMem.below {w w' : World} {b : Nat} {L : List WD} (h : WsMem w b L) (hB : Below w.heap.size w w') (hb : b < w.heap.size) : WsMem w' b L := fun k r hr => by
  have e := fun i => (bcell hB).1 b i hb
  rw [e, e, e, e, e, e]; exact h k r hr
def SlWs (w : World) (v : Value) (L : List WD) : Prop := (v = .slice none 0 0 ∧ L = []) ∨ ∃ b c, v = .slice (some ⟨b, 0, none⟩) L.length c ∧ b < w.heap.size ∧ WsMem w b L
theorem SlWs.below {w w' : World} {v : Value} {L : List WD} (h : SlWs w v L) (hB : Below w.heap.size w w') : SlWs w' v L := by
  rcases h with h | ⟨b, c, h1, h2, h3⟩
  · exact .inl h
  · exact .inr ⟨b, c, h1, Nat.lt_of_lt_of_le h2 hB.size, h3.below hB h2⟩

set_option maxRecDepth 100000 in
set_option maxHeartbeats 4000000 in
theorem sameWeights_mem (b b' n c c' : Nat) (L : List WD) (w : World) (hn : n = L.length) (hm : n ≤ 40) (hb : b < w.heap.size) (hb' : b' < w.heap.size) (h : WsMem w b L) (h' : WsMem w b' L) :
  Calls Tryz.prog 10 #[.slice (some ⟨b, 0, none⟩) n c, .slice (some ⟨b', 0, none⟩) n c'] w fun e w' => e = .returned (.bool true) ∧ Below w.heap.size w w' := by
 have HN := Lib.hid hn; clear hn
 have HC := Lib.hid h; have HC' := Lib.hid h'; clear h h'
 go_enter Tryz.func10, Tryz.ntmps10
 go_wp2_with fail
 go_loopw [5] (fun i wr => ∃ k : Nat, k ≤ n ∧ i = .int .i64 k ∧ Below w.heap.size w wr) (fun i _ => n - (intOf i).toNat)
 case atStart => exact ⟨0, by omega, rfl, Below.refl _ _⟩
 case round =>
  obtain ⟨k, hk, rfl, hB⟩ := hrel
  by_cases hlt : k < n
  ·have hp : ∃ p, L[k]? = some p := ⟨_, List.getElem?_eq_getElem (show k < L.length by rw [← HN.out]; exact hlt)⟩
   obtain ⟨⟨r1, r2, r3, r4, r5, r6⟩, hp⟩ := hp
   obtain ⟨c0, c1, c2, c3, c4, c5⟩ := HC.out k _ hp
   obtain ⟨d0, d1, d2, d3, d4, d5⟩ := HC'.out k _ hp
   rw [← hB.cell (p := ⟨b, k * 6, none⟩) hb] at c0
   rw [← hB.cell (p := ⟨b, k * 6 + 1, none⟩) hb] at c1
   rw [← hB.cell (p := ⟨b, k * 6 + 2, none⟩) hb] at c2
   rw [← hB.cell (p := ⟨b, k * 6 + 3, none⟩) hb] at c3
   rw [← hB.cell (p := ⟨b, k * 6 + 4, none⟩) hb] at c4
   rw [← hB.cell (p := ⟨b, k * 6 + 5, none⟩) hb] at c5
   rw [← hB.cell (p := ⟨b', k * 6, none⟩) hb'] at d0
   rw [← hB.cell (p := ⟨b', k * 6 + 1, none⟩) hb'] at d1
   rw [← hB.cell (p := ⟨b', k * 6 + 2, none⟩) hb'] at d2
   rw [← hB.cell (p := ⟨b', k * 6 + 3, none⟩) hb'] at d3
   rw [← hB.cell (p := ⟨b', k * 6 + 4, none⟩) hb'] at d4
   rw [← hB.cell (p := ⟨b', k * 6 + 5, none⟩) hb'] at d5
   clear hp
   dsimp only at c0 c1 c2 c3 c4 c5 d0 d1 d2 d3 d4 d5
   go_wp2_with fail
   go_quiet (fail)
   go_wp2
   go_roundw
   case rel => exact ⟨k + 1, by omega, by go_num, below_drewM hB _⟩
   case measure => simp [intOf]; omega
  ·go_wp2
   go_ret
   exact ⟨rfl, hB⟩
set_option maxRecDepth 100000 in
theorem sameWeights_nil (w : World) : Calls Tryz.prog 10 #[.slice none 0 0, .slice none 0 0] w fun e w' => e = .returned (.bool true) ∧ Below w.heap.size w w' := by
 go_enter Tryz.func10, Tryz.ntmps10
 go_wp2_with fail
 go_loopw [5] (fun i wr => i = .int .i64 0 ∧ Below w.heap.size w wr) (fun i _ => 0)
 case atStart => exact ⟨rfl, Below.refl _ _⟩
 case round =>
  obtain ⟨rfl, hB⟩ := hrel
  go_wp2
  go_ret
  exact ⟨rfl, hB⟩
theorem sameWeights_any (x y : Value) (L : List WD) (w : World) (hm : L.length ≤ 40) (h : SlWs w x L) (h' : SlWs w y L) (hne : L = [] ↔ x = .slice none 0 0) (hne' : L = [] ↔ y = .slice none 0 0) :
    Calls Tryz.prog 10 #[x, y] w fun e w' => e = .returned (.bool true) ∧ Below w.heap.size w w' := by
  rcases h with ⟨rfl, e⟩ | ⟨b, c, rfl, h1, h2⟩
  · have := hne'.1 e
    subst this
    exact sameWeights_nil w
  · rcases h' with ⟨rfl, e⟩ | ⟨b', c', rfl, h3, h4⟩
    · have := hne.1 e
      simp at this
    · exact sameWeights_mem b b' _ c c' L w rfl hm h1 h3 h2 h4
end

section
open Go.RowKit

def HoldsMem (w : World) (b o : Nat) (L : List (HoldD × HoldM)) : Prop := ∀ k r, L[k]? = some r → w.cell? ⟨b, o + k * 14, none⟩ = some (.int .i64 r.1.id) ∧ w.cell? ⟨b, o + k * 14 + 1, none⟩ = some (.int .i64 r.1.al) ∧ w.cell? ⟨b, o + k * 14 + 2, none⟩ = some (.int .i64 r.1.ah) ∧ w.cell? ⟨b, o + k * 14 + 3, none⟩ = some (.slice r.2.A r.2.n r.2.c) ∧ w.cell? ⟨b, o + k * 14 + 4, none⟩ = some (.slice r.2.B r.2.m r.2.d) ∧ w.cell? ⟨b, o + k * 14 + 5, none⟩ = some (.slice r.2.C r.2.l r.2.e) ∧ w.cell? ⟨b, o + k * 14 + 6, none⟩ = some (.int .i64 r.1.t0) ∧ w.cell? ⟨b, o + k * 14 + 7, none⟩ = some (.int .i64 r.1.t1) ∧ w.cell? ⟨b, o + k * 14 + 8, none⟩ = some (.int .i64 r.1.u0) ∧ w.cell? ⟨b, o + k * 14 + 9, none⟩ = some (.int .i64 r.1.u1) ∧ w.cell? ⟨b, o + k * 14 + 10, none⟩ = some (.int .i64 r.1.v0) ∧ w.cell? ⟨b, o + k * 14 + 11, none⟩ = some (.int .i64 r.1.v1) ∧ w.cell? ⟨b, o + k * 14 + 12, none⟩ = some (.int .i64 r.1.h0) ∧ w.cell? ⟨b, o + k * 14 + 13, none⟩ = some (.int .i64 r.1.h1)
theorem HoldsMem.below {w w' : World} {b o : Nat} {L : List (HoldD × HoldM)} (h : HoldsMem w b o L) (hB : Below w.heap.size w w') (hb : b < w.heap.size) : HoldsMem w' b o L := fun k r hr => by
  have e := fun i => (bcell hB).1 b i hb
  rw [e, e, e, e, e, e, e, e, e, e, e, e, e, e]; exact h k r hr
theorem HoldsMem.take {w : World} {b o j : Nat} {L : List (HoldD × HoldM)} (h : HoldsMem w b o L) : HoldsMem w b o (L.take j) := fun k r hr => h k r (by
  rw [List.getElem?_take] at hr; split at hr
  · exact hr
  · cases hr)
def HoldsIn (w : World) (A : Option Addr) (n : Nat) (L : List (HoldD × HoldM)) : Prop := n = L.length ∧ n ≤ maxLen ∧ (L = [] ∨ ∃ b o, A = some ⟨b, o, none⟩ ∧ b < w.heap.size ∧ HoldsMem w b o L)
theorem HoldsIn.below {w w' : World} {A : Option Addr} {n : Nat} {L : List (HoldD × HoldM)} (h : HoldsIn w A n L) (hB : Below w.heap.size w w') : HoldsIn w' A n L :=
  ⟨h.1, h.2.1, h.2.2.imp id fun ⟨b, o, h1, h2, h3⟩ => ⟨b, o, h1, Nat.lt_of_lt_of_le h2 hB.size, h3.below hB h2⟩⟩

set_option maxRecDepth 100000 in
set_option maxHeartbeats 4000000 in
theorem idOfHold_to (pid pal pah pt0 pt1 pu0 pu1 pv0 pv1 ph0 ph1 : Int) (pA pB pC : Option Addr) (pn pc pm pd pl pe : Nat) (w : World) :
  Calls Tryz.prog 36 #[.agg #[.int .i64 pid, .int .i64 pal, .int .i64 pah, .slice pA pn pc, .slice pB pm pd, .slice pC pl pe, .int .i64 pt0, .int .i64 pt1, .int .i64 pu0, .int .i64 pu1, .int .i64 pv0, .int .i64 pv1, .int .i64 ph0, .int .i64 ph1]] w fun e w' => e = .returned (.int .i64 pid) ∧ Below w.heap.size w w' := by
 go_enter Tryz.func36, Tryz.ntmps36
 go_wp2
 go_ret
 exact ⟨rfl, below_alloc1 _ _⟩

set_option maxRecDepth 100000 in
set_option maxHeartbeats 4000000 in
theorem sameHold_to (pid pal pah pt0 pt1 pu0 pu1 pv0 pv1 ph0 ph1 : Int) (pA pB pC : Option Addr) (pn pc pm pd pl pe : Nat) (qid qal qah qt0 qt1 qu0 qu1 qv0 qv1 qh0 qh1 : Int) (qA qB qC : Option Addr) (qn qc qm qd ql qe : Nat) (F H : Nat) (w : World) (hF : Blk w F 92 #[fnV 36]) (hH : Blk w H 40 #[.int .i64 qid, .int .i64 qal, .int .i64 qah, .slice qA qn qc, .slice qB qm qd, .slice qC ql qe, .int .i64 qt0, .int .i64 qt1, .int .i64 qu0, .int .i64 qu1, .int .i64 qv0, .int .i64 qv1, .int .i64 qh0, .int .i64 qh1]) :
  Calls Tryz.prog 63 #[.agg #[.int .i64 pid, .int .i64 pal, .int .i64 pah, .slice pA pn pc, .slice pB pm pd, .slice pC pl pe, .int .i64 pt0, .int .i64 pt1, .int .i64 pu0, .int .i64 pu1, .int .i64 pv0, .int .i64 pv1, .int .i64 ph0, .int .i64 ph1], .pointer (some ⟨F, 0, none⟩), .pointer (some ⟨H, 0, none⟩)] w fun e w' => e = .returned (.bool (pid == qid)) ∧ Below w.heap.size w w' := by
 have HK : Hid (Boxes (w.alloc (.cells #[.int .i64 pid, .int .i64 pal, .int .i64 pah, .slice pA pn pc, .slice pB pm pd, .slice pC pl pe, .int .i64 pt0, .int .i64 pt1, .int .i64 pu0, .int .i64 pu1, .int .i64 pv0, .int .i64 pv1, .int .i64 ph0, .int .i64 ph1] 40)) [(w.heap.size, 40, #[.int .i64 pid, .int .i64 pal, .int .i64 pah, .slice pA pn pc, .slice pB pm pd, .slice pC pl pe, .int .i64 pt0, .int .i64 pt1, .int .i64 pu0, .int .i64 pu1, .int .i64 pv0, .int .i64 pv1, .int .i64 ph0, .int .i64 ph1]), (F, 92, #[fnV 36]), (H, 40, #[.int .i64 qid, .int .i64 qal, .int .i64 qah, .slice qA qn qc, .slice qB qm qd, .slice qC ql qe, .int .i64 qt0, .int .i64 qt1, .int .i64 qu0, .int .i64 qu1, .int .i64 qv0, .int .i64 qv1, .int .i64 qh0, .int .i64 qh1])]) := Lib.hid ((show Boxes w [(F, 92, #[fnV 36]), (H, 40, #[.int .i64 qid, .int .i64 qal, .int .i64 qah, .slice qA qn qc, .slice qB qm qd, .slice qC ql qe, .int .i64 qt0, .int .i64 qt1, .int .i64 qu0, .int .i64 qu1, .int .i64 qv0, .int .i64 qv1, .int .i64 qh0, .int .i64 qh1])] from fun p hp => by
  rcases List.mem_cons.1 hp with rfl | hp
  ·exact hF
  ·rcases List.mem_cons.1 hp with rfl | hp
   ·exact hH
   ·cases hp).new 40 #[.int .i64 pid, .int .i64 pal, .int .i64 pah, .slice pA pn pc, .slice pB pm pd, .slice pC pl pe, .int .i64 pt0, .int .i64 pt1, .int .i64 pu0, .int .i64 pu1, .int .i64 pv0, .int .i64 pv1, .int .i64 ph0, .int .i64 ph1])
 have HE := Lib.hid (show Below w.heap.size w (w.alloc (.cells #[.int .i64 pid, .int .i64 pal, .int .i64 pah, .slice pA pn pc, .slice pB pm pd, .slice pC pl pe, .int .i64 pt0, .int .i64 pt1, .int .i64 pu0, .int .i64 pu1, .int .i64 pv0, .int .i64 pv1, .int .i64 ph0, .int .i64 ph1] 40)) from below_alloc1 w _)
 clear hF hH
 go_enter Tryz.func63, Tryz.ntmps63
 go_upto_region 1 with fail
 obtain ⟨W0, hW0⟩ : ∃ W0 : World, (w.alloc (.cells #[.int .i64 pid, .int .i64 pal, .int .i64 pah, .slice pA pn pc, .slice pB pm pd, .slice pC pl pe, .int .i64 pt0, .int .i64 pt1, .int .i64 pu0, .int .i64 pu1, .int .i64 pv0, .int .i64 pv1, .int .i64 ph0, .int .i64 ph1] 40)) = W0 := ⟨_, rfl⟩
 rw [hW0] at HE HK ⊢
 clear hW0
 obtain ⟨G, hG⟩ : ∃ G, w.heap.size = G := ⟨_, rfl⟩
 rw [hG] at HK ⊢
 have HG := Lib.hid hG; clear hG
 have hS0 : Boxes W0.drew [(G, 40, #[.int .i64 pid, .int .i64 pal, .int .i64 pah, .slice pA pn pc, .slice pB pm pd, .slice pC pl pe, .int .i64 pt0, .int .i64 pt1, .int .i64 pu0, .int .i64 pu1, .int .i64 pv0, .int .i64 pv1, .int .i64 ph0, .int .i64 ph1]), (F, 92, #[fnV 36]), (H, 40, #[.int .i64 qid, .int .i64 qal, .int .i64 qah, .slice qA qn qc, .slice qB qm qd, .slice qC ql qe, .int .i64 qt0, .int .i64 qt1, .int .i64 qu0, .int .i64 qu1, .int .i64 qv0, .int .i64 qv1, .int .i64 qh0, .int .i64 qh1])] := HK.out
 have HEd := Lib.hid HE.out.drew
 refine wp_region_held_drew (S := fun w' => Boxes w' [(G, 40, #[.int .i64 pid, .int .i64 pal, .int .i64 pah, .slice pA pn pc, .slice pB pm pd, .slice pC pl pe, .int .i64 pt0, .int .i64 pt1, .int .i64 pu0, .int .i64 pu1, .int .i64 pv0, .int .i64 pv1, .int .i64 ph0, .int .i64 ph1]), (F, 92, #[fnV 36]), (H, 40, #[.int .i64 qid, .int .i64 qal, .int .i64 qah, .slice qA qn qc, .slice qB qm qd, .slice qC ql qe, .int .i64 qt0, .int .i64 qt1, .int .i64 qu0, .int .i64 qu1, .int .i64 qv0, .int .i64 qv1, .int .i64 qh0, .int .i64 qh1])]) (by kernel_rfl) hS0 (fun hHeld => ?_)
 obtain ⟨W1, hW⟩ : ∃ W', W0.drew = W' := ⟨_, rfl⟩
 rw [hW] at HEd hHeld ⊢
 clear hW hS0 HE HK
 refine tK 5 (i := 0) (v := fnV 36) rfl rfl (by kernel_rfl) ?_ hHeld ?_
 ·intro w hSw; have hz := (hSw _ (.tail _ (.head _))); have c0 := hz.cell 0; simp at c0; clear hz hSw; go_simp; try with_reducible rfl
 simp only [uZ, uS]
 refine tK 6 (i := 1) (v := .agg #[.int .i64 pid, .int .i64 pal, .int .i64 pah, .slice pA pn pc, .slice pB pm pd, .slice pC pl pe, .int .i64 pt0, .int .i64 pt1, .int .i64 pu0, .int .i64 pu1, .int .i64 pv0, .int .i64 pv1, .int .i64 ph0, .int .i64 ph1]) rfl rfl (by kernel_rfl) ?_ hHeld ?_
 ·intro w hSw; have hz := (hSw _ (.head _)); have c0 := hz.cell 0; have c1 := hz.cell 1; have c2 := hz.cell 2; have c3 := hz.cell 3; have c4 := hz.cell 4; have c5 := hz.cell 5; have c6 := hz.cell 6; have c7 := hz.cell 7; have c8 := hz.cell 8; have c9 := hz.cell 9; have c10 := hz.cell 10; have c11 := hz.cell 11; have c12 := hz.cell 12; have c13 := hz.cell 13; simp at c0 c1 c2 c3 c4 c5 c6 c7 c8 c9 c10 c11 c12 c13; clear hz hSw; go_simp; try with_reducible rfl
 simp only [uZ, uS]
 refine tK 8 (i := 3) (v := fnV 36) rfl rfl (by kernel_rfl) ?_ hHeld ?_
 ·intro w hSw; have hz := (hSw _ (.tail _ (.head _))); have c0 := hz.cell 0; simp at c0; clear hz hSw; go_simp; try with_reducible rfl
 simp only [uZ, uS]
 refine tK 9 (i := 4) (v := .agg #[.int .i64 qid, .int .i64 qal, .int .i64 qah, .slice qA qn qc, .slice qB qm qd, .slice qC ql qe, .int .i64 qt0, .int .i64 qt1, .int .i64 qu0, .int .i64 qu1, .int .i64 qv0, .int .i64 qv1, .int .i64 qh0, .int .i64 qh1]) rfl rfl (by kernel_rfl) ?_ hHeld ?_
 ·intro w hSw; have hz := (hSw _ (.tail _ (.tail _ (.head _)))); have c0 := hz.cell 0; have c1 := hz.cell 1; have c2 := hz.cell 2; have c3 := hz.cell 3; have c4 := hz.cell 4; have c5 := hz.cell 5; have c6 := hz.cell 6; have c7 := hz.cell 7; have c8 := hz.cell 8; have c9 := hz.cell 9; have c10 := hz.cell 10; have c11 := hz.cell 11; have c12 := hz.cell 12; have c13 := hz.cell 13; simp at c0 c1 c2 c3 c4 c5 c6 c7 c8 c9 c10 c11 c12 c13; clear hz hSw; go_simp; try with_reducible rfl
 simp only [uZ, uS]
 refine wpAnyH_ready (rs := [2]) (by kernel_rfl) (by simp) ?_
 refine AllReadyH.cons rfl (fun K hK => ?_) AllReadyH.nil
 go_simp
 (with_reducible refine (idOfHold_to pid pal pah pt0 pt1 pu0 pu1 pv0 pv1 ph0 ph1 pA pB pC pn pc pm pd pl pe _).mono ?_)
 rintro e z1 ⟨rfl, hq⟩
 have HE_1 := Lib.hid (below_then HEd.out hq)
 have hS := hHeld.on hq
 clear hq
 refine hK.out _ _ (hS) (fun hHeld2 => ?_)
 try simp only [Act.put, uA, uZ, uS]
 clear hK K hHeld
 have hHeld := hHeld2
 clear hHeld2
 clear hS HEd
 refine wpAnyH_ready (rs := [5]) (by kernel_rfl) (by simp) ?_
 refine AllReadyH.cons rfl (fun K hK => ?_) AllReadyH.nil
 go_simp
 (with_reducible refine (idOfHold_to qid qal qah qt0 qt1 qu0 qu1 qv0 qv1 qh0 qh1 qA qB qC qn qc qm qd ql qe _).mono ?_)
 rintro e z2 ⟨rfl, hq⟩
 have HE_2 := Lib.hid (below_then HE_1.out hq)
 have hS := hHeld.on hq
 clear hq
 refine hK.out _ _ (hS) (fun hHeld2 => ?_)
 try simp only [Act.put, uA, uZ, uS]
 clear hK K hHeld
 have hHeld := hHeld2
 clear hHeld2
 clear hS HE_1
 refine tK 11 (i := 6) (v := .bool (pid == qid)) rfl rfl (by kernel_rfl) ?_ hHeld ?_
 ·intro w hSw; clear hSw; go_simp; try with_reducible rfl
 simp only [uZ, uS]
 refine tK 4 (i := 7) (v := .bool (pid == qid)) rfl rfl (by kernel_rfl) ?_ hHeld ?_
 ·intro w hSw; clear hSw; go_simp; try with_reducible rfl
 simp only [uZ, uS]
 refine wpAnyH_done (by kernel_rfl) ?_ _
 clear hHeld
 go_wp2
 go_ret
 exact ⟨rfl, HE_2.out⟩

def hasHold (L : List (HoldD × HoldM)) (x : Int) : Bool := L.any fun r => r.1.id == x

set_option maxRecDepth 100000 in
set_option maxHeartbeats 4000000 in
theorem indexHold (b o n c : Nat) (L : List (HoldD × HoldM)) (qid qal qah qt0 qt1 qu0 qu1 qv0 qv1 qh0 qh1 : Int) (qA qB qC : Option Addr) (qn qc qm qd ql qe : Nat) (F H : Nat) (w : World) (hn : n = L.length) (h40 : n ≤ 1000000) (hb : b < w.heap.size) (hc : HoldsMem w b o L) (hF : Blk w F 92 #[fnV 36]) (hH : Blk w H 40 #[.int .i64 qid, .int .i64 qal, .int .i64 qah, .slice qA qn qc, .slice qB qm qd, .slice qC ql qe, .int .i64 qt0, .int .i64 qt1, .int .i64 qu0, .int .i64 qu1, .int .i64 qv0, .int .i64 qv1, .int .i64 qh0, .int .i64 qh1]) :
  Calls Tryz.prog 95 #[.slice (some ⟨b, o, none⟩) n c, .func (.func 63) #[] #[.pointer (some ⟨F, 0, none⟩), .pointer (some ⟨H, 0, none⟩)]] w fun e w' => (∃ j : Int, e = .returned (.int .i64 j) ∧ decide (0 ≤ j) = hasHold L qid) ∧ Below w.heap.size w w' := by
 have HN := Lib.hid hn; have HC := Lib.hid hc; have HF := Lib.hid hF; have HH := Lib.hid hH
 clear hn hc hF hH
 go_enter Tryz.func95, Tryz.ntmps95
 go_wp2_with fail
 go_loopw [8] (fun i wr => ∃ j : Nat, j ≤ n ∧ i = .int .i64 j ∧ Below w.heap.size w wr ∧ hasHold (L.take j) qid = false) (fun i _ => n - (intOf i).toNat)
 case atStart => exact ⟨0, by omega, rfl, Below.refl _ _, rfl⟩
 case round =>
  obtain ⟨k, hj, rfl, hB, hno⟩ := hrel
  by_cases hlt : k < n
  rotate_left
  ·obtain rfl : k = n := by omega
   have hall : hasHold L qid = false := by rw [HN.out, List.take_length] at hno; exact hno
   have HA := Lib.hid hall
   have HB := Lib.hid hB
   clear hno hall hB hj hlt
   go_wp2
   go_ret
   exact ⟨⟨_, rfl, by rw [HA.out]; rfl⟩, HB.out⟩
  have k1 : (k : Int) < (n : Int) := by omega
  obtain ⟨z, hz⟩ : ∃ z, L[k]? = some z := ⟨_, List.getElem?_eq_getElem (show k < L.length by rw [← HN.out]; omega)⟩
  obtain ⟨c0, c1, c2, c3, c4, c5, c6, c7, c8, c9, c10, c11, c12, c13⟩ := HC.out k z hz
  rw [← hB.cell (p := ⟨b, o + k * 14, none⟩) hb] at c0
  rw [← hB.cell (p := ⟨b, o + k * 14 + 1, none⟩) hb] at c1
  rw [← hB.cell (p := ⟨b, o + k * 14 + 2, none⟩) hb] at c2
  rw [← hB.cell (p := ⟨b, o + k * 14 + 3, none⟩) hb] at c3
  rw [← hB.cell (p := ⟨b, o + k * 14 + 4, none⟩) hb] at c4
  rw [← hB.cell (p := ⟨b, o + k * 14 + 5, none⟩) hb] at c5
  rw [← hB.cell (p := ⟨b, o + k * 14 + 6, none⟩) hb] at c6
  rw [← hB.cell (p := ⟨b, o + k * 14 + 7, none⟩) hb] at c7
  rw [← hB.cell (p := ⟨b, o + k * 14 + 8, none⟩) hb] at c8
  rw [← hB.cell (p := ⟨b, o + k * 14 + 9, none⟩) hb] at c9
  rw [← hB.cell (p := ⟨b, o + k * 14 + 10, none⟩) hb] at c10
  rw [← hB.cell (p := ⟨b, o + k * 14 + 11, none⟩) hb] at c11
  rw [← hB.cell (p := ⟨b, o + k * 14 + 12, none⟩) hb] at c12
  rw [← hB.cell (p := ⟨b, o + k * 14 + 13, none⟩) hb] at c13
  have lb : b < wr.heap.size := Nat.lt_of_lt_of_le hb hB.size
  have HB := Lib.hid hB
  have hnext : hasHold (L.take (k + 1)) qid = (z.1.id == qid) := by
   unfold hasHold at hno ⊢
   rw [List.take_add_one, hz, List.any_append, hno]; simp
  have hhas : (z.1.id == qid) = true → hasHold L qid = true := fun e => List.any_eq_true.2 ⟨z, List.mem_of_getElem? hz, e⟩
  obtain ⟨⟨rid, ral, rah, vol, mom, hei, rt0, rt1, ru0, ru1, rv0, rv1, rh0, rh1⟩, ⟨rA, rn, rc, rB, rm, rd, rC, rl, re⟩⟩ := z
  dsimp only at c0 c1 c2 c3 c4 c5 c6 c7 c8 c9 c10 c11 c12 c13 hnext hhas
  have HX := Lib.hid hnext
  have HY := Lib.hid hhas
  clear hnext hhas hz hno
  have CC := Lib.hid (sameHold_to rid ral rah rt0 rt1 ru0 ru1 rv0 rv1 rh0 rh1 rA rB rC rn rc rm rd rl re qid qal qah qt0 qt1 qu0 qu1 qv0 qv1 qh0 qh1 qA qB qC qn qc qm qd ql qe F H wr (blkOn HF.out hB) (blkOn HH.out hB))
  clear hB
  generalize gt : (rid == qid) = t at CC
  have HT := Lib.hid gt
  clear gt
  cases t
  ·go_wp2_with fail
   refine CC.out.mono ?_
   rintro e w1 ⟨rfl, hb1⟩
   have HB1 := Lib.hid (below_then HB.out hb1)
   clear hb1 CC
   go_wp2
   go_roundw
   case rel => exact ⟨k + 1, by omega, by go_num, HB1.out, by rw [HX.out, HT.out]⟩
   case measure => simp [intOf]; omega
  ·go_wp2_with fail
   refine CC.out.mono ?_
   rintro e w1 ⟨rfl, hb1⟩
   have HB1 := Lib.hid (below_then HB.out hb1)
   clear hb1 CC
   go_wp2
   go_ret
   exact ⟨⟨_, rfl, by rw [HY.out HT.out]; simp⟩, HB1.out⟩

def TanksMem (w : World) (b o : Nat) (L : List (TankD × HoldM)) : Prop := ∀ k r, L[k]? = some r → w.cell? ⟨b, o + k * 6, none⟩ = some (.int .i64 r.1.id) ∧ w.cell? ⟨b, o + k * 6 + 1, none⟩ = some (.int .i64 r.1.al) ∧ w.cell? ⟨b, o + k * 6 + 2, none⟩ = some (.int .i64 r.1.ah) ∧ w.cell? ⟨b, o + k * 6 + 3, none⟩ = some (.slice r.2.A r.2.n r.2.c) ∧ w.cell? ⟨b, o + k * 6 + 4, none⟩ = some (.slice r.2.B r.2.m r.2.d) ∧ w.cell? ⟨b, o + k * 6 + 5, none⟩ = some (.slice r.2.C r.2.l r.2.e)
theorem TanksMem.below {w w' : World} {b o : Nat} {L : List (TankD × HoldM)} (h : TanksMem w b o L) (hB : Below w.heap.size w w') (hb : b < w.heap.size) : TanksMem w' b o L := fun k r hr => by
  have e := fun i => (bcell hB).1 b i hb
  rw [e, e, e, e, e, e]; exact h k r hr
theorem TanksMem.take {w : World} {b o j : Nat} {L : List (TankD × HoldM)} (h : TanksMem w b o L) : TanksMem w b o (L.take j) := fun k r hr => h k r (by
  rw [List.getElem?_take] at hr; split at hr
  · exact hr
  · cases hr)
def TanksIn (w : World) (A : Option Addr) (n : Nat) (L : List (TankD × HoldM)) : Prop := n = L.length ∧ n ≤ maxLen ∧ (L = [] ∨ ∃ b o, A = some ⟨b, o, none⟩ ∧ b < w.heap.size ∧ TanksMem w b o L)
theorem TanksIn.below {w w' : World} {A : Option Addr} {n : Nat} {L : List (TankD × HoldM)} (h : TanksIn w A n L) (hB : Below w.heap.size w w') : TanksIn w' A n L :=
  ⟨h.1, h.2.1, h.2.2.imp id fun ⟨b, o, h1, h2, h3⟩ => ⟨b, o, h1, Nat.lt_of_lt_of_le h2 hB.size, h3.below hB h2⟩⟩

set_option maxRecDepth 100000 in
set_option maxHeartbeats 4000000 in
theorem idOfTank_to (pid pal pah : Int) (pA pB pC : Option Addr) (pn pc pm pd pl pe : Nat) (w : World) :
  Calls Tryz.prog 39 #[.agg #[.int .i64 pid, .int .i64 pal, .int .i64 pah, .slice pA pn pc, .slice pB pm pd, .slice pC pl pe]] w fun e w' => e = .returned (.int .i64 pid) ∧ Below w.heap.size w w' := by
 go_enter Tryz.func39, Tryz.ntmps39
 go_wp2
 go_ret
 exact ⟨rfl, below_alloc1 _ _⟩

set_option maxRecDepth 100000 in
set_option maxHeartbeats 4000000 in
theorem sameTank_to (pid pal pah : Int) (pA pB pC : Option Addr) (pn pc pm pd pl pe : Nat) (qid qal qah : Int) (qA qB qC : Option Addr) (qn qc qm qd ql qe : Nat) (F H : Nat) (w : World) (hF : Blk w F 95 #[fnV 39]) (hH : Blk w H 46 #[.int .i64 qid, .int .i64 qal, .int .i64 qah, .slice qA qn qc, .slice qB qm qd, .slice qC ql qe]) :
  Calls Tryz.prog 66 #[.agg #[.int .i64 pid, .int .i64 pal, .int .i64 pah, .slice pA pn pc, .slice pB pm pd, .slice pC pl pe], .pointer (some ⟨F, 0, none⟩), .pointer (some ⟨H, 0, none⟩)] w fun e w' => e = .returned (.bool (pid == qid)) ∧ Below w.heap.size w w' := by
 have HK : Hid (Boxes (w.alloc (.cells #[.int .i64 pid, .int .i64 pal, .int .i64 pah, .slice pA pn pc, .slice pB pm pd, .slice pC pl pe] 46)) [(w.heap.size, 46, #[.int .i64 pid, .int .i64 pal, .int .i64 pah, .slice pA pn pc, .slice pB pm pd, .slice pC pl pe]), (F, 95, #[fnV 39]), (H, 46, #[.int .i64 qid, .int .i64 qal, .int .i64 qah, .slice qA qn qc, .slice qB qm qd, .slice qC ql qe])]) := Lib.hid ((show Boxes w [(F, 95, #[fnV 39]), (H, 46, #[.int .i64 qid, .int .i64 qal, .int .i64 qah, .slice qA qn qc, .slice qB qm qd, .slice qC ql qe])] from fun p hp => by
  rcases List.mem_cons.1 hp with rfl | hp
  ·exact hF
  ·rcases List.mem_cons.1 hp with rfl | hp
   ·exact hH
   ·cases hp).new 46 #[.int .i64 pid, .int .i64 pal, .int .i64 pah, .slice pA pn pc, .slice pB pm pd, .slice pC pl pe])
 have HE := Lib.hid (show Below w.heap.size w (w.alloc (.cells #[.int .i64 pid, .int .i64 pal, .int .i64 pah, .slice pA pn pc, .slice pB pm pd, .slice pC pl pe] 46)) from below_alloc1 w _)
 clear hF hH
 go_enter Tryz.func66, Tryz.ntmps66
 go_upto_region 1 with fail
 obtain ⟨W0, hW0⟩ : ∃ W0 : World, (w.alloc (.cells #[.int .i64 pid, .int .i64 pal, .int .i64 pah, .slice pA pn pc, .slice pB pm pd, .slice pC pl pe] 46)) = W0 := ⟨_, rfl⟩
 rw [hW0] at HE HK ⊢
 clear hW0
 obtain ⟨G, hG⟩ : ∃ G, w.heap.size = G := ⟨_, rfl⟩
 rw [hG] at HK ⊢
 have HG := Lib.hid hG; clear hG
 have hS0 : Boxes W0.drew [(G, 46, #[.int .i64 pid, .int .i64 pal, .int .i64 pah, .slice pA pn pc, .slice pB pm pd, .slice pC pl pe]), (F, 95, #[fnV 39]), (H, 46, #[.int .i64 qid, .int .i64 qal, .int .i64 qah, .slice qA qn qc, .slice qB qm qd, .slice qC ql qe])] := HK.out
 have HEd := Lib.hid HE.out.drew
 refine wp_region_held_drew (S := fun w' => Boxes w' [(G, 46, #[.int .i64 pid, .int .i64 pal, .int .i64 pah, .slice pA pn pc, .slice pB pm pd, .slice pC pl pe]), (F, 95, #[fnV 39]), (H, 46, #[.int .i64 qid, .int .i64 qal, .int .i64 qah, .slice qA qn qc, .slice qB qm qd, .slice qC ql qe])]) (by kernel_rfl) hS0 (fun hHeld => ?_)
 obtain ⟨W1, hW⟩ : ∃ W', W0.drew = W' := ⟨_, rfl⟩
 rw [hW] at HEd hHeld ⊢
 clear hW hS0 HE HK
 refine tK 5 (i := 0) (v := fnV 39) rfl rfl (by kernel_rfl) ?_ hHeld ?_
 ·intro w hSw; have hz := (hSw _ (.tail _ (.head _))); have c0 := hz.cell 0; simp at c0; clear hz hSw; go_simp; try with_reducible rfl
 simp only [uZ, uS]
 refine tK 6 (i := 1) (v := .agg #[.int .i64 pid, .int .i64 pal, .int .i64 pah, .slice pA pn pc, .slice pB pm pd, .slice pC pl pe]) rfl rfl (by kernel_rfl) ?_ hHeld ?_
 ·intro w hSw; have hz := (hSw _ (.head _)); have c0 := hz.cell 0; have c1 := hz.cell 1; have c2 := hz.cell 2; have c3 := hz.cell 3; have c4 := hz.cell 4; have c5 := hz.cell 5; simp at c0 c1 c2 c3 c4 c5; clear hz hSw; go_simp; try with_reducible rfl
 simp only [uZ, uS]
 refine tK 8 (i := 3) (v := fnV 39) rfl rfl (by kernel_rfl) ?_ hHeld ?_
 ·intro w hSw; have hz := (hSw _ (.tail _ (.head _))); have c0 := hz.cell 0; simp at c0; clear hz hSw; go_simp; try with_reducible rfl
 simp only [uZ, uS]
 refine tK 9 (i := 4) (v := .agg #[.int .i64 qid, .int .i64 qal, .int .i64 qah, .slice qA qn qc, .slice qB qm qd, .slice qC ql qe]) rfl rfl (by kernel_rfl) ?_ hHeld ?_
 ·intro w hSw; have hz := (hSw _ (.tail _ (.tail _ (.head _)))); have c0 := hz.cell 0; have c1 := hz.cell 1; have c2 := hz.cell 2; have c3 := hz.cell 3; have c4 := hz.cell 4; have c5 := hz.cell 5; simp at c0 c1 c2 c3 c4 c5; clear hz hSw; go_simp; try with_reducible rfl
 simp only [uZ, uS]
 refine wpAnyH_ready (rs := [2]) (by kernel_rfl) (by simp) ?_
 refine AllReadyH.cons rfl (fun K hK => ?_) AllReadyH.nil
 go_simp
 (with_reducible refine (idOfTank_to pid pal pah pA pB pC pn pc pm pd pl pe _).mono ?_)
 rintro e z1 ⟨rfl, hq⟩
 have HE_1 := Lib.hid (below_then HEd.out hq)
 have hS := hHeld.on hq
 clear hq
 refine hK.out _ _ (hS) (fun hHeld2 => ?_)
 try simp only [Act.put, uA, uZ, uS]
 clear hK K hHeld
 have hHeld := hHeld2
 clear hHeld2
 clear hS HEd
 refine wpAnyH_ready (rs := [5]) (by kernel_rfl) (by simp) ?_
 refine AllReadyH.cons rfl (fun K hK => ?_) AllReadyH.nil
 go_simp
 (with_reducible refine (idOfTank_to qid qal qah qA qB qC qn qc qm qd ql qe _).mono ?_)
 rintro e z2 ⟨rfl, hq⟩
 have HE_2 := Lib.hid (below_then HE_1.out hq)
 have hS := hHeld.on hq
 clear hq
 refine hK.out _ _ (hS) (fun hHeld2 => ?_)
 try simp only [Act.put, uA, uZ, uS]
 clear hK K hHeld
 have hHeld := hHeld2
 clear hHeld2
 clear hS HE_1
 refine tK 11 (i := 6) (v := .bool (pid == qid)) rfl rfl (by kernel_rfl) ?_ hHeld ?_
 ·intro w hSw; clear hSw; go_simp; try with_reducible rfl
 simp only [uZ, uS]
 refine tK 4 (i := 7) (v := .bool (pid == qid)) rfl rfl (by kernel_rfl) ?_ hHeld ?_
 ·intro w hSw; clear hSw; go_simp; try with_reducible rfl
 simp only [uZ, uS]
 refine wpAnyH_done (by kernel_rfl) ?_ _
 clear hHeld
 go_wp2
 go_ret
 exact ⟨rfl, HE_2.out⟩

def hasTank (L : List (TankD × HoldM)) (x : Int) : Bool := L.any fun r => r.1.id == x

set_option maxRecDepth 100000 in
set_option maxHeartbeats 4000000 in
theorem indexTank (b o n c : Nat) (L : List (TankD × HoldM)) (qid qal qah : Int) (qA qB qC : Option Addr) (qn qc qm qd ql qe : Nat) (F H : Nat) (w : World) (hn : n = L.length) (h40 : n ≤ 1000000) (hb : b < w.heap.size) (hc : TanksMem w b o L) (hF : Blk w F 95 #[fnV 39]) (hH : Blk w H 46 #[.int .i64 qid, .int .i64 qal, .int .i64 qah, .slice qA qn qc, .slice qB qm qd, .slice qC ql qe]) :
  Calls Tryz.prog 103 #[.slice (some ⟨b, o, none⟩) n c, .func (.func 66) #[] #[.pointer (some ⟨F, 0, none⟩), .pointer (some ⟨H, 0, none⟩)]] w fun e w' => (∃ j : Int, e = .returned (.int .i64 j) ∧ decide (0 ≤ j) = hasTank L qid) ∧ Below w.heap.size w w' := by
 have HN := Lib.hid hn; have HC := Lib.hid hc; have HF := Lib.hid hF; have HH := Lib.hid hH
 clear hn hc hF hH
 go_enter Tryz.func103, Tryz.ntmps103
 go_wp2_with fail
 go_loopw [8] (fun i wr => ∃ j : Nat, j ≤ n ∧ i = .int .i64 j ∧ Below w.heap.size w wr ∧ hasTank (L.take j) qid = false) (fun i _ => n - (intOf i).toNat)
 case atStart => exact ⟨0, by omega, rfl, Below.refl _ _, rfl⟩
 case round =>
  obtain ⟨k, hj, rfl, hB, hno⟩ := hrel
  by_cases hlt : k < n
  rotate_left
  ·obtain rfl : k = n := by omega
   have hall : hasTank L qid = false := by rw [HN.out, List.take_length] at hno; exact hno
   have HA := Lib.hid hall
   have HB := Lib.hid hB
   clear hno hall hB hj hlt
   go_wp2
   go_ret
   exact ⟨⟨_, rfl, by rw [HA.out]; rfl⟩, HB.out⟩
  have k1 : (k : Int) < (n : Int) := by omega
  obtain ⟨z, hz⟩ : ∃ z, L[k]? = some z := ⟨_, List.getElem?_eq_getElem (show k < L.length by rw [← HN.out]; omega)⟩
  obtain ⟨c0, c1, c2, c3, c4, c5⟩ := HC.out k z hz
  rw [← hB.cell (p := ⟨b, o + k * 6, none⟩) hb] at c0
  rw [← hB.cell (p := ⟨b, o + k * 6 + 1, none⟩) hb] at c1
  rw [← hB.cell (p := ⟨b, o + k * 6 + 2, none⟩) hb] at c2
  rw [← hB.cell (p := ⟨b, o + k * 6 + 3, none⟩) hb] at c3
  rw [← hB.cell (p := ⟨b, o + k * 6 + 4, none⟩) hb] at c4
  rw [← hB.cell (p := ⟨b, o + k * 6 + 5, none⟩) hb] at c5
  have lb : b < wr.heap.size := Nat.lt_of_lt_of_le hb hB.size
  have HB := Lib.hid hB
  have hnext : hasTank (L.take (k + 1)) qid = (z.1.id == qid) := by
   unfold hasTank at hno ⊢
   rw [List.take_add_one, hz, List.any_append, hno]; simp
  have hhas : (z.1.id == qid) = true → hasTank L qid = true := fun e => List.any_eq_true.2 ⟨z, List.mem_of_getElem? hz, e⟩
  obtain ⟨⟨rid, ral, rah, vol, sur, hei⟩, ⟨rA, rn, rc, rB, rm, rd, rC, rl, re⟩⟩ := z
  dsimp only at c0 c1 c2 c3 c4 c5 hnext hhas
  have HX := Lib.hid hnext
  have HY := Lib.hid hhas
  clear hnext hhas hz hno
  have CC := Lib.hid (sameTank_to rid ral rah rA rB rC rn rc rm rd rl re qid qal qah qA qB qC qn qc qm qd ql qe F H wr (blkOn HF.out hB) (blkOn HH.out hB))
  clear hB
  generalize gt : (rid == qid) = t at CC
  have HT := Lib.hid gt
  clear gt
  cases t
  ·go_wp2_with fail
   refine CC.out.mono ?_
   rintro e w1 ⟨rfl, hb1⟩
   have HB1 := Lib.hid (below_then HB.out hb1)
   clear hb1 CC
   go_wp2
   go_roundw
   case rel => exact ⟨k + 1, by omega, by go_num, HB1.out, by rw [HX.out, HT.out]⟩
   case measure => simp [intOf]; omega
  ·go_wp2_with fail
   refine CC.out.mono ?_
   rintro e w1 ⟨rfl, hb1⟩
   have HB1 := Lib.hid (below_then HB.out hb1)
   clear hb1 CC
   go_wp2
   go_ret
   exact ⟨⟨_, rfl, by rw [HY.out HT.out]; simp⟩, HB1.out⟩
end

end Go.Proofs.YtpcmcicnciejpaaGreat
