/- Plain laws on lists of whole numbers: what sorting and compacting a list gives is the rising list of its numbers. No conditions; nothing of the program. The contracts of slices.Sort and slices.Compact at a row of numbers of the call's own. Its conditions: the row has a number, and 1000 at most. -/
import Derived.Test.YtemlaaipnhmcoaaGreatR01
import Derived.OwnWalk
import Derived.Maps.AppendAt
import Derived.Deep.LoopGhost
import Derived.Lib.SlicesCompact
import Derived.Sort.OwnSortedInts
import Derived.Shelf.Lay
import Derived.Shelf.LaySoft
import Derived.Test.YtemlaaipnhmcoaaGreatProg
set_option linter.unusedVariables false
set_option linter.unusedSimpArgs false
set_option linter.constructorNameAsVariable false
namespace Go.Proofs.YtemlaaipnhmcoaaGreat

section
open Go.RowKit
attribute [local go_sem ↓] eqlRange neqRange
abbrev pv (p q : P3) : Value := .agg #[.int .i64 p.1, .int .i64 p.2.1, .int .i64 p.2.2, .int .i64 q.1, .int .i64 q.2.1, .int .i64 q.2.2]

set_option maxRecDepth 100000 in
set_option maxHeartbeats 1000000 in
theorem pieceAt_core (x0 l0 h0 x1 l1 h1 x : Int) (w : World) (hx0 : 0 ≤ x0) (hx0' : x0 ≤ 1000000) (hx : 0 ≤ x) (hx1 : x ≤ 1000000) (gx : 0 ≤ x1) (hx1' : x1 ≤ 1000000)
  (a1 : -1000000000 ≤ l0) (a2 : l0 ≤ 1000000000) (b1 : -1000000000 ≤ h0) (b2 : h0 ≤ 1000000000) (c1 : -1000000000 ≤ l1) (c2 : l1 ≤ 1000000000) (d1 : -1000000000 ≤ h1) (d2 : h1 ≤ 1000000000) :
  Calls Tryz.prog 169 #[.agg #[.int .i64 x0, .int .i64 l0, .int .i64 h0, .int .i64 x1, .int .i64 l1, .int .i64 h1], .int .i64 x] w fun e w' =>
   e = .returned (rv (l0 + riseS (x - x0) (x1 - x0) (l1 - l0)) (h0 - riseS (x - x0) (x1 - x0) (h0 - h1))) ∧ Below w.heap.size w w' := by
 have k1 := riseS_bounds (x - x0) (x1 - x0) (l1 - l0) (by omega) (by omega) (by omega) (by omega)
 have k2 := riseS_bounds (x - x0) (x1 - x0) (h0 - h1) (by omega) (by omega) (by omega) (by omega)
 have g1 : -1000000 ≤ x - x0 := by omega
 have g2 : x - x0 ≤ 1000000 := by omega
 have g3 : x1 - x0 ≤ 1000000 := by omega
 have g4 : -2000000000 ≤ l1 - l0 := by omega
 have g5 : l1 - l0 ≤ 2000000000 := by omega
 have g6 : -2000000000 ≤ h0 - h1 := by omega
 have g7 : h0 - h1 ≤ 2000000000 := by omega
 have w1 : IntKind.i64.wrap (l1 - l0) = l1 - l0 := IntWalk.i64_in _ ⟨by omega, by omega⟩
 have w2 : IntKind.i64.wrap (h0 - h1) = h0 - h1 := IntWalk.i64_in _ ⟨by omega, by omega⟩
 have w3 : IntKind.i64.wrap (l0 + riseS (x - x0) (x1 - x0) (l1 - l0)) = l0 + riseS (x - x0) (x1 - x0) (l1 - l0) := IntWalk.i64_in _ ⟨by omega, by omega⟩
 have w4 : IntKind.i64.wrap (h0 - riseS (x - x0) (x1 - x0) (h0 - h1)) = h0 - riseS (x - x0) (x1 - x0) (h0 - h1) := IntWalk.i64_in _ ⟨by omega, by omega⟩
 clear k1 k2
 go_enter Tryz.func169, Tryz.ntmps169
 go_wp2_with fail
 go_region_held3 (fun w' => w'.cell? ⟨w.heap.size, 0, none⟩ = some (.int .i64 x0) ∧ w'.cell? ⟨w.heap.size, 1, none⟩ = some (.int .i64 l0) ∧ w'.cell? ⟨w.heap.size, 2, none⟩ = some (.int .i64 h0) ∧ w'.cell? ⟨w.heap.size, 3, none⟩ = some (.int .i64 x1) ∧ w'.cell? ⟨w.heap.size, 4, none⟩ = some (.int .i64 l1) ∧ w'.cell? ⟨w.heap.size, 5, none⟩ = some (.int .i64 h1))
  (first | (go_keep; done))
  (first | (go_at_call 208; refine (rise_any _ _ _ _ ?_ ?_ ?_ ?_ ?_).mono ?_; (assumption); (assumption); (assumption); (assumption); (assumption); rintro e w' ⟨rfl, rfl⟩))
 go_wp2
 refine bodyPost_ret (v := rv (l0 + riseS (x - x0) (x1 - x0) (l1 - l0)) (h0 - riseS (x - x0) (x1 - x0) (h0 - h1))) (by simp [results, Tryz.results169, go_sem]) rfl ⟨rfl, ?_⟩
 exact (((Below.refl _ _).alloc (Nat.le_refl _) _).alloc (by simp) _).drew

def firstX (ps : List P3) : Int := (ps.head?.map (·.1)).getD 0
def lastX (ps : List P3) : Int := (ps.getLast?.map (·.1)).getD 0

theorem tabOk_len {ps : List P3} (h : tabOk ps = true) : 1 ≤ ps.length ∧ ps.length ≤ 40 := by
  unfold tabOk at h
  rw [Bool.and_eq_true] at h
  simpa using h.1

theorem domain_tab (A : Option Addr) (n c : Nat) (ps : List P3) (w : World) (hn : n = ps.length) (hp : Pts w A ps) (h : tabOk ps = true) :
    Calls Tryz.prog 219 #[tv A n c] w fun e w' => e = .returned (rv (firstX ps) (lastX ps)) ∧ Below w.heap.size w w' := by
  obtain ⟨h1, h2⟩ := tabOk_len h
  rcases hp with hp | ⟨b, o, rfl, hb, hc⟩
  · exfalso; rw [hp] at h1; simp at h1
  · obtain ⟨m, rfl⟩ : ∃ m, n = m + 1 := ⟨n - 1, by omega⟩
    have e0 : ps[0]? = some (ps[0]'(by omega)) := List.getElem?_eq_getElem (by omega)
    have em : ps[m]? = some (ps[m]'(by omega)) := List.getElem?_eq_getElem (by omega)
    have f0 : firstX ps = (ps[0]'(by omega)).1 := by unfold firstX; rw [List.head?_eq_getElem?, e0]; rfl
    have fm : lastX ps = (ps[m]'(by omega)).1 := by
      unfold lastX
      rw [List.getLast?_eq_getElem?, show ps.length - 1 = m by omega, em]; rfl
    rw [f0, fm]
    have g0 := (hc 0 _ e0).1
    have gm := (hc m _ em).1
    rw [Nat.zero_mul, Nat.add_zero] at g0
    exact domain_any b o m c _ _ w (by omega) hb g0 gm

def placesS (ps : List P3) (a b : Int) : Int := if tabOk ps = true then (if inB a b (firstX ps) (lastX ps) = true then 0 else 4) else 11

theorem checkTable_to (A : Option Addr) (n c : Nat) (ps : List P3) (t : Bool) (x : Int) (w : World) (hn : n = ps.length) (hm : n ≤ maxLen) (hp : Pts w A ps) (h : tabOk ps = t) (hx : (if t = true then 0 else 11) = x) :
    Calls Tryz.prog 164 #[tv A n c] w fun e w' => e = .returned (.int .i64 x) ∧ Below w.heap.size w w' := by
  subst h; subst hx; exact checkTable_any A n c ps w hn hm hp
theorem within_to (a b c d : Int) (t : Bool) (w : World) (h : inB a b c d = t) :
    Calls Tryz.prog 131 #[rv a b, rv c d] w fun e w' => e = .returned (.bool t) ∧ Below w.heap.size w w' := by
  subst h; exact within_any a b c d w

theorem checkPlaces_any (A : Option Addr) (n c : Nat) (ps : List P3) (a b : Int) (w : World) (hn : n = ps.length) (hm : n ≤ maxLen) (hp : Pts w A ps) :
  Calls Tryz.prog 202 #[tv A n c, .int .i64 a, .int .i64 b] w fun e w' => e = .returned (.int .i64 (placesS ps a b)) ∧ Below w.heap.size w w' := by
 have HN := Lib.hid hn; clear hn
 have hp1 : Pts (w.alloc (.cells #[.slice A n c] 33)) A ps := hp.below ((Below.refl _ _).alloc (Nat.le_refl _) _)
 have HP := Lib.hid hp1; clear hp1 hp
 unfold placesS
 cases ht : tabOk ps
 ·have HT := Lib.hid ht; clear ht
  go_enter Tryz.func202, Tryz.ntmps202
  go_wp2_with fail
  refine (checkTable_to A n c ps _ _ _ HN.out hm HP.out HT.out rfl).mono ?_
  rintro e w1 ⟨rfl, hb⟩
  go_wp2
  go_ret
  exact ⟨rfl, below_a1 hb⟩
 ·cases hi : inB a b (firstX ps) (lastX ps)
  all_goals
   have HT := Lib.hid ht; clear ht
   have HI := Lib.hid hi; clear hi
   go_enter Tryz.func202, Tryz.ntmps202
   go_wp2_with fail
   refine (checkTable_to A n c ps _ _ _ HN.out hm HP.out HT.out rfl).mono ?_
   rintro e w1 ⟨rfl, hb⟩
   obtain ⟨hc, hf⟩ := bcell hb
   go_wp2_with fail
   refine (domain_tab A n c ps _ HN.out (HP.out.below hb) HT.out).mono ?_
   rintro e w2 ⟨rfl, hb2⟩
   go_wp2_with fail
   refine (within_to _ _ _ _ _ _ HI.out).mono ?_
   rintro e w3 ⟨rfl, hb3⟩
   go_wp2
   go_ret
   exact ⟨rfl, below_then (below_then (below_a1 hb) hb2) hb3⟩
end

section
open Go.RowKit

theorem Tryz.info3 : (Tryz.prog.info? 3).map (fun i => (i.zero, i.size, i.bytes)) = some (some (.int .i64 0), 1, 8) := by kernel_rfl

def cornersS (ps : List P3) (a b : Int) : List Int := a :: ((ps.filter fun p => decide (a < p.1) && decide (p.1 < b)).map (·.1)) ++ (if a < b then [b] else [])
abbrev ints (l : List Int) : List Value := l.map (Value.int .i64)

theorem own_one (w : World) (base : Nat) (a : Int) (hb : base ≤ w.heap.size) : (w.alloc (.cells #[.int .i64 a] 3)).ownsRow base 3 1 (.slice (some ⟨w.heap.size, 0, none⟩) 1 1) (ints [a]).length (ints [a]) := by
  refine ⟨by simp, .inr ⟨w.heap.size, 1, #[.int .i64 a], rfl, hb, heap_alloc_new w _, by simp, by simp [maxLen], by simp, ?_⟩⟩
  simp

def soFar (ps : List P3) (a b : Int) (k : Nat) : List Int := a :: (((ps.take k).filter fun p => decide (a < p.1) && decide (p.1 < b)).map (·.1))
theorem soFar_succ {ps : List P3} {a b : Int} {k : Nat} {p : P3} (h : ps[k]? = some p) : soFar ps a b (k + 1) = if a < p.1 ∧ p.1 < b then soFar ps a b k ++ [p.1] else soFar ps a b k := by
  have hk : k < ps.length := (List.getElem?_eq_some_iff.1 h).1
  have e : ps.take (k + 1) = ps.take k ++ [p] := by
    rw [List.take_succ_eq_append_getElem hk]
    rw [List.getElem?_eq_getElem hk] at h
    injection h with h
    rw [h]
  unfold soFar
  rw [e, List.filter_append, List.map_append]
  by_cases hc : a < p.1 ∧ p.1 < b
  · rw [if_pos hc]; simp [hc]
  · rw [if_neg hc]
    have : (decide (a < p.1) && decide (p.1 < b)) = false := by simpa using hc
    simp [List.filter_cons, this]
theorem soFar_len (ps : List P3) (a b : Int) (k : Nat) : (soFar ps a b k).length ≤ k + 1 := by
  unfold soFar
  simp only [List.length_cons, List.length_map]
  have h1 := List.length_filter_le (fun p : P3 => decide (a < p.1) && decide (p.1 < b)) (ps.take k)
  have h2 := List.length_take_le k ps
  omega

def OwnInts (base : Nat) (w : World) (v : Value) (l : List Int) : Prop := w.ownsRow base 3 1 v (ints l).length (ints l)

def GivesInts (w : World) (l : List Int) (e : Ending) (w' : World) : Prop := ∃ v, e = .returned v ∧ OwnInts w.heap.size w' v l ∧ Below w.heap.size w w'

theorem OwnInts.alloc {base : Nat} {w : World} {v : Value} {l : List Int} (h : OwnInts base w v l) (o : Obj) : OwnInts base (w.alloc o) v l := World.ownsRow.alloc h o
theorem cell_one (w : World) (x : Int) (t : TypeId) : ∀ (j : Nat) (u : Value), [Value.int .i64 x][j]? = some u → (w.alloc (.cells #[.int .i64 x] t)).cell? ((⟨w.heap.size, 0, none⟩ : Addr).add j) = some u := by
  intro j u h
  cases j with
  | zero => simp at h; subst h; simp [Addr.add]
  | succ j => simp at h
theorem own_snoc {base : Nat} {w : World} {v : Value} {l : List Int} {x : Int} (h : w.ownsRow base 3 1 v (l.length + 1) (ints l ++ [Value.int .i64 x])) : OwnInts base w v (l ++ [x]) := by
  unfold OwnInts
  have e : ints (l ++ [x]) = ints l ++ [Value.int .i64 x] := by simp
  rw [e, List.length_append, List.length_map]
  exact h
theorem own_below {base : Nat} {w w0 w' : World} {v : Value} {l : List Int} (h : OwnInts base w v l) (hB : Below w0.heap.size w0 w) (hbase : base = w0.heap.size) (hg : w.grownBy w' v.ownBlock) : Below w0.heap.size w0 w' :=
  hB.grown hg hB.size (fun k hk => by have := (World.ownsRow.lt h k hk).1; omega)

set_option maxRecDepth 100000 in
set_option maxHeartbeats 2000000 in
theorem corners_any (b0 o n c : Nat) (ps : List P3) (a b : Int) (w : World) (hn : n = ps.length) (h1 : 1 ≤ n) (h40 : n ≤ 40) (hb : b0 < w.heap.size)
  (hc : ∀ k p, ps[k]? = some p → w.cell? ⟨b0, o + k * 3, none⟩ = some (.int .i64 p.1) ∧ w.cell? ⟨b0, o + k * 3 + 1, none⟩ = some (.int .i64 p.2.1) ∧ w.cell? ⟨b0, o + k * 3 + 2, none⟩ = some (.int .i64 p.2.2)) :
  Calls Tryz.prog 214 #[tv (some ⟨b0, o, none⟩) n c, .int .i64 a, .int .i64 b] w (GivesInts w (cornersS ps a b)) := by
 obtain ⟨i0, hi, hz0, hz1, hz2⟩ := info_parts Tryz.info3
 have HN := Lib.hid hn; clear hn
 have HC := Lib.hid hc; clear hc
 go_enter Tryz.func214, Tryz.ntmps214
 go_wp2_with fail
 go_loopw [7, 15] (fun v i wr => ∃ k : Nat, k ≤ n ∧ i = .int .i64 k ∧ OwnInts w.heap.size wr v (soFar ps a b k) ∧ Below w.heap.size w wr) (fun _ i _ => n - (intOf i).toNat)
 case atStart => exact ⟨0, by omega, rfl, (by have h := own_one (w.alloc (.cells #[.slice (some ⟨b0, o, none⟩) n c] 33)) w.heap.size a (by simp); rw [World.size_alloc] at h; exact h), ((Below.refl _ _).alloc (Nat.le_refl _) _).alloc (by simp) _⟩
 case round =>
  obtain ⟨k, hk, rfl, hown, hB⟩ := hrel
  by_cases hlt : k < n
  ·have hp : ∃ p, ps[k]? = some p := ⟨_, List.getElem?_eq_getElem (show k < ps.length by rw [← HN.out]; exact hlt)⟩
   obtain ⟨p, hp⟩ := hp
   obtain ⟨c0, c1, c2⟩ := HC.out k p hp
   rw [← hB.cell (p := ⟨b0, o + k * 3, none⟩) hb] at c0
   rw [← hB.cell (p := ⟨b0, o + k * 3 + 1, none⟩) hb] at c1
   rw [← hB.cell (p := ⟨b0, o + k * 3 + 2, none⟩) hb] at c2
   have HS := Lib.hid (soFar_succ (a := a) (b := b) hp); clear hp
   have hsl := soFar_len ps a b k
   have HO := Lib.hid hown; clear hown
   obtain ⟨x, lo, hi'⟩ := p
   dsimp only at c0 c1 c2
   by_cases hx : a < x ∧ x < b
   ·obtain ⟨hx1, hx2⟩ := hx
    have hown := HO.out
    have hln : (ints (soFar ps a b k)).length + 1 ≤ 42 := by simp; omega
    have hown2 := (hown.alloc (.cells #[.int .i64 x, .int .i64 lo, .int .i64 hi'] 110)).alloc (.cells #[.int .i64 x] 3)
    have HO2 := Lib.hid hown2; clear hown hown2
    have hcell := cell_one (wr.alloc (.cells #[.int .i64 x, .int .i64 lo, .int .i64 hi'] 110)) x 3
    rw [World.size_alloc] at hcell
    have HCE := Lib.hid hcell; clear hcell
    go_wp2_with (at_builtin; refine wpList_append_own _ rfl (.tmp 29) (.tmp 32) 22 rfl w.heap.size 3 i0 (.int .i64 0) 1 8 Tryz.underlying22 hi hz0 hz1 hz2 rfl (by decide) _ _ _ rfl HO2.out ⟨wr.heap.size + 1, 0, none⟩ 1 1 [.int .i64 x] rfl rfl HCE.out ?c2 ?c3 ?c4 ?c5 ?_)
    case c2 => simp [Value.oneCell']
    case c3 => simp only [maxLen]; omega
    case c4 => omega
    case c5 => have := hB.size; simp; omega
    intro v' w1 hown1 hgrow _
    have hb1 := own_below HO2.out (w0 := w) ((hB.alloc hB.size _).alloc (by have := hB.size; simp; omega) _) rfl hgrow
    have hown2 : OwnInts w.heap.size w1 v' (soFar ps a b (k + 1)) := by
     rw [HS.out, if_pos ⟨hx1, hx2⟩]
     exact own_snoc hown1
    clear hown1 hgrow
    go_wp2
    go_roundw
    case rel => exact ⟨k + 1, by omega, by go_num, hown2, hb1⟩
    case measure => simp [intOf]; omega
   ·have hown2 : OwnInts w.heap.size wr u7 (soFar ps a b (k + 1)) := by
     rw [HS.out, if_neg hx]; exact HO.out
    have hown3 := Lib.hid (hown2.alloc (.cells #[.int .i64 x, .int .i64 lo, .int .i64 hi'] 110)); clear hown2
    have hb1 := hB.alloc hB.size (.cells #[.int .i64 x, .int .i64 lo, .int .i64 hi'] 110)
    have hx' : ¬ a < x ∨ (a < x ∧ ¬ x < b) := by omega
    clear hx
    rcases hx' with hx1 | ⟨hx1, hx2⟩
    all_goals
     go_wp2
     go_roundw
     case rel => exact ⟨k + 1, by omega, by go_num, hown3.out, hb1⟩
     case measure => simp [intOf]; omega
  ·have hkn : k = n := by omega
   have hall : soFar ps a b k = a :: ((ps.filter fun p => decide (a < p.1) && decide (p.1 < b)).map (·.1)) := by
    unfold soFar; rw [List.take_of_length_le (by have := HN.out; omega)]
   have hsl := soFar_len ps a b k
   by_cases hab : a < b
   ·have hln : (ints (soFar ps a b k)).length + 1 ≤ 42 := by simp; omega
    have hfin : cornersS ps a b = soFar ps a b k ++ [b] := by unfold cornersS; rw [hall, if_pos hab]
    have HF := Lib.hid hfin; clear hfin hall hkn
    have hown2 := hown.alloc (.cells #[.int .i64 b] 3)
    have HO2 := Lib.hid hown2; clear hown hown2
    have HCE := Lib.hid (cell_one wr b 3)
    go_wp2_with (at_builtin; refine wpList_append_own _ rfl (.tmp 38) (.tmp 40) 22 rfl w.heap.size 3 i0 (.int .i64 0) 1 8 Tryz.underlying22 hi hz0 hz1 hz2 rfl (by decide) _ _ _ rfl HO2.out ⟨wr.heap.size, 0, none⟩ 1 1 [.int .i64 b] rfl rfl HCE.out ?d2 ?d3 ?d4 ?d5 ?_)
    case d2 => simp [Value.oneCell']
    case d3 => simp only [maxLen]; omega
    case d4 => omega
    case d5 => have := hB.size; simp; omega
    intro v' w1 hown1 hgrow _
    have hb1 := own_below HO2.out (w0 := w) (hB.alloc hB.size _) rfl hgrow
    have hown2 : OwnInts w.heap.size w1 v' (cornersS ps a b) := by
     rw [HF.out]; exact own_snoc hown1
    clear hown1 hgrow
    go_wp2
    go_ret
    exact ⟨v', rfl, hown2, hb1⟩
   ·have hfin : cornersS ps a b = soFar ps a b k := by unfold cornersS; rw [hall, if_neg hab, List.append_nil]
    rw [← hfin] at hown
    have HO2 := Lib.hid hown; clear hown hfin hall hkn
    go_wp2
    go_ret
    exact ⟨u7, rfl, HO2.out, hB⟩
end

section
open Go.Lib

end

section
open Go.RowKit Go.Sort

theorem OwnInts.cells {base : Nat} {w : World} {v : Value} {L : List Int} (ho : OwnInts base w v L) (hne : L ≠ []) :
    ∃ g cap, v = .slice (some ⟨g, 0, none⟩) L.length cap ∧ base ≤ g ∧ g < w.heap.size ∧ (∀ (j : Nat) (x : Int), L[j]? = some x → w.cell? ⟨g, 0 + j, none⟩ = some (.int .i64 x)) := by
  rcases ho.2 with ⟨_, h0⟩ | ⟨g, cap, cur, rfl, hbg, hg, hle, hm, hs, ht⟩
  · exact absurd (by simpa using h0) hne
  · refine ⟨g, cap, by simp, hbg, (Array.getElem?_eq_some_iff.1 hg).1, fun j x hx => ?_⟩
    have h1 : w.cell? ⟨g, 0 + j, none⟩ = cur[0 + j]? := cell_of_row w g (0 + j) cur _ (0, 0) hg
    rw [h1, Nat.zero_add]
    have hj : j < L.length := (List.getElem?_eq_some_iff.1 hx).1
    have h2 : (ints L)[j]? = some (.int .i64 x) := by rw [List.getElem?_map, hx]; rfl
    rw [← ht, List.getElem?_take_of_lt (by simp; omega)] at h2
    simpa using h2
end

end Go.Proofs.YtemlaaipnhmcoaaGreat
