/- The contract of the iterator over a table's pieces (fix.pieces), for every loop body. Its condition: the table's points lie in memory, and there are 1 to 40 of them. -/
import Derived.RangeFuncNested
import Derived.RangeFuncBound
import Derived.RangeFuncCalls
import Derived.RangeFuncLeaves
import Derived.RangeFuncBox
import Derived.Shelf.Abstract
import Derived.Shelf.RegionOpen
import Derived.OwnWalkIn
import Derived.TacticsInMore
import Derived.LoopNIn
import Derived.LoopIn
import Derived.Test.YtemlaaipnhmcoaaGreatR02
set_option linter.unusedVariables false
set_option linter.unusedSimpArgs false
set_option linter.constructorNameAsVariable false
namespace Go.Proofs.YtemlaaipnhmcoaaGreat

section
open Go.RowKit Go.Shelf
attribute [local go_sem] Oper.semAt_some
theorem below_grownNone {w w' : World} (h : Below w.heap.size w w') : w.grownBy w' none := ⟨h.os, h.tape, h.output, h.size, fun i hi _ => h.block i hi⟩
theorem abides_below {β : Type} {B : Nat} {J : β → World → Prop} (hJ : AbidesFrom B J) {s : β} {W W' : World} (hs : J s W) (h : Below W.heap.size W W') : J s W' :=
  hJ s W W' none hs (below_grownNone h) (fun r e => by cases e)
theorem below_drew1 (w : World) : Below w.heap.size w w.drew := (Below.refl _ _).drew

theorem take_snocP {α : Type} {xs : List α} {k : Nat} {x : α} (h : xs[k]? = some x) : xs.take (k + 1) = xs.take k ++ [x] := by
  have hk : k < xs.length := (List.getElem?_eq_some_iff.1 h).1
  rw [List.take_succ_eq_append_getElem hk]
  rw [List.getElem?_eq_getElem hk] at h
  injection h with h
  rw [h]

def pcs : List P3 → List (P3 × P3)
  | [p] => [(p, p)]
  | ps => ps.zip ps.tail
theorem pcs_cases (ps : List P3) : (∃ p, ps = [p]) ∨ pcs ps = ps.zip ps.tail := by
  match ps with
  | [] => exact .inr rfl
  | [p] => exact .inl ⟨p, rfl⟩
  | p :: q :: r => exact .inr rfl
theorem pcs_len (ps : List P3) : (pcs ps).length ≤ ps.length := by
  rcases pcs_cases ps with ⟨p, rfl⟩ | e
  · simp [pcs]
  · rw [e, List.length_zip]; omega
theorem pcs_two {ps : List P3} (h : 2 ≤ ps.length) : pcs ps = ps.zip ps.tail := by
  rcases pcs_cases ps with ⟨p, rfl⟩ | e
  · simp at h
  · exact e

def YB (A B : World → Prop) (t : Bool) (W : World) : Prop := (t = true ∧ A W) ∨ (t = false ∧ B W)
theorem yb_of {e : Ending} {W : World} {A B C : Prop} (h : (e = .returned (.bool true) ∧ A ∧ B) ∨ (e = .returned (.bool false) ∧ C)) :
    ∃ t : Bool, e = .returned (.bool t) ∧ YB (fun _ => A ∧ B) (fun _ => C) t W := by
  rcases h with ⟨h, a⟩ | ⟨h, c⟩
  · exact ⟨true, h, .inl ⟨rfl, a⟩⟩
  · exact ⟨false, h, .inr ⟨rfl, c⟩⟩

set_option maxRecDepth 100000 in
set_option maxHeartbeats 2000000 in
theorem pieces1_two {α : Type} (f : α → P3 × P3) (xs : List α) (n : Nat) (hn : 1 ≤ n) (l Bt n₀ b o len cap : Nat) (ps : List P3) (hlen : len = ps.length) (h2 : 2 ≤ len) (h40 : len ≤ 40) (hxs : xs.map f = ps.zip ps.tail) (hb : b < n₀) (J Jx : List α → World → Prop) (B : Nat) (hJ : AbidesFrom B J)
    (hY : ∀ pre x W, J pre W → pre.length < xs.length → YieldAt Fence.wide (n - 1) Tryz.prog l #[pv (f x).1 (f x).2] W fun e W' =>
      (e = .returned (.bool true) ∧ J (pre ++ [x]) W' ∧ Below n₀ W W') ∨ (e = .returned (.bool false) ∧ Jx (pre ++ [x]) W'))
    (W : World) (hBt : W.cell? ⟨Bt, 0, none⟩ = some (.slice (some ⟨b, o, none⟩) len cap))
    (hc : ∀ k p, ps[k]? = some p → W.cell? ⟨b, o + k * 3, none⟩ = some (.int .i64 p.1) ∧ W.cell? ⟨b, o + k * 3 + 1, none⟩ = some (.int .i64 p.2.1) ∧ W.cell? ⟨b, o + k * 3 + 2, none⟩ = some (.int .i64 p.2.2)) (h0 : J [] W) :
    CallsIn Fence.wide n Tryz.prog 220 #[.func (.yield l) #[] #[], .pointer (some ⟨Bt, 0, none⟩)] W fun e W' => (∃ v, e = .returned v) ∧
      ((∃ ys, ys = xs ∧ J ys W') ∨ (∃ pre, pre <+: xs ∧ Jx pre W')) := by
  have HL := Lib.hid hlen; clear hlen
  have HC := Lib.hid hc; clear hc
  have t1 : ((len : Int) == 1) = false := beq_eq_false_iff_ne.2 (by omega)
  have hzl : xs.length + 1 = len := by have h1 := HL.out; have h2 := congrArg List.length hxs; simp at h2; omega
  have HX := Lib.hid hxs; clear hxs
  refine callsIn_of_wp Tryz.func220 rfl trivial ?_ rfl
  simp only [Tryz.ntmps220, List.size_toArray, List.length_cons, List.length_nil, Nat.reduceAdd, Nat.reduceSub, Array.replicate_succ, Array.replicate_zero, List.push_toArray, List.append_toArray, List.nil_append, List.cons_append]
  gi_wp2
  gi_loopw [4] (fun i wr => ∃ m : Nat, 1 ≤ m ∧ m ≤ len ∧ i = .int .i64 m ∧ J (xs.take (m - 1)) wr ∧ Below n₀ W wr)
    (fun i _ => len - (intOf i).toNat)
  case atStart => exact ⟨1, by omega, by omega, rfl, h0, Below.refl _ _⟩
  case round =>
    obtain ⟨m, hm1, hm2, rfl, hJs, hnx⟩ := hrel
    by_cases hlt : m < len
    · have hp : ∃ p, ps[m - 1]? = some p := ⟨_, List.getElem?_eq_getElem (show m - 1 < ps.length by rw [← HL.out]; omega)⟩
      have hq : ∃ q, ps[m]? = some q := ⟨_, List.getElem?_eq_getElem (show m < ps.length by rw [← HL.out]; exact hlt)⟩
      obtain ⟨p, hp⟩ := hp
      obtain ⟨q, hq⟩ := hq
      obtain ⟨c0, c1, c2⟩ := HC.out (m - 1) p hp
      obtain ⟨d0, d1, d2⟩ := HC.out m q hq
      rw [← hnx.cell (p := ⟨b, o + (m - 1) * 3, none⟩) hb] at c0
      rw [← hnx.cell (p := ⟨b, o + (m - 1) * 3 + 1, none⟩) hb] at c1
      rw [← hnx.cell (p := ⟨b, o + (m - 1) * 3 + 2, none⟩) hb] at c2
      rw [← hnx.cell (p := ⟨b, o + m * 3, none⟩) hb] at d0
      rw [← hnx.cell (p := ⟨b, o + m * 3 + 1, none⟩) hb] at d1
      rw [← hnx.cell (p := ⟨b, o + m * 3 + 2, none⟩) hb] at d2
      have hz : (ps.zip ps.tail)[m - 1]? = some (p, q) := by
        rw [List.getElem?_zip_eq_some]
        exact ⟨hp, by rw [List.getElem?_tail, Nat.sub_add_cancel hm1]; exact hq⟩
      have hm' : ∃ a, xs[m - 1]? = some a ∧ f a = (p, q) := by
        rw [← HX.out, List.getElem?_map, Option.map_eq_some_iff] at hz
        exact hz
      obtain ⟨a, hxa, hfa⟩ := hm'
      obtain ⟨fn, tmps, assign, body, hy, hR⟩ := hY _ a wr.drew (abides_below hJ hJs (below_drew1 wr)) (by rw [List.length_take]; omega)
      rw [hfa] at hy
      dsimp only at hy
      have HZ := Lib.hid (take_snocP hxa); clear hz hp hq hxa hfa
      have k1 : (0 : Int) ≤ (m : Int) - 1 := by omega
      have k2 : (m : Int) - 1 < (len : Int) := by omega
      have k3 : IntKind.i64.wrap ((m : Int) - 1) = (m : Int) - 1 := IntWalk.i64_in _ ⟨by omega, by omega⟩
      have k4 : ((m : Int) - 1).toNat = m - 1 := by omega
      have hmx : Tryz.prog.follows .mixedOrders = true := by kernel_rfl
      gi_wp2
      gi_region_with (refine hR.mono ?_; intro e W3 hh; obtain ⟨t, rfl, hh'⟩ := yb_of (W := W3) hh)
      all_goals
        rcases hh' with ⟨rfl, hJ3, hk3⟩ | ⟨rfl, hJx3⟩
        · gi_wp2
          go_roundw
          case rel =>
            refine ⟨m + 1, by omega, by omega, by go_num, ?_, hnx.trans (((Below.refl n₀ wr).drew).trans hk3)⟩
            rw [show m + 1 - 1 = m - 1 + 1 by omega, HZ.out]; exact hJ3
          case measure => simp [intOf]; omega
        · gi_wp2
          refine bodyPost_ret (results_none rfl _ _ _) rfl ?_
          refine ⟨⟨_, rfl⟩, .inr ⟨_, ?_, hJx3⟩⟩
          rw [← HZ.out]
          exact List.take_prefix _ _
    · have hm : m = len := by omega
      have hJe : J xs wr := by
        rw [List.take_of_length_le (by omega)] at hJs; exact hJs
      gi_wp2
      go_end0
      exact ⟨⟨_, rfl⟩, .inl ⟨_, rfl, hJe⟩⟩

set_option maxRecDepth 100000 in
set_option maxHeartbeats 2000000 in
theorem pieces1_one {α : Type} (f : α → P3 × P3) (a : α) (n : Nat) (hn : 1 ≤ n) (l Bt n₀ b o cap : Nat) (p : P3) (hfa : f a = (p, p)) (J Jx : List α → World → Prop) (B : Nat) (hJ : AbidesFrom B J)
    (hY : ∀ pre x W, J pre W → pre.length < 1 → YieldAt Fence.wide (n - 1) Tryz.prog l #[pv (f x).1 (f x).2] W fun e W' =>
      (e = .returned (.bool true) ∧ J (pre ++ [x]) W' ∧ Below n₀ W W') ∨ (e = .returned (.bool false) ∧ Jx (pre ++ [x]) W'))
    (W : World) (hb : b < W.heap.size) (hBt : W.cell? ⟨Bt, 0, none⟩ = some (.slice (some ⟨b, o, none⟩) 1 cap))
    (c0 : W.cell? ⟨b, o, none⟩ = some (.int .i64 p.1)) (c1 : W.cell? ⟨b, o + 1, none⟩ = some (.int .i64 p.2.1)) (c2 : W.cell? ⟨b, o + 2, none⟩ = some (.int .i64 p.2.2)) (h0 : J [] W) :
    CallsIn Fence.wide n Tryz.prog 220 #[.func (.yield l) #[] #[], .pointer (some ⟨Bt, 0, none⟩)] W fun e W' => (∃ v, e = .returned v) ∧
      ((∃ ys, ys = [a] ∧ J ys W') ∨ (∃ pre, pre <+: [a] ∧ Jx pre W')) := by
  refine callsIn_of_wp Tryz.func220 rfl trivial ?_ rfl
  simp only [Tryz.ntmps220, List.size_toArray, List.length_cons, List.length_nil, Nat.reduceAdd, Nat.reduceSub, Array.replicate_succ, Array.replicate_zero, List.push_toArray, List.append_toArray, List.nil_append, List.cons_append]
  gi_wp2_with fail
  gi_region
  gi_wp2_with fail
  have hE : Below W.heap.size W (W.alloc (.cells #[.int .i64 p.1, .int .i64 p.2.1, .int .i64 p.2.2, .int .i64 p.1, .int .i64 p.2.1, .int .i64 p.2.2] 110)).drew := ((Below.refl _ _).alloc (Nat.le_refl _) _).drew
  have bP := (Blk.new W 110 #[.int .i64 p.1, .int .i64 p.2.1, .int .i64 p.2.2, .int .i64 p.1, .int .i64 p.2.1, .int .i64 p.2.2]).drew
  obtain ⟨G, hG⟩ : ∃ G, W.heap.size = G := ⟨_, rfl⟩
  obtain ⟨W1, hW1⟩ : ∃ W1, (W.alloc (.cells #[.int .i64 p.1, .int .i64 p.2.1, .int .i64 p.2.2, .int .i64 p.1, .int .i64 p.2.1, .int .i64 p.2.2] 110)).drew = W1 := ⟨_, rfl⟩
  have hJ1 : J [] W1 := by rw [← hW1]; exact abides_below hJ h0 hE
  rw [hW1] at bP ⊢
  rw [hG] at bP ⊢
  clear hE hW1 hG c0 c1 c2 hBt h0 hb
  have e0 := bP.cell 0
  have e1 := bP.cell 1
  have e2 := bP.cell 2
  have e3 := bP.cell 3
  have e4 := bP.cell 4
  have e5 := bP.cell 5
  simp at e0 e1 e2 e3 e4 e5
  clear bP
  gi_loopw [4] (fun i wr => (i = .int .i64 1 ∧ wr = W1) ∨ (i = .int .i64 2 ∧ J [a] wr)) (fun i _ => 2 - (intOf i).toNat)
  case atStart => exact .inl ⟨rfl, rfl⟩
  case round =>
    rcases hrel with ⟨rfl, rfl⟩ | ⟨rfl, hJ2⟩
    · obtain ⟨fn, tmps, assign, body, hy, hR⟩ := hY [] a wr.drew (abides_below hJ hJ1 (below_drew1 wr)) (by simp)
      rw [hfa] at hy
      dsimp only at hy
      have hmx : Tryz.prog.follows .mixedOrders = true := by kernel_rfl
      gi_wp2
      gi_region_with (refine hR.mono ?_; intro e W3 hh; obtain ⟨t, rfl, hh'⟩ := yb_of (W := W3) hh)
      all_goals
        rcases hh' with ⟨rfl, hJ3, hk3⟩ | ⟨rfl, hJx3⟩
        · gi_wp2
          go_roundw
          case rel => exact .inr ⟨by go_num, hJ3⟩
          case measure => simp [intOf]
        · gi_wp2
          refine bodyPost_ret (results_none rfl _ _ _) rfl ?_
          exact ⟨⟨_, rfl⟩, .inr ⟨[a], List.prefix_refl _, hJx3⟩⟩
    · gi_wp2
      go_end0
      exact ⟨⟨_, rfl⟩, .inl ⟨_, rfl, hJ2⟩⟩

theorem pieces1_in {α : Type} (f : α → P3 × P3) (xs : List α) (n : Nat) (hn : 1 ≤ n) (l Bt n₀ b o len cap : Nat) (ps : List P3) (hlen : len = ps.length) (h1 : 1 ≤ len) (h40 : len ≤ 40) (hxs : xs.map f = pcs ps) (hb : b < n₀) (J Jx : List α → World → Prop) (B : Nat) (hJ : AbidesFrom B J)
    (hY : ∀ pre x W, J pre W → pre.length < xs.length → YieldAt Fence.wide (n - 1) Tryz.prog l #[pv (f x).1 (f x).2] W fun e W' =>
      (e = .returned (.bool true) ∧ J (pre ++ [x]) W' ∧ Below n₀ W W') ∨ (e = .returned (.bool false) ∧ Jx (pre ++ [x]) W'))
    (W : World) (hn₀ : n₀ ≤ W.heap.size) (hBt : W.cell? ⟨Bt, 0, none⟩ = some (.slice (some ⟨b, o, none⟩) len cap))
    (hc : ∀ k p, ps[k]? = some p → W.cell? ⟨b, o + k * 3, none⟩ = some (.int .i64 p.1) ∧ W.cell? ⟨b, o + k * 3 + 1, none⟩ = some (.int .i64 p.2.1) ∧ W.cell? ⟨b, o + k * 3 + 2, none⟩ = some (.int .i64 p.2.2)) (h0 : J [] W) :
    CallsIn Fence.wide n Tryz.prog 220 #[.func (.yield l) #[] #[], .pointer (some ⟨Bt, 0, none⟩)] W fun e W' => (∃ v, e = .returned v) ∧
      ((∃ ys, ys = xs ∧ J ys W') ∨ (∃ pre, pre <+: xs ∧ Jx pre W')) := by
  by_cases h2 : 2 ≤ len
  · exact pieces1_two f xs n hn l Bt n₀ b o len cap ps hlen h2 h40 (hxs.trans (pcs_two (by omega))) hb J Jx B hJ hY W hBt hc h0
  · obtain rfl : len = 1 := by omega
    obtain ⟨p, rfl⟩ := List.length_eq_one_iff.1 hlen.symm
    have hl : xs.length = 1 := by have h := congrArg List.length hxs; simpa [pcs] using h
    obtain ⟨a, rfl⟩ := List.length_eq_one_iff.1 hl
    have hfa : f a = (p, p) := by simpa [pcs] using hxs
    obtain ⟨c0, c1, c2⟩ := hc 0 p rfl
    rw [Nat.zero_mul, Nat.add_zero] at c0 c1 c2
    exact pieces1_one f a n hn l Bt n₀ b o cap p hfa J Jx B hJ (fun pre x W' h1 h2 => hY pre x W' h1 (by rw [hl]; exact h2)) W (by omega) hBt c0 c1 c2 h0
end

end Go.Proofs.YtemlaaipnhmcoaaGreat
