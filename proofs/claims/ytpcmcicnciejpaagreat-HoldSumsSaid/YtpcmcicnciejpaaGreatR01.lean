/- The contracts of the closures that Where and Above ask of a place (fix). Their conditions: what they captured lies in memory; the numbers are those of a valid table. -/
import Derived.RangeFuncNested
import Derived.RangeFuncBound
import Derived.RangeFuncCalls
import Derived.RangeFuncLeaves
import Derived.RangeFuncBox
import Derived.Shelf.Abstract
import Derived.Shelf.RegionOpen
import Derived.OwnWalkIn
import Derived.TacticsInMore
import Derived.LoopNIn
import Derived.LoopIn
import Derived.Test.YtpcmcicnciejpaaGreatR00
import Derived.WalkSmall
import Derived.OwnWalk
import Derived.Maps.AppendAt
import Derived.Deep.LoopGhost
import Derived.BigQuiet
set_option linter.unusedVariables false
set_option linter.unusedSimpArgs false
set_option linter.constructorNameAsVariable false
namespace Go.Proofs.YtpcmcicnciejpaaGreat

section
open Go.RowKit Go.Shelf
attribute [local go_sem] Oper.semAt_some
theorem below_grownNone {w w' : World} (h : Below w.heap.size w w') : w.grownBy w' none := ⟨h.os, h.tape, h.output, h.size, fun i hi _ => h.block i hi⟩
theorem abides_below {β : Type} {B : Nat} {J : β → World → Prop} (hJ : AbidesFrom B J) {s : β} {W W' : World} (hs : J s W) (h : Below W.heap.size W W') : J s W' :=
  hJ s W W' none hs (below_grownNone h) (fun r e => by cases e)
theorem below_drew1 (w : World) : Below w.heap.size w w.drew := (Below.refl _ _).drew

theorem take_snocP {α : Type} {xs : List α} {k : Nat} {x : α} (h : xs[k]? = some x) : xs.take (k + 1) = xs.take k ++ [x] := by
  have hk : k < xs.length := (List.getElem?_eq_some_iff.1 h).1
  rw [List.take_succ_eq_append_getElem hk]
  rw [List.getElem?_eq_getElem hk] at h
  injection h with h
  rw [h]

def pcs : List P3 → List (P3 × P3)
  | [p] => [(p, p)]
  | ps => ps.zip ps.tail
theorem pcs_cases (ps : List P3) : (∃ p, ps = [p]) ∨ pcs ps = ps.zip ps.tail := by
  match ps with
  | [] => exact .inr rfl
  | [p] => exact .inl ⟨p, rfl⟩
  | p :: q :: r => exact .inr rfl
theorem pcs_len (ps : List P3) : (pcs ps).length ≤ ps.length := by
  rcases pcs_cases ps with ⟨p, rfl⟩ | e
  · simp [pcs]
  · rw [e, List.length_zip]; omega
theorem pcs_two {ps : List P3} (h : 2 ≤ ps.length) : pcs ps = ps.zip ps.tail := by
  rcases pcs_cases ps with ⟨p, rfl⟩ | e
  · simp at h
  · exact e

def YB (A B : World → Prop) (t : Bool) (W : World) : Prop := (t = true ∧ A W) ∨ (t = false ∧ B W)
theorem yb_of {e : Ending} {W : World} {A B C : Prop} (h : (e = .returned (.bool true) ∧ A ∧ B) ∨ (e = .returned (.bool false) ∧ C)) :
    ∃ t : Bool, e = .returned (.bool t) ∧ YB (fun _ => A ∧ B) (fun _ => C) t W := by
  rcases h with ⟨h, a⟩ | ⟨h, c⟩
  · exact ⟨true, h, .inl ⟨rfl, a⟩⟩
  · exact ⟨false, h, .inr ⟨rfl, c⟩⟩

set_option maxRecDepth 100000 in
set_option maxHeartbeats 2000000 in
theorem pieces1_two {α : Type} (f : α → P3 × P3) (xs : List α) (n : Nat) (hn : 1 ≤ n) (l Bt n₀ b o len cap : Nat) (ps : List P3) (hlen : len = ps.length) (h2 : 2 ≤ len) (h40 : len ≤ 40) (hxs : xs.map f = ps.zip ps.tail) (hb : b < n₀) (J Jx : List α → World → Prop) (B : Nat) (hJ : AbidesFrom B J)
    (hY : ∀ pre x W, J pre W → pre.length < xs.length → YieldAt Fence.wide (n - 1) Tryz.prog l #[pv (f x).1 (f x).2] W fun e W' =>
      (e = .returned (.bool true) ∧ J (pre ++ [x]) W' ∧ Below n₀ W W') ∨ (e = .returned (.bool false) ∧ Jx (pre ++ [x]) W'))
    (W : World) (hBt : W.cell? ⟨Bt, 0, none⟩ = some (.slice (some ⟨b, o, none⟩) len cap))
    (hc : ∀ k p, ps[k]? = some p → W.cell? ⟨b, o + k * 3, none⟩ = some (.int .i64 p.1) ∧ W.cell? ⟨b, o + k * 3 + 1, none⟩ = some (.int .i64 p.2.1) ∧ W.cell? ⟨b, o + k * 3 + 2, none⟩ = some (.int .i64 p.2.2)) (h0 : J [] W) :
    CallsIn Fence.wide n Tryz.prog 144 #[.func (.yield l) #[] #[], .pointer (some ⟨Bt, 0, none⟩)] W fun e W' => (∃ v, e = .returned v) ∧
      ((∃ ys, ys = xs ∧ J ys W') ∨ (∃ pre, pre <+: xs ∧ Jx pre W')) := by
  have HL := Lib.hid hlen; clear hlen
  have HC := Lib.hid hc; clear hc
  have t1 : ((len : Int) == 1) = false := beq_eq_false_iff_ne.2 (by omega)
  have hzl : xs.length + 1 = len := by have h1 := HL.out; have h2 := congrArg List.length hxs; simp at h2; omega
  have HX := Lib.hid hxs; clear hxs
  refine callsIn_of_wp Tryz.func144 rfl trivial ?_ rfl
  simp only [Tryz.ntmps144, List.size_toArray, List.length_cons, List.length_nil, Nat.reduceAdd, Nat.reduceSub, Array.replicate_succ, Array.replicate_zero, List.push_toArray, List.append_toArray, List.nil_append, List.cons_append]
  gi_wp2
  gi_loopw [4] (fun i wr => ∃ m : Nat, 1 ≤ m ∧ m ≤ len ∧ i = .int .i64 m ∧ J (xs.take (m - 1)) wr ∧ Below n₀ W wr)
    (fun i _ => len - (intOf i).toNat)
  case atStart => exact ⟨1, by omega, by omega, rfl, h0, Below.refl _ _⟩
  case round =>
    obtain ⟨m, hm1, hm2, rfl, hJs, hnx⟩ := hrel
    by_cases hlt : m < len
    · have hp : ∃ p, ps[m - 1]? = some p := ⟨_, List.getElem?_eq_getElem (show m - 1 < ps.length by rw [← HL.out]; omega)⟩
      have hq : ∃ q, ps[m]? = some q := ⟨_, List.getElem?_eq_getElem (show m < ps.length by rw [← HL.out]; exact hlt)⟩
      obtain ⟨p, hp⟩ := hp
      obtain ⟨q, hq⟩ := hq
      obtain ⟨c0, c1, c2⟩ := HC.out (m - 1) p hp
      obtain ⟨d0, d1, d2⟩ := HC.out m q hq
      rw [← hnx.cell (p := ⟨b, o + (m - 1) * 3, none⟩) hb] at c0
      rw [← hnx.cell (p := ⟨b, o + (m - 1) * 3 + 1, none⟩) hb] at c1
      rw [← hnx.cell (p := ⟨b, o + (m - 1) * 3 + 2, none⟩) hb] at c2
      rw [← hnx.cell (p := ⟨b, o + m * 3, none⟩) hb] at d0
      rw [← hnx.cell (p := ⟨b, o + m * 3 + 1, none⟩) hb] at d1
      rw [← hnx.cell (p := ⟨b, o + m * 3 + 2, none⟩) hb] at d2
      have hz : (ps.zip ps.tail)[m - 1]? = some (p, q) := by
        rw [List.getElem?_zip_eq_some]
        exact ⟨hp, by rw [List.getElem?_tail, Nat.sub_add_cancel hm1]; exact hq⟩
      have hm' : ∃ a, xs[m - 1]? = some a ∧ f a = (p, q) := by
        rw [← HX.out, List.getElem?_map, Option.map_eq_some_iff] at hz
        exact hz
      obtain ⟨a, hxa, hfa⟩ := hm'
      obtain ⟨fn, tmps, assign, body, hy, hR⟩ := hY _ a wr.drew (abides_below hJ hJs (below_drew1 wr)) (by rw [List.length_take]; omega)
      rw [hfa] at hy
      dsimp only at hy
      have HZ := Lib.hid (take_snocP hxa); clear hz hp hq hxa hfa
      have k1 : (0 : Int) ≤ (m : Int) - 1 := by omega
      have k2 : (m : Int) - 1 < (len : Int) := by omega
      have k3 : IntKind.i64.wrap ((m : Int) - 1) = (m : Int) - 1 := IntWalk.i64_in _ ⟨by omega, by omega⟩
      have k4 : ((m : Int) - 1).toNat = m - 1 := by omega
      have hmx : Tryz.prog.follows .mixedOrders = true := by kernel_rfl
      gi_wp2
      gi_region_with (refine hR.mono ?_; intro e W3 hh; obtain ⟨t, rfl, hh'⟩ := yb_of (W := W3) hh)
      all_goals
        rcases hh' with ⟨rfl, hJ3, hk3⟩ | ⟨rfl, hJx3⟩
        · gi_wp2
          go_roundw
          case rel =>
            refine ⟨m + 1, by omega, by omega, by go_num, ?_, hnx.trans (((Below.refl n₀ wr).drew).trans hk3)⟩
            rw [show m + 1 - 1 = m - 1 + 1 by omega, HZ.out]; exact hJ3
          case measure => simp [intOf]; omega
        · gi_wp2
          refine bodyPost_ret (results_none rfl _ _ _) rfl ?_
          refine ⟨⟨_, rfl⟩, .inr ⟨_, ?_, hJx3⟩⟩
          rw [← HZ.out]
          exact List.take_prefix _ _
    · have hm : m = len := by omega
      have hJe : J xs wr := by
        rw [List.take_of_length_le (by omega)] at hJs; exact hJs
      gi_wp2
      go_end0
      exact ⟨⟨_, rfl⟩, .inl ⟨_, rfl, hJe⟩⟩

set_option maxRecDepth 100000 in
set_option maxHeartbeats 2000000 in
theorem pieces1_one {α : Type} (f : α → P3 × P3) (a : α) (n : Nat) (hn : 1 ≤ n) (l Bt n₀ b o cap : Nat) (p : P3) (hfa : f a = (p, p)) (J Jx : List α → World → Prop) (B : Nat) (hJ : AbidesFrom B J)
    (hY : ∀ pre x W, J pre W → pre.length < 1 → YieldAt Fence.wide (n - 1) Tryz.prog l #[pv (f x).1 (f x).2] W fun e W' =>
      (e = .returned (.bool true) ∧ J (pre ++ [x]) W' ∧ Below n₀ W W') ∨ (e = .returned (.bool false) ∧ Jx (pre ++ [x]) W'))
    (W : World) (hb : b < W.heap.size) (hBt : W.cell? ⟨Bt, 0, none⟩ = some (.slice (some ⟨b, o, none⟩) 1 cap))
    (c0 : W.cell? ⟨b, o, none⟩ = some (.int .i64 p.1)) (c1 : W.cell? ⟨b, o + 1, none⟩ = some (.int .i64 p.2.1)) (c2 : W.cell? ⟨b, o + 2, none⟩ = some (.int .i64 p.2.2)) (h0 : J [] W) :
    CallsIn Fence.wide n Tryz.prog 144 #[.func (.yield l) #[] #[], .pointer (some ⟨Bt, 0, none⟩)] W fun e W' => (∃ v, e = .returned v) ∧
      ((∃ ys, ys = [a] ∧ J ys W') ∨ (∃ pre, pre <+: [a] ∧ Jx pre W')) := by
  refine callsIn_of_wp Tryz.func144 rfl trivial ?_ rfl
  simp only [Tryz.ntmps144, List.size_toArray, List.length_cons, List.length_nil, Nat.reduceAdd, Nat.reduceSub, Array.replicate_succ, Array.replicate_zero, List.push_toArray, List.append_toArray, List.nil_append, List.cons_append]
  gi_wp2_with fail
  gi_region
  gi_wp2_with fail
  have hE : Below W.heap.size W (W.alloc (.cells #[.int .i64 p.1, .int .i64 p.2.1, .int .i64 p.2.2, .int .i64 p.1, .int .i64 p.2.1, .int .i64 p.2.2] 66)).drew := ((Below.refl _ _).alloc (Nat.le_refl _) _).drew
  have bP := (Blk.new W 66 #[.int .i64 p.1, .int .i64 p.2.1, .int .i64 p.2.2, .int .i64 p.1, .int .i64 p.2.1, .int .i64 p.2.2]).drew
  obtain ⟨G, hG⟩ : ∃ G, W.heap.size = G := ⟨_, rfl⟩
  obtain ⟨W1, hW1⟩ : ∃ W1, (W.alloc (.cells #[.int .i64 p.1, .int .i64 p.2.1, .int .i64 p.2.2, .int .i64 p.1, .int .i64 p.2.1, .int .i64 p.2.2] 66)).drew = W1 := ⟨_, rfl⟩
  have hJ1 : J [] W1 := by rw [← hW1]; exact abides_below hJ h0 hE
  rw [hW1] at bP ⊢
  rw [hG] at bP ⊢
  clear hE hW1 hG c0 c1 c2 hBt h0 hb
  have e0 := bP.cell 0
  have e1 := bP.cell 1
  have e2 := bP.cell 2
  have e3 := bP.cell 3
  have e4 := bP.cell 4
  have e5 := bP.cell 5
  simp at e0 e1 e2 e3 e4 e5
  clear bP
  gi_loopw [4] (fun i wr => (i = .int .i64 1 ∧ wr = W1) ∨ (i = .int .i64 2 ∧ J [a] wr)) (fun i _ => 2 - (intOf i).toNat)
  case atStart => exact .inl ⟨rfl, rfl⟩
  case round =>
    rcases hrel with ⟨rfl, rfl⟩ | ⟨rfl, hJ2⟩
    · obtain ⟨fn, tmps, assign, body, hy, hR⟩ := hY [] a wr.drew (abides_below hJ hJ1 (below_drew1 wr)) (by simp)
      rw [hfa] at hy
      dsimp only at hy
      have hmx : Tryz.prog.follows .mixedOrders = true := by kernel_rfl
      gi_wp2
      gi_region_with (refine hR.mono ?_; intro e W3 hh; obtain ⟨t, rfl, hh'⟩ := yb_of (W := W3) hh)
      all_goals
        rcases hh' with ⟨rfl, hJ3, hk3⟩ | ⟨rfl, hJx3⟩
        · gi_wp2
          go_roundw
          case rel => exact .inr ⟨by go_num, hJ3⟩
          case measure => simp [intOf]
        · gi_wp2
          refine bodyPost_ret (results_none rfl _ _ _) rfl ?_
          exact ⟨⟨_, rfl⟩, .inr ⟨[a], List.prefix_refl _, hJx3⟩⟩
    · gi_wp2
      go_end0
      exact ⟨⟨_, rfl⟩, .inl ⟨_, rfl, hJ2⟩⟩

theorem pieces1_in {α : Type} (f : α → P3 × P3) (xs : List α) (n : Nat) (hn : 1 ≤ n) (l Bt n₀ b o len cap : Nat) (ps : List P3) (hlen : len = ps.length) (h1 : 1 ≤ len) (h40 : len ≤ 40) (hxs : xs.map f = pcs ps) (hb : b < n₀) (J Jx : List α → World → Prop) (B : Nat) (hJ : AbidesFrom B J)
    (hY : ∀ pre x W, J pre W → pre.length < xs.length → YieldAt Fence.wide (n - 1) Tryz.prog l #[pv (f x).1 (f x).2] W fun e W' =>
      (e = .returned (.bool true) ∧ J (pre ++ [x]) W' ∧ Below n₀ W W') ∨ (e = .returned (.bool false) ∧ Jx (pre ++ [x]) W'))
    (W : World) (hn₀ : n₀ ≤ W.heap.size) (hBt : W.cell? ⟨Bt, 0, none⟩ = some (.slice (some ⟨b, o, none⟩) len cap))
    (hc : ∀ k p, ps[k]? = some p → W.cell? ⟨b, o + k * 3, none⟩ = some (.int .i64 p.1) ∧ W.cell? ⟨b, o + k * 3 + 1, none⟩ = some (.int .i64 p.2.1) ∧ W.cell? ⟨b, o + k * 3 + 2, none⟩ = some (.int .i64 p.2.2)) (h0 : J [] W) :
    CallsIn Fence.wide n Tryz.prog 144 #[.func (.yield l) #[] #[], .pointer (some ⟨Bt, 0, none⟩)] W fun e W' => (∃ v, e = .returned v) ∧
      ((∃ ys, ys = xs ∧ J ys W') ∨ (∃ pre, pre <+: xs ∧ Jx pre W')) := by
  by_cases h2 : 2 ≤ len
  · exact pieces1_two f xs n hn l Bt n₀ b o len cap ps hlen h2 h40 (hxs.trans (pcs_two (by omega))) hb J Jx B hJ hY W hBt hc h0
  · obtain rfl : len = 1 := by omega
    obtain ⟨p, rfl⟩ := List.length_eq_one_iff.1 hlen.symm
    have hl : xs.length = 1 := by have h := congrArg List.length hxs; simpa [pcs] using h
    obtain ⟨a, rfl⟩ := List.length_eq_one_iff.1 hl
    have hfa : f a = (p, p) := by simpa [pcs] using hxs
    obtain ⟨c0, c1, c2⟩ := hc 0 p rfl
    rw [Nat.zero_mul, Nat.add_zero] at c0 c1 c2
    exact pieces1_one f a n hn l Bt n₀ b o cap p hfa J Jx B hJ (fun pre x W' h1 h2 => hY pre x W' h1 (by rw [hl]; exact h2)) W (by omega) hBt c0 c1 c2 h0
end

section
open Go.RowKit Go.Shelf
attribute [local go_sem] Oper.semAt_some
def Okp (p : P3) : Prop := 0 ≤ p.1 ∧ p.1 ≤ 1000000 ∧ -1000000000 ≤ p.2.1 ∧ p.2.1 ≤ 1000000000 ∧ -1000000000 ≤ p.2.2 ∧ p.2.2 ≤ 1000000000
abbrev Pc := { x : P3 × P3 // Okp x.1 ∧ Okp x.2 }
theorem okp_of : ∀ (ps : List P3) (last : Int), ptsOk last ps = true → -1 ≤ last → ∀ p ∈ ps, Okp p ∧ last < p.1
  | [], _, _, _, p, hp => by cases hp
  | q :: ps, last, h, hl, p, hp => by
    simp only [ptsOk, ptOk, inB, Bool.and_eq_true, decide_eq_true_eq] at h
    obtain ⟨⟨h1, h2, h3, h4, h5⟩, h6⟩ := h
    rcases List.mem_cons.1 hp with rfl | hp
    · exact ⟨⟨by omega, by omega, by omega, by omega, by omega, by omega⟩, h1⟩
    · have := okp_of ps q.1 h6 (by omega) p hp
      exact ⟨this.1, by omega⟩
theorem tabOk_pts {ps : List P3} (h : tabOk ps = true) : ptsOk (-1) ps = true := by
  unfold tabOk at h; rw [Bool.and_eq_true] at h; exact h.2
theorem lift_all {α : Type} {Q : α → Prop} : ∀ (l : List α), (∀ x ∈ l, Q x) → ∃ xs : List { x : α // Q x }, xs.map (·.1) = l
  | [], _ => ⟨[], rfl⟩
  | x :: l, h => by
    obtain ⟨xs, hx⟩ := lift_all l (fun y hy => h y (List.mem_cons_of_mem _ hy))
    exact ⟨⟨x, h x (List.mem_cons_self ..)⟩ :: xs, by simp [hx]⟩
theorem pieces_list {ps : List P3} (h : tabOk ps = true) : ∃ xs : List Pc, xs.map (·.1) = pcs ps :=
  lift_all _ fun x hx => by
    rcases pcs_cases ps with ⟨p, rfl⟩ | e
    · have hx' : x = (p, p) := by simpa [pcs] using hx
      subst hx'
      have := (okp_of [p] (-1) (tabOk_pts h) (by omega) p (by simp)).1
      exact ⟨this, this⟩
    · rw [e] at hx
      have hx' : (x.1, x.2) ∈ ps.zip ps.tail := hx
      have h1 := (List.of_mem_zip hx').1
      have h2 := (List.of_mem_zip hx').2
      have hk := okp_of ps (-1) (tabOk_pts h) (by omega)
      exact ⟨(hk _ h1).1, (hk _ (List.mem_of_mem_tail h2)).1⟩

theorem pieces_stops (xs : List Pc) (m : Nat) (hm : 1 ≤ m) (Bt n₀ b o len cap : Nat) (ps : List P3) (hlen : len = ps.length) (h2 : 1 ≤ len) (h40 : len ≤ 40) (hxs : xs.map (·.1) = pcs ps) (hb : b < n₀) (w : World) (hBt : Bt < w.heap.size) (hn₀ : n₀ ≤ w.heap.size)
    (hcb : w.cell? ⟨Bt, 0, none⟩ = some (.slice (some ⟨b, o, none⟩) len cap))
    (hc : ∀ k p, ps[k]? = some p → w.cell? ⟨b, o + k * 3, none⟩ = some (.int .i64 p.1) ∧ w.cell? ⟨b, o + k * 3 + 1, none⟩ = some (.int .i64 p.2.1) ∧ w.cell? ⟨b, o + k * 3 + 2, none⟩ = some (.int .i64 p.2.2)) :
    SeqStopsK Fence.wide m Tryz.prog 144 #[.pointer (some ⟨Bt, 0, none⟩)] (fun x : Pc => #[pv x.1.1 x.1.2]) (Below n₀) (fun ys => ys = xs) (fun pre => pre <+: xs) xs.length w := fun l J Jx W hW hJ _ hY h0 =>
  pieces1_in (fun x : Pc => x.1) xs m hm l Bt n₀ b o len cap ps hlen h2 h40 hxs hb J Jx W.heap.size hJ hY W (Nat.le_trans hn₀ hW.size) ((hW.cell (p := ⟨Bt, 0, none⟩) hBt).trans hcb)
    (fun k p hp => by
      obtain ⟨c0, c1, c2⟩ := hc k p hp
      exact ⟨(hW.cell (p := ⟨b, _, none⟩) (by show b < _; omega)).trans c0, (hW.cell (p := ⟨b, _, none⟩) (by show b < _; omega)).trans c1, (hW.cell (p := ⟨b, _, none⟩) (by show b < _; omega)).trans c2⟩) h0

theorem pieces_any (A : Option Addr) (n c : Nat) (w : World) :
  Calls Tryz.prog 122 #[tv A n c] w fun e w' => e = .returned (.func (.func 144) #[] #[.pointer (some ⟨w.heap.size, 0, none⟩)]) ∧ w.alloc (.cells #[.slice A n c] 38) = w' := by
 go_enter Tryz.func122, Tryz.ntmps122
 go_wp2
 go_ret
 exact ⟨rfl, rfl⟩

def pAt (p q : P3) (x : Int) : Int × Int := (p.2.1 + riseS (x - p.1) (q.1 - p.1) (q.2.1 - p.2.1), p.2.2 - riseS (x - p.1) (q.1 - p.1) (p.2.2 - q.2.2))
def atS (ps : List P3) (x : Int) : Int × Int :=
  match (pcs ps).find? (fun pq => decide (x ≤ pq.2.1)) with
  | some pq => pAt pq.1 pq.2 x
  | none => (0, 0)
theorem pieceAt_any (p q : P3) (x : Int) (w : World) (hp : Okp p) (hq : Okp q) (hx : 0 ≤ x) (hx' : x ≤ 1000000) :
    Calls Tryz.prog 92 #[pv p q, .int .i64 x] w fun e w' => e = .returned (rv (pAt p q x).1 (pAt p q x).2) ∧ Below w.heap.size w w' := by
  obtain ⟨a1, a2, a3, a4, a5, a6⟩ := hp
  obtain ⟨b1, b2, b3, b4, b5, b6⟩ := hq
  exact pieceAt_core p.1 p.2.1 p.2.2 q.1 q.2.1 q.2.2 x w a1 a2 hx hx' b1 b2 a3 a4 a5 a6 b3 b4 b5 b6

theorem blk_own {β : Type} (B : Nat) (t : TypeId) (f : β → Array Value) : Own (fun s W => Blk W B t (f s)) := fun s X Y row hs hg hrow =>
  hs.grown hg (fun e' => by obtain ⟨o, ho, hc⟩ := hrow B e'.symm; rw [show X.heap[B]? = _ from hs] at ho; cases ho; cases hc)
theorem keeps_below {W W' : World} (B : Nat) (h : Below W.heap.size W W') : KeepsFrom B W W' := KeepsFrom.of_grownBy (below_grownNone h) (fun _ e => by cases e)

def AllPast (pre : List Pc) (x : Int) : Prop := ∀ y ∈ pre, y.1.2.1 < x
theorem AllPast.snoc {pre : List Pc} {x : Int} {y : Pc} (h : AllPast pre x) (hy : y.1.2.1 < x) : AllPast (pre ++ [y]) x := by
  intro z hz
  rcases List.mem_append.1 hz with hz | hz
  · exact h z hz
  · simp at hz; subst hz; exact hy

theorem blk2 {w : World} {g : Nat} {t : TypeId} {x y : Value} (h : Blk w g t #[x, y]) (a b : Int) :
    Blk ((w.setCell ⟨g, 0, none⟩ (.int .i64 a)).setCell ⟨g, 1, none⟩ (.int .i64 b)) g t #[.int .i64 a, .int .i64 b] := by
  have h3 := (h.set_ 0 (.int .i64 a)).set_ 1 (.int .i64 b)
  simpa using h3

set_option maxRecDepth 100000 in
set_option maxHeartbeats 4000000 in
theorem at_two (b o n c : Nat) (ps : List P3) (x : Int) (w : World) (hn : n = ps.length) (h2 : 1 ≤ n) (hb : b < w.heap.size) (ht : tabOk ps = true) (hx : 0 ≤ x) (hx' : x ≤ 1000000)
    (hc : ∀ k p, ps[k]? = some p → w.cell? ⟨b, o + k * 3, none⟩ = some (.int .i64 p.1) ∧ w.cell? ⟨b, o + k * 3 + 1, none⟩ = some (.int .i64 p.2.1) ∧ w.cell? ⟨b, o + k * 3 + 2, none⟩ = some (.int .i64 p.2.2)) :
    Calls Tryz.prog 142 #[tv (some ⟨b, o, none⟩) n c, .int .i64 x] w fun e w' => e = .returned (rv (atS ps x).1 (atS ps x).2) ∧ Below w.heap.size w w' := by
  have h40 : n ≤ 40 := by have := (tabOk_len ht).2; omega
  obtain ⟨xs, hxs⟩ := pieces_list ht
  refine (callsIn_wide (n := 6)).1 ?_
  refine callsIn_of_wp_marks Tryz.func142 rfl trivial ?_ rfl
  simp only [Tryz.ntmps142, List.size_toArray, List.length_cons, List.length_nil, Nat.reduceAdd, Nat.reduceSub, Array.replicate_succ, Array.replicate_zero, List.push_toArray, List.append_toArray, List.nil_append, List.cons_append]
  have HC := Lib.hid hc; clear hc
  have HN := Lib.hid hn; clear hn
  have HX := Lib.hid hxs; clear hxs
  have HT := Lib.hid ht; clear ht
  gi_wp2_with (refine ⟨trivial, ?_⟩; gi_at_call 122; refine (callsIn_wide.2 (pieces_any _ _ _ _)).mono ?_; rintro e w' ⟨rfl, rfl⟩)
  have bX := (Blk.new (w.alloc (.cells #[.slice (some ⟨b, o, none⟩) n c] 38)) 3 #[.int .i64 x]).alloc (.cells #[.int .i64 0, .int .i64 0] 35) |>.alloc (.cells #[.slice (some ⟨b, o, none⟩) n c] 38)
  have bR := (Blk.new ((w.alloc (.cells #[.slice (some ⟨b, o, none⟩) n c] 38)).alloc (.cells #[.int .i64 x] 3)) 35 #[.int .i64 0, .int .i64 0]).alloc (.cells #[.slice (some ⟨b, o, none⟩) n c] 38)
  have bT := Blk.new (((w.alloc (.cells #[.slice (some ⟨b, o, none⟩) n c] 38)).alloc (.cells #[.int .i64 x] 3)).alloc (.cells #[.int .i64 0, .int .i64 0] 35)) 38 #[.slice (some ⟨b, o, none⟩) n c]
  simp only [World.size_alloc] at bX bR bT
  have hB0 : Below w.heap.size w ((((w.alloc (.cells #[.slice (some ⟨b, o, none⟩) n c] 38)).alloc (.cells #[.int .i64 x] 3)).alloc (.cells #[.int .i64 0, .int .i64 0] 35)).alloc (.cells #[.slice (some ⟨b, o, none⟩) n c] 38)) :=
    below_a3 ((Below.refl _ _).alloc (Nat.le_refl _) _)
  have hsz : ((((w.alloc (.cells #[.slice (some ⟨b, o, none⟩) n c] 38)).alloc (.cells #[.int .i64 x] 3)).alloc (.cells #[.int .i64 0, .int .i64 0] 35)).alloc (.cells #[.slice (some ⟨b, o, none⟩) n c] 38)).heap.size = w.heap.size + 4 := by simp
  obtain ⟨W0, hW0⟩ : ∃ W0, ((((w.alloc (.cells #[.slice (some ⟨b, o, none⟩) n c] 38)).alloc (.cells #[.int .i64 x] 3)).alloc (.cells #[.int .i64 0, .int .i64 0] 35)).alloc (.cells #[.slice (some ⟨b, o, none⟩) n c] 38)) = W0 := ⟨_, rfl⟩
  rw [hW0] at bX bR bT hB0 hsz ⊢
  clear hW0
  have hc0 : ∀ k p, ps[k]? = some p → W0.cell? ⟨b, o + k * 3, none⟩ = some (.int .i64 p.1) ∧ W0.cell? ⟨b, o + k * 3 + 1, none⟩ = some (.int .i64 p.2.1) ∧ W0.cell? ⟨b, o + k * 3 + 2, none⟩ = some (.int .i64 p.2.2) := fun k p hp => by
    obtain ⟨c0, c1, c2⟩ := HC.out k p hp
    exact ⟨(hB0.cell (p := ⟨b, _, none⟩) hb).trans c0, (hB0.cell (p := ⟨b, _, none⟩) hb).trans c1, (hB0.cell (p := ⟨b, _, none⟩) hb).trans c2⟩
  refine wpIn_rangeFunc_ownH rfl (by omega) (gf := 144) (lb := #[.pointer (some ⟨w.heap.size + 1 + 1 + 1, 0, none⟩)]) rfl trivial (enters_of Tryz.func144 (by kernel_rfl) rfl)
    (pieces_stops xs (6 - 1) (by omega) (w.heap.size + 1 + 1 + 1) w.heap.size b o n c ps HN.out h2 h40 HX.out hb W0 (by omega) (by omega) (bT.cell 0) hc0) belowK_t (belowK_b (by omega)) (Below.refl _ _) (fun _ => rfl)
    (fun pre W => (Blk W (w.heap.size + 1) 3 #[.int .i64 x] ∧ Blk W (w.heap.size + 1 + 1) 35 #[.int .i64 0, .int .i64 0] ∧ AllPast pre x) ∧ Below w.heap.size w W)
    (fun cd pre W => (cd = .ret ∧ ∃ pre' y, pre = pre' ++ [y] ∧ AllPast pre' x ∧ x ≤ y.1.2.1 ∧ Blk W (w.heap.size + 1 + 1) 35 #[.int .i64 (pAt y.1.1 y.1.2 x).1, .int .i64 (pAt y.1.1 y.1.2 x).2]) ∧ Below w.heap.size w W)
    (OwnFrom.and (Own.from (fun s X Y row hs hg hr => ⟨blk_own (β := Unit) _ _ (fun _ => _) () X Y row hs.1 hg hr, blk_own (β := Unit) _ _ (fun _ => _) () X Y row hs.2.1 hg hr, hs.2.2⟩) _) (ownFrom_below (Nat.le_refl _) (by omega)))
    (fun cd => OwnFrom.and (Own.from (fun s X Y row hs hg hr => by
      obtain ⟨e1, pre', y, e2, e3, e4, e5⟩ := hs
      exact ⟨e1, pre', y, e2, e3, e4, blk_own (β := Unit) _ _ (fun _ => _) () X Y row e5 hg hr⟩) _) (ownFrom_below (Nat.le_refl _) (by omega)))
    ⟨⟨bX, bR, fun _ h => by cases h⟩, hB0⟩
    (fun y a' W => ∃ Bx, w.heap.size + 1 + 1 < Bx ∧ Blk W Bx 138 #[.int .i64 y.1.1.1, .int .i64 y.1.1.2.1, .int .i64 y.1.1.2.2, .int .i64 y.1.2.1, .int .i64 y.1.2.2.1, .int .i64 y.1.2.2.2] ∧ a' = { tmps := #[tv (some ⟨b, o, none⟩) n c, .int .i64 x, .pointer (some ⟨w.heap.size, 0, none⟩), .pointer (some ⟨w.heap.size + 1, 0, none⟩), .pointer (some ⟨w.heap.size + 1 + 1, 0, none⟩), .pointer (some ⟨Bx, 0, none⟩), .agg #[.slice (some ⟨b, o, none⟩) n c], .func (.func 144) #[] #[.pointer (some ⟨w.heap.size + 1 + 1 + 1, 0, none⟩)], pv y.1.1 y.1.2, undef, undef, undef, undef, undef, undef, undef, undef, undef], defers := [] })
    (fun y a' _ X Y row hs hg hr => by
      obtain ⟨Bx, h1, h2, h3⟩ := hs
      exact ⟨Bx, h1, blk_own (β := Unit) _ _ (fun _ => _) () X Y row h2 hg (fun r e => (hr r e).2), h3⟩)
    ?assign ?body ?done ?stop
  case assign =>
    rintro l pre y W K ⟨⟨b1, b2, b3⟩, hB1⟩ hK
    gi_wp2
    exact hK _ _ ((KeepsOthers.alloc _ _).from _) ((Below.refl _ W).alloc hB1.size _) ⟨⟨b1.alloc _, b2.alloc _, b3⟩, hB1.alloc hB1.size _⟩ ⟨W.heap.size, b2.lt, Blk.new W 138 _, rfl⟩
  case body =>
    rintro l pre y a' W hl ⟨r, hr⟩ ⟨⟨b1, b2, b3⟩, hB1⟩ ⟨Bx, hBx, bP, rfl⟩ hlt
    have x0 := b1.cell 0
    have p0 := bP.cell 0
    have p1 := bP.cell 1
    have p2 := bP.cell 2
    have p3 := bP.cell 3
    have p4 := bP.cell 4
    have p5 := bP.cell 5
    simp at x0 p0 p1 p2 p3 p4 p5
    by_cases hle : x ≤ y.1.2.1
    · gi_wp2_with (refine ⟨trivial, ?_⟩; gi_at_call 92; refine (CallsIn.inRound l (callsIn_wide.2 (pieceAt_any y.1.1 y.1.2 x _ y.2.1 y.2.2 hx hx'))).mono ?_; rintro e W2 ⟨rfl, hb2⟩; have bR2 := b2.below hb2 b2.lt; have r0 := bR2.cell 0; have r1 := bR2.cell 1; have f0 := bR2.frozen 0; have f1 := bR2.frozen 1; simp at r0 r1)
      refine ⟨(keeps_below _ hb2).trans (((KeepsOthers.setCell _ _ _).trans (KeepsOthers.setCell _ _ _)).from _), ⟨rfl, pre, y, rfl, b3, hle, blk2 bR2 _ _⟩, ?_⟩
      exact ((hB1.trans (hb2.mono hB1.size)).setCell (p := ⟨w.heap.size + 1 + 1, 0, none⟩) (by simp; omega) _).setCell (p := ⟨w.heap.size + 1 + 1, 1, none⟩) (by simp; omega) _
    · gi_wp2
      exact ⟨KeepsFrom.refl _ _, Below.refl _ _, ⟨b1, b2, b3.snoc (by omega)⟩, hB1⟩
  case done =>
    rintro D ys W hD rfl ⟨⟨b1, b2, b3⟩, hB1⟩ hK
    have r0 := b2.cell 0
    have r1 := b2.cell 1
    have f0 := b2.frozen 0
    have f1 := b2.frozen 1
    simp at r0 r1
    gi_wp2
    have bD : D ≠ w.heap.size + 1 + 1 := by
      rintro rfl
      unfold Blk at b2; rw [hK] at b2; cases b2
    have b2' := blk2 b2 0 0
    have hK' : ((W.setCell ⟨w.heap.size + 1 + 1, 0, none⟩ (.int .i64 0)).setCell ⟨w.heap.size + 1 + 1, 1, none⟩ (.int .i64 0)).heap[D]? = some (.deferred (some [])) := ((KeepsOthers.setCell _ _ _).trans (KeepsOthers.setCell _ _ _)).same D _ hK rfl
    refine ⟨by simp, .inl ⟨_, _, rfl, run_takeDeferred hK', ?_⟩⟩
    have b3' := b2'.grown (grownBy_putObj' _ D (.deferred none)) (by intro e; injection e with e; exact bD e.symm)
    have q0 := b3'.cell 0
    have q1 := b3'.cell 1
    simp at q0 q1
    have hs : atS ps x = (0, 0) := by
      unfold atS
      rw [← HX.out, List.find?_eq_none.2]
      intro z hz
      obtain ⟨z', hz', rfl⟩ := List.mem_map.1 hz
      have := b3 z' hz'
      simp; omega
    rw [hs]
    refine ⟨rv 0 0, ?_, rfl, ?_⟩
    · simp [results, Tryz.f142, go_sem, q0, q1]
    · exact ((hB1.setCell (p := ⟨w.heap.size + 1 + 1, 0, none⟩) (by simp; omega) _).setCell (p := ⟨w.heap.size + 1 + 1, 1, none⟩) (by simp; omega) _).trans (belowK_b (w := W0) (by omega) _ D _ _ (by omega) hK' rfl rfl)
  case stop =>
    rintro D cd pre W hD hpre ⟨⟨rfl, pre', y, rfl, b3, hle, b2⟩, hB1⟩ hK
    gi_wp2
    have bD : D ≠ w.heap.size + 1 + 1 := by
      rintro rfl
      unfold Blk at b2; rw [hK] at b2; cases b2
    refine ⟨by simp, .inl ⟨_, _, rfl, run_takeDeferred hK, ?_⟩⟩
    have b3' := b2.grown (grownBy_putObj' _ D (.deferred none)) (by intro e; injection e with e; exact bD e.symm)
    have q0 := b3'.cell 0
    have q1 := b3'.cell 1
    simp at q0 q1
    have hs : atS ps x = pAt y.1.1 y.1.2 x := by
      obtain ⟨rest, hr⟩ := hpre
      unfold atS
      rw [← HX.out, ← hr, List.map_append, List.map_append, List.find?_append, List.find?_append]
      have e1 : (List.map (fun x : Pc => x.val) pre').find? (fun pq => decide (x ≤ pq.2.1)) = none := by
        rw [List.find?_eq_none]
        intro z hz
        obtain ⟨z', hz', rfl⟩ := List.mem_map.1 hz
        have := b3 z' hz'
        simp; omega
      rw [e1]
      simp [hle]
    rw [hs]
    refine ⟨rv (pAt y.1.1 y.1.2 x).1 (pAt y.1.1 y.1.2 x).2, ?_, rfl, ?_⟩
    · simp [results, Tryz.f142, go_sem, q0, q1]
    · exact hB1.trans (belowK_b (w := W0) (by omega) _ D _ _ (by omega) hK rfl rfl)
end

section
open Go.RowKit

theorem Tryz.info3 : (Tryz.prog.info? 3).map (fun i => (i.zero, i.size, i.bytes)) = some (some (.int .i64 0), 1, 8) := by kernel_rfl

def cornersS (ps : List P3) (a b : Int) : List Int := a :: ((ps.filter fun p => decide (a < p.1) && decide (p.1 < b)).map (·.1)) ++ (if a < b then [b] else [])
abbrev ints (l : List Int) : List Value := l.map (Value.int .i64)

theorem own_one (w : World) (base : Nat) (a : Int) (hb : base ≤ w.heap.size) : (w.alloc (.cells #[.int .i64 a] 3)).ownsRow base 3 1 (.slice (some ⟨w.heap.size, 0, none⟩) 1 1) (ints [a]).length (ints [a]) := by
  refine ⟨by simp, .inr ⟨w.heap.size, 1, #[.int .i64 a], rfl, hb, heap_alloc_new w _, by simp, by simp [maxLen], by simp, ?_⟩⟩
  simp

def soFar (ps : List P3) (a b : Int) (k : Nat) : List Int := a :: (((ps.take k).filter fun p => decide (a < p.1) && decide (p.1 < b)).map (·.1))
theorem soFar_succ {ps : List P3} {a b : Int} {k : Nat} {p : P3} (h : ps[k]? = some p) : soFar ps a b (k + 1) = if a < p.1 ∧ p.1 < b then soFar ps a b k ++ [p.1] else soFar ps a b k := by
  have hk : k < ps.length := (List.getElem?_eq_some_iff.1 h).1
  have e : ps.take (k + 1) = ps.take k ++ [p] := by
    rw [List.take_succ_eq_append_getElem hk]
    rw [List.getElem?_eq_getElem hk] at h
    injection h with h
    rw [h]
  unfold soFar
  rw [e, List.filter_append, List.map_append]
  by_cases hc : a < p.1 ∧ p.1 < b
  · rw [if_pos hc]; simp [hc]
  · rw [if_neg hc]
    have : (decide (a < p.1) && decide (p.1 < b)) = false := by simpa using hc
    simp [List.filter_cons, this]
theorem soFar_len (ps : List P3) (a b : Int) (k : Nat) : (soFar ps a b k).length ≤ k + 1 := by
  unfold soFar
  simp only [List.length_cons, List.length_map]
  have h1 := List.length_filter_le (fun p : P3 => decide (a < p.1) && decide (p.1 < b)) (ps.take k)
  have h2 := List.length_take_le k ps
  omega

def OwnInts (base : Nat) (w : World) (v : Value) (l : List Int) : Prop := w.ownsRow base 3 1 v (ints l).length (ints l)

def GivesInts (w : World) (l : List Int) (e : Ending) (w' : World) : Prop := ∃ v, e = .returned v ∧ OwnInts w.heap.size w' v l ∧ Below w.heap.size w w'

theorem OwnInts.alloc {base : Nat} {w : World} {v : Value} {l : List Int} (h : OwnInts base w v l) (o : Obj) : OwnInts base (w.alloc o) v l := World.ownsRow.alloc h o
theorem cell_one (w : World) (x : Int) (t : TypeId) : ∀ (j : Nat) (u : Value), [Value.int .i64 x][j]? = some u → (w.alloc (.cells #[.int .i64 x] t)).cell? ((⟨w.heap.size, 0, none⟩ : Addr).add j) = some u := by
  intro j u h
  cases j with
  | zero => simp at h; subst h; simp [Addr.add]
  | succ j => simp at h
theorem own_snoc {base : Nat} {w : World} {v : Value} {l : List Int} {x : Int} (h : w.ownsRow base 3 1 v (l.length + 1) (ints l ++ [Value.int .i64 x])) : OwnInts base w v (l ++ [x]) := by
  unfold OwnInts
  have e : ints (l ++ [x]) = ints l ++ [Value.int .i64 x] := by simp
  rw [e, List.length_append, List.length_map]
  exact h
theorem own_below {base : Nat} {w w0 w' : World} {v : Value} {l : List Int} (h : OwnInts base w v l) (hB : Below w0.heap.size w0 w) (hbase : base = w0.heap.size) (hg : w.grownBy w' v.ownBlock) : Below w0.heap.size w0 w' :=
  hB.grown hg hB.size (fun k hk => by have := (World.ownsRow.lt h k hk).1; omega)

set_option maxRecDepth 100000 in
set_option maxHeartbeats 2000000 in
theorem corners_any (b0 o n c : Nat) (ps : List P3) (a b : Int) (w : World) (hn : n = ps.length) (h1 : 1 ≤ n) (h40 : n ≤ 40) (hb : b0 < w.heap.size)
  (hc : ∀ k p, ps[k]? = some p → w.cell? ⟨b0, o + k * 3, none⟩ = some (.int .i64 p.1) ∧ w.cell? ⟨b0, o + k * 3 + 1, none⟩ = some (.int .i64 p.2.1) ∧ w.cell? ⟨b0, o + k * 3 + 2, none⟩ = some (.int .i64 p.2.2)) :
  Calls Tryz.prog 112 #[tv (some ⟨b0, o, none⟩) n c, .int .i64 a, .int .i64 b] w (GivesInts w (cornersS ps a b)) := by
 obtain ⟨i0, hi, hz0, hz1, hz2⟩ := info_parts Tryz.info3
 have HN := Lib.hid hn; clear hn
 have HC := Lib.hid hc; clear hc
 go_enter Tryz.func112, Tryz.ntmps112
 go_wp2_with fail
 go_loopw [7, 15] (fun v i wr => ∃ k : Nat, k ≤ n ∧ i = .int .i64 k ∧ OwnInts w.heap.size wr v (soFar ps a b k) ∧ Below w.heap.size w wr) (fun _ i _ => n - (intOf i).toNat)
 case atStart => exact ⟨0, by omega, rfl, (by have h := own_one (w.alloc (.cells #[.slice (some ⟨b0, o, none⟩) n c] 38)) w.heap.size a (by simp); rw [World.size_alloc] at h; exact h), ((Below.refl _ _).alloc (Nat.le_refl _) _).alloc (by simp) _⟩
 case round =>
  obtain ⟨k, hk, rfl, hown, hB⟩ := hrel
  by_cases hlt : k < n
  ·have hp : ∃ p, ps[k]? = some p := ⟨_, List.getElem?_eq_getElem (show k < ps.length by rw [← HN.out]; exact hlt)⟩
   obtain ⟨p, hp⟩ := hp
   obtain ⟨c0, c1, c2⟩ := HC.out k p hp
   rw [← hB.cell (p := ⟨b0, o + k * 3, none⟩) hb] at c0
   rw [← hB.cell (p := ⟨b0, o + k * 3 + 1, none⟩) hb] at c1
   rw [← hB.cell (p := ⟨b0, o + k * 3 + 2, none⟩) hb] at c2
   have HS := Lib.hid (soFar_succ (a := a) (b := b) hp); clear hp
   have hsl := soFar_len ps a b k
   have HO := Lib.hid hown; clear hown
   obtain ⟨x, lo, hi'⟩ := p
   dsimp only at c0 c1 c2
   by_cases hx : a < x ∧ x < b
   ·obtain ⟨hx1, hx2⟩ := hx
    have hown := HO.out
    have hln : (ints (soFar ps a b k)).length + 1 ≤ 42 := by simp; omega
    have hown2 := (hown.alloc (.cells #[.int .i64 x, .int .i64 lo, .int .i64 hi'] 66)).alloc (.cells #[.int .i64 x] 3)
    have HO2 := Lib.hid hown2; clear hown hown2
    have hcell := cell_one (wr.alloc (.cells #[.int .i64 x, .int .i64 lo, .int .i64 hi'] 66)) x 3
    rw [World.size_alloc] at hcell
    have HCE := Lib.hid hcell; clear hcell
    go_wp2_with (at_builtin; refine wpList_append_own _ rfl (.tmp 29) (.tmp 32) 30 rfl w.heap.size 3 i0 (.int .i64 0) 1 8 Tryz.underlying30 hi hz0 hz1 hz2 rfl (by decide) _ _ _ rfl HO2.out ⟨wr.heap.size + 1, 0, none⟩ 1 1 [.int .i64 x] rfl rfl HCE.out ?c2 ?c3 ?c4 ?c5 ?_)
    case c2 => simp [Value.oneCell']
    case c3 => simp only [maxLen]; omega
    case c4 => omega
    case c5 => have := hB.size; simp; omega
    intro v' w1 hown1 hgrow _
    have hb1 := own_below HO2.out (w0 := w) ((hB.alloc hB.size _).alloc (by have := hB.size; simp; omega) _) rfl hgrow
    have hown2 : OwnInts w.heap.size w1 v' (soFar ps a b (k + 1)) := by
     rw [HS.out, if_pos ⟨hx1, hx2⟩]
     exact own_snoc hown1
    clear hown1 hgrow
    go_wp2
    go_roundw
    case rel => exact ⟨k + 1, by omega, by go_num, hown2, hb1⟩
    case measure => simp [intOf]; omega
   ·have hown2 : OwnInts w.heap.size wr u7 (soFar ps a b (k + 1)) := by
     rw [HS.out, if_neg hx]; exact HO.out
    have hown3 := Lib.hid (hown2.alloc (.cells #[.int .i64 x, .int .i64 lo, .int .i64 hi'] 66)); clear hown2
    have hb1 := hB.alloc hB.size (.cells #[.int .i64 x, .int .i64 lo, .int .i64 hi'] 66)
    have hx' : ¬ a < x ∨ (a < x ∧ ¬ x < b) := by omega
    clear hx
    rcases hx' with hx1 | ⟨hx1, hx2⟩
    all_goals
     go_wp2
     go_roundw
     case rel => exact ⟨k + 1, by omega, by go_num, hown3.out, hb1⟩
     case measure => simp [intOf]; omega
  ·have hkn : k = n := by omega
   have hall : soFar ps a b k = a :: ((ps.filter fun p => decide (a < p.1) && decide (p.1 < b)).map (·.1)) := by
    unfold soFar; rw [List.take_of_length_le (by have := HN.out; omega)]
   have hsl := soFar_len ps a b k
   by_cases hab : a < b
   ·have hln : (ints (soFar ps a b k)).length + 1 ≤ 42 := by simp; omega
    have hfin : cornersS ps a b = soFar ps a b k ++ [b] := by unfold cornersS; rw [hall, if_pos hab]
    have HF := Lib.hid hfin; clear hfin hall hkn
    have hown2 := hown.alloc (.cells #[.int .i64 b] 3)
    have HO2 := Lib.hid hown2; clear hown hown2
    have HCE := Lib.hid (cell_one wr b 3)
    go_wp2_with (at_builtin; refine wpList_append_own _ rfl (.tmp 38) (.tmp 40) 30 rfl w.heap.size 3 i0 (.int .i64 0) 1 8 Tryz.underlying30 hi hz0 hz1 hz2 rfl (by decide) _ _ _ rfl HO2.out ⟨wr.heap.size, 0, none⟩ 1 1 [.int .i64 b] rfl rfl HCE.out ?d2 ?d3 ?d4 ?d5 ?_)
    case d2 => simp [Value.oneCell']
    case d3 => simp only [maxLen]; omega
    case d4 => omega
    case d5 => have := hB.size; simp; omega
    intro v' w1 hown1 hgrow _
    have hb1 := own_below HO2.out (w0 := w) (hB.alloc hB.size _) rfl hgrow
    have hown2 : OwnInts w.heap.size w1 v' (cornersS ps a b) := by
     rw [HF.out]; exact own_snoc hown1
    clear hown1 hgrow
    go_wp2
    go_ret
    exact ⟨v', rfl, hown2, hb1⟩
   ·have hfin : cornersS ps a b = soFar ps a b k := by unfold cornersS; rw [hall, if_neg hab, List.append_nil]
    rw [← hfin] at hown
    have HO2 := Lib.hid hown; clear hown hfin hall hkn
    go_wp2
    go_ret
    exact ⟨u7, rfl, HO2.out, hB⟩
end

section
open Go.RowKit

def stepG (s : Int × Int × Bool) (r : Int × Int) : Int × Int × Bool := if s.2.2 = true then (min s.1 r.1, max s.2.1 r.2, true) else (r.1, r.2, true)
theorem take_any (g : Nat) (s : Int × Int × Bool) (a b : Int) (w : World) (h : Blk w g 148 (growCells s.1 s.2.1 s.2.2)) :
    Calls Tryz.prog 106 #[.pointer (some ⟨g, 0, none⟩), rv a b] w fun e w' => e = .returned (.tuple #[]) ∧ Blk w' g 148 (growCells (stepG s (a, b)).1 (stepG s (a, b)).2.1 (stepG s (a, b)).2.2) ∧ Only g w w' := by
  obtain ⟨lo, hi, t⟩ := s
  cases t
  · exact take_first g lo hi a b w h
  · exact take_more g lo hi a b w h
def foldG (l : List (Int × Int)) : Int × Int × Bool := l.foldl stepG (0, 0, false)
theorem foldG_snoc (l : List (Int × Int)) (r : Int × Int) : foldG (l ++ [r]) = stepG (foldG l) r := by simp [foldG]

def PtsAt (w : World) (b o : Nat) (ps : List P3) : Prop := ∀ k p, ps[k]? = some p → w.cell? ⟨b, o + k * 3, none⟩ = some (.int .i64 p.1) ∧ w.cell? ⟨b, o + k * 3 + 1, none⟩ = some (.int .i64 p.2.1) ∧ w.cell? ⟨b, o + k * 3 + 2, none⟩ = some (.int .i64 p.2.2)
theorem PtsAt.keep {w w' : World} {b o : Nat} {ps : List P3} (h : PtsAt w b o ps) (hk : ∀ i, w'.cell? ⟨b, i, none⟩ = w.cell? ⟨b, i, none⟩) : PtsAt w' b o ps := fun k p hp => by
  rw [hk, hk, hk]; exact h k p hp
theorem PtsAt.only {w w' : World} {b o g : Nat} {ps : List P3} (h : PtsAt w b o ps) (ho : Only g w w') (hb : b < w.heap.size) (hne : b ≠ g) : PtsAt w' b o ps := h.keep fun i => ho.cells.1 b i hb hne
theorem PtsAt.below {w w' : World} {b o : Nat} {ps : List P3} (h : PtsAt w b o ps) (hB : Below w.heap.size w w') (hb : b < w.heap.size) : PtsAt w' b o ps := h.keep fun i => (bcell hB).1 b i hb

theorem PtsAt.drew {w : World} {b o : Nat} {ps : List P3} (h : PtsAt w b o ps) : PtsAt w.drew b o ps := h.keep fun _ => rfl

theorem at_memory (b o n c : Nat) (ps : List P3) (x : Int) (w : World) (hn : n = ps.length) (h2 : 1 ≤ n) (hb : b < w.heap.size) (ht : tabOk ps = true) (hx : 0 ≤ x) (hx' : x ≤ 1000000) (hc : PtsAt w b o ps) :
    Calls Tryz.prog 142 #[tv (some ⟨b, o, none⟩) n c, .int .i64 x] w fun e w' => e = .returned (rv (atS ps x).1 (atS ps x).2) ∧ Below w.heap.size w w' :=
  at_two b o n c ps x w hn h2 hb ht hx hx' hc

set_option maxRecDepth 100000 in
set_option maxHeartbeats 2000000 in
theorem visit_any (b o n c g pg cap : Nat) (ps : List P3) (L : List Int) (w : World) (hn : n = ps.length) (h2 : 1 ≤ n) (hb : b < w.heap.size) (hbg : b ≠ g) (hpg : pg < w.heap.size) (hpgg : pg ≠ g) (ht : tabOk ps = true) (hL : L.length ≤ 100) (hLx : ∀ x ∈ L, 0 ≤ x ∧ x ≤ 1000000)
  (hc : PtsAt w b o ps) (hp : ∀ j x, L[j]? = some x → w.cell? ⟨pg, j, none⟩ = some (.int .i64 x)) (hg : Blk w g 148 (growCells 0 0 false)) :
  Calls Tryz.prog 111 #[tv (some ⟨b, o, none⟩) n c, .slice (some ⟨pg, 0, none⟩) L.length cap, .func (.func 106) #[.pointer (some ⟨g, 0, none⟩)] #[]] w fun e w' =>
   e = .returned (.tuple #[]) ∧ Blk w' g 148 (growCells (foldG (L.map (atS ps))).1 (foldG (L.map (atS ps))).2.1 (foldG (L.map (atS ps))).2.2) ∧ Only g w w' := by
 have hgl := hg.lt
 have HN := Lib.hid hn; clear hn
 have HT := Lib.hid ht; clear ht
 have HC := Lib.hid (hc.below ((Below.refl _ _).alloc (Nat.le_refl _) (.cells #[.slice (some ⟨b, o, none⟩) n c] 38)) hb); clear hc
 have HP := Lib.hid hp; clear hp
 have HX := Lib.hid hLx; clear hLx
 have HG := Lib.hid (hg.alloc (.cells #[.slice (some ⟨b, o, none⟩) n c] 38)); clear hg
 have hbx := Blk.new w 38 #[.slice (some ⟨b, o, none⟩) n c]
 have HBX := Lib.hid hbx; clear hbx
 go_enter Tryz.func111, Tryz.ntmps111
 go_wp2_with fail
 go_loopw [10] (fun i wr => ∃ k : Nat, k ≤ L.length ∧ i = .int .i64 k ∧ Blk wr g 148 (growCells (foldG ((L.take k).map (atS ps))).1 (foldG ((L.take k).map (atS ps))).2.1 (foldG ((L.take k).map (atS ps))).2.2) ∧ Only g (w.alloc (.cells #[.slice (some ⟨b, o, none⟩) n c] 38)) wr) (fun i _ => L.length - (intOf i).toNat)
 case atStart => exact ⟨0, by omega, rfl, HG.out, Only.refl _ _⟩
 case round =>
  obtain ⟨k, hk, rfl, hB, hO⟩ := hrel
  by_cases hlt : k < L.length
  ·obtain ⟨x, hx⟩ : ∃ x, L[k]? = some x := ⟨_, List.getElem?_eq_getElem hlt⟩
   obtain ⟨x1, x2⟩ := HX.out x (List.mem_of_getElem? hx)
   have hcx := HP.out k x hx
   have hcell : wr.cell? ⟨pg, k, none⟩ = some (.int .i64 x) := by
    rw [hO.cells.1 pg k (by simp; omega) hpgg, World.cell?_alloc_lt _ _ _ hpg]; exact hcx
   have hbox : wr.cell? ⟨w.heap.size, 0, none⟩ = some (.slice (some ⟨b, o, none⟩) n c) := by
    rw [hO.cells.1 w.heap.size 0 (by simp) (by omega)]; exact HBX.out.cell 0
   have hpt := HC.out.only hO (by simp; omega) hbg
   have hbw : b < wr.heap.size := by have := hO.size; simp at this; omega
   have hf := foldG_snoc ((L.take k).map (atS ps)) (atS ps x)
   have hs : (L.take (k + 1)).map (atS ps) = (L.take k).map (atS ps) ++ [atS ps x] := by
    rw [List.take_succ_eq_append_getElem hlt]
    rw [List.getElem?_eq_getElem hlt] at hx
    injection hx with hx
    rw [List.map_append, hx]; rfl
   rw [← hs] at hf
   have HF := Lib.hid hf; clear hf hs hx hcx
   have HB := Lib.hid hB; clear hB
   have HPT := Lib.hid hpt; clear hpt
   have HO := Lib.hid hO; clear hO
   go_wp2_with fail
   refine (at_memory b o n c ps x _ HN.out h2 hbw HT.out x1 x2 HPT.out).mono ?_
   rintro e w1 ⟨rfl, hb1⟩
   go_wp2_with fail
   refine (take_any g _ _ _ _ (HB.out.below hb1 HB.out.lt)).mono ?_
   rintro e w2 ⟨rfl, hB2, ho2⟩
   have hO2 := HO.out.trans ((Only.of_below hb1).trans ho2)
   rw [← HF.out] at hB2
   have HB2 := Lib.hid hB2; clear hB2
   have HO2 := Lib.hid hO2; clear hO2 ho2
   go_wp2
   go_roundw
   case rel => exact ⟨k + 1, by omega, by go_num, HB2.out, HO2.out⟩
   case measure => simp [intOf]; omega
  ·have hkn : k = L.length := by omega
   have hB' : Blk wr g 148 (growCells (foldG (L.map (atS ps))).1 (foldG (L.map (atS ps))).2.1 (foldG (L.map (atS ps))).2.2) := by
    rw [hkn, List.take_length] at hB; exact hB
   have hO' : Only g w wr := (Only.of_below ((Below.refl _ _).alloc (Nat.le_refl _) _)).trans hO
   clear hkn hB hO
   have HB := Lib.hid hB'; clear hB'
   have HO := Lib.hid hO'; clear hO'
   go_wp2
   go_end0
   exact ⟨rfl, HB.out, HO.out⟩

theorem gives_form {w w' : World} {l : List Int} {e : Ending} (h : GivesInts w l e w') (hl : l ≠ []) :
    ∃ pg cap, e = .returned (.slice (some ⟨pg, 0, none⟩) l.length cap) ∧ w.heap.size ≤ pg ∧ pg < w'.heap.size ∧ (∀ (j : Nat) (x : Int), l[j]? = some x → w'.cell? ⟨pg, j, none⟩ = some (.int .i64 x)) ∧ Below w.heap.size w w' := by
  obtain ⟨v, rfl, ho, hb⟩ := h
  rcases ho.2 with ⟨_, h0⟩ | ⟨g, cap, cur, rfl, hbg, hg, hle, hm, hs, ht⟩
  · exfalso; apply hl; simpa using h0
  · refine ⟨g, cap, by simp, hbg, (Array.getElem?_eq_some_iff.1 hg).1, fun j x hx => ?_, hb⟩
    have h1 : w'.cell? ⟨g, j, none⟩ = cur[j]? := cell_of_row w' g j cur _ (0, 0) hg
    rw [h1]
    have hj : j < l.length := (List.getElem?_eq_some_iff.1 hx).1
    have h2 : (ints l)[j]? = some (.int .i64 x) := by rw [List.getElem?_map, hx]; rfl
    rw [← ht, List.getElem?_take_of_lt (by simp; omega)] at h2
    simpa using h2
theorem corners_ne (ps : List P3) (a b : Int) : cornersS ps a b ≠ [] := by unfold cornersS; simp
theorem corners_len (ps : List P3) (a b : Int) (h : ps.length ≤ 40) : (cornersS ps a b).length ≤ 100 := by
  unfold cornersS
  have h1 := List.length_filter_le (fun p : P3 => decide (a < p.1) && decide (p.1 < b)) ps
  by_cases hab : a < b
  · rw [if_pos hab]; simp; omega
  · rw [if_neg hab]; simp; omega
theorem corners_mem {ps : List P3} {a b x : Int} (h : x ∈ cornersS ps a b) : (a ≤ x ∧ x ≤ b) ∨ x = a := by
  unfold cornersS at h
  rw [List.cons_append, List.mem_cons] at h
  rcases h with rfl | h
  · exact .inr rfl
  · rcases List.mem_append.1 h with h | h
    · obtain ⟨p, hp, rfl⟩ := List.mem_map.1 h
      have := (List.mem_filter.1 hp).2
      simp at this
      exact .inl (by omega)
    · by_cases hab : a < b
      · rw [if_pos hab] at h; simp at h; subst h; exact .inl (by omega)
      · rw [if_neg hab] at h; cases h

theorem places_in {ps : List P3} (h : tabOk ps = true) : 0 ≤ firstX ps ∧ lastX ps ≤ 1000000 := by
  have hk := okp_of ps (-1) (tabOk_pts h) (by omega)
  have hl := (tabOk_len h).1
  have e0 : ps[0]? = some (ps[0]'(by omega)) := List.getElem?_eq_getElem (by omega)
  have em : ps[ps.length - 1]? = some (ps[ps.length - 1]'(by omega)) := List.getElem?_eq_getElem (by omega)
  have f0 : firstX ps = (ps[0]'(by omega)).1 := by unfold firstX; rw [List.head?_eq_getElem?, e0]; rfl
  have fm : lastX ps = (ps[ps.length - 1]'(by omega)).1 := by unfold lastX; rw [List.getLast?_eq_getElem?, em]; rfl
  rw [f0, fm]
  exact ⟨(hk _ (List.getElem_mem _)).1.1, (hk _ (List.getElem_mem _)).1.2.1⟩

def overGood (ps : List P3) (a b : Int) : Int × Int × Bool := foldG ((cornersS ps a b).map (atS ps))

theorem checkPlaces_to (A : Option Addr) (n c : Nat) (ps : List P3) (a b x : Int) (w : World) (hn : n = ps.length) (hm : n ≤ maxLen) (hp : Pts w A ps) (h : placesS ps a b = x) :
    Calls Tryz.prog 110 #[tv A n c, .int .i64 a, .int .i64 b] w fun e w' => e = .returned (.int .i64 x) ∧ Below w.heap.size w w' := by
  subst h; exact checkPlaces_any A n c ps a b w hn hm hp
theorem PtsAt.pts {w : World} {b o : Nat} {ps : List P3} (h : PtsAt w b o ps) (hb : b < w.heap.size) : Pts w (some ⟨b, o, none⟩) ps := .inr ⟨b, o, rfl, hb, h⟩

theorem keep3 {w0 w1 : World} {a b c : Value} {B : Nat} (hb : Below w0.heap.size w0 w1) (h : w0.cell? ⟨B, 0, none⟩ = some a ∧ w0.cell? ⟨B + 1, 0, none⟩ = some b ∧ w0.cell? ⟨B + 1, 1, none⟩ = some c) (h1 : B < w0.heap.size) (h2 : B + 1 < w0.heap.size) :
    w1.cell? ⟨B, 0, none⟩ = some a ∧ w1.cell? ⟨B + 1, 0, none⟩ = some b ∧ w1.cell? ⟨B + 1, 1, none⟩ = some c :=
  ⟨((bcell hb).1 _ _ h1).trans h.1, ((bcell hb).1 _ _ h2).trans h.2.1, ((bcell hb).1 _ _ h2).trans h.2.2⟩
theorem keep3o {w0 w1 : World} {a b c : Value} {B g : Nat} (hb : Only g w0 w1) (h : w0.cell? ⟨B, 0, none⟩ = some a ∧ w0.cell? ⟨B + 1, 0, none⟩ = some b ∧ w0.cell? ⟨B + 1, 1, none⟩ = some c) (h1 : B < w0.heap.size) (h2 : B + 1 < w0.heap.size) (g1 : B ≠ g) (g2 : B + 1 ≠ g) :
    w1.cell? ⟨B, 0, none⟩ = some a ∧ w1.cell? ⟨B + 1, 0, none⟩ = some b ∧ w1.cell? ⟨B + 1, 1, none⟩ = some c :=
  ⟨(hb.cells.1 _ _ h1 g1).trans h.1, (hb.cells.1 _ _ h2 g2).trans h.2.1, (hb.cells.1 _ _ h2 g2).trans h.2.2⟩
theorem over_cells {w w1 w2 w3 w4 : World} {a b c : Value} {x0 x1 : Value} {t1 t2 t3 : TypeId} (h1 : Below (((w.alloc (.cells #[a] t1)).alloc (.cells #[b, c] t2)).alloc (.cells #[x0, x1] t3)).heap.size (((w.alloc (.cells #[a] t1)).alloc (.cells #[b, c] t2)).alloc (.cells #[x0, x1] t3)) w1)
    (h2 : Below w1.heap.size w1 w2) (h3 : Below w2.heap.size w2 w3) (h4 : Below w3.heap.size w3 w4) :
    w4.cell? ⟨w.heap.size, 0, none⟩ = some a ∧ w4.cell? ⟨w.heap.size + 1, 0, none⟩ = some b ∧ w4.cell? ⟨w.heap.size + 1, 1, none⟩ = some c ∧
    w4.cell? ⟨w.heap.size + 1 + 1, 0, none⟩ = some x0 ∧ w4.cell? ⟨w.heap.size + 1 + 1, 1, none⟩ = some x1 ∧ w4.frozen? ⟨w.heap.size + 1 + 1, 0, none⟩ = false ∧ w4.frozen? ⟨w.heap.size + 1 + 1, 1, none⟩ = false := by
  have h := below_then (below_then (below_then h1 h2) h3) h4
  obtain ⟨p, q⟩ := bcell h
  refine ⟨?_, ?_, ?_, ?_, ?_, ?_, ?_⟩
  · rw [p _ _ (by simp; omega)]; simp [go_sem]
  · rw [p _ _ (by simp)]; simp [go_sem]
  · rw [p _ _ (by simp)]; simp [go_sem]
  · rw [p _ _ (by simp)]; simp [go_sem]
  · rw [p _ _ (by simp)]; simp [go_sem]
  · rw [q _ _ (by simp)]; simp [go_sem]
  · rw [q _ _ (by simp)]; simp [go_sem]

set_option maxRecDepth 100000 in
set_option maxHeartbeats 2000000 in
theorem over_good (b o n c : Nat) (ps : List P3) (x y : Int) (w : World) (hn : n = ps.length) (h2 : 1 ≤ n) (hb : b < w.heap.size) (ht : tabOk ps = true) (hr : vR x y = true) (hpl : placesS ps x y = 0) (hc : PtsAt w b o ps) :
  Calls Tryz.prog 74 #[tv (some ⟨b, o, none⟩) n c, rv x y] w fun e w' => e = .returned (rt ((overGood ps x y).1, (overGood ps x y).2.1, 0)) ∧ Below w.heap.size w w' := by
 have h40 := (tabOk_len ht).2
 have hml : n ≤ maxLen := by unfold maxLen; omega
 have hn40 : n ≤ 40 := by omega
 obtain ⟨pl1, pl2⟩ := places_in ht
 have hin : inB x y (firstX ps) (lastX ps) = true := by
  unfold placesS at hpl
  rw [if_pos ht] at hpl
  cases hi : inB x y (firstX ps) (lastX ps)
  ·rw [hi] at hpl; simp at hpl
  ·rfl
 simp only [inB, decide_eq_true_eq] at hin
 have hLx : ∀ z ∈ cornersS ps x y, 0 ≤ z ∧ z ≤ 1000000 := fun z hz => by
  rcases corners_mem hz with h | h <;> omega
 have HLX := Lib.hid hLx; clear hLx hin
 have HN := Lib.hid hn; clear hn
 have HT := Lib.hid ht; clear ht
 have HR := Lib.hid hr; clear hr
 have HPL := Lib.hid hpl; clear hpl
 have hB0 : Below w.heap.size w (((w.alloc (.cells #[.slice (some ⟨b, o, none⟩) n c] 38)).alloc (.cells #[.int .i64 x, .int .i64 y] 35)).alloc (.cells #[.int .i64 0, .int .i64 0] 35)) := below_a2 ((Below.refl _ _).alloc (Nat.le_refl _) _)
 have hc0 := hc.below hB0 hb
 have HC := Lib.hid hc0; clear hc0 hc
 have hb0 : b < (((w.alloc (.cells #[.slice (some ⟨b, o, none⟩) n c] 38)).alloc (.cells #[.int .i64 x, .int .i64 y] 35)).alloc (.cells #[.int .i64 0, .int .i64 0] 35)).heap.size := by simp; omega
 have HB0 := Lib.hid hB0; clear hB0
 have HB := Lib.hid hb0; clear hb0
 go_enter Tryz.func74, Tryz.ntmps74
 go_wp2_with fail
 refine (checkTable_to _ n c ps _ _ _ HN.out hml (HC.out.pts HB.out) HT.out rfl).mono ?_
 rintro e w1 ⟨rfl, hb1⟩
 obtain ⟨hc1, hf1⟩ := bcell hb1
 have hz1 : w.heap.size + 1 + 1 < w1.heap.size := by have := hb1.size; simp at this; omega
 go_wp2_with fail
 refine (checkRange_ok x y _ HR.out).mono ?_
 rintro e w2 ⟨rfl, hb2⟩
 obtain ⟨hc2, hf2⟩ := bcell hb2
 have hz2 : w.heap.size + 1 + 1 < w2.heap.size := by have := hb2.size; omega
 have hza : w.heap.size < w1.heap.size := by omega
 have hzb : w.heap.size + 1 < w1.heap.size := by omega
 have hzc : w.heap.size < w2.heap.size := by omega
 have hzd : w.heap.size + 1 < w2.heap.size := by omega
 have hze : w.heap.size < w.heap.size + 1 + 1 + 1 := by omega
 have hP2 := (HC.out.below hb1 HB.out).below hb2 (Nat.lt_of_lt_of_le HB.out hb1.size)
 have hB2 : b < w2.heap.size := by omega
 have HP2 := Lib.hid hP2; clear hP2
 go_wp2_with fail
 refine (checkPlaces_to _ n c ps x y _ _ HN.out hml (HP2.out.pts hB2) HPL.out).mono ?_
 rintro e w3 ⟨rfl, hb3⟩
 obtain ⟨hc3, hf3⟩ := bcell hb3
 have hz3 : w.heap.size + 1 + 1 < w3.heap.size := by have := hb3.size; omega
 have hB3 : b < w3.heap.size := by omega
 have HP3 := Lib.hid (HP2.out.below hb3 hB2)
 go_wp2_with fail
 have bG := Blk.new w3 148 (growCells 0 0 false)
 have hb4 : Below w3.heap.size w3 (w3.alloc (.cells (growCells 0 0 false) 148)) := (Below.refl _ _).alloc (Nat.le_refl _) _
 have P4 := HP3.out.below hb4 hB3
 have hB4 : Below w.heap.size w (w3.alloc (.cells (growCells 0 0 false) 148)) := below_then (below_then (below_then (below_then HB0.out hb1) hb2) hb3) hb4
 obtain ⟨q0, q1, q2, q3, q4, q5, q6⟩ := over_cells hb1 hb2 hb3 hb4
 have hs4 := hb4.size
 have hgl := bG.lt
 obtain ⟨W4, hW4⟩ : ∃ W4, w3.alloc (.cells (growCells 0 0 false) 148) = W4 := ⟨_, rfl⟩
 rw [hW4] at bG P4 hB4 q0 q1 q2 q3 q4 q5 q6 hs4 hgl ⊢
 clear hW4 hb4 hc1 hf1 hc2 hf2 hc3 hf3
 have hg1 : w.heap.size ≠ w3.heap.size := by omega
 have hg2 : w.heap.size + 1 ≠ w3.heap.size := by omega
 have hg3 : w.heap.size + 1 + 1 ≠ w3.heap.size := by omega
 have hB4' : b < W4.heap.size := by omega
 have HBG := Lib.hid bG; clear bG
 have HP4 := Lib.hid P4; clear P4
 have HB4 := Lib.hid hB4; clear hB4
 have r0 := Lib.hid q3; have r1 := Lib.hid q4; have r2 := Lib.hid q5; have r3 := Lib.hid q6
 clear q3 q4 q5 q6
 have hln := corners_len ps x y h40
 have hwd0 : w.heap.size < W4.drew.heap.size := by show _ < W4.heap.size; omega
 have hwd1 : w.heap.size + 1 < W4.drew.heap.size := by show _ < W4.heap.size; omega
 go_region_held3 (fun w' => w'.cell? ⟨w.heap.size, 0, none⟩ = some (.slice (some ⟨b, o, none⟩) n c) ∧ w'.cell? ⟨w.heap.size + 1, 0, none⟩ = some (.int .i64 x) ∧ w'.cell? ⟨w.heap.size + 1, 1, none⟩ = some (.int .i64 y))
  (first | (go_keep; done) | exact keep3 hbc ‹_› hwd0 hwd1 | exact keep3o hov ‹_› (Nat.lt_of_lt_of_le hwd0 hbc.size) (Nat.lt_of_lt_of_le hwd1 hbc.size) hg1 hg2)
  (first
   | (go_at_call 112; refine (corners_any b o n c ps x y W4.drew HN.out h2 hn40 hB4' (PtsAt.drew HP4.out)).mono ?_; intro e wc hgi; obtain ⟨pg, cap, rfl, hpg1, hpg2, hpc, hbc⟩ := gives_form hgi (corners_ne ps x y); have HPC := Lib.hid hpc; clear hpc hgi)
   | (go_at_call 111; refine (visit_any b o n c w3.heap.size pg cap ps (cornersS ps x y) wc HN.out h2 (Nat.lt_of_lt_of_le hB4' hbc.size) (by omega) hpg2 (Nat.ne_of_gt (Nat.lt_of_lt_of_le hgl hpg1)) HT.out hln HLX.out ((PtsAt.drew HP4.out).below hbc hB4') HPC.out ((Blk.drew HBG.out).below hbc hgl)).mono ?_; rintro e wv ⟨rfl, hBv, hov⟩; have HBV := Lib.hid hBv; clear hBv))
 all_goals
  have hw2 : w.heap.size + 1 + 1 < W4.drew.heap.size := by show _ < W4.heap.size; omega
  have hw3 : w.heap.size + 1 + 1 < wc.heap.size := Nat.lt_of_lt_of_le hw2 hbc.size
  have z0 := (hov.cells.1 _ 0 hw3 hg3).trans (((bcell hbc).1 _ 0 hw2).trans r0.out)
  have z1 := (hov.cells.1 _ 1 hw3 hg3).trans (((bcell hbc).1 _ 1 hw2).trans r1.out)
  have f0 := (hov.cells.2 _ 0 hw3 hg3).trans (((bcell hbc).2 _ 0 hw2).trans r2.out)
  have f1 := (hov.cells.2 _ 1 hw3 hg3).trans (((bcell hbc).2 _ 1 hw2).trans r3.out)
  have k0 := HBV.out.cell 0
  have k1 := HBV.out.cell 1
  simp at k0 k1
  have hBv : Below w.heap.size w wv := hov.below (below_then HB4.out (below_d hbc)) (by omega)
  have HBv := Lib.hid hBv
  clear hBv hov hbc
  go_wp2
  refine bodyPost_ret (v := rt ((overGood ps x y).1, (overGood ps x y).2.1, 0)) (by simp [results, Tryz.results74, go_sem, z0, z1, overGood]) rfl ⟨rfl, ?_⟩
  exact (HBv.out.setCell (p := ⟨w.heap.size + 1 + 1, 0, none⟩) (by simp; omega) _).setCell (p := ⟨w.heap.size + 1 + 1, 1, none⟩) (by simp; omega) _
end

section
open Go.RowKit
attribute [local go_sem ↓] eqlRange neqRange
theorem below_drewM {B : Nat} {a w : World} (h : Below B a w) (n : Nat) : Below B a (w.drewN n) := h.trans ⟨rfl, rfl, rfl, Nat.le_refl _, fun _ _ => rfl⟩
def RunsMem (w : World) (b o : Nat) (L : List (Int × Int)) : Prop := ∀ k r, L[k]? = some r → w.cell? ⟨b, o + k * 2, none⟩ = some (.int .i64 r.1) ∧ w.cell? ⟨b, o + k * 2 + 1, none⟩ = some (.int .i64 r.2)
theorem RunsMem.keep {w w' : World} {b o : Nat} {L : List (Int × Int)} (h : RunsMem w b o L) (hk : ∀ i, w'.cell? ⟨b, i, none⟩ = w.cell? ⟨b, i, none⟩) : RunsMem w' b o L := fun k p hp => by
  rw [hk, hk]; exact h k p hp
theorem RunsMem.below {w w' : World} {b o : Nat} {L : List (Int × Int)} (h : RunsMem w b o L) (hB : Below w.heap.size w w') (hb : b < w.heap.size) : RunsMem w' b o L := h.keep fun i => (bcell hB).1 b i hb

theorem eqPoint (a b c a' b' c' : Int) (w : World) : (Op.equalIn 10000 66 (.agg #[.int .i64 a, .int .i64 b, .int .i64 c]) (.agg #[.int .i64 a', .int .i64 b', .int .i64 c'])).run Tryz.prog w = .ok (a == a' && b == b' && c == c') w := by
  have u3 := Tryz.underlying3
  have hS : Tryz.prog.underlying 66 = some (.struct (Tryz.prog.fieldsOf 66)) := by kernel_rfl
  have hp : Tryz.prog.stoodInHeld 66 = false := by kernel_rfl
  rw [show (10000 : Nat) = 9999 + 1 from rfl, run_equalIn_agg w 9999 66 _ _ hS hp]
  simp only [Program.fieldsOf, Tryz.underlying66]
  go_simp
  by_cases h1 : a = a' <;> by_cases h2 : b = b' <;> by_cases h3 : c = c' <;> simp [h1, h2, h3]
@[go_sem] theorem eqGuardPoint (op : BinOp) (x y : Operand) (xs ys : Array Value) (w : World) : (eqGuard op 66 x y (.agg xs) (.agg ys)).run Tryz.prog w = .ok () w :=
  run_eqGuard_agg w op 66 x y xs ys (by kernel_rfl)
theorem neqPoint (a b c a' b' c' : Int) (w : World) : (binOp .neq 66 (.agg #[.int .i64 a, .int .i64 b, .int .i64 c]) (.agg #[.int .i64 a', .int .i64 b', .int .i64 c'])).run Tryz.prog w = .ok (.bool (!(a == a' && b == b' && c == c'))) w := by
  rw [run_neq_struct, eqPoint]; rfl
attribute [local go_sem ↓] neqPoint
end

section
open Go.RowKit

theorem first_at {w : World} {b o : Nat} {ps : List P3} (h : PtsAt w b o ps) (hl : 1 ≤ ps.length) : w.cell? ⟨b, o, none⟩ = some (.int .i64 (firstX ps)) := by
  have e0 : ps[0]? = some (ps[0]'(by omega)) := List.getElem?_eq_getElem (by omega)
  have f0 : firstX ps = (ps[0]'(by omega)).1 := by unfold firstX; rw [List.head?_eq_getElem?, e0]; rfl
  have g0 := (h 0 _ e0).1
  rw [Nat.zero_mul, Nat.add_zero] at g0
  rw [f0]; exact g0
theorem last_at {w : World} {b o m : Nat} {ps : List P3} (h : PtsAt w b o ps) (hl : ps.length = m + 1) : w.cell? ⟨b, o + m * 3, none⟩ = some (.int .i64 (lastX ps)) := by
  have em : ps[m]? = some (ps[m]'(by omega)) := List.getElem?_eq_getElem (by omega)
  have fm : lastX ps = (ps[m]'(by omega)).1 := by
    unfold lastX
    rw [List.getLast?_eq_getElem?, show ps.length - 1 = m by omega, em]; rfl
  rw [fm]; exact (h m _ em).1
def upS (W N : Int) : Int := if 0 < N then W + 1 else W
end

section
open Go.RowKit
end

section
theorem rising_pts : ∀ (ps : List P3) (last : Int), ptsOk last ps = true → -1 ≤ last → ps.Pairwise (fun p q => p.1 < q.1)
  | [], _, _, _ => .nil
  | p :: ps, last, h, hl => by
    have h1 := (okp_of (p :: ps) last h hl p (by simp))
    simp only [ptsOk, Bool.and_eq_true] at h
    refine .cons (fun q hq => ?_) (rising_pts ps p.1 h.2 (by have := h1.2; omega))
    exact (okp_of ps p.1 h.2 (by have := h1.2; omega) q hq).2
theorem rising_at {ps : List P3} (ht : tabOk ps = true) {i j : Nat} {p q : P3} (hi : ps[i]? = some p) (hj : ps[j]? = some q) (h : i < j) : p.1 < q.1 := by
  obtain ⟨li, rfl⟩ := List.getElem?_eq_some_iff.1 hi
  obtain ⟨lj, rfl⟩ := List.getElem?_eq_some_iff.1 hj
  exact List.pairwise_iff_getElem.1 (rising_pts ps (-1) (tabOk_pts ht) (by omega)) i j li lj h
theorem rising_le {ps : List P3} (ht : tabOk ps = true) {i j : Nat} {p q : P3} (hi : ps[i]? = some p) (hj : ps[j]? = some q) (h : i ≤ j) : p.1 ≤ q.1 := by
  rcases Nat.lt_or_ge i j with c | c
  · exact Int.le_of_lt (rising_at ht hi hj c)
  · have : i = j := by omega
    subst this
    rw [hi] at hj; injection hj with hj; subst hj; exact Int.le_refl _

theorem ceil_eq (m d : Int) (hd : 0 < d) : -(-m / d) = m / d + (if 0 < m % d then 1 else 0) := by
  have h1 := Int.mul_ediv_add_emod m d
  have h2 := Int.emod_nonneg m (show d ≠ 0 by omega)
  have h3 := Int.emod_lt_of_pos m hd
  by_cases hz : 0 < m % d
  · rw [if_pos hz]
    have : -m / d = -(m / d) - 1 := by
      refine ((Int.ediv_emod_unique (r := d - m % d) hd).2 ⟨?_, by omega, by omega⟩).1
      rw [Int.mul_sub, Int.mul_neg]; omega
    omega
  · rw [if_neg hz]
    have : -m / d = -(m / d) := by
      refine ((Int.ediv_emod_unique (r := 0) hd).2 ⟨?_, by omega, by omega⟩).1
      rw [Int.mul_neg]; omega
    omega

theorem atS_piece {ps : List P3} {i : Nat} {pq : P3 × P3} {x : Int} (hi : (pcs ps)[i]? = some pq) (hx : x ≤ pq.2.1) (hb : ∀ j, j < i → ∀ r, (pcs ps)[j]? = some r → r.2.1 < x) : atS ps x = pAt pq.1 pq.2 x := by
  obtain ⟨li, hi'⟩ := List.getElem?_eq_some_iff.1 hi
  have hf : (pcs ps).find? (fun r => decide (x ≤ r.2.1)) = some pq := by
    rw [List.find?_eq_some_iff_getElem]
    refine ⟨by simpa using hx, i, li, hi', fun j hj => ?_⟩
    have := hb j hj _ (List.getElem?_eq_getElem (by omega))
    simp; omega
  unfold atS
  rw [hf]
theorem pcs_at {ps : List P3} {i : Nat} {p q : P3} (h2 : 2 ≤ ps.length) (hp : ps[i]? = some p) (hq : ps[i + 1]? = some q) : (pcs ps)[i]? = some (p, q) := by
  rw [pcs_two h2, List.getElem?_zip_eq_some]
  exact ⟨hp, by rw [List.getElem?_tail]; exact hq⟩
theorem pcs_before {ps : List P3} {j : Nat} {r : P3 × P3} (h2 : 2 ≤ ps.length) (h : (pcs ps)[j]? = some r) : ps[j + 1]? = some r.2 := by
  rw [pcs_two h2, List.getElem?_zip_eq_some, List.getElem?_tail] at h
  exact h.2

theorem ref_at {ps : List P3} (ht : tabOk ps = true) {k : Nat} {p : P3} {x : Int} (hp : ps[k]? = some p) (h1 : p.1 ≤ x) (hl : x ≤ lastX ps) (hn : ∀ q, ps[k + 1]? = some q → x < q.1) :
    (p.1 = x → atS ps x = (p.2.1, p.2.2)) ∧
    (p.1 ≠ x → ∃ q, ps[k + 1]? = some q ∧ p.1 < x ∧ x < q.1 ∧ atS ps x = (p.2.1 + (q.2.1 - p.2.1) * (x - p.1) / (q.1 - p.1), upS (p.2.2 + (q.2.2 - p.2.2) * (x - p.1) / (q.1 - p.1)) ((q.2.2 - p.2.2) * (x - p.1) % (q.1 - p.1)))) := by
  have hk : k < ps.length := (List.getElem?_eq_some_iff.1 hp).1
  constructor
  · rintro rfl
    by_cases h2 : 2 ≤ ps.length
    · cases k with
      | zero =>
        obtain ⟨q, hq⟩ : ∃ q, ps[1]? = some q := ⟨_, List.getElem?_eq_getElem (by omega)⟩
        rw [atS_piece (pcs_at h2 hp hq) (Int.le_of_lt (rising_at ht hp hq (by omega))) (fun j hj => by omega)]
        simp [pAt, riseS]
      | succ k =>
        obtain ⟨q, hq⟩ : ∃ q, ps[k]? = some q := ⟨_, List.getElem?_eq_getElem (by omega)⟩
        have hlt := rising_at ht hq hp (by omega)
        rw [atS_piece (pcs_at h2 hq hp) (Int.le_refl _) (fun j hj r hr => rising_at ht (pcs_before h2 hr) hp (by omega))]
        have hm : max (p.1 - q.1) 1 = p.1 - q.1 := by omega
        simp only [pAt, riseS, hm]
        rw [Int.mul_ediv_cancel_left _ (by omega), Int.mul_ediv_cancel_left _ (by omega)]
        ext <;> dsimp only <;> omega
    · have h1 : ps.length = 1 := by omega
      obtain ⟨p', rfl⟩ := List.length_eq_one_iff.1 h1
      have : k = 0 := by simp at hk; exact hk
      subst this
      simp at hp; subst hp
      simp [atS, pcs, pAt, riseS]
  · intro hne
    have hlt : p.1 < x := by omega
    have hk1 : k + 1 < ps.length := by
      rcases Nat.lt_or_ge (k + 1) ps.length with c | c
      · exact c
      · have e : ps[ps.length - 1]? = some p := by rw [show ps.length - 1 = k by omega]; exact hp
        have : lastX ps = p.1 := by unfold lastX; rw [List.getLast?_eq_getElem?, e]; rfl
        omega
    obtain ⟨q, hq⟩ : ∃ q, ps[k + 1]? = some q := ⟨_, List.getElem?_eq_getElem hk1⟩
    have hxq := hn q hq
    refine ⟨q, hq, hlt, hxq, ?_⟩
    have h2 : 2 ≤ ps.length := by omega
    rw [atS_piece (pcs_at h2 hp hq) (Int.le_of_lt hxq) (fun j hj r hr => by have := rising_le ht (pcs_before h2 hr) hp (by omega); omega)]
    have hm : max (q.1 - p.1) 1 = q.1 - p.1 := by omega
    have hc := ceil_eq ((q.2.2 - p.2.2) * (x - p.1)) (q.1 - p.1) (by omega)
    have e1 : (x - p.1) * (q.2.1 - p.2.1) = (q.2.1 - p.2.1) * (x - p.1) := Int.mul_comm _ _
    have e2 : (x - p.1) * (p.2.2 - q.2.2) = -((q.2.2 - p.2.2) * (x - p.1)) := by rw [Int.mul_comm, ← Int.neg_mul]; congr 1; omega
    simp only [pAt, riseS, hm, e1, e2]
    ext
    · rfl
    · dsimp only
      unfold upS
      split at hc <;> rename_i hz
      · rw [if_pos hz]; omega
      · rw [if_neg hz]; omega
end

section
open Go.RowKit
attribute [local go_sem ↓] eqlRange neqRange
@[go_sem] theorem fieldLo (a b : Int) (w : World) : (Instr.field 35 (.agg #[.int .i64 a, .int .i64 b]) 0).run Tryz.prog w = .ok (.int .i64 a) w := by kernel_rfl
@[go_sem] theorem fieldHi (a b : Int) (w : World) : (Instr.field 35 (.agg #[.int .i64 a, .int .i64 b]) 1).run Tryz.prog w = .ok (.int .i64 b) w := by kernel_rfl

abbrev pCells (p q : P3) : Array Value := #[.int .i64 p.1, .int .i64 p.2.1, .int .i64 p.2.2, .int .i64 q.1, .int .i64 q.2.1, .int .i64 q.2.2]
def SixTwo (Bp Br : Nat) (p q : P3) (lo hi : Int) (w : World) : Prop :=
  w.cell? ⟨Bp, 0, none⟩ = some (.int .i64 p.1) ∧ w.cell? ⟨Bp, 1, none⟩ = some (.int .i64 p.2.1) ∧ w.cell? ⟨Bp, 2, none⟩ = some (.int .i64 p.2.2) ∧ w.cell? ⟨Bp, 3, none⟩ = some (.int .i64 q.1) ∧ w.cell? ⟨Bp, 4, none⟩ = some (.int .i64 q.2.1) ∧ w.cell? ⟨Bp, 5, none⟩ = some (.int .i64 q.2.2) ∧
  w.cell? ⟨Br, 0, none⟩ = some (.int .i64 lo) ∧ w.cell? ⟨Br, 1, none⟩ = some (.int .i64 hi)
theorem SixTwo.of {Bp Br : Nat} {p q : P3} {lo hi : Int} {w : World} (h : Blk w Bp 138 (pCells p q)) (h' : Blk w Br 35 #[.int .i64 lo, .int .i64 hi]) : SixTwo Bp Br p q lo hi w :=
  ⟨h.cell 0, h.cell 1, h.cell 2, h.cell 3, h.cell 4, h.cell 5, h'.cell 0, h'.cell 1⟩
theorem SixTwo.below {Bp Br : Nat} {p q : P3} {lo hi : Int} {w w' : World} (h : SixTwo Bp Br p q lo hi w) (hB : Below w.heap.size w w') (h1 : Bp < w.heap.size) (h2 : Br < w.heap.size) : SixTwo Bp Br p q lo hi w' := by
  have k := (bcell hB).1
  obtain ⟨a0, a1, a2, a3, a4, a5, b0, b1⟩ := h
  exact ⟨(k _ _ h1).trans a0, (k _ _ h1).trans a1, (k _ _ h1).trans a2, (k _ _ h1).trans a3, (k _ _ h1).trans a4, (k _ _ h1).trans a5, (k _ _ h2).trans b0, (k _ _ h2).trans b1⟩

set_option maxRecDepth 100000 in
set_option maxHeartbeats 1000000 in
theorem lowAsk (Bp Br : Nat) (p q : P3) (lo hi x : Int) (w : World) (h : Blk w Bp 138 (pCells p q)) (h' : Blk w Br 35 #[.int .i64 lo, .int .i64 hi]) (hp : Okp p) (hq : Okp q) (hx : 0 ≤ x) (hx' : x ≤ 1000000) :
  Calls Tryz.prog 91 #[.int .i64 x, .pointer (some ⟨Bp, 0, none⟩), .pointer (some ⟨Br, 0, none⟩)] w fun e w' => e = .returned (.bool (decide ((pAt p q x).1 ≤ hi))) ∧ Below w.heap.size w w' := by
 have hS := SixTwo.of h h'
 have h1 := h.lt
 have h2 := h'.lt
 have hd1 : Bp < w.drew.heap.size := h1
 have hd2 : Br < w.drew.heap.size := h2
 have HS := Lib.hid hS
 obtain ⟨a0, a1, a2, a3, a4, a5, b0, b1⟩ := hS
 have HP := Lib.hid hp; have HQ := Lib.hid hq
 clear h h' hp hq
 go_enter Tryz.func91, Tryz.ntmps91
 go_wp2_with fail
 go_region_held3 (fun w' => w'.cell? ⟨Bp, 0, none⟩ = some (.int .i64 p.1) ∧ w'.cell? ⟨Bp, 1, none⟩ = some (.int .i64 p.2.1) ∧ w'.cell? ⟨Bp, 2, none⟩ = some (.int .i64 p.2.2) ∧ w'.cell? ⟨Bp, 3, none⟩ = some (.int .i64 q.1) ∧ w'.cell? ⟨Bp, 4, none⟩ = some (.int .i64 q.2.1) ∧ w'.cell? ⟨Bp, 5, none⟩ = some (.int .i64 q.2.2) ∧
 w'.cell? ⟨Br, 0, none⟩ = some (.int .i64 lo) ∧ w'.cell? ⟨Br, 1, none⟩ = some (.int .i64 hi))
  (first | (go_keep; done) | exact SixTwo.below ‹_› hb hd1 hd2)
  (first | (go_at_call 92; refine (pieceAt_any p q x _ HP.out HQ.out hx hx').mono ?_; rintro e w1 ⟨rfl, hb⟩))
 go_wp2
 go_ret
 exact ⟨rfl, below_d hb⟩

set_option maxRecDepth 100000 in
set_option maxHeartbeats 1000000 in
theorem highAsk (Bp Br : Nat) (p q : P3) (lo hi x : Int) (w : World) (h : Blk w Bp 138 (pCells p q)) (h' : Blk w Br 35 #[.int .i64 lo, .int .i64 hi]) (hp : Okp p) (hq : Okp q) (hx : 0 ≤ x) (hx' : x ≤ 1000000) :
  Calls Tryz.prog 93 #[.int .i64 x, .pointer (some ⟨Bp, 0, none⟩), .pointer (some ⟨Br, 0, none⟩)] w fun e w' => e = .returned (.bool (decide (lo ≤ (pAt p q x).2))) ∧ Below w.heap.size w w' := by
 have hS := SixTwo.of h h'
 have h1 := h.lt
 have h2 := h'.lt
 have hd1 : Bp < w.drew.heap.size := h1
 have hd2 : Br < w.drew.heap.size := h2
 have HS := Lib.hid hS
 obtain ⟨a0, a1, a2, a3, a4, a5, b0, b1⟩ := hS
 have HP := Lib.hid hp; have HQ := Lib.hid hq
 clear h h' hp hq
 go_enter Tryz.func93, Tryz.ntmps93
 go_wp2_with fail
 go_region_held3 (fun w' => w'.cell? ⟨Bp, 0, none⟩ = some (.int .i64 p.1) ∧ w'.cell? ⟨Bp, 1, none⟩ = some (.int .i64 p.2.1) ∧ w'.cell? ⟨Bp, 2, none⟩ = some (.int .i64 p.2.2) ∧ w'.cell? ⟨Bp, 3, none⟩ = some (.int .i64 q.1) ∧ w'.cell? ⟨Bp, 4, none⟩ = some (.int .i64 q.2.1) ∧ w'.cell? ⟨Bp, 5, none⟩ = some (.int .i64 q.2.2) ∧
 w'.cell? ⟨Br, 0, none⟩ = some (.int .i64 lo) ∧ w'.cell? ⟨Br, 1, none⟩ = some (.int .i64 hi))
  (first | (go_keep; done) | exact SixTwo.below ‹_› hb hd1 hd2)
  (first | (go_at_call 92; refine (pieceAt_any p q x _ HP.out HQ.out hx hx').mono ?_; rintro e w1 ⟨rfl, hb⟩))
 go_wp2
 go_ret
 exact ⟨rfl, below_d hb⟩
end

end Go.Proofs.YtpcmcicnciejpaaGreat
