/- The contract of at of a table (fix). Its conditions: the table's points lie in memory, it is valid. -/
import Derived.RangeFuncNested
import Derived.RangeFuncBound
import Derived.RangeFuncCalls
import Derived.RangeFuncLeaves
import Derived.RangeFuncBox
import Derived.Shelf.Abstract
import Derived.Shelf.RegionOpen
import Derived.OwnWalkIn
import Derived.TacticsInMore
import Derived.LoopNIn
import Derived.LoopIn
import Derived.Test.YtekkiedlajhaiaaGreatR01
import Derived.WalkSmall
set_option linter.unusedVariables false
set_option linter.unusedSimpArgs false
set_option linter.constructorNameAsVariable false
namespace Go.Proofs.YtekkiedlajhaiaaGreat

section
open Go.RowKit Go.Shelf
attribute [local go_sem] Oper.semAt_some
theorem below_grownNone {w w' : World} (h : Below w.heap.size w w') : w.grownBy w' none := ⟨h.os, h.tape, h.output, h.size, fun i hi _ => h.block i hi⟩
theorem abides_below {β : Type} {B : Nat} {J : β → World → Prop} (hJ : AbidesFrom B J) {s : β} {W W' : World} (hs : J s W) (h : Below W.heap.size W W') : J s W' :=
  hJ s W W' none hs (below_grownNone h) (fun r e => by cases e)
theorem below_drew1 (w : World) : Below w.heap.size w w.drew := (Below.refl _ _).drew

theorem take_snocP {α : Type} {xs : List α} {k : Nat} {x : α} (h : xs[k]? = some x) : xs.take (k + 1) = xs.take k ++ [x] := by
  have hk : k < xs.length := (List.getElem?_eq_some_iff.1 h).1
  rw [List.take_succ_eq_append_getElem hk]
  rw [List.getElem?_eq_getElem hk] at h
  injection h with h
  rw [h]

def pcs : List P3 → List (P3 × P3)
  | [p] => [(p, p)]
  | ps => ps.zip ps.tail
theorem pcs_cases (ps : List P3) : (∃ p, ps = [p]) ∨ pcs ps = ps.zip ps.tail := by
  match ps with
  | [] => exact .inr rfl
  | [p] => exact .inl ⟨p, rfl⟩
  | p :: q :: r => exact .inr rfl
theorem pcs_len (ps : List P3) : (pcs ps).length ≤ ps.length := by
  rcases pcs_cases ps with ⟨p, rfl⟩ | e
  · simp [pcs]
  · rw [e, List.length_zip]; omega
theorem pcs_two {ps : List P3} (h : 2 ≤ ps.length) : pcs ps = ps.zip ps.tail := by
  rcases pcs_cases ps with ⟨p, rfl⟩ | e
  · simp at h
  · exact e

def YB (A B : World → Prop) (t : Bool) (W : World) : Prop := (t = true ∧ A W) ∨ (t = false ∧ B W)
theorem yb_of {e : Ending} {W : World} {A B C : Prop} (h : (e = .returned (.bool true) ∧ A ∧ B) ∨ (e = .returned (.bool false) ∧ C)) :
    ∃ t : Bool, e = .returned (.bool t) ∧ YB (fun _ => A ∧ B) (fun _ => C) t W := by
  rcases h with ⟨h, a⟩ | ⟨h, c⟩
  · exact ⟨true, h, .inl ⟨rfl, a⟩⟩
  · exact ⟨false, h, .inr ⟨rfl, c⟩⟩

set_option maxRecDepth 100000 in
set_option maxHeartbeats 2000000 in
theorem pieces1_two {α : Type} (f : α → P3 × P3) (xs : List α) (n : Nat) (hn : 1 ≤ n) (l Bt n₀ b o len cap : Nat) (ps : List P3) (hlen : len = ps.length) (h2 : 2 ≤ len) (h40 : len ≤ 40) (hxs : xs.map f = ps.zip ps.tail) (hb : b < n₀) (J Jx : List α → World → Prop) (B : Nat) (hJ : AbidesFrom B J)
    (hY : ∀ pre x W, J pre W → pre.length < xs.length → YieldAt Fence.wide (n - 1) Tryz.prog l #[pv (f x).1 (f x).2] W fun e W' =>
      (e = .returned (.bool true) ∧ J (pre ++ [x]) W' ∧ Below n₀ W W') ∨ (e = .returned (.bool false) ∧ Jx (pre ++ [x]) W'))
    (W : World) (hBt : W.cell? ⟨Bt, 0, none⟩ = some (.slice (some ⟨b, o, none⟩) len cap))
    (hc : ∀ k p, ps[k]? = some p → W.cell? ⟨b, o + k * 3, none⟩ = some (.int .i64 p.1) ∧ W.cell? ⟨b, o + k * 3 + 1, none⟩ = some (.int .i64 p.2.1) ∧ W.cell? ⟨b, o + k * 3 + 2, none⟩ = some (.int .i64 p.2.2)) (h0 : J [] W) :
    CallsIn Fence.wide n Tryz.prog 187 #[.func (.yield l) #[] #[], .pointer (some ⟨Bt, 0, none⟩)] W fun e W' => (∃ v, e = .returned v) ∧
      ((∃ ys, ys = xs ∧ J ys W') ∨ (∃ pre, pre <+: xs ∧ Jx pre W')) := by
  have HL := Lib.hid hlen; clear hlen
  have HC := Lib.hid hc; clear hc
  have t1 : ((len : Int) == 1) = false := beq_eq_false_iff_ne.2 (by omega)
  have hzl : xs.length + 1 = len := by have h1 := HL.out; have h2 := congrArg List.length hxs; simp at h2; omega
  have HX := Lib.hid hxs; clear hxs
  refine callsIn_of_wp Tryz.func187 rfl trivial ?_ rfl
  simp only [Tryz.ntmps187, List.size_toArray, List.length_cons, List.length_nil, Nat.reduceAdd, Nat.reduceSub, Array.replicate_succ, Array.replicate_zero, List.push_toArray, List.append_toArray, List.nil_append, List.cons_append]
  gi_wp2
  gi_loopw [4] (fun i wr => ∃ m : Nat, 1 ≤ m ∧ m ≤ len ∧ i = .int .i64 m ∧ J (xs.take (m - 1)) wr ∧ Below n₀ W wr)
    (fun i _ => len - (intOf i).toNat)
  case atStart => exact ⟨1, by omega, by omega, rfl, h0, Below.refl _ _⟩
  case round =>
    obtain ⟨m, hm1, hm2, rfl, hJs, hnx⟩ := hrel
    by_cases hlt : m < len
    · have hp : ∃ p, ps[m - 1]? = some p := ⟨_, List.getElem?_eq_getElem (show m - 1 < ps.length by rw [← HL.out]; omega)⟩
      have hq : ∃ q, ps[m]? = some q := ⟨_, List.getElem?_eq_getElem (show m < ps.length by rw [← HL.out]; exact hlt)⟩
      obtain ⟨p, hp⟩ := hp
      obtain ⟨q, hq⟩ := hq
      obtain ⟨c0, c1, c2⟩ := HC.out (m - 1) p hp
      obtain ⟨d0, d1, d2⟩ := HC.out m q hq
      rw [← hnx.cell (p := ⟨b, o + (m - 1) * 3, none⟩) hb] at c0
      rw [← hnx.cell (p := ⟨b, o + (m - 1) * 3 + 1, none⟩) hb] at c1
      rw [← hnx.cell (p := ⟨b, o + (m - 1) * 3 + 2, none⟩) hb] at c2
      rw [← hnx.cell (p := ⟨b, o + m * 3, none⟩) hb] at d0
      rw [← hnx.cell (p := ⟨b, o + m * 3 + 1, none⟩) hb] at d1
      rw [← hnx.cell (p := ⟨b, o + m * 3 + 2, none⟩) hb] at d2
      have hz : (ps.zip ps.tail)[m - 1]? = some (p, q) := by
        rw [List.getElem?_zip_eq_some]
        exact ⟨hp, by rw [List.getElem?_tail, Nat.sub_add_cancel hm1]; exact hq⟩
      have hm' : ∃ a, xs[m - 1]? = some a ∧ f a = (p, q) := by
        rw [← HX.out, List.getElem?_map, Option.map_eq_some_iff] at hz
        exact hz
      obtain ⟨a, hxa, hfa⟩ := hm'
      obtain ⟨fn, tmps, assign, body, hy, hR⟩ := hY _ a wr.drew (abides_below hJ hJs (below_drew1 wr)) (by rw [List.length_take]; omega)
      rw [hfa] at hy
      dsimp only at hy
      have HZ := Lib.hid (take_snocP hxa); clear hz hp hq hxa hfa
      have k1 : (0 : Int) ≤ (m : Int) - 1 := by omega
      have k2 : (m : Int) - 1 < (len : Int) := by omega
      have k3 : IntKind.i64.wrap ((m : Int) - 1) = (m : Int) - 1 := IntWalk.i64_in _ ⟨by omega, by omega⟩
      have k4 : ((m : Int) - 1).toNat = m - 1 := by omega
      have hmx : Tryz.prog.follows .mixedOrders = true := by kernel_rfl
      gi_wp2
      gi_region_with (refine hR.mono ?_; intro e W3 hh; obtain ⟨t, rfl, hh'⟩ := yb_of (W := W3) hh)
      all_goals
        rcases hh' with ⟨rfl, hJ3, hk3⟩ | ⟨rfl, hJx3⟩
        · gi_wp2
          go_roundw
          case rel =>
            refine ⟨m + 1, by omega, by omega, by go_num, ?_, hnx.trans (((Below.refl n₀ wr).drew).trans hk3)⟩
            rw [show m + 1 - 1 = m - 1 + 1 by omega, HZ.out]; exact hJ3
          case measure => simp [intOf]; omega
        · gi_wp2
          refine bodyPost_ret (results_none rfl _ _ _) rfl ?_
          refine ⟨⟨_, rfl⟩, .inr ⟨_, ?_, hJx3⟩⟩
          rw [← HZ.out]
          exact List.take_prefix _ _
    · have hm : m = len := by omega
      have hJe : J xs wr := by
        rw [List.take_of_length_le (by omega)] at hJs; exact hJs
      gi_wp2
      go_end0
      exact ⟨⟨_, rfl⟩, .inl ⟨_, rfl, hJe⟩⟩

set_option maxRecDepth 100000 in
set_option maxHeartbeats 2000000 in
theorem pieces1_one {α : Type} (f : α → P3 × P3) (a : α) (n : Nat) (hn : 1 ≤ n) (l Bt n₀ b o cap : Nat) (p : P3) (hfa : f a = (p, p)) (J Jx : List α → World → Prop) (B : Nat) (hJ : AbidesFrom B J)
    (hY : ∀ pre x W, J pre W → pre.length < 1 → YieldAt Fence.wide (n - 1) Tryz.prog l #[pv (f x).1 (f x).2] W fun e W' =>
      (e = .returned (.bool true) ∧ J (pre ++ [x]) W' ∧ Below n₀ W W') ∨ (e = .returned (.bool false) ∧ Jx (pre ++ [x]) W'))
    (W : World) (hb : b < W.heap.size) (hBt : W.cell? ⟨Bt, 0, none⟩ = some (.slice (some ⟨b, o, none⟩) 1 cap))
    (c0 : W.cell? ⟨b, o, none⟩ = some (.int .i64 p.1)) (c1 : W.cell? ⟨b, o + 1, none⟩ = some (.int .i64 p.2.1)) (c2 : W.cell? ⟨b, o + 2, none⟩ = some (.int .i64 p.2.2)) (h0 : J [] W) :
    CallsIn Fence.wide n Tryz.prog 187 #[.func (.yield l) #[] #[], .pointer (some ⟨Bt, 0, none⟩)] W fun e W' => (∃ v, e = .returned v) ∧
      ((∃ ys, ys = [a] ∧ J ys W') ∨ (∃ pre, pre <+: [a] ∧ Jx pre W')) := by
  refine callsIn_of_wp Tryz.func187 rfl trivial ?_ rfl
  simp only [Tryz.ntmps187, List.size_toArray, List.length_cons, List.length_nil, Nat.reduceAdd, Nat.reduceSub, Array.replicate_succ, Array.replicate_zero, List.push_toArray, List.append_toArray, List.nil_append, List.cons_append]
  gi_wp2_with fail
  gi_region
  gi_wp2_with fail
  have hE : Below W.heap.size W (W.alloc (.cells #[.int .i64 p.1, .int .i64 p.2.1, .int .i64 p.2.2, .int .i64 p.1, .int .i64 p.2.1, .int .i64 p.2.2] 93)).drew := ((Below.refl _ _).alloc (Nat.le_refl _) _).drew
  have bP := (Blk.new W 93 #[.int .i64 p.1, .int .i64 p.2.1, .int .i64 p.2.2, .int .i64 p.1, .int .i64 p.2.1, .int .i64 p.2.2]).drew
  obtain ⟨G, hG⟩ : ∃ G, W.heap.size = G := ⟨_, rfl⟩
  obtain ⟨W1, hW1⟩ : ∃ W1, (W.alloc (.cells #[.int .i64 p.1, .int .i64 p.2.1, .int .i64 p.2.2, .int .i64 p.1, .int .i64 p.2.1, .int .i64 p.2.2] 93)).drew = W1 := ⟨_, rfl⟩
  have hJ1 : J [] W1 := by rw [← hW1]; exact abides_below hJ h0 hE
  rw [hW1] at bP ⊢
  rw [hG] at bP ⊢
  clear hE hW1 hG c0 c1 c2 hBt h0 hb
  have e0 := bP.cell 0
  have e1 := bP.cell 1
  have e2 := bP.cell 2
  have e3 := bP.cell 3
  have e4 := bP.cell 4
  have e5 := bP.cell 5
  simp at e0 e1 e2 e3 e4 e5
  clear bP
  gi_loopw [4] (fun i wr => (i = .int .i64 1 ∧ wr = W1) ∨ (i = .int .i64 2 ∧ J [a] wr)) (fun i _ => 2 - (intOf i).toNat)
  case atStart => exact .inl ⟨rfl, rfl⟩
  case round =>
    rcases hrel with ⟨rfl, rfl⟩ | ⟨rfl, hJ2⟩
    · obtain ⟨fn, tmps, assign, body, hy, hR⟩ := hY [] a wr.drew (abides_below hJ hJ1 (below_drew1 wr)) (by simp)
      rw [hfa] at hy
      dsimp only at hy
      have hmx : Tryz.prog.follows .mixedOrders = true := by kernel_rfl
      gi_wp2
      gi_region_with (refine hR.mono ?_; intro e W3 hh; obtain ⟨t, rfl, hh'⟩ := yb_of (W := W3) hh)
      all_goals
        rcases hh' with ⟨rfl, hJ3, hk3⟩ | ⟨rfl, hJx3⟩
        · gi_wp2
          go_roundw
          case rel => exact .inr ⟨by go_num, hJ3⟩
          case measure => simp [intOf]
        · gi_wp2
          refine bodyPost_ret (results_none rfl _ _ _) rfl ?_
          exact ⟨⟨_, rfl⟩, .inr ⟨[a], List.prefix_refl _, hJx3⟩⟩
    · gi_wp2
      go_end0
      exact ⟨⟨_, rfl⟩, .inl ⟨_, rfl, hJ2⟩⟩

theorem pieces1_in {α : Type} (f : α → P3 × P3) (xs : List α) (n : Nat) (hn : 1 ≤ n) (l Bt n₀ b o len cap : Nat) (ps : List P3) (hlen : len = ps.length) (h1 : 1 ≤ len) (h40 : len ≤ 40) (hxs : xs.map f = pcs ps) (hb : b < n₀) (J Jx : List α → World → Prop) (B : Nat) (hJ : AbidesFrom B J)
    (hY : ∀ pre x W, J pre W → pre.length < xs.length → YieldAt Fence.wide (n - 1) Tryz.prog l #[pv (f x).1 (f x).2] W fun e W' =>
      (e = .returned (.bool true) ∧ J (pre ++ [x]) W' ∧ Below n₀ W W') ∨ (e = .returned (.bool false) ∧ Jx (pre ++ [x]) W'))
    (W : World) (hn₀ : n₀ ≤ W.heap.size) (hBt : W.cell? ⟨Bt, 0, none⟩ = some (.slice (some ⟨b, o, none⟩) len cap))
    (hc : ∀ k p, ps[k]? = some p → W.cell? ⟨b, o + k * 3, none⟩ = some (.int .i64 p.1) ∧ W.cell? ⟨b, o + k * 3 + 1, none⟩ = some (.int .i64 p.2.1) ∧ W.cell? ⟨b, o + k * 3 + 2, none⟩ = some (.int .i64 p.2.2)) (h0 : J [] W) :
    CallsIn Fence.wide n Tryz.prog 187 #[.func (.yield l) #[] #[], .pointer (some ⟨Bt, 0, none⟩)] W fun e W' => (∃ v, e = .returned v) ∧
      ((∃ ys, ys = xs ∧ J ys W') ∨ (∃ pre, pre <+: xs ∧ Jx pre W')) := by
  by_cases h2 : 2 ≤ len
  · exact pieces1_two f xs n hn l Bt n₀ b o len cap ps hlen h2 h40 (hxs.trans (pcs_two (by omega))) hb J Jx B hJ hY W hBt hc h0
  · obtain rfl : len = 1 := by omega
    obtain ⟨p, rfl⟩ := List.length_eq_one_iff.1 hlen.symm
    have hl : xs.length = 1 := by have h := congrArg List.length hxs; simpa [pcs] using h
    obtain ⟨a, rfl⟩ := List.length_eq_one_iff.1 hl
    have hfa : f a = (p, p) := by simpa [pcs] using hxs
    obtain ⟨c0, c1, c2⟩ := hc 0 p rfl
    rw [Nat.zero_mul, Nat.add_zero] at c0 c1 c2
    exact pieces1_one f a n hn l Bt n₀ b o cap p hfa J Jx B hJ (fun pre x W' h1 h2 => hY pre x W' h1 (by rw [hl]; exact h2)) W (by omega) hBt c0 c1 c2 h0
end

section
open Go.RowKit Go.Shelf
attribute [local go_sem] Oper.semAt_some
def Okp (p : P3) : Prop := 0 ≤ p.1 ∧ p.1 ≤ 1000000 ∧ -1000000000 ≤ p.2.1 ∧ p.2.1 ≤ 1000000000 ∧ -1000000000 ≤ p.2.2 ∧ p.2.2 ≤ 1000000000
abbrev Pc := { x : P3 × P3 // Okp x.1 ∧ Okp x.2 }
theorem okp_of : ∀ (ps : List P3) (last : Int), ptsOk last ps = true → -1 ≤ last → ∀ p ∈ ps, Okp p ∧ last < p.1
  | [], _, _, _, p, hp => by cases hp
  | q :: ps, last, h, hl, p, hp => by
    simp only [ptsOk, ptOk, inB, Bool.and_eq_true, decide_eq_true_eq] at h
    obtain ⟨⟨h1, h2, h3, h4, h5⟩, h6⟩ := h
    rcases List.mem_cons.1 hp with rfl | hp
    · exact ⟨⟨by omega, by omega, by omega, by omega, by omega, by omega⟩, h1⟩
    · have := okp_of ps q.1 h6 (by omega) p hp
      exact ⟨this.1, by omega⟩
theorem tabOk_pts {ps : List P3} (h : tabOk ps = true) : ptsOk (-1) ps = true := by
  unfold tabOk at h; rw [Bool.and_eq_true] at h; exact h.2
theorem lift_all {α : Type} {Q : α → Prop} : ∀ (l : List α), (∀ x ∈ l, Q x) → ∃ xs : List { x : α // Q x }, xs.map (·.1) = l
  | [], _ => ⟨[], rfl⟩
  | x :: l, h => by
    obtain ⟨xs, hx⟩ := lift_all l (fun y hy => h y (List.mem_cons_of_mem _ hy))
    exact ⟨⟨x, h x (List.mem_cons_self ..)⟩ :: xs, by simp [hx]⟩
theorem pieces_list {ps : List P3} (h : tabOk ps = true) : ∃ xs : List Pc, xs.map (·.1) = pcs ps :=
  lift_all _ fun x hx => by
    rcases pcs_cases ps with ⟨p, rfl⟩ | e
    · have hx' : x = (p, p) := by simpa [pcs] using hx
      subst hx'
      have := (okp_of [p] (-1) (tabOk_pts h) (by omega) p (by simp)).1
      exact ⟨this, this⟩
    · rw [e] at hx
      have hx' : (x.1, x.2) ∈ ps.zip ps.tail := hx
      have h1 := (List.of_mem_zip hx').1
      have h2 := (List.of_mem_zip hx').2
      have hk := okp_of ps (-1) (tabOk_pts h) (by omega)
      exact ⟨(hk _ h1).1, (hk _ (List.mem_of_mem_tail h2)).1⟩

theorem pieces_stops (xs : List Pc) (m : Nat) (hm : 1 ≤ m) (Bt n₀ b o len cap : Nat) (ps : List P3) (hlen : len = ps.length) (h2 : 1 ≤ len) (h40 : len ≤ 40) (hxs : xs.map (·.1) = pcs ps) (hb : b < n₀) (w : World) (hBt : Bt < w.heap.size) (hn₀ : n₀ ≤ w.heap.size)
    (hcb : w.cell? ⟨Bt, 0, none⟩ = some (.slice (some ⟨b, o, none⟩) len cap))
    (hc : ∀ k p, ps[k]? = some p → w.cell? ⟨b, o + k * 3, none⟩ = some (.int .i64 p.1) ∧ w.cell? ⟨b, o + k * 3 + 1, none⟩ = some (.int .i64 p.2.1) ∧ w.cell? ⟨b, o + k * 3 + 2, none⟩ = some (.int .i64 p.2.2)) :
    SeqStopsK Fence.wide m Tryz.prog 187 #[.pointer (some ⟨Bt, 0, none⟩)] (fun x : Pc => #[pv x.1.1 x.1.2]) (Below n₀) (fun ys => ys = xs) (fun pre => pre <+: xs) xs.length w := fun l J Jx W hW hJ _ hY h0 =>
  pieces1_in (fun x : Pc => x.1) xs m hm l Bt n₀ b o len cap ps hlen h2 h40 hxs hb J Jx W.heap.size hJ hY W (Nat.le_trans hn₀ hW.size) ((hW.cell (p := ⟨Bt, 0, none⟩) hBt).trans hcb)
    (fun k p hp => by
      obtain ⟨c0, c1, c2⟩ := hc k p hp
      exact ⟨(hW.cell (p := ⟨b, _, none⟩) (by show b < _; omega)).trans c0, (hW.cell (p := ⟨b, _, none⟩) (by show b < _; omega)).trans c1, (hW.cell (p := ⟨b, _, none⟩) (by show b < _; omega)).trans c2⟩) h0

theorem pieces_any (A : Option Addr) (n c : Nat) (w : World) :
  Calls Tryz.prog 148 #[tv A n c] w fun e w' => e = .returned (.func (.func 187) #[] #[.pointer (some ⟨w.heap.size, 0, none⟩)]) ∧ w.alloc (.cells #[.slice A n c] 48) = w' := by
 go_enter Tryz.func148, Tryz.ntmps148
 go_wp2
 go_ret
 exact ⟨rfl, rfl⟩

def pAt (p q : P3) (x : Int) : Int × Int := (p.2.1 + riseS (x - p.1) (q.1 - p.1) (q.2.1 - p.2.1), p.2.2 - riseS (x - p.1) (q.1 - p.1) (p.2.2 - q.2.2))
def atS (ps : List P3) (x : Int) : Int × Int :=
  match (pcs ps).find? (fun pq => decide (x ≤ pq.2.1)) with
  | some pq => pAt pq.1 pq.2 x
  | none => (0, 0)
theorem pieceAt_any (p q : P3) (x : Int) (w : World) (hp : Okp p) (hq : Okp q) (hx : 0 ≤ x) (hx' : x ≤ 1000000) :
    Calls Tryz.prog 104 #[pv p q, .int .i64 x] w fun e w' => e = .returned (rv (pAt p q x).1 (pAt p q x).2) ∧ Below w.heap.size w w' := by
  obtain ⟨a1, a2, a3, a4, a5, a6⟩ := hp
  obtain ⟨b1, b2, b3, b4, b5, b6⟩ := hq
  exact pieceAt_core p.1 p.2.1 p.2.2 q.1 q.2.1 q.2.2 x w a1 a2 hx hx' b1 b2 a3 a4 a5 a6 b3 b4 b5 b6

theorem blk_own {β : Type} (B : Nat) (t : TypeId) (f : β → Array Value) : Own (fun s W => Blk W B t (f s)) := fun s X Y row hs hg hrow =>
  hs.grown hg (fun e' => by obtain ⟨o, ho, hc⟩ := hrow B e'.symm; rw [show X.heap[B]? = _ from hs] at ho; cases ho; cases hc)
theorem keeps_below {W W' : World} (B : Nat) (h : Below W.heap.size W W') : KeepsFrom B W W' := KeepsFrom.of_grownBy (below_grownNone h) (fun _ e => by cases e)

def AllPast (pre : List Pc) (x : Int) : Prop := ∀ y ∈ pre, y.1.2.1 < x
theorem AllPast.snoc {pre : List Pc} {x : Int} {y : Pc} (h : AllPast pre x) (hy : y.1.2.1 < x) : AllPast (pre ++ [y]) x := by
  intro z hz
  rcases List.mem_append.1 hz with hz | hz
  · exact h z hz
  · simp at hz; subst hz; exact hy

theorem blk2 {w : World} {g : Nat} {t : TypeId} {x y : Value} (h : Blk w g t #[x, y]) (a b : Int) :
    Blk ((w.setCell ⟨g, 0, none⟩ (.int .i64 a)).setCell ⟨g, 1, none⟩ (.int .i64 b)) g t #[.int .i64 a, .int .i64 b] := by
  have h3 := (h.set_ 0 (.int .i64 a)).set_ 1 (.int .i64 b)
  simpa using h3

set_option maxRecDepth 100000 in
set_option maxHeartbeats 4000000 in
theorem at_two (b o n c : Nat) (ps : List P3) (x : Int) (w : World) (hn : n = ps.length) (h2 : 1 ≤ n) (hb : b < w.heap.size) (ht : tabOk ps = true) (hx : 0 ≤ x) (hx' : x ≤ 1000000)
    (hc : ∀ k p, ps[k]? = some p → w.cell? ⟨b, o + k * 3, none⟩ = some (.int .i64 p.1) ∧ w.cell? ⟨b, o + k * 3 + 1, none⟩ = some (.int .i64 p.2.1) ∧ w.cell? ⟨b, o + k * 3 + 2, none⟩ = some (.int .i64 p.2.2)) :
    Calls Tryz.prog 153 #[tv (some ⟨b, o, none⟩) n c, .int .i64 x] w fun e w' => e = .returned (rv (atS ps x).1 (atS ps x).2) ∧ Below w.heap.size w w' := by
  have h40 : n ≤ 40 := by have := (tabOk_len ht).2; omega
  obtain ⟨xs, hxs⟩ := pieces_list ht
  refine (callsIn_wide (n := 6)).1 ?_
  refine callsIn_of_wp_marks Tryz.func153 rfl trivial ?_ rfl
  simp only [Tryz.ntmps153, List.size_toArray, List.length_cons, List.length_nil, Nat.reduceAdd, Nat.reduceSub, Array.replicate_succ, Array.replicate_zero, List.push_toArray, List.append_toArray, List.nil_append, List.cons_append]
  have HC := Lib.hid hc; clear hc
  have HN := Lib.hid hn; clear hn
  have HX := Lib.hid hxs; clear hxs
  have HT := Lib.hid ht; clear ht
  gi_wp2_with (refine ⟨trivial, ?_⟩; gi_at_call 148; refine (callsIn_wide.2 (pieces_any _ _ _ _)).mono ?_; rintro e w' ⟨rfl, rfl⟩)
  have bX := (Blk.new (w.alloc (.cells #[.slice (some ⟨b, o, none⟩) n c] 48)) 3 #[.int .i64 x]).alloc (.cells #[.int .i64 0, .int .i64 0] 30) |>.alloc (.cells #[.slice (some ⟨b, o, none⟩) n c] 48)
  have bR := (Blk.new ((w.alloc (.cells #[.slice (some ⟨b, o, none⟩) n c] 48)).alloc (.cells #[.int .i64 x] 3)) 30 #[.int .i64 0, .int .i64 0]).alloc (.cells #[.slice (some ⟨b, o, none⟩) n c] 48)
  have bT := Blk.new (((w.alloc (.cells #[.slice (some ⟨b, o, none⟩) n c] 48)).alloc (.cells #[.int .i64 x] 3)).alloc (.cells #[.int .i64 0, .int .i64 0] 30)) 48 #[.slice (some ⟨b, o, none⟩) n c]
  simp only [World.size_alloc] at bX bR bT
  have hB0 : Below w.heap.size w ((((w.alloc (.cells #[.slice (some ⟨b, o, none⟩) n c] 48)).alloc (.cells #[.int .i64 x] 3)).alloc (.cells #[.int .i64 0, .int .i64 0] 30)).alloc (.cells #[.slice (some ⟨b, o, none⟩) n c] 48)) :=
    below_a3 ((Below.refl _ _).alloc (Nat.le_refl _) _)
  have hsz : ((((w.alloc (.cells #[.slice (some ⟨b, o, none⟩) n c] 48)).alloc (.cells #[.int .i64 x] 3)).alloc (.cells #[.int .i64 0, .int .i64 0] 30)).alloc (.cells #[.slice (some ⟨b, o, none⟩) n c] 48)).heap.size = w.heap.size + 4 := by simp
  obtain ⟨W0, hW0⟩ : ∃ W0, ((((w.alloc (.cells #[.slice (some ⟨b, o, none⟩) n c] 48)).alloc (.cells #[.int .i64 x] 3)).alloc (.cells #[.int .i64 0, .int .i64 0] 30)).alloc (.cells #[.slice (some ⟨b, o, none⟩) n c] 48)) = W0 := ⟨_, rfl⟩
  rw [hW0] at bX bR bT hB0 hsz ⊢
  clear hW0
  have hc0 : ∀ k p, ps[k]? = some p → W0.cell? ⟨b, o + k * 3, none⟩ = some (.int .i64 p.1) ∧ W0.cell? ⟨b, o + k * 3 + 1, none⟩ = some (.int .i64 p.2.1) ∧ W0.cell? ⟨b, o + k * 3 + 2, none⟩ = some (.int .i64 p.2.2) := fun k p hp => by
    obtain ⟨c0, c1, c2⟩ := HC.out k p hp
    exact ⟨(hB0.cell (p := ⟨b, _, none⟩) hb).trans c0, (hB0.cell (p := ⟨b, _, none⟩) hb).trans c1, (hB0.cell (p := ⟨b, _, none⟩) hb).trans c2⟩
  refine wpIn_rangeFunc_ownH rfl (by omega) (gf := 187) (lb := #[.pointer (some ⟨w.heap.size + 1 + 1 + 1, 0, none⟩)]) rfl trivial (enters_of Tryz.func187 (by kernel_rfl) rfl)
    (pieces_stops xs (6 - 1) (by omega) (w.heap.size + 1 + 1 + 1) w.heap.size b o n c ps HN.out h2 h40 HX.out hb W0 (by omega) (by omega) (bT.cell 0) hc0) belowK_t (belowK_b (by omega)) (Below.refl _ _) (fun _ => rfl)
    (fun pre W => (Blk W (w.heap.size + 1) 3 #[.int .i64 x] ∧ Blk W (w.heap.size + 1 + 1) 30 #[.int .i64 0, .int .i64 0] ∧ AllPast pre x) ∧ Below w.heap.size w W)
    (fun cd pre W => (cd = .ret ∧ ∃ pre' y, pre = pre' ++ [y] ∧ AllPast pre' x ∧ x ≤ y.1.2.1 ∧ Blk W (w.heap.size + 1 + 1) 30 #[.int .i64 (pAt y.1.1 y.1.2 x).1, .int .i64 (pAt y.1.1 y.1.2 x).2]) ∧ Below w.heap.size w W)
    (OwnFrom.and (Own.from (fun s X Y row hs hg hr => ⟨blk_own (β := Unit) _ _ (fun _ => _) () X Y row hs.1 hg hr, blk_own (β := Unit) _ _ (fun _ => _) () X Y row hs.2.1 hg hr, hs.2.2⟩) _) (ownFrom_below (Nat.le_refl _) (by omega)))
    (fun cd => OwnFrom.and (Own.from (fun s X Y row hs hg hr => by
      obtain ⟨e1, pre', y, e2, e3, e4, e5⟩ := hs
      exact ⟨e1, pre', y, e2, e3, e4, blk_own (β := Unit) _ _ (fun _ => _) () X Y row e5 hg hr⟩) _) (ownFrom_below (Nat.le_refl _) (by omega)))
    ⟨⟨bX, bR, fun _ h => by cases h⟩, hB0⟩
    (fun y a' W => ∃ Bx, w.heap.size + 1 + 1 < Bx ∧ Blk W Bx 138 #[.int .i64 y.1.1.1, .int .i64 y.1.1.2.1, .int .i64 y.1.1.2.2, .int .i64 y.1.2.1, .int .i64 y.1.2.2.1, .int .i64 y.1.2.2.2] ∧ a' = { tmps := #[tv (some ⟨b, o, none⟩) n c, .int .i64 x, .pointer (some ⟨w.heap.size, 0, none⟩), .pointer (some ⟨w.heap.size + 1, 0, none⟩), .pointer (some ⟨w.heap.size + 1 + 1, 0, none⟩), .pointer (some ⟨Bx, 0, none⟩), .agg #[.slice (some ⟨b, o, none⟩) n c], .func (.func 187) #[] #[.pointer (some ⟨w.heap.size + 1 + 1 + 1, 0, none⟩)], pv y.1.1 y.1.2, undef, undef, undef, undef, undef, undef, undef, undef, undef], defers := [] })
    (fun y a' _ X Y row hs hg hr => by
      obtain ⟨Bx, h1, h2, h3⟩ := hs
      exact ⟨Bx, h1, blk_own (β := Unit) _ _ (fun _ => _) () X Y row h2 hg (fun r e => (hr r e).2), h3⟩)
    ?assign ?body ?done ?stop
  case assign =>
    rintro l pre y W K ⟨⟨b1, b2, b3⟩, hB1⟩ hK
    gi_wp2
    exact hK _ _ ((KeepsOthers.alloc _ _).from _) ((Below.refl _ W).alloc hB1.size _) ⟨⟨b1.alloc _, b2.alloc _, b3⟩, hB1.alloc hB1.size _⟩ ⟨W.heap.size, b2.lt, Blk.new W 138 _, rfl⟩
  case body =>
    rintro l pre y a' W hl ⟨r, hr⟩ ⟨⟨b1, b2, b3⟩, hB1⟩ ⟨Bx, hBx, bP, rfl⟩ hlt
    have x0 := b1.cell 0
    have p0 := bP.cell 0
    have p1 := bP.cell 1
    have p2 := bP.cell 2
    have p3 := bP.cell 3
    have p4 := bP.cell 4
    have p5 := bP.cell 5
    simp at x0 p0 p1 p2 p3 p4 p5
    by_cases hle : x ≤ y.1.2.1
    · gi_wp2_with (refine ⟨trivial, ?_⟩; gi_at_call 104; refine (CallsIn.inRound l (callsIn_wide.2 (pieceAt_any y.1.1 y.1.2 x _ y.2.1 y.2.2 hx hx'))).mono ?_; rintro e W2 ⟨rfl, hb2⟩; have bR2 := b2.below hb2 b2.lt; have r0 := bR2.cell 0; have r1 := bR2.cell 1; have f0 := bR2.frozen 0; have f1 := bR2.frozen 1; simp at r0 r1)
      refine ⟨(keeps_below _ hb2).trans (((KeepsOthers.setCell _ _ _).trans (KeepsOthers.setCell _ _ _)).from _), ⟨rfl, pre, y, rfl, b3, hle, blk2 bR2 _ _⟩, ?_⟩
      exact ((hB1.trans (hb2.mono hB1.size)).setCell (p := ⟨w.heap.size + 1 + 1, 0, none⟩) (by simp; omega) _).setCell (p := ⟨w.heap.size + 1 + 1, 1, none⟩) (by simp; omega) _
    · gi_wp2
      exact ⟨KeepsFrom.refl _ _, Below.refl _ _, ⟨b1, b2, b3.snoc (by omega)⟩, hB1⟩
  case done =>
    rintro D ys W hD rfl ⟨⟨b1, b2, b3⟩, hB1⟩ hK
    have r0 := b2.cell 0
    have r1 := b2.cell 1
    have f0 := b2.frozen 0
    have f1 := b2.frozen 1
    simp at r0 r1
    gi_wp2
    have bD : D ≠ w.heap.size + 1 + 1 := by
      rintro rfl
      unfold Blk at b2; rw [hK] at b2; cases b2
    have b2' := blk2 b2 0 0
    have hK' : ((W.setCell ⟨w.heap.size + 1 + 1, 0, none⟩ (.int .i64 0)).setCell ⟨w.heap.size + 1 + 1, 1, none⟩ (.int .i64 0)).heap[D]? = some (.deferred (some [])) := ((KeepsOthers.setCell _ _ _).trans (KeepsOthers.setCell _ _ _)).same D _ hK rfl
    refine ⟨by simp, .inl ⟨_, _, rfl, run_takeDeferred hK', ?_⟩⟩
    have b3' := b2'.grown (grownBy_putObj' _ D (.deferred none)) (by intro e; injection e with e; exact bD e.symm)
    have q0 := b3'.cell 0
    have q1 := b3'.cell 1
    simp at q0 q1
    have hs : atS ps x = (0, 0) := by
      unfold atS
      rw [← HX.out, List.find?_eq_none.2]
      intro z hz
      obtain ⟨z', hz', rfl⟩ := List.mem_map.1 hz
      have := b3 z' hz'
      simp; omega
    rw [hs]
    refine ⟨rv 0 0, ?_, rfl, ?_⟩
    · simp [results, Tryz.f153, go_sem, q0, q1]
    · exact ((hB1.setCell (p := ⟨w.heap.size + 1 + 1, 0, none⟩) (by simp; omega) _).setCell (p := ⟨w.heap.size + 1 + 1, 1, none⟩) (by simp; omega) _).trans (belowK_b (w := W0) (by omega) _ D _ _ (by omega) hK' rfl rfl)
  case stop =>
    rintro D cd pre W hD hpre ⟨⟨rfl, pre', y, rfl, b3, hle, b2⟩, hB1⟩ hK
    gi_wp2
    have bD : D ≠ w.heap.size + 1 + 1 := by
      rintro rfl
      unfold Blk at b2; rw [hK] at b2; cases b2
    refine ⟨by simp, .inl ⟨_, _, rfl, run_takeDeferred hK, ?_⟩⟩
    have b3' := b2.grown (grownBy_putObj' _ D (.deferred none)) (by intro e; injection e with e; exact bD e.symm)
    have q0 := b3'.cell 0
    have q1 := b3'.cell 1
    simp at q0 q1
    have hs : atS ps x = pAt y.1.1 y.1.2 x := by
      obtain ⟨rest, hr⟩ := hpre
      unfold atS
      rw [← HX.out, ← hr, List.map_append, List.map_append, List.find?_append, List.find?_append]
      have e1 : (List.map (fun x : Pc => x.val) pre').find? (fun pq => decide (x ≤ pq.2.1)) = none := by
        rw [List.find?_eq_none]
        intro z hz
        obtain ⟨z', hz', rfl⟩ := List.mem_map.1 hz
        have := b3 z' hz'
        simp; omega
      rw [e1]
      simp [hle]
    rw [hs]
    refine ⟨rv (pAt y.1.1 y.1.2 x).1 (pAt y.1.1 y.1.2 x).2, ?_, rfl, ?_⟩
    · simp [results, Tryz.f153, go_sem, q0, q1]
    · exact hB1.trans (belowK_b (w := W0) (by omega) _ D _ _ (by omega) hK rfl rfl)
end

end Go.Proofs.YtekkiedlajhaiaaGreat
