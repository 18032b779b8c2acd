/- The contract of corners (fix). Its condition: the table's points lie in memory, 40 of them at most. -/
import Derived.Test.YtmenlaefekkahaaB3
import Derived.OwnWalk
import Derived.Maps.AppendAt
import Derived.Deep.LoopGhost
set_option linter.unusedVariables false
set_option linter.unusedSimpArgs false
set_option linter.constructorNameAsVariable false
namespace Go.Proofs.Ytmenlaefekkahaa
open Go.RowKit

theorem Try.info3 : (Try.prog.info? 3).map (fun i => (i.zero, i.size, i.bytes)) = some (some (.int .i64 0), 1, 8) := by kernel_rfl

/-- The places a and b, and those of the points between them. -/
def cornersS (ps : List P3) (a b : Int) : List Int := a :: ((ps.filter fun p => decide (a < p.1) && decide (p.1 < b)).map (·.1)) ++ (if a < b then [b] else [])
/-- numbers as values -/
abbrev ints (l : List Int) : List Value := l.map (Value.int .i64)

theorem own_one (w : World) (base : Nat) (a : Int) (hb : base ≤ w.heap.size) : (w.alloc (.cells #[.int .i64 a] 3)).ownsRow base 3 1 (.slice (some ⟨w.heap.size, 0, none⟩) 1 1) (ints [a]).length (ints [a]) := by
  refine ⟨by simp, .inr ⟨w.heap.size, 1, #[.int .i64 a], rfl, hb, heap_alloc_new w _, by simp, by simp [maxLen], by simp, ?_⟩⟩
  simp

/-- What corners has behind k points. -/
def soFar (ps : List P3) (a b : Int) (k : Nat) : List Int := a :: (((ps.take k).filter fun p => decide (a < p.1) && decide (p.1 < b)).map (·.1))
theorem soFar_succ {ps : List P3} {a b : Int} {k : Nat} {p : P3} (h : ps[k]? = some p) : soFar ps a b (k + 1) = if a < p.1 ∧ p.1 < b then soFar ps a b k ++ [p.1] else soFar ps a b k := by
  have hk : k < ps.length := (List.getElem?_eq_some_iff.1 h).1
  have e : ps.take (k + 1) = ps.take k ++ [p] := by
    rw [List.take_succ_eq_append_getElem hk]
    rw [List.getElem?_eq_getElem hk] at h
    injection h with h
    rw [h]
  unfold soFar
  rw [e, List.filter_append, List.map_append]
  by_cases hc : a < p.1 ∧ p.1 < b
  · rw [if_pos hc]; simp [hc]
  · rw [if_neg hc]
    have : (decide (a < p.1) && decide (p.1 < b)) = false := by simpa using hc
    simp [List.filter_cons, this]
theorem soFar_len (ps : List P3) (a b : Int) (k : Nat) : (soFar ps a b k).length ≤ k + 1 := by
  unfold soFar
  simp only [List.length_cons, List.length_map]
  have h1 := List.length_filter_le (fun p : P3 => decide (a < p.1) && decide (p.1 < b)) (ps.take k)
  have h2 := List.length_take_le k ps
  omega

/-- A row of the call's own that is not empty. -/
def OwnInts (base : Nat) (w : World) (v : Value) (l : List Int) : Prop := w.ownsRow base 3 1 v (ints l).length (ints l)

/-- A new row of numbers is handed back. -/
def GivesInts (w : World) (l : List Int) (e : Ending) (w' : World) : Prop := ∃ v, e = .returned v ∧ OwnInts w.heap.size w' v l ∧ Below w.heap.size w w'

theorem OwnInts.alloc {base : Nat} {w : World} {v : Value} {l : List Int} (h : OwnInts base w v l) (o : Obj) : OwnInts base (w.alloc o) v l := World.ownsRow.alloc h o
theorem cell_one (w : World) (x : Int) (t : TypeId) : ∀ (j : Nat) (u : Value), [Value.int .i64 x][j]? = some u → (w.alloc (.cells #[.int .i64 x] t)).cell? ((⟨w.heap.size, 0, none⟩ : Addr).add j) = some u := by
  intro j u h
  cases j with
  | zero => simp at h; subst h; simp [Addr.add]
  | succ j => simp at h
theorem own_snoc {base : Nat} {w : World} {v : Value} {l : List Int} {x : Int} (h : w.ownsRow base 3 1 v (l.length + 1) (ints l ++ [Value.int .i64 x])) : OwnInts base w v (l ++ [x]) := by
  unfold OwnInts
  have e : ints (l ++ [x]) = ints l ++ [Value.int .i64 x] := by simp
  rw [e, List.length_append, List.length_map]
  exact h
theorem own_below {base : Nat} {w w0 w' : World} {v : Value} {l : List Int} (h : OwnInts base w v l) (hB : Below w0.heap.size w0 w) (hbase : base = w0.heap.size) (hg : w.grownBy w' v.ownBlock) : Below w0.heap.size w0 w' :=
  hB.grown hg hB.size (fun k hk => by have := (World.ownsRow.lt h k hk).1; omega)

set_option maxRecDepth 100000 in
set_option maxHeartbeats 2000000 in
theorem corners_any (b0 o n c : Nat) (ps : List P3) (a b : Int) (w : World) (hn : n = ps.length) (h1 : 1 ≤ n) (h40 : n ≤ 40) (hb : b0 < w.heap.size)
    (hc : ∀ k p, ps[k]? = some p → w.cell? ⟨b0, o + k * 3, none⟩ = some (.int .i64 p.1) ∧ w.cell? ⟨b0, o + k * 3 + 1, none⟩ = some (.int .i64 p.2.1) ∧ w.cell? ⟨b0, o + k * 3 + 2, none⟩ = some (.int .i64 p.2.2)) :
    Calls Try.prog 95 #[tv (some ⟨b0, o, none⟩) n c, .int .i64 a, .int .i64 b] w (GivesInts w (cornersS ps a b)) := by
  obtain ⟨i0, hi, hz0, hz1, hz2⟩ := info_parts Try.info3
  have HN := Lib.hid hn; clear hn
  have HC := Lib.hid hc; clear hc
  go_enter Try.func95, Try.ntmps95
  go_wp2_with fail
  go_loopw [7, 15] (fun v i wr => ∃ k : Nat, k ≤ n ∧ i = .int .i64 k ∧ OwnInts w.heap.size wr v (soFar ps a b k) ∧ Below w.heap.size w wr) (fun _ i _ => n - (intOf i).toNat)
  case atStart => exact ⟨0, by omega, rfl, (by have h := own_one (w.alloc (.cells #[.slice (some ⟨b0, o, none⟩) n c] 43)) w.heap.size a (by simp); rw [World.size_alloc] at h; exact h), ((Below.refl _ _).alloc (Nat.le_refl _) _).alloc (by simp) _⟩
  case round =>
    obtain ⟨k, hk, rfl, hown, hB⟩ := hrel
    by_cases hlt : k < n
    · have hp : ∃ p, ps[k]? = some p := ⟨_, List.getElem?_eq_getElem (show k < ps.length by rw [← HN.out]; exact hlt)⟩
      obtain ⟨p, hp⟩ := hp
      obtain ⟨c0, c1, c2⟩ := HC.out k p hp
      rw [← hB.cell (p := ⟨b0, o + k * 3, none⟩) hb] at c0
      rw [← hB.cell (p := ⟨b0, o + k * 3 + 1, none⟩) hb] at c1
      rw [← hB.cell (p := ⟨b0, o + k * 3 + 2, none⟩) hb] at c2
      have HS := Lib.hid (soFar_succ (a := a) (b := b) hp); clear hp
      have hsl := soFar_len ps a b k
      have HO := Lib.hid hown; clear hown
      obtain ⟨x, lo, hi'⟩ := p
      dsimp only at c0 c1 c2
      by_cases hx : a < x ∧ x < b
      · obtain ⟨hx1, hx2⟩ := hx
        have hown := HO.out
        have hln : (ints (soFar ps a b k)).length + 1 ≤ 42 := by simp; omega
        have hown2 := (hown.alloc (.cells #[.int .i64 x, .int .i64 lo, .int .i64 hi'] 87)).alloc (.cells #[.int .i64 x] 3)
        have HO2 := Lib.hid hown2; clear hown hown2
        have hcell := cell_one (wr.alloc (.cells #[.int .i64 x, .int .i64 lo, .int .i64 hi'] 87)) x 3
        rw [World.size_alloc] at hcell
        have HCE := Lib.hid hcell; clear hcell
        go_wp2_with (at_builtin; refine wpList_append_own _ rfl (.tmp 29) (.tmp 32) 44 rfl w.heap.size 3 i0 (.int .i64 0) 1 8 Try.underlying44 hi hz0 hz1 hz2 rfl (by decide) _ _ _ rfl HO2.out ⟨wr.heap.size + 1, 0, none⟩ 1 1 [.int .i64 x] rfl rfl HCE.out ?c2 ?c3 ?c4 ?c5 ?_)
        case c2 => simp [Value.oneCell']
        case c3 => simp only [maxLen]; omega
        case c4 => omega
        case c5 => have := hB.size; simp; omega
        intro v' w1 hown1 hgrow _
        have hb1 := own_below HO2.out (w0 := w) ((hB.alloc hB.size _).alloc (by have := hB.size; simp; omega) _) rfl hgrow
        have hown2 : OwnInts w.heap.size w1 v' (soFar ps a b (k + 1)) := by
          rw [HS.out, if_pos ⟨hx1, hx2⟩]
          exact own_snoc hown1
        clear hown1 hgrow
        go_wp2
        go_roundw
        case rel => exact ⟨k + 1, by omega, by go_num, hown2, hb1⟩
        case measure => simp [intOf]; omega
      · have hown2 : OwnInts w.heap.size wr u7 (soFar ps a b (k + 1)) := by
          rw [HS.out, if_neg hx]; exact HO.out
        have hown3 := Lib.hid (hown2.alloc (.cells #[.int .i64 x, .int .i64 lo, .int .i64 hi'] 87)); clear hown2
        have hb1 := hB.alloc hB.size (.cells #[.int .i64 x, .int .i64 lo, .int .i64 hi'] 87)
        have hx' : ¬ a < x ∨ (a < x ∧ ¬ x < b) := by omega
        clear hx
        rcases hx' with hx1 | ⟨hx1, hx2⟩
        all_goals
          go_wp2
          go_roundw
          case rel => exact ⟨k + 1, by omega, by go_num, hown3.out, hb1⟩
          case measure => simp [intOf]; omega
    · have hkn : k = n := by omega
      have hall : soFar ps a b k = a :: ((ps.filter fun p => decide (a < p.1) && decide (p.1 < b)).map (·.1)) := by
        unfold soFar; rw [List.take_of_length_le (by have := HN.out; omega)]
      have hsl := soFar_len ps a b k
      by_cases hab : a < b
      · have hln : (ints (soFar ps a b k)).length + 1 ≤ 42 := by simp; omega
        have hfin : cornersS ps a b = soFar ps a b k ++ [b] := by unfold cornersS; rw [hall, if_pos hab]
        have HF := Lib.hid hfin; clear hfin hall hkn
        have hown2 := hown.alloc (.cells #[.int .i64 b] 3)
        have HO2 := Lib.hid hown2; clear hown hown2
        have HCE := Lib.hid (cell_one wr b 3)
        go_wp2_with (at_builtin; refine wpList_append_own _ rfl (.tmp 38) (.tmp 40) 44 rfl w.heap.size 3 i0 (.int .i64 0) 1 8 Try.underlying44 hi hz0 hz1 hz2 rfl (by decide) _ _ _ rfl HO2.out ⟨wr.heap.size, 0, none⟩ 1 1 [.int .i64 b] rfl rfl HCE.out ?d2 ?d3 ?d4 ?d5 ?_)
        case d2 => simp [Value.oneCell']
        case d3 => simp only [maxLen]; omega
        case d4 => omega
        case d5 => have := hB.size; simp; omega
        intro v' w1 hown1 hgrow _
        have hb1 := own_below HO2.out (w0 := w) (hB.alloc hB.size _) rfl hgrow
        have hown2 : OwnInts w.heap.size w1 v' (cornersS ps a b) := by
          rw [HF.out]; exact own_snoc hown1
        clear hown1 hgrow
        go_wp2
        go_ret
        exact ⟨v', rfl, hown2, hb1⟩
      · have hfin : cornersS ps a b = soFar ps a b k := by unfold cornersS; rw [hall, if_neg hab, List.append_nil]
        rw [← hfin] at hown
        have HO2 := Lib.hid hown; clear hown hfin hall hkn
        go_wp2
        go_ret
        exact ⟨u7, rfl, HO2.out, hB⟩
end Go.Proofs.Ytmenlaefekkahaa
