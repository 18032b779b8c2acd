/- Parse (fix). Its condition: the library's variables hold what their text lays. -/
import Derived.Test.YtmglhhbfkohkcaaGreatDoorS02
import Derived.Test.YtmglhhbfkohkcaaGreatDoorS1
import Derived.WalkLawsBesides
import Derived.WalkKit
import Derived.WalkSpells
import Derived.Lib.Builder
import Derived.Lib.AppendStr
import Derived.Lib.Walk
import Derived.Shelf.RegionOpenPlain
import Derived.Shelf.Strings.BuilderX
import Derived.Laws.Externs
import Derived.KernelRfl
import Derived.Defers
import Derived.Recover
set_option linter.unusedVariables false
set_option linter.unusedSimpArgs false
set_option linter.constructorNameAsVariable false
namespace Go.Proofs.YtmglhhbfkohkcaaGreatDoor

section
open Go.RowKit Go.Lib

set_option maxRecDepth 100000 in
theorem space_any (r : Int) (w : World) : Calls Tryz.prog 36 #[.int .i32 r] w fun e w' => e = .returned (.bool (r == 32)) ∧ w' = w := by
 go_enter Tryz.func36, Tryz.ntmps36
 go_wp2
 refine bodyPost_ret (v := .bool (r == 32)) (by simp [results, Tryz.results36, go_sem]) rfl ⟨rfl, rfl⟩
end

section
open Go.RowKit Go.Lib

theorem var_below {P : Program} {n : String} {a : Array Value} {w w' : World} (h : w.var? P n = some a) (hb : Below w.heap.size w w') : w'.var? P n = some a := by
  unfold World.var? at h ⊢
  cases hg : P.globalNamed n with
  | none => rw [hg] at h; cases h
  | some g =>
    rw [hg] at h
    simp only [Option.bind_some] at h ⊢
    have hlt : g < w.heap.size := by
      rcases Nat.lt_or_ge g w.heap.size with h' | h'
      · exact h'
      · rw [Array.getElem?_eq_none h'] at h; cases h
    rw [hb.block g hlt]
    exact h
theorem below_grow_n (w : World) (k : Nat) (os : Array Obj) : Below w.heap.size w (Sort.grow (w.drewN k) os) :=
  ⟨rfl, rfl, rfl, by show w.heap.size ≤ (w.heap ++ os).size; rw [Array.size_append]; omega, fun j hj => by show (w.heap ++ os)[j]? = w.heap[j]?; rw [Array.getElem?_append_left hj]⟩
structure LaidW (w : World) : Prop where
  tab : TabIs Tryz.prog w "internal/strconv.uint64pow10" .u64 pow10Tab
  syn : ∃ tp p, w.var? Tryz.prog "strconv.ErrSyntax" = some #[.iface tp p]
  ran : ∃ tp p, w.var? Tryz.prog "strconv.ErrRange" = some #[.iface tp p]
  most : ∃ m : Int, w.cell? ⟨1, 0, none⟩ = some (.int .i64 m)
theorem LaidW.below {w w' : World} (h : LaidW w) (hb : Below w.heap.size w w') : LaidW w' := by
  obtain ⟨h1, ⟨a, b, h2⟩, ⟨c, d, h3⟩, m, h4⟩ := h
  exact ⟨var_below h1 hb, ⟨a, b, var_below h2 hb⟩, ⟨c, d, var_below h3 hb⟩, m, (hb.cell (World.block_lt_of_cell? w _ h4)).trans h4⟩
theorem itoa_call (n : Int) (w : World) (h0 : -9223372036854775808 ≤ n) (h1 : n ≤ 9223372036854775807) (hL : LaidW w) :
    Calls Tryz.prog 12 #[.int .i64 n] w fun e w' => e = .returned (.string ⟨(itoa n).toArray⟩) ∧ Below w.heap.size w w' := by
  refine (Tryz.strconv_Itoa n h0 h1 w hL.tab).mono ?_
  rintro e w' ⟨rfl, k, os, rfl⟩
  exact ⟨rfl, below_grow_n w k os⟩
theorem atoi_yes (s : ByteArray) (v : Int) (w : World) (hs : s.size ≤ 1000000) (h : atoiAll s.data.toList = .ok v) :
    Calls Tryz.prog 82 #[.string s] w fun e w' => e = .returned (.tuple #[.int .i64 v, .nilIface]) ∧ Below w.heap.size w w' := by
  refine (Tryz.strconv_Atoi_ok s (by omega) v h w).mono ?_
  rintro e w' ⟨rfl, rfl | ⟨t, rfl⟩⟩
  · exact ⟨rfl, Below.refl _ _⟩
  · exact ⟨rfl, bytesWorld_below _ _ _⟩
theorem atoi_no (s : ByteArray) (w : World) (hs : s.size ≤ 1000000) (h : ∀ v, atoiAll s.data.toList ≠ .ok v) (hL : LaidW w) :
    Calls Tryz.prog 82 #[.string s] w fun e w' => ∃ n N, e = .returned (.tuple #[.int .i64 n, .iface 162 (.pointer (some ⟨N, 0, none⟩))]) ∧ Below w.heap.size w w' := by
  cases ha : atoiAll s.data.toList
  · exact absurd ha (h _)
  · obtain ⟨tp, p, hv⟩ := hL.syn
    refine (Any.strconv_Atoi_syntax_var Tryz.laysC172 s (by omega) ha tp p w hv).mono ?_
    rintro e w' ⟨N, rfl, _, _, hb⟩
    exact ⟨_, N, rfl, hb⟩
  · obtain ⟨tp, p, hv⟩ := hL.ran
    refine (Any.strconv_Atoi_range_var Tryz.laysC172 s (by omega) ha tp p w hv).mono ?_
    rintro e w' ⟨N, rfl, _, _, hb⟩
    exact ⟨_, N, rfl, hb⟩
def Wrong (line : Int) (w : World) (e : Ending) (w' : World) : Prop := e = .panicked [{ v := .iface 48 (.agg #[.int .i64 line]), recovered := false }] ∧ Below w.heap.size w w'
theorem itoa_str {s : ByteArray} {v : Int} (h : itoa v = s.data.toList) : (⟨(itoa v).toArray⟩ : ByteArray) = s := by rw [h]
set_option maxRecDepth 100000 in
set_option maxHeartbeats 2000000 in
theorem readNumber_yes (s : ByteArray) (line n : Int) (w : World) (hs : s.size ≤ 1000000) (h : numberS s.data.toList 10 true = some n) (hL : LaidW w) :
  Calls Tryz.prog 61 #[.string s, .int .i64 line] w fun e w' => e = .returned (.int .i64 n) ∧ Below w.heap.size w w' := by
 obtain ⟨h1, h2, h3, h4⟩ := (number_taken _ _).2 h
 have HA := Lib.hid (fun W => atoi_yes s n W hs h1)
 have HI := Lib.hid (fun W (hW : LaidW W) => itoa_call n W (by omega) (by omega) hW)
 rw [itoa_str h2] at HI
 have HL := Lib.hid hL
 have HH := Lib.hid (show hasS (-9999999999) 9999999999 n = true by simp [hasS, vR, inB, h3, h4])
 clear h h1 h2 hL
 go_enter Tryz.func61, Tryz.ntmps61
 go_wp2_with (first
  | (go_at_call 82; refine (HA.out _).mono ?_; rintro e w1 ⟨rfl, hb⟩; have HB1 := Lib.hid hb; have HL1 := Lib.hid (HL.out.below hb); clear hb)
  | (go_at_call 12; refine (HI.out _ HL1.out).mono ?_; rintro e w2 ⟨rfl, hb⟩; have HB2 := Lib.hid (then_under HB1.out hb); clear hb)
  | (go_at_call 31; refine (around_any 9999999999 _ (by omega) (by omega)).mono ?_; rintro e w3 ⟨rfl, hb⟩; have HB3 := Lib.hid (then_under HB2.out hb); clear hb)
  | (go_at_call 83; refine (bool_to (has_any (-9999999999) 9999999999 n _) HH.out).mono ?_; rintro e w4 ⟨rfl, hb⟩; have HB4 := Lib.hid (then_under HB3.out hb); clear hb))
 refine bodyPost_ret (v := .int .i64 n) (by simp [results, Tryz.results61, go_sem]) rfl ⟨rfl, HB4.out⟩
set_option maxRecDepth 100000 in
set_option maxHeartbeats 2000000 in
theorem readNumber_no (s : ByteArray) (line : Int) (w : World) (hs : s.size ≤ 1000000) (h : numberS s.data.toList 10 true = none) (hL : LaidW w) :
  Calls Tryz.prog 61 #[.string s, .int .i64 line] w (Wrong line w) := by
 have HL := Lib.hid hL
 by_cases hv : ∃ v, atoiAll s.data.toList = .ok v
 ·obtain ⟨v, hv⟩ := hv
  have HA := Lib.hid (fun W => atoi_yes s v W hs hv)
  obtain ⟨b0, b1⟩ := atoiAll_bounds hv
  have HI := Lib.hid (fun W (hW : LaidW W) => itoa_call v W (by omega) (by omega) hW)
  by_cases he : itoa v = s.data.toList
  ·rw [itoa_str he] at HI
   have HH : Hid (hasS (-9999999999) 9999999999 v = false) := Lib.hid (by
    rw [Bool.eq_false_iff]
    intro hc
    simp only [hasS, Bool.and_eq_true, decide_eq_true_eq] at hc
    have := (number_taken s.data.toList v).1 ⟨hv, he, hc.2.1, hc.2.2⟩
    rw [h] at this
    cases this)
   clear h hv he hL
   go_enter Tryz.func61, Tryz.ntmps61
   go_wp2_with (first
    | (go_at_call 82; refine (HA.out _).mono ?_; rintro e w1 ⟨rfl, hb⟩; have HB1 := Lib.hid hb; have HL1 := Lib.hid (HL.out.below hb); clear hb)
    | (go_at_call 12; refine (HI.out _ HL1.out).mono ?_; rintro e w2 ⟨rfl, hb⟩; have HB2 := Lib.hid (then_under HB1.out hb); clear hb)
    | (go_at_call 31; refine (around_any 9999999999 _ (by omega) (by omega)).mono ?_; rintro e w3 ⟨rfl, hb⟩; have HB3 := Lib.hid (then_under HB2.out hb); clear hb)
    | (go_at_call 83; refine (bool_to (has_any (-9999999999) 9999999999 v _) HH.out).mono ?_; rintro e w4 ⟨rfl, hb⟩; have HB4 := Lib.hid (then_under HB3.out hb); clear hb))
   exact ⟨rfl, rfl, HB4.out⟩
  ·obtain ⟨t, ht⟩ : ∃ t : ByteArray, (⟨(itoa v).toArray⟩ : ByteArray) = t := ⟨_, rfl⟩
   rw [ht] at HI
   have hne : ¬ t = s := fun e => he (by rw [← e, ← ht])
   have hne2 : ¬ t.toList = s.toList := fun e => hne (by rw [ByteArray.toList_eq, ByteArray.toList_eq] at e; exact ByteArray.ext (Array.toList_inj.mp e))
   clear h hv he hL ht
   go_enter Tryz.func61, Tryz.ntmps61
   go_wp2_with (first
    | (go_at_call 82; refine (HA.out _).mono ?_; rintro e w1 ⟨rfl, hb⟩; have HB1 := Lib.hid hb; have HL1 := Lib.hid (HL.out.below hb); clear hb)
    | (go_at_call 12; refine (HI.out _ HL1.out).mono ?_; rintro e w2 ⟨rfl, hb⟩; have HB2 := Lib.hid (then_under HB1.out hb); clear hb))
   exact ⟨rfl, rfl, HB2.out⟩
 ·have HA := Lib.hid (fun W (hW : LaidW W) => atoi_no s W hs (fun v e => hv ⟨v, e⟩) hW)
  clear h hv hL
  go_enter Tryz.func61, Tryz.ntmps61
  go_wp2_with (go_at_call 82; refine (HA.out _ HL.out).mono ?_; rintro e w1 ⟨n, N, rfl, hb⟩; have HB1 := Lib.hid hb; clear hb)
  exact ⟨rfl, rfl, HB1.out⟩
end

section
open Go.RowKit Go.Lib

theorem bSize : ∃ j, Tryz.prog.info? 37 = some j ∧ j.size = 2 := Option.map_eq_some_iff.1 (show (Tryz.prog.info? 37).map (·.size) = some 2 by kernel_rfl)
theorem bLies : liesAt Tryz.prog Tryz.prog.depth 37 (2 / Tryz.prog.cellsOf 37) 0 37 1 = true := by kernel_rfl
set_option maxHeartbeats 1000000 in
set_option maxRecDepth 100000 in
theorem copyCheck_used (b : Nat) (w : World) (h0 : w.cell? ⟨b, 0, none⟩ = some (.pointer (some ⟨b, 0, none⟩))) :
  Calls Tryz.prog 32 #[.pointer (some ⟨b, 0, none⟩)] w fun e w' => e = .returned (.tuple #[]) ∧ w' = w := by
 obtain ⟨j, hj, _⟩ := bSize
 go_enter Tryz.func32, Tryz.ntmps32
 go_wp2
 rw [Lib.run_neq_ptr_same w _ Tryz.underlying34 hj]
 go_wp2
 go_end0
 exact ⟨rfl, rfl⟩
set_option maxHeartbeats 1000000 in
set_option maxRecDepth 100000 in
theorem copyCheck_fresh (b : Nat) (w : World) (h0 : w.cell? ⟨b, 0, none⟩ = some (.pointer none)) (hsh : w.shape? b = some (37, 2)) (hfz : w.frozen? ⟨b, 0, none⟩ = false) :
  Calls Tryz.prog 32 #[.pointer (some ⟨b, 0, none⟩)] w fun e w' => e = .returned (.tuple #[]) ∧ w' = w.setCell ⟨b, 0, none⟩ (.pointer (some ⟨b, 0, none⟩)) := by
 obtain ⟨j, hj, hjs⟩ := bSize
 go_enter Tryz.func32, Tryz.ntmps32
 go_wp2
 rw [Lib.run_to_unsafe w ⟨b, 0, none⟩ Tryz.underlying34 Tryz.underlying108 hj (by rw [hjs]; decide) hsh (Nat.zero_lt_succ 1)]
 simp only [Result.andThen]
 rw [Oper.upon_value]
 go_wp2
 rw [run_callFunc_extern Tryz.func58 (by kernel_rfl) (by kernel_rfl) (by kernel_rfl) (e := Extern.AbiNoEscape.same) (by kernel_rfl)]
 rw [Lib.run_noEscape]
 simp only [Result.andThen]
 rw [Oper.upon_value]
 go_wp2
 rw [Lib.run_from_unsafe w ⟨b, 0, none⟩ Tryz.underlying108 Tryz.underlying34 hj hsh bLies]
 simp only [Result.andThen]
 rw [Oper.upon_value]
 go_wp2
 go_end0
 exact ⟨rfl, rfl⟩
theorem copyCheck_any (B b : Nat) (bs : List Value) (w : World) (h : Lib.IsBuilder 37 5 B b bs w) :
    Calls Tryz.prog 32 #[.pointer (some ⟨b, 0, none⟩)] w fun e w' => e = .returned (.tuple #[]) ∧ (Lib.BuilderAt 37 5 B b (.pointer (some ⟨b, 0, none⟩)) bs w' ∧ Below B w w' ∧ ∀ j, j ≠ b → w'.heap[j]? = w.heap[j]?) := by
  rcases h with h | h
  · refine (copyCheck_fresh b w h.cell0 h.shape h.frozen0).mono ?_
    rintro e w' ⟨rfl, rfl⟩
    exact ⟨rfl, h.used _, (Below.refl B w).setCell (p := ⟨b, 0, none⟩) h.1 _, fun j hj => Below.heap_setCell w ⟨b, 0, none⟩ _ j hj⟩
  · refine (copyCheck_used b w h.cell0).mono ?_
    rintro e w' ⟨rfl, rfl⟩
    exact ⟨rfl, h, Below.refl B _, fun j _ => rfl⟩
set_option maxHeartbeats 2000000 in
set_option maxRecDepth 100000 in
theorem write_any (B b : Nat) (bs : List Value) (s : ByteArray) (w : World) (h : Lib.IsBuilder 37 5 B b bs w) (hlen : bs.length + s.size ≤ 140737488355328) (hBw : B ≤ w.heap.size) :
  Calls Tryz.prog 11 #[.pointer (some ⟨b, 0, none⟩), .string s] w fun e w' => e = .returned (.tuple #[.int .i64 s.size, .nilIface]) ∧ (Lib.BuilderAt 37 5 B b (.pointer (some ⟨b, 0, none⟩)) (bs ++ Lib.strCells s) w' ∧ Below B w w' ∧ ∀ j cs t fr, w.heap[j]? = some (.cells cs t fr) → t ≠ 5 → j ≠ b → w'.heap[j]? = some (.cells cs t fr)) := by
 obtain ⟨i0, hi, hz0, hz1, hz2⟩ := info_parts (show (Tryz.prog.info? 5).map (fun i => (i.zero, i.size, i.bytes)) = some (some (.int .u8 0), 1, 1) by kernel_rfl)
 go_enter Tryz.func11, Tryz.ntmps11
 go_wp2_with (go_at_call 32; refine (copyCheck_any B b bs _ h).mono ?_)
 rintro e w1 ⟨rfl, h1, hb1, hsame⟩
 have HSM := Lib.hid hsame
 clear hsame
 obtain ⟨hB, v, hbk, hown, hne⟩ := h1
 have c0 : w1.cell? ⟨b, 0, none⟩ = some (.pointer (some ⟨b, 0, none⟩)) := by rw [Lib.cell_of_heap hbk]; rfl
 have c1 : w1.cell? ⟨b, 1, none⟩ = some v := by rw [Lib.cell_of_heap hbk]; rfl
 go_wp2_with (at_builtin; refine Lib.wpList_append_own_string _ rfl _ _ 35 9 rfl B 5 i0 Tryz.underlying35 Tryz.underlying9 hi hz0 hz1 hz2 _ _ _ rfl hown s rfl ?c3 ?c4 ?c5 ?_)
 case c3 => unfold maxLen; omega
 case c4 => omega
 case c5 => have := hb1.size; omega
 intro v' w2 hown' hgrow _
 have hlt : b < w1.heap.size := by
  rcases Nat.lt_or_ge b w1.heap.size with h' | h'
  ·exact h'
  ·simp [Array.getElem?_eq_none h'] at hbk
 have hb2 : w2.heap[b]? = some (.cells #[.pointer (some ⟨b, 0, none⟩), v] 37 (0, 0)) := by
  rw [hgrow.block b hlt (fun e => hne e.symm)]
  exact hbk
 have d0 : w2.cell? ⟨b, 0, none⟩ = some (.pointer (some ⟨b, 0, none⟩)) := by rw [Lib.cell_of_heap hb2]; rfl
 have d1 : w2.cell? ⟨b, 1, none⟩ = some v := by rw [Lib.cell_of_heap hb2]; rfl
 have f1 : w2.frozen? ⟨b, 1, none⟩ = false := Lib.frozen_of_heap hb2 1
 obtain ⟨ao, n', cap, rfl⟩ : ∃ ao n' cap, v' = .slice ao n' cap := by
  rcases hown'.2 with ⟨hv, _⟩ | ⟨g, cap, cur, hv, _⟩
  ·exact ⟨_, _, _, hv⟩
  ·exact ⟨_, _, _, hv⟩
 go_wp2
 go_ret2
 refine ⟨rfl, ?_, ?_, ?_⟩
 ·exact Lib.BuilderAt.put (T := 37) (e := 5) hB hb2 (bs' := bs ++ Lib.strCells s) (by simpa [Lib.strCells_length] using hown') (by decide)
 ·exact (hb1.grown hgrow (by have := hb1.size; omega) (fun k hk => (hown.lt k hk).1)).setCell (p := ⟨b, 1, none⟩) hB _
 ·intro j cs t fr hj ht hjb
  have hj1 : w1.heap[j]? = some (.cells cs t fr) := (HSM.out j hjb).trans hj
  have hlt1 : j < w1.heap.size := by
   rcases Nat.lt_or_ge j w1.heap.size with h' | h'
   ·exact h'
   ·rw [Array.getElem?_eq_none h'] at hj1; cases hj1
  refine (Below.heap_setCell w2 ⟨b, 1, none⟩ _ j hjb).trans ?_
  rw [hgrow.block j hlt1 (fun e => Lib.ownBlock_ne hown hj1 ht e.symm)]
  exact hj1
end

section
open Go.RowKit Go.Lib

theorem Wrong.of {line : Int} {w w1 w' : World} {e : Ending} (h : Wrong line w1 e w') (hb : Below w.heap.size w w1) : Wrong line w e w' := ⟨h.1, then_under hb h.2⟩
theorem point_three' {L : List ByteArray} {p : P3} (h : pointS (L.map (·.data.toList)) = some p) : ∃ a b c, L = [a, b, c] ∧ numberS a.data.toList 10 false = some p.1 ∧ numberS b.data.toList 10 true = some p.2.1 ∧ numberS c.data.toList 10 true = some p.2.2 := by
  match L, h with
  | [], h => cases h
  | [a], h => cases h
  | [a, b], h => cases h
  | [a, b, c], h =>
    simp only [List.map_cons, List.map_nil, pointS] at h
    refine ⟨a, b, c, rfl, ?_⟩
    cases ha : numberS a.data.toList 10 false with
    | none => rw [ha] at h; cases h
    | some x =>
      cases hb : numberS b.data.toList 10 true with
      | none => rw [ha, hb] at h; cases h
      | some y =>
        cases hc : numberS c.data.toList 10 true with
        | none => rw [ha, hb, hc] at h; cases h
        | some z =>
          rw [ha, hb, hc] at h
          injection h with h
          subst h
          exact ⟨rfl, rfl, rfl⟩
  | a :: b :: c :: d :: l, h => cases h
set_option maxRecDepth 100000 in
set_option maxHeartbeats 4000000 in
theorem readPoint_few (A : Option Addr) (n c : Nat) (line : Int) (w : World) (hn : n ≠ 3) (hm : n ≤ maxLen) :
  Calls Tryz.prog 37 #[.slice A n c, .int .i64 line] w (Wrong line w) := by
 unfold maxLen at hm
 have hn1 : ((n : Int) != 3) = true := by simp; omega
 have hn2 : ¬ (n : Int) = 3 := by omega
 go_enter Tryz.func37, Tryz.ntmps37
 go_wp2_with fail
 exact ⟨rfl, rfl, alloc_under _ _⟩
-- WALKS
set_option maxRecDepth 100000 in
set_option maxHeartbeats 4000000 in
theorem readPoint_yes (g c : Nat) (x y z : ByteArray) (n1 n2 n3 line : Int) (w : World) (hS : StrsAt w g [x, y, z]) (hx : x.size ≤ 1000000) (hy : y.size ≤ 1000000) (hz : z.size ≤ 1000000) (hL : LaidW w)
  (h1 : numberS x.data.toList 10 true = some n1) (h2 : numberS y.data.toList 10 true = some n2) (h3 : numberS z.data.toList 10 true = some n3) (h0 : 0 ≤ n1) :
  Calls Tryz.prog 37 #[.slice (some ⟨g, 0, none⟩) 3 c, .int .i64 line] w fun e w' => e = .returned (.agg #[.int .i64 n1, .int .i64 n2, .int .i64 n3]) ∧ Below w.heap.size w w' := by
 have HNx := Lib.hid (fun W (hW : LaidW W) => readNumber_yes x line n1 W hx h1 hW)
 have HNy := Lib.hid (fun W (hW : LaidW W) => readNumber_yes y line n2 W hy h2 hW)
 have HNz := Lib.hid (fun W (hW : LaidW W) => readNumber_yes z line n3 W hz h3 hW)
 clear h1 h2 h3 hx hy hz
 obtain ⟨hg, hcells⟩ := hS
 have c0 := hcells 0 x rfl
 have c1 := hcells 1 y rfl
 have c2 := hcells 2 z rfl
 have HC := Lib.hid (show (w.cell? ⟨g, 0, none⟩ = some (.string x)) ∧ (w.cell? ⟨g, 1, none⟩ = some (.string y)) ∧ (w.cell? ⟨g, 2, none⟩ = some (.string z)) from ⟨c0, c1, c2⟩)
 have HL := Lib.hid hL
 clear hcells c0 c1 c2 hL
 go_enter Tryz.func37, Tryz.ntmps37
 go_upto_region 5 with fail
 obtain ⟨W, hW⟩ : ∃ W, ((w.alloc (Obj.cells #[Value.int IntKind.i64 0, Value.int IntKind.i64 0, Value.int IntKind.i64 0] 39)).alloc (Obj.cells #[Value.int IntKind.i64 0, Value.int IntKind.i64 0, Value.int IntKind.i64 0] 114)) = W := ⟨_, rfl⟩
 have hR := (Blk.new w 39 #[Value.int IntKind.i64 0, Value.int IntKind.i64 0, Value.int IntKind.i64 0]).alloc (Obj.cells #[Value.int IntKind.i64 0, Value.int IntKind.i64 0, Value.int IntKind.i64 0] 114)
 have hN := Blk.new (w.alloc (Obj.cells #[Value.int IntKind.i64 0, Value.int IntKind.i64 0, Value.int IntKind.i64 0] 39)) 114 #[Value.int IntKind.i64 0, Value.int IntKind.i64 0, Value.int IntKind.i64 0]
 have hB := (alloc_under w (Obj.cells #[Value.int IntKind.i64 0, Value.int IntKind.i64 0, Value.int IntKind.i64 0] 39)).alloc (by simp) (Obj.cells #[Value.int IntKind.i64 0, Value.int IntKind.i64 0, Value.int IntKind.i64 0] 114)
 rw [show (w.alloc (Obj.cells #[Value.int IntKind.i64 0, Value.int IntKind.i64 0, Value.int IntKind.i64 0] 39)).heap.size = w.heap.size + 1 by simp] at hN
 rw [hW] at hR hN hB ⊢
 obtain ⟨R, hr⟩ : ∃ R, w.heap.size = R := ⟨_, rfl⟩
 obtain ⟨N, hn⟩ : ∃ N, w.heap.size + 1 = N := ⟨_, rfl⟩
 have HRN := Lib.hid (show g < w.heap.size ∧ w.heap.size ≤ R ∧ w.heap.size ≤ N ∧ R ≠ N by omega)
 rw [hn] at hN ⊢
 rw [hr] at hR ⊢
 have HR := Lib.hid hR; have HN := Lib.hid hN; have HB := Lib.hid hB
 clear hW hR hN hB hr hn hg
 go_loopw [16] (fun i wr => ∃ (k : Nat) (a b d : Int), k ≤ 3 ∧ i = .int .i64 k ∧ Blk wr R 39 #[.int .i64 0, .int .i64 0, .int .i64 0] ∧ Blk wr N 114 #[.int .i64 a, .int .i64 b, .int .i64 d] ∧ Below w.heap.size w wr ∧ Hid ((0 < k → a = n1) ∧ (1 < k → b = n2) ∧ (2 < k → d = n3))) (fun i _ => 3 - (intOf i).toNat)
 case atStart => exact ⟨0, 0, 0, 0, by omega, rfl, HR.out, HN.out, HB.out, Lib.hid ⟨fun h => by omega, fun h => by omega, fun h => by omega⟩⟩
 case round =>
  obtain ⟨k, a, b, d, hk, rfl, hR, hN, hB, HI⟩ := hrel
  have HL1 := Lib.hid (HL.out.below hB)
  have HR1 := Lib.hid hR; have HN1 := Lib.hid hN; have HB1 := Lib.hid hB
  obtain ⟨q0, q1, q2⟩ := HC.out
  rw [← hB.cell (p := ⟨g, 0, none⟩) HRN.out.1] at q0
  rw [← hB.cell (p := ⟨g, 1, none⟩) HRN.out.1] at q1
  rw [← hB.cell (p := ⟨g, 2, none⟩) HRN.out.1] at q2
  clear hR hN hB
  rcases (show k = 0 ∨ k = 1 ∨ k = 2 ∨ k = 3 by omega) with rfl | rfl | rfl | rfl
  ·clear q1 q2
   go_wp2_with (go_at_call 61; refine (HNx.out _ HL1.out).mono ?_)
   rintro e w2 ⟨rfl, hb⟩
   have hN2 := HN1.out.below hb HN1.out.lt
   have HN2 := Lib.hid hN2; have HR2 := Lib.hid (HR1.out.below hb HR1.out.lt); have HB2 := Lib.hid (then_under HB1.out hb)
   have d0 : w2.cell? ⟨N, 0, none⟩ = some (.int .i64 a) := hN2.cell 0
   have f0 : w2.frozen? ⟨N, 0, none⟩ = false := hN2.frozen 0
   clear hb hN2 q0
   go_wp2_with fail
   go_roundw
   case rel =>
    have hN3 := HN2.out.set_ 0 (.int .i64 n1)
    have hR3 := HR2.out.far (p := ⟨N, 0, none⟩) HRN.out.2.2.2 (.int .i64 n1)
    have hB3 := HB2.out.setCell (p := ⟨N, 0, none⟩) HRN.out.2.2.1 (.int .i64 n1)
    refine ⟨1, n1, b, d, by omega, by go_num, hR3, by simpa using hN3, hB3, Lib.hid ?_⟩
    exact ⟨fun h => rfl, fun h => by omega, fun h => by omega⟩
   case measure => simp [intOf]
  ·clear q0 q2
   go_wp2_with (go_at_call 61; refine (HNy.out _ HL1.out).mono ?_)
   rintro e w2 ⟨rfl, hb⟩
   have hN2 := HN1.out.below hb HN1.out.lt
   have HN2 := Lib.hid hN2; have HR2 := Lib.hid (HR1.out.below hb HR1.out.lt); have HB2 := Lib.hid (then_under HB1.out hb)
   have d0 : w2.cell? ⟨N, 1, none⟩ = some (.int .i64 b) := hN2.cell 1
   have f0 : w2.frozen? ⟨N, 1, none⟩ = false := hN2.frozen 1
   clear hb hN2 q1
   go_wp2_with fail
   go_roundw
   case rel =>
    have hN3 := HN2.out.set_ 1 (.int .i64 n2)
    have hR3 := HR2.out.far (p := ⟨N, 1, none⟩) HRN.out.2.2.2 (.int .i64 n2)
    have hB3 := HB2.out.setCell (p := ⟨N, 1, none⟩) HRN.out.2.2.1 (.int .i64 n2)
    refine ⟨2, a, n2, d, by omega, by go_num, hR3, by simpa using hN3, hB3, Lib.hid ?_⟩
    exact ⟨fun h => HI.out.1 (by omega), fun h => rfl, fun h => by omega⟩
   case measure => simp [intOf]
  ·clear q0 q1
   go_wp2_with (go_at_call 61; refine (HNz.out _ HL1.out).mono ?_)
   rintro e w2 ⟨rfl, hb⟩
   have hN2 := HN1.out.below hb HN1.out.lt
   have HN2 := Lib.hid hN2; have HR2 := Lib.hid (HR1.out.below hb HR1.out.lt); have HB2 := Lib.hid (then_under HB1.out hb)
   have d0 : w2.cell? ⟨N, 2, none⟩ = some (.int .i64 d) := hN2.cell 2
   have f0 : w2.frozen? ⟨N, 2, none⟩ = false := hN2.frozen 2
   clear hb hN2 q2
   go_wp2_with fail
   go_roundw
   case rel =>
    have hN3 := HN2.out.set_ 2 (.int .i64 n3)
    have hR3 := HR2.out.far (p := ⟨N, 2, none⟩) HRN.out.2.2.2 (.int .i64 n3)
    have hB3 := HB2.out.setCell (p := ⟨N, 2, none⟩) HRN.out.2.2.1 (.int .i64 n3)
    refine ⟨3, a, b, n3, by omega, by go_num, hR3, by simpa using hN3, hB3, Lib.hid ?_⟩
    exact ⟨fun h => HI.out.1 (by omega), fun h => HI.out.2.1 (by omega), fun h => rfl⟩
   case measure => simp [intOf]
  ·obtain ⟨rfl, rfl, rfl⟩ : a = n1 ∧ b = n2 ∧ d = n3 := ⟨HI.out.1 (by omega), HI.out.2.1 (by omega), HI.out.2.2 (by omega)⟩
   have e0 : wr.cell? ⟨N, 0, none⟩ = some (.int .i64 a) := HN1.out.cell 0
   have e1 : wr.cell? ⟨N, 1, none⟩ = some (.int .i64 b) := HN1.out.cell 1
   have e2 : wr.cell? ⟨N, 2, none⟩ = some (.int .i64 d) := HN1.out.cell 2
   have r0 : wr.cell? ⟨R, 0, none⟩ = some (.int .i64 0) := HR1.out.cell 0
   have r1 : wr.cell? ⟨R, 1, none⟩ = some (.int .i64 0) := HR1.out.cell 1
   have r2 : wr.cell? ⟨R, 2, none⟩ = some (.int .i64 0) := HR1.out.cell 2
   have k0 : wr.frozen? ⟨R, 0, none⟩ = false := HR1.out.frozen 0
   have k1 : wr.frozen? ⟨R, 1, none⟩ = false := HR1.out.frozen 1
   have k2 : wr.frozen? ⟨R, 2, none⟩ = false := HR1.out.frozen 2
   have hneg : ¬ a < 0 := by omega
   clear q0 q1 q2
   go_wp2_with fail
   refine bodyPost_ret (v := .agg #[.int .i64 a, .int .i64 b, .int .i64 d]) (by simp [results, Tryz.results37, go_sem, r0, r1, r2]) rfl ⟨rfl, ?_⟩
   exact ((HB1.out.setCell (p := ⟨R, 0, none⟩) HRN.out.2.1 _).setCell (p := ⟨R, 1, none⟩) HRN.out.2.1 _).setCell (p := ⟨R, 2, none⟩) HRN.out.2.1 _
set_option maxRecDepth 100000 in
set_option maxHeartbeats 4000000 in
theorem readPoint_no (g c : Nat) (x y z : ByteArray) (line : Int) (w : World) (hS : StrsAt w g [x, y, z]) (hx : x.size ≤ 1000000) (hy : y.size ≤ 1000000) (hz : z.size ≤ 1000000) (hL : LaidW w)
  (h : ∀ n1 n2 n3, numberS x.data.toList 10 true = some n1 → numberS y.data.toList 10 true = some n2 → numberS z.data.toList 10 true = some n3 → n1 < 0) :
  Calls Tryz.prog 37 #[.slice (some ⟨g, 0, none⟩) 3 c, .int .i64 line] w (Wrong line w) := by
 obtain ⟨ox, hox⟩ : ∃ o, numberS x.data.toList 10 true = o := ⟨_, rfl⟩
 obtain ⟨oy, hoy⟩ : ∃ o, numberS y.data.toList 10 true = o := ⟨_, rfl⟩
 obtain ⟨oz, hoz⟩ : ∃ o, numberS z.data.toList 10 true = o := ⟨_, rfl⟩
 have HH := Lib.hid h
 rw [hox, hoy, hoz] at HH
 have HYx := Lib.hid (fun n (ho : ox = some n) W (hW : LaidW W) => readNumber_yes x line n W hx (hox.trans ho) hW)
 have HYy := Lib.hid (fun n (ho : oy = some n) W (hW : LaidW W) => readNumber_yes y line n W hy (hoy.trans ho) hW)
 have HYz := Lib.hid (fun n (ho : oz = some n) W (hW : LaidW W) => readNumber_yes z line n W hz (hoz.trans ho) hW)
 have HZx := Lib.hid (fun (ho : ox = none) W (hW : LaidW W) => readNumber_no x line W hx (hox.trans ho) hW)
 have HZy := Lib.hid (fun (ho : oy = none) W (hW : LaidW W) => readNumber_no y line W hy (hoy.trans ho) hW)
 have HZz := Lib.hid (fun (ho : oz = none) W (hW : LaidW W) => readNumber_no z line W hz (hoz.trans ho) hW)
 clear h hox hoy hoz hx hy hz
 obtain ⟨hg, hcells⟩ := hS
 have c0 := hcells 0 x rfl
 have c1 := hcells 1 y rfl
 have c2 := hcells 2 z rfl
 have HC := Lib.hid (show (w.cell? ⟨g, 0, none⟩ = some (.string x)) ∧ (w.cell? ⟨g, 1, none⟩ = some (.string y)) ∧ (w.cell? ⟨g, 2, none⟩ = some (.string z)) from ⟨c0, c1, c2⟩)
 have HL := Lib.hid hL
 clear hcells c0 c1 c2 hL
 go_enter Tryz.func37, Tryz.ntmps37
 go_upto_region 5 with fail
 obtain ⟨W, hW⟩ : ∃ W, ((w.alloc (Obj.cells #[Value.int IntKind.i64 0, Value.int IntKind.i64 0, Value.int IntKind.i64 0] 39)).alloc (Obj.cells #[Value.int IntKind.i64 0, Value.int IntKind.i64 0, Value.int IntKind.i64 0] 114)) = W := ⟨_, rfl⟩
 have hR := (Blk.new w 39 #[Value.int IntKind.i64 0, Value.int IntKind.i64 0, Value.int IntKind.i64 0]).alloc (Obj.cells #[Value.int IntKind.i64 0, Value.int IntKind.i64 0, Value.int IntKind.i64 0] 114)
 have hN := Blk.new (w.alloc (Obj.cells #[Value.int IntKind.i64 0, Value.int IntKind.i64 0, Value.int IntKind.i64 0] 39)) 114 #[Value.int IntKind.i64 0, Value.int IntKind.i64 0, Value.int IntKind.i64 0]
 have hB := (alloc_under w (Obj.cells #[Value.int IntKind.i64 0, Value.int IntKind.i64 0, Value.int IntKind.i64 0] 39)).alloc (by simp) (Obj.cells #[Value.int IntKind.i64 0, Value.int IntKind.i64 0, Value.int IntKind.i64 0] 114)
 rw [show (w.alloc (Obj.cells #[Value.int IntKind.i64 0, Value.int IntKind.i64 0, Value.int IntKind.i64 0] 39)).heap.size = w.heap.size + 1 by simp] at hN
 rw [hW] at hR hN hB ⊢
 obtain ⟨R, hr⟩ : ∃ R, w.heap.size = R := ⟨_, rfl⟩
 obtain ⟨N, hn⟩ : ∃ N, w.heap.size + 1 = N := ⟨_, rfl⟩
 have HRN := Lib.hid (show g < w.heap.size ∧ w.heap.size ≤ R ∧ w.heap.size ≤ N ∧ R ≠ N by omega)
 rw [hn] at hN ⊢
 rw [hr] at hR ⊢
 have HR := Lib.hid hR; have HN := Lib.hid hN; have HB := Lib.hid hB
 clear hW hR hN hB hr hn hg
 go_loopw [16] (fun i wr => ∃ (k : Nat) (a b d : Int), k ≤ 3 ∧ i = .int .i64 k ∧ Blk wr R 39 #[.int .i64 0, .int .i64 0, .int .i64 0] ∧ Blk wr N 114 #[.int .i64 a, .int .i64 b, .int .i64 d] ∧ Below w.heap.size w wr ∧ Hid ((0 < k → ox = some a) ∧ (1 < k → oy = some b) ∧ (2 < k → oz = some d))) (fun i _ => 3 - (intOf i).toNat)
 case atStart => exact ⟨0, 0, 0, 0, by omega, rfl, HR.out, HN.out, HB.out, Lib.hid ⟨fun h => by omega, fun h => by omega, fun h => by omega⟩⟩
 case round =>
  obtain ⟨k, a, b, d, hk, rfl, hR, hN, hB, HI⟩ := hrel
  have HL1 := Lib.hid (HL.out.below hB)
  have HR1 := Lib.hid hR; have HN1 := Lib.hid hN; have HB1 := Lib.hid hB
  obtain ⟨q0, q1, q2⟩ := HC.out
  rw [← hB.cell (p := ⟨g, 0, none⟩) HRN.out.1] at q0
  rw [← hB.cell (p := ⟨g, 1, none⟩) HRN.out.1] at q1
  rw [← hB.cell (p := ⟨g, 2, none⟩) HRN.out.1] at q2
  clear hR hN hB
  rcases (show k = 0 ∨ k = 1 ∨ k = 2 ∨ k = 3 by omega) with rfl | rfl | rfl | rfl
  ·rcases ox with _ | n
   ·have HNo := Lib.hid (HZx.out rfl)
    clear q1 q2
    go_wp2_with (go_at_call 61; refine (HNo.out _ HL1.out).mono ?_)
    rintro e w2 ⟨rfl, hb⟩
    exact ⟨rfl, rfl, then_under HB1.out hb⟩
   ·have HNx := Lib.hid (HYx.out n rfl)
    clear q1 q2
    go_wp2_with (go_at_call 61; refine (HNx.out _ HL1.out).mono ?_)
    rintro e w2 ⟨rfl, hb⟩
    have hN2 := HN1.out.below hb HN1.out.lt
    have HN2 := Lib.hid hN2; have HR2 := Lib.hid (HR1.out.below hb HR1.out.lt); have HB2 := Lib.hid (then_under HB1.out hb)
    have d0 : w2.cell? ⟨N, 0, none⟩ = some (.int .i64 a) := hN2.cell 0
    have f0 : w2.frozen? ⟨N, 0, none⟩ = false := hN2.frozen 0
    clear hb hN2 q0
    go_wp2_with fail
    go_roundw
    case rel =>
     have hN3 := HN2.out.set_ 0 (.int .i64 n)
     have hR3 := HR2.out.far (p := ⟨N, 0, none⟩) HRN.out.2.2.2 (.int .i64 n)
     have hB3 := HB2.out.setCell (p := ⟨N, 0, none⟩) HRN.out.2.2.1 (.int .i64 n)
     refine ⟨1, n, b, d, by omega, by go_num, hR3, by simpa using hN3, hB3, Lib.hid ?_⟩
     exact ⟨fun h => rfl, fun h => by omega, fun h => by omega⟩
    case measure => simp [intOf]
  ·rcases oy with _ | n
   ·have HNo := Lib.hid (HZy.out rfl)
    clear q0 q2
    go_wp2_with (go_at_call 61; refine (HNo.out _ HL1.out).mono ?_)
    rintro e w2 ⟨rfl, hb⟩
    exact ⟨rfl, rfl, then_under HB1.out hb⟩
   ·have HNy := Lib.hid (HYy.out n rfl)
    clear q0 q2
    go_wp2_with (go_at_call 61; refine (HNy.out _ HL1.out).mono ?_)
    rintro e w2 ⟨rfl, hb⟩
    have hN2 := HN1.out.below hb HN1.out.lt
    have HN2 := Lib.hid hN2; have HR2 := Lib.hid (HR1.out.below hb HR1.out.lt); have HB2 := Lib.hid (then_under HB1.out hb)
    have d0 : w2.cell? ⟨N, 1, none⟩ = some (.int .i64 b) := hN2.cell 1
    have f0 : w2.frozen? ⟨N, 1, none⟩ = false := hN2.frozen 1
    clear hb hN2 q1
    go_wp2_with fail
    go_roundw
    case rel =>
     have hN3 := HN2.out.set_ 1 (.int .i64 n)
     have hR3 := HR2.out.far (p := ⟨N, 1, none⟩) HRN.out.2.2.2 (.int .i64 n)
     have hB3 := HB2.out.setCell (p := ⟨N, 1, none⟩) HRN.out.2.2.1 (.int .i64 n)
     refine ⟨2, a, n, d, by omega, by go_num, hR3, by simpa using hN3, hB3, Lib.hid ?_⟩
     exact ⟨fun h => HI.out.1 (by omega), fun h => rfl, fun h => by omega⟩
    case measure => simp [intOf]
  ·rcases oz with _ | n
   ·have HNo := Lib.hid (HZz.out rfl)
    clear q0 q1
    go_wp2_with (go_at_call 61; refine (HNo.out _ HL1.out).mono ?_)
    rintro e w2 ⟨rfl, hb⟩
    exact ⟨rfl, rfl, then_under HB1.out hb⟩
   ·have HNz := Lib.hid (HYz.out n rfl)
    clear q0 q1
    go_wp2_with (go_at_call 61; refine (HNz.out _ HL1.out).mono ?_)
    rintro e w2 ⟨rfl, hb⟩
    have hN2 := HN1.out.below hb HN1.out.lt
    have HN2 := Lib.hid hN2; have HR2 := Lib.hid (HR1.out.below hb HR1.out.lt); have HB2 := Lib.hid (then_under HB1.out hb)
    have d0 : w2.cell? ⟨N, 2, none⟩ = some (.int .i64 d) := hN2.cell 2
    have f0 : w2.frozen? ⟨N, 2, none⟩ = false := hN2.frozen 2
    clear hb hN2 q2
    go_wp2_with fail
    go_roundw
    case rel =>
     have hN3 := HN2.out.set_ 2 (.int .i64 n)
     have hR3 := HR2.out.far (p := ⟨N, 2, none⟩) HRN.out.2.2.2 (.int .i64 n)
     have hB3 := HB2.out.setCell (p := ⟨N, 2, none⟩) HRN.out.2.2.1 (.int .i64 n)
     refine ⟨3, a, b, n, by omega, by go_num, hR3, by simpa using hN3, hB3, Lib.hid ?_⟩
     exact ⟨fun h => HI.out.1 (by omega), fun h => HI.out.2.1 (by omega), fun h => rfl⟩
    case measure => simp [intOf]
  ·have hneg : a < 0 := HH.out a b d (HI.out.1 (by omega)) (HI.out.2.1 (by omega)) (HI.out.2.2 (by omega))
   have e0 : wr.cell? ⟨N, 0, none⟩ = some (.int .i64 a) := HN1.out.cell 0
   clear q0 q1 q2
   go_wp2_with fail
   exact ⟨rfl, rfl, HB1.out⟩
end

section
open Go.RowKit Go.Lib

theorem readPoint_good (A : Option Addr) (n c : Nat) (L : List ByteArray) (p : P3) (line : Int) (w : World) (hn : L.length = n) (hA : 0 < n → ∃ g, A = some ⟨g, 0, none⟩ ∧ StrsAt w g L) (hL : LaidW w) (hs : ∀ x ∈ L, x.size ≤ 1000000)
    (h : pointS (L.map (·.data.toList)) = some p) :
    Calls Tryz.prog 37 #[.slice A n c, .int .i64 line] w fun e w' => e = .returned (.agg #[.int .i64 p.1, .int .i64 p.2.1, .int .i64 p.2.2]) ∧ Below w.heap.size w w' := by
  obtain ⟨x, y, z, rfl, h1, h2, h3⟩ := point_three' h
  obtain rfl : 3 = n := hn
  obtain ⟨g, rfl, hS⟩ := hA (by omega)
  exact readPoint_yes g c x y z _ _ _ line w hS (hs x (by simp)) (hs y (by simp)) (hs z (by simp)) hL (number_pos.1 h1).1 h2 h3 (number_pos.1 h1).2
theorem readPoint_bad (A : Option Addr) (n c : Nat) (L : List ByteArray) (line : Int) (w : World) (hn : L.length = n) (hm : n ≤ maxLen) (hA : 0 < n → ∃ g, A = some ⟨g, 0, none⟩ ∧ StrsAt w g L) (hL : LaidW w) (hs : ∀ x ∈ L, x.size ≤ 1000000)
    (h : pointS (L.map (·.data.toList)) = none) :
    Calls Tryz.prog 37 #[.slice A n c, .int .i64 line] w (Wrong line w) := by
  by_cases h3 : n = 3
  · subst h3
    obtain ⟨g, rfl, hS⟩ := hA (by omega)
    match L, hn, hS, hs, h with
    | [x, y, z], _, hS, hs, h =>
      refine readPoint_no g c x y z line w hS (hs x (by simp)) (hs y (by simp)) (hs z (by simp)) hL fun n1 n2 n3 e1 e2 e3 => ?_
      refine Decidable.byContradiction fun hc => ?_
      simp only [List.map_cons, List.map_nil, pointS] at h
      rw [number_pos.2 ⟨e1, by omega⟩, e2, e3] at h
      cases h
  · exact readPoint_few A n c line w h3 hm
theorem cut_call (s : ByteArray) (w : World) (hs : s.size ≤ 1000000) (hL : LaidW w) :
    Calls Tryz.prog 34 #[.string s, .string ⟨#[10]⟩] w fun e w' => e = .returned (.tuple #[.string ⟨(cut s.data.toList [10]).1.toArray⟩, .string ⟨(cut s.data.toList [10]).2.1.toArray⟩, .bool (cut s.data.toList [10]).2.2]) ∧ Below w.heap.size w w' := by
  obtain ⟨m, hm⟩ := hL.most
  refine (Tryz.strings_Cut s ⟨#[10]⟩ m w (by omega) hm).mono ?_
  rintro e w' ⟨rfl, n, rfl⟩
  exact ⟨rfl, below_drewN' (Below.refl _ _) n⟩
theorem cut_sizes : ∀ (l : List UInt8), (cut l [10]).1.length ≤ l.length ∧ (cut l [10]).2.1.length ≤ l.length
  | [] => by rw [cut_nil]; exact ⟨Nat.le_refl _, Nat.le_refl _⟩
  | b :: l => by
    have ih := cut_sizes l
    by_cases h : b = 10
    · subst h
      rw [(cut_nl l).1, (cut_nl l).2]
      simp
    · rw [(cut_cons h l).1, (cut_cons h l).2]
      simp only [List.length_cons]
      omega
theorem space_pays (w : World) : PredAtRunes Tryz.prog 36 #[] spaceP w := by
  intro W x _ _
  refine (space_any (x : Int) W).mono ?_
  rintro e w' ⟨rfl, rfl⟩
  refine ⟨?_, 0, rfl⟩
  congr 2
  unfold spaceP
  rw [Bool.eq_iff_iff, beq_iff_eq, beq_iff_eq]
  omega
theorem wordsGo_many : ∀ (l cur : List UInt8), (wordsGo cur l).length ≤ l.length + 1
  | [], cur => by
    rw [wordsGo]
    split <;> simp
  | b :: l, cur => by
    rw [wordsGo]
    split
    · have ih := wordsGo_many l []
      split <;> (simp only [List.length_cons]; omega)
    · have ih := wordsGo_many l (cur ++ [b])
      simp only [List.length_cons]
      omega
theorem fields_call (s : ByteArray) (w : World) (hs : s.size ≤ 1000000) :
    Calls Tryz.prog 35 #[.string s, .func (.func 36) #[] #[]] w fun e w' => ∃ A L, e = .returned (.slice (some ⟨A, 0, none⟩) L.length L.length) ∧ (0 < L.length → StrsAt w' A L) ∧ L.map (·.data.toList) = wordsS s.data.toList ∧ Below w.heap.size w w' := by
  refine (Tryz.strings_FieldsFunc_runes 36 #[] (fun args w => enters_of Tryz.func36 (by kernel_rfl) rfl args w) spaceP s w (by omega) (space_pays w)).mono ?_
  rintro e w' ⟨A, rfl, hA, hown, hb⟩
  refine ⟨A, goFieldsP spaceP s, rfl, fun h0 => ?_, fields_words s, hb⟩
  have ho : OwnStrs w.heap.size w' (.slice (some ⟨A, 0, none⟩) (goFieldsP spaceP s).length (goFieldsP spaceP s).length) (goFieldsP spaceP s) := by
    show w'.ownsRow w.heap.size 9 1 _ _ _
    rw [show (strs (goFieldsP spaceP s)).length = (goFieldsP spaceP s).length from List.length_map _]
    exact hown
  obtain ⟨g, c, e1, _, h2⟩ := own_lies ho h0
  injection e1 with e1
  injection e1 with e1
  injection e1 with e1
  rw [e1]
  exact h2
def takeS (l : List UInt8) : Except Nat (List P3) :=
  match readS 0 (linesS l) with
  | .error k => .error k
  | .ok [] => .error ((linesS l).length + 1)
  | .ok (p :: ps) => .ok (p :: ps)
def ReadOut (r : Except Nat (List P3)) (w : World) (e : Ending) (w' : World) : Prop :=
  match r with
  | .ok ps => ∃ v, e = .returned v ∧ OwnPts w.heap.size w' v ps ∧ Below w.heap.size w w'
  | .error k => Wrong (k : Int) w e w'
theorem take_error {l : List UInt8} {k : Nat} (h : readS 0 (linesS l) = .error k) : takeS l = .error k := by rw [takeS, h]
theorem take_none {l : List UInt8} (h : readS 0 (linesS l) = .ok []) : takeS l = .error ((linesS l).length + 1) := by rw [takeS, h]
theorem take_some {l : List UInt8} {ps : List P3} (h : readS 0 (linesS l) = .ok ps) (hp : ps ≠ []) : takeS l = .ok ps := by
  cases ps with
  | nil => exact absurd rfl hp
  | cons p q => rw [takeS, h]
set_option maxRecDepth 100000 in
set_option maxHeartbeats 4000000 in
theorem readPoints_any (s : ByteArray) (w : World) (hs : s.size ≤ 1000000) (hL : LaidW w) : Calls Tryz.prog 17 #[.string s] w (ReadOut (takeS s.data.toList) w) := by
 obtain ⟨r, hr⟩ : ∃ r, takeS s.data.toList = r := ⟨_, rfl⟩
 rw [hr]
 have HR := Lib.hid hr
 have HL := Lib.hid hL
 clear hr hL
 go_enter Tryz.func17, Tryz.ntmps17
 go_upto_region 3 with fail
 go_loopw [0, 3, 4] (fun t l n wr => ∃ (rest : ByteArray) (v : Value) (ps : List P3) (k : Nat), t = .string rest ∧ l = v ∧ n = .int .i64 k ∧ k + rest.size ≤ s.size ∧ ps.length ≤ k ∧ OwnPts w.heap.size wr v ps ∧ Below w.heap.size w wr ∧ Hid (readS 0 (linesS s.data.toList) = onto ps (readS k (linesS rest.data.toList))) ∧ Hid ((linesS s.data.toList).length = k + (linesS rest.data.toList).length)) (fun _ _ n _ => s.size - (intOf n).toNat)
 case atStart => exact ⟨s, .slice none 0 0, [], 0, rfl, rfl, rfl, by omega, by simp, World.ownsRow_nil _ _ _ _, Below.refl _ _, Lib.hid (onto_nil _).symm, Lib.hid (Nat.zero_add _).symm⟩
 case round =>
  obtain ⟨rest, v, ps, k, rfl, rfl, rfl, hk, hpk, hown, hB, HRD, HLN⟩ := hrel
  obtain ⟨A0, c0, rfl, _⟩ := pts_form hown
  have HO := Lib.hid hown; have HB := Lib.hid hB
  clear hown hB
  have hp64 : ps.length ≤ 1000000 := by omega
  by_cases hlt : rest = ⟨#[]⟩
  ·subst hlt
   have hRD := HRD.out
   rw [show (⟨#[]⟩ : ByteArray).data.toList = [] from rfl, show linesS [] = [] from rfl, readS, onto_ok, List.append_nil] at hRD
   have hLN := HLN.out
   rw [show (⟨#[]⟩ : ByteArray).data.toList = [] from rfl, show linesS [] = [] from rfl, List.length_nil, Nat.add_zero] at hLN
   by_cases hp0 : ps = []
   ·subst hp0
    have hrr : r = .error (k + 1) := by rw [← HR.out, take_none hRD, hLN]
    subst hrr
    clear hRD hLN HRD HLN
    have hk1 : IntKind.i64.wrap ((k : Int) + 1) = ((k + 1 : Nat) : Int) := by rw [IntWalk.i64_in _ ⟨by omega, by omega⟩]; omega
    go_wp2_with fail
    refine ⟨rfl, ?_, HB.out⟩
    try simp
   ·have hrr : r = .ok ps := by rw [← HR.out, take_some hRD hp0]
    subst hrr
    have hl0 : ¬ ps.length = 0 := fun h => hp0 (List.eq_nil_of_length_eq_zero h)
    have hl1 : ¬ (ps.length : Int) = 0 := by omega
    clear hRD hLN HRD HLN hp0
    go_wp2_with fail
    refine bodyPost_ret (v := .slice A0 ps.length c0) (by simp [results, Tryz.results17, go_sem]) rfl ⟨_, rfl, HO.out, HB.out⟩
  ·have hne : rest.data.toList ≠ [] := fun e => hlt (ByteArray.ext (Array.toList_inj.mp e))
   have hne2 : rest.toList.isEmpty = false := by
    rw [ByteArray.toList_eq]
    cases h : rest.data.toList with
    | nil => exact absurd h hne
    | cons a b => rfl
   have hRD := HRD.out
   have hLN := HLN.out
   rw [lines_cut hne] at hRD hLN
   have hsz := cut_shorter rest.data.toList hne
   have hsz1 := cut_sizes rest.data.toList
   obtain ⟨line, hline⟩ : ∃ b : ByteArray, (⟨(cut rest.data.toList [10]).1.toArray⟩ : ByteArray) = b := ⟨_, rfl⟩
   obtain ⟨next, hnext⟩ : ∃ b : ByteArray, (⟨(cut rest.data.toList [10]).2.1.toArray⟩ : ByteArray) = b := ⟨_, rfl⟩
   obtain ⟨fnd, hfnd⟩ : ∃ b, (cut rest.data.toList [10]).2.2 = b := ⟨_, rfl⟩
   have hl2 : (cut rest.data.toList [10]).1 = line.data.toList := by rw [← hline]
   have hn2 : (cut rest.data.toList [10]).2.1 = next.data.toList := by rw [← hnext]
   have HC := Lib.hid (cut_call rest wr (by omega) (HL.out.below HB.out))
   rw [hline, hnext, hfnd] at HC
   rw [hl2, hn2] at hRD hLN
   rw [hn2] at hsz
   rw [hl2] at hsz1
   have hls : line.size ≤ rest.size := by rw [size_eq, size_eq]; exact hsz1.1
   have hns : next.size < rest.size := by rw [size_eq, size_eq]; exact hsz
   have HRD2 := Lib.hid hRD; have HLN2 := Lib.hid hLN
   have HF := Lib.hid (fun W => fields_call line W (by omega))
   have hk1 : IntKind.i64.wrap ((k : Int) + 1) = ((k + 1 : Nat) : Int) := by rw [IntWalk.i64_in _ ⟨by omega, by omega⟩]; omega
   have hfv : (Tryz.prog.funcs[36]?).isSome = true := by kernel_rfl
   clear hRD hLN hsz hsz1 hline hnext hfnd hl2 hn2 HRD HLN hlt hne
   go_upto_region 7 with (go_at_call 34; refine HC.out.mono ?_; rintro e w1 ⟨rfl, hb⟩; have HB1 := Lib.hid hb; clear hb)
   go_upto_region 8 with (go_at_call 35; refine (HF.out _).mono ?_; rintro e w2 ⟨A, Ws, rfl, hSt, hWs, hb⟩; have HST := Lib.hid hSt; have HWS := Lib.hid hWs; have HB2 := Lib.hid (then_under HB1.out hb); clear hb hSt hWs)
   obtain ⟨M, hM⟩ : ∃ M, Ws.length = M := ⟨_, rfl⟩
   rw [hM] at HST ⊢
   have HM := Lib.hid hM
   have hlx : 0 < M → 0 < line.size := by
    intro h
    refine Nat.pos_of_ne_zero fun h0 => ?_
    have hnil : line.data.toList = [] := List.eq_nil_of_length_eq_zero (by rw [← size_eq]; exact h0)
    have h1 := HWS.out
    rw [hnil] at h1
    have h2 := congrArg List.length h1
    rw [List.length_map, HM.out] at h2
    simp [wordsS, wordsGo] at h2
    omega
   obtain ⟨tk, htk⟩ : ∃ tk, decide (¬ (wordsS line.data.toList = [] ∨ line.data.toList.getD 0 0 = 35)) = tk := ⟨_, rfl⟩
   have HTK := Lib.hid htk
   clear hM htk HF HC
   go_cut [26] (fun b wx => b = .bool tk ∧ wx = w2)
   case first =>
    by_cases hM0 : M = 0
    ·have htk1 : tk = false := by
      rw [← HTK.out]
      refine decide_eq_false fun hc => hc (.inl ?_)
      have h1 := HWS.out
      have hW0 : Ws = [] := List.eq_nil_of_length_eq_zero (by rw [HM.out]; exact hM0)
      rw [hW0] at h1
      exact h1.symm
     subst hM0
     go_wp2_with fail
     go_meet
     exact ⟨by rw [htk1], rfl⟩
    ·have hxs := hlx (by omega)
     have hMi : (0 : Int) < (M : Int) := by omega
     have htk1 : tk = ((line[0].toNat : Int) != 35) := by
      rw [← HTK.out, getD_at line 0 hxs, Bool.eq_iff_iff, decide_eq_true_eq, bne_iff_ne]
      refine Iff.trans ?_ (not_congr (byte_is line[0] 35 (by omega))).symm
      show _ ↔ ¬ line[0] = 35
      refine ⟨fun h h2 => h (.inr h2), fun h hc => hc.elim (fun h1 => ?_) h⟩
      have h2 := congrArg List.length HWS.out
      rw [List.length_map, HM.out, h1] at h2
      exact hM0 h2
     go_wp2_with fail
     go_meet
     exact ⟨by rw [htk1], rfl⟩
   case rest =>
    obtain ⟨rfl, hw⟩ := hcut
    rename World => u1
    subst hw
    have hWx : ∀ x ∈ Ws, x.size ≤ 1000000 := by
     intro x hx
     have hm : x.data.toList ∈ wordsS line.data.toList := by rw [← HWS.out]; exact List.mem_map_of_mem hx
     have := wordsGo_count line.data.toList [] _ hm
     rw [← size_eq, ← size_eq] at this
     simp only [List.length_nil] at this
     omega
    have HO2 := Lib.hid (HO.out.grown (below_grownNone HB2.out) (fun _ e => by cases e))
    have HBW := Lib.hid (then_under HB.out HB2.out)
    clear HO HB HB1 HB2 hlx
    cases tk
    ·have hskf := Decidable.of_not_not (of_decide_eq_false HTK.out)
     have hRN := HRD2.out
     rw [read_skip (line_skip hskf)] at hRN
     have HRN := Lib.hid hRN
     have hLN := HLN2.out
     rw [List.length_cons] at hLN
     have HLN := Lib.hid (show (linesS s.data.toList).length = (k + 1) + (linesS next.data.toList).length by omega)
     clear hskf hRN hLN hWx
     go_wp2_with fail
     go_roundw
     case rel => exact ⟨next, _, ps, k + 1, rfl, rfl, by go_num, by omega, by omega, HO2.out, HBW.out, HRN, HLN⟩
     case measure => simp [intOf]; omega
    ·have htake := line_take (of_decide_eq_true HTK.out)
     rw [← HWS.out] at htake
     obtain ⟨pt, hpt⟩ : ∃ pt, pointS (Ws.map (·.data.toList)) = pt := ⟨_, rfl⟩
     rw [hpt] at htake
     cases pt with
     | none =>
      have hrr : r = .error (k + 1) := by
       have h1 := HRD2.out
       rw [read_fault htake, onto_error] at h1
       rw [← HR.out, take_error h1]
      subst hrr
      have hMm : M ≤ maxLen := by
       have h1 := congrArg List.length HWS.out
       rw [List.length_map, HM.out] at h1
       have h2 := wordsGo_many line.data.toList []
       rw [← size_eq] at h2
       unfold wordsS at h1
       unfold maxLen
       omega
      have HP := Lib.hid (readPoint_bad (some ⟨A, 0, none⟩) M M Ws ((k + 1 : Nat) : Int) u1 HM.out hMm (fun h => ⟨A, rfl, HST.out h⟩) (HL.out.below HBW.out) hWx hpt)
      clear htake hpt hWx
      go_wp2_with (go_at_call 37; refine HP.out.mono ?_; rintro e w9 ⟨rfl, hb⟩)
      refine ⟨rfl, ?_, then_under HBW.out hb⟩
      try simp
     | some p =>
      have hRN := HRD2.out
      rw [read_point htake, onto_cons] at hRN
      have HRN := Lib.hid hRN
      have hLN := HLN2.out
      rw [List.length_cons] at hLN
      have HLN := Lib.hid (show (linesS s.data.toList).length = (k + 1) + (linesS next.data.toList).length by omega)
      have HP := Lib.hid (readPoint_good (some ⟨A, 0, none⟩) M M Ws p ((k + 1 : Nat) : Int) u1 HM.out (fun h => ⟨A, rfl, HST.out h⟩) (HL.out.below HBW.out) hWx hpt)
      obtain ⟨n0, n1, n2⟩ := p
      dsimp only at HP
      clear hRN hLN htake hpt hWx HST HWS HRD2 HLN2 HTK
      obtain ⟨i0, hi, hz0, hz1, hz2⟩ := info_parts Tryz.infoP
      go_wp2_with (go_at_call 37; refine HP.out.mono ?_)
      rintro e u3 ⟨rfl, hb⟩
      have HO3 := Lib.hid (HO2.out.grown (below_grownNone hb) (fun _ e => by cases e))
      have HB3 := Lib.hid (then_under HBW.out hb)
      clear hb HO2 HBW HP
      have hO4 := World.ownsRow.alloc (o := .cells #[.int .i64 n0, .int .i64 n1, .int .i64 n2] 39) (show u3.ownsRow w.heap.size 39 3 _ _ _ from HO3.out)
      have HO4 := Lib.hid hO4
      have hce : ∀ (j : Nat) (u : Value), [Value.int .i64 n0, .int .i64 n1, .int .i64 n2][j]? = some u → (u3.alloc (.cells #[.int .i64 n0, .int .i64 n1, .int .i64 n2] 39)).cell? ((⟨u3.heap.size, 0, none⟩ : Addr).add j) = some u :=
       World.news_of_block (cs := #[.int .i64 n0, .int .i64 n1, .int .i64 n2]) (t := 39) (fr := (0, 0)) (heap_alloc_new u3 _)
      have HCE := Lib.hid hce
      have hsz3 := HB3.out.size
      clear hO4 hce
      go_wp2_with (at_builtin; refine wpList_append_own _ rfl (.tmp 27) (.tmp 31) 22 rfl w.heap.size 39 i0 (.agg #[.int .i64 0, .int .i64 0, .int .i64 0]) 3 24 Tryz.underlying22 hi hz0 hz1 hz2 rfl (by decide) _ _ _ rfl HO4.out ⟨u3.heap.size, 0, none⟩ 1 1 [.int .i64 n0, .int .i64 n1, .int .i64 n2] rfl rfl HCE.out ?c2 ?c3 ?c4 ?c5 ?_)
      case c2 => simp [Value.oneCell']
      case c3 => simp only [maxLen]; omega
      case c4 => omega
      case c5 => simp; omega
      intro v' w5 hown1 hgrow _
      have hrow : ∀ j, Value.ownBlock (.slice A0 ps.length c0) = some j → w.heap.size ≤ j := fun j e => (HO4.out.lt j e).1
      have hB5 : Below w.heap.size w w5 := (HB3.out.alloc hsz3 _).grown hgrow (by simp; omega) hrow
      have hown2 : OwnPts w.heap.size w5 v' (ps ++ [(n0, n1, n2)]) := by
       unfold OwnPts
       rw [List.length_append, ptCells_snoc]
       exact hown1
      have HOW := Lib.hid hown2; have HB5 := Lib.hid hB5
      clear hown1 hgrow hrow HCE HO4 HB3 HO3 hown2 hB5
      go_wp2_with fail
      go_roundw
      case rel => exact ⟨next, v', ps ++ [(n0, n1, n2)], k + 1, rfl, rfl, by go_num, by omega, by simp; omega, HOW.out, HB5.out, HRN, HLN⟩
      case measure => simp [intOf]; omega
end

section
open Go.RowKit Go.Lib

theorem ask_nil (w : World) : (Instr.typeAssert Value.nilIface 20 48 true).run Tryz.prog w = .ok (.tuple #[.agg #[.int .i64 0], .bool false]) w := by kernel_rfl
theorem ask_wrong (x : Value) (w : World) : (Instr.typeAssert (.iface 48 x) 20 48 true).run Tryz.prog w = .ok (.tuple #[x, .bool true]) w := by kernel_rfl
set_option maxRecDepth 100000 in
set_option maxHeartbeats 2000000 in
theorem catch_idle (p q r : Addr) (w : World) :
    CallsD Tryz.prog 16 #[.pointer (some p), .pointer (some q), .pointer (some r)] .returning w fun e u' w' => e = .returned (.tuple #[]) ∧ u' = .returning ∧ Below w.heap.size w w' := by
  refine callsD_of_wpS Tryz.func16 rfl fun c₀ cs hu => ?_
  apply wpS_seq
  apply wpS_region
  simp [wpOpsS, go_sem, recoverD, hu, Tryz.ntmps16, Exit.thenS, ask_nil]
  refine wpS_of_wp ?_
  change Code.wp _ _ _ { tmps := #[.pointer (some p), .pointer (some q), .pointer (some r), .pointer (some ⟨w.heap.size, 0, none⟩), .bool false, .tuple #[.agg #[.int .i64 0], .bool false], .nilIface, .tuple #[.agg #[.int .i64 0], .bool false], .agg #[.int .i64 0], .bool false, undef, undef, undef, undef], defers := [] } _
  go_wp2
  cases c₀
  simp_all [bodyPostS, results, Tryz.results16, alloc_under]
set_option maxRecDepth 100000 in
set_option maxHeartbeats 2000000 in
theorem catch_wrong (B b1 b2 b3 : Nat) (v0 : Value) (n0 e0 k : Int) (w : World) (h1 : Blk w b1 24 #[v0]) (h2 : Blk w b2 3 #[.int .i64 n0]) (h3 : Blk w b3 25 #[.int .i64 e0]) (h12 : b1 ≠ b2) (h13 : b1 ≠ b3) (h23 : b2 ≠ b3) (hB : B ≤ b1 ∧ B ≤ b2 ∧ B ≤ b3) :
    CallsD Tryz.prog 16 #[.pointer (some ⟨b1, 0, none⟩), .pointer (some ⟨b2, 0, none⟩), .pointer (some ⟨b3, 0, none⟩)] (.panicking [{ v := .iface 48 (.agg #[.int .i64 k]), recovered := false }]) w fun e u' w' =>
      e = .returned (.tuple #[]) ∧ u' = .panicking [{ v := .iface 48 (.agg #[.int .i64 k]), recovered := true }] ∧ Blk w' b1 24 #[.slice none 0 0] ∧ Blk w' b2 3 #[.int .i64 k] ∧ Blk w' b3 25 #[.int .i64 12] ∧ Below B w w' := by
  refine callsD_of_wpS Tryz.func16 rfl fun c₀ cs hu => ?_
  apply wpS_seq
  apply wpS_region
  simp [wpOpsS, go_sem, recoverD, hu, Tryz.ntmps16, Exit.thenS, ask_wrong]
  apply wpS_seq
  apply wpS_region
  simp [wpOpsS, go_sem, Exit.thenS]
  refine wpS_cond (t := true) (by simp [Act.eval, Array.replicate]) ?_
  simp only [if_true]
  refine wpS_of_wp ?_
  simp [Array.replicate]
  have g0 := Blk.new w 48 #[.int .i64 k]
  have g1 := h1.alloc (.cells #[.int .i64 k] 48)
  have g2 := h2.alloc (.cells #[.int .i64 k] 48)
  have g3 := h3.alloc (.cells #[.int .i64 k] 48)
  have gB : Below B w (w.alloc (.cells #[.int .i64 k] 48)) := (Below.refl B w).alloc (by have := h1.lt; omega) _
  have n1 : b1 ≠ w.heap.size := by have := h1.lt; omega
  have n2 : b2 ≠ w.heap.size := by have := h2.lt; omega
  have n3 : b3 ≠ w.heap.size := by have := h3.lt; omega
  generalize w.alloc (.cells #[.int .i64 k] 48) = W at g0 g1 g2 g3 gB ⊢
  generalize hNN : w.heap.size = N at g0 n1 n2 n3 ⊢
  have c0 : W.cell? ⟨N, 0, none⟩ = some (.int .i64 k) := g0.cell 0
  have c1 : W.cell? ⟨b1, 0, none⟩ = some v0 := g1.cell 0
  have c2 : W.cell? ⟨b2, 0, none⟩ = some (.int .i64 n0) := g2.cell 0
  have c3 : W.cell? ⟨b3, 0, none⟩ = some (.int .i64 e0) := g3.cell 0
  have f1 := g1.frozen 0
  have f2 := g2.frozen 0
  have f3 := g3.frozen 0
  have m1 := n1.symm; have m2 := n2.symm; have m3 := n3.symm; have h21 := h12.symm; have h31 := h13.symm; have h32 := h23.symm
  have G := Lib.hid (And.intro g1 (And.intro g2 (And.intro g3 gB)))
  clear g0 g1 g2 g3 gB h1 h2 h3
  go_region
  obtain ⟨g1, g2, g3, gB⟩ := G.out
  refine ⟨rfl, _, rfl, .tuple #[], by simp [results, Tryz.results16, go_sem], rfl, rfl, ?_, ?_, ?_, ?_⟩
  · exact (((g1.set_ 0 (.slice none 0 0)).far (p := ⟨b2, 0, none⟩) h12 (.int .i64 k)).far (p := ⟨b3, 0, none⟩) h13 (.int .i64 12))
  · exact (((g2.far (p := ⟨b1, 0, none⟩) h21 (.slice none 0 0)).set_ 0 (.int .i64 k)).far (p := ⟨b3, 0, none⟩) h23 (.int .i64 12))
  · exact (((g3.far (p := ⟨b1, 0, none⟩) h31 (.slice none 0 0)).far (p := ⟨b2, 0, none⟩) h32 (.int .i64 k)).set_ 0 (.int .i64 12))
  · exact (((gB.setCell (p := ⟨b1, 0, none⟩) hB.1 (.slice none 0 0)).setCell (p := ⟨b2, 0, none⟩) hB.2.1 (.int .i64 k)).setCell (p := ⟨b3, 0, none⟩) hB.2.2 (.int .i64 12)).drew
end

section
open Go.RowKit Go.Lib

structure Three (w W : World) (b1 b2 b3 : Nat) (v : Value) (n e : Int) : Prop where
  k1 : Blk W b1 24 #[v]
  k2 : Blk W b2 3 #[.int .i64 n]
  k3 : Blk W b3 25 #[.int .i64 e]
  bl : Below w.heap.size w W
theorem Three.below {w W W' : World} {b1 b2 b3 : Nat} {v : Value} {n e : Int} (h : Three w W b1 b2 b3 v n e) (hb : Below W.heap.size W W') : Three w W' b1 b2 b3 v n e :=
  ⟨h.k1.below hb h.k1.lt, h.k2.below hb h.k2.lt, h.k3.below hb h.k3.lt, then_under h.bl hb⟩
theorem Three.new (w : World) : Three w (((w.alloc (Obj.cells #[Value.slice none 0 0] 24)).alloc (Obj.cells #[Value.int IntKind.i64 0] 3)).alloc (Obj.cells #[Value.int IntKind.i64 0] 25)) w.heap.size (w.heap.size + 1) (w.heap.size + 1 + 1) (.slice none 0 0) 0 0 := by
  have h1 := ((Blk.new w 24 #[Value.slice none 0 0]).alloc (Obj.cells #[Value.int IntKind.i64 0] 3)).alloc (Obj.cells #[Value.int IntKind.i64 0] 25)
  have h2 := (Blk.new (w.alloc (Obj.cells #[Value.slice none 0 0] 24)) 3 #[Value.int IntKind.i64 0]).alloc (Obj.cells #[Value.int IntKind.i64 0] 25)
  have h3 := Blk.new ((w.alloc (Obj.cells #[Value.slice none 0 0] 24)).alloc (Obj.cells #[Value.int IntKind.i64 0] 3)) 25 #[Value.int IntKind.i64 0]
  have hb := (((Below.refl w.heap.size w).alloc (Nat.le_refl _) (Obj.cells #[Value.slice none 0 0] 24)).alloc (by simp) (Obj.cells #[Value.int IntKind.i64 0] 3)).alloc (by simp; omega) (Obj.cells #[Value.int IntKind.i64 0] 25)
  refine ⟨h1, ?_, ?_, hb⟩
  · rw [show (w.alloc (Obj.cells #[Value.slice none 0 0] 24)).heap.size = w.heap.size + 1 by simp] at h2; exact h2
  · rw [show ((w.alloc (Obj.cells #[Value.slice none 0 0] 24)).alloc (Obj.cells #[Value.int IntKind.i64 0] 3)).heap.size = w.heap.size + 1 + 1 by simp] at h3; exact h3
theorem Three.put {w W : World} {b1 b2 b3 : Nat} {v : Value} {n e : Int} (h : Three w W b1 b2 b3 v n e) (hd : w.heap.size ≤ b1 ∧ b1 < b2 ∧ b2 < b3) (v' : Value) (n' e' : Int) :
    Three w (((W.setCell ⟨b1, 0, none⟩ v').setCell ⟨b2, 0, none⟩ (.int .i64 n')).setCell ⟨b3, 0, none⟩ (.int .i64 e')) b1 b2 b3 v' n' e' := by
  refine ⟨((h.k1.set_ 0 v').far (p := ⟨b2, 0, none⟩) ?_ _).far (p := ⟨b3, 0, none⟩) ?_ _, ((h.k2.far (p := ⟨b1, 0, none⟩) ?_ _).set_ 0 (.int .i64 n')).far (p := ⟨b3, 0, none⟩) ?_ _, ((h.k3.far (p := ⟨b1, 0, none⟩) ?_ _).far (p := ⟨b2, 0, none⟩) ?_ _).set_ 0 (.int .i64 e'), ((h.bl.setCell (p := ⟨b1, 0, none⟩) ?_ _).setCell (p := ⟨b2, 0, none⟩) ?_ _).setCell (p := ⟨b3, 0, none⟩) ?_ _⟩
  all_goals dsimp only; omega
set_option maxRecDepth 100000 in
set_option maxHeartbeats 4000000 in
theorem parse_long (s : ByteArray) (w : World) (hs : 8000 < s.size) : Calls Tryz.prog 6 #[.string s] w (ParseOut ([], 0, 2) w) := by
 have hlong : (8000 : Int) < s.size := by omega
 have hmf : ∀ (fn : Fn) (first cap : Array Value) (w : World), (Instr.makeFunc fn first cap).run Tryz.prog w = .ok (.func fn first cap) w := fun _ _ _ _ => rfl
 have h3 := Three.new w
 have hd : w.heap.size ≤ w.heap.size ∧ w.heap.size < w.heap.size + 1 ∧ w.heap.size + 1 < w.heap.size + 1 + 1 := by omega
 go_enter_defers Tryz.func6, Tryz.ntmps6
 go_upto_region 2 with fail
 generalize ((w.alloc (Obj.cells #[Value.slice none 0 0] 24)).alloc (Obj.cells #[Value.int IntKind.i64 0] 3)).alloc (Obj.cells #[Value.int IntKind.i64 0] 25) = W at h3 ⊢
 have hsz : w.heap.size ≤ W.heap.size := h3.bl.size
 obtain ⟨b1, hb1⟩ : ∃ b, b = w.heap.size := ⟨_, rfl⟩
 obtain ⟨b2, hb2⟩ : ∃ b, b = w.heap.size + 1 := ⟨_, rfl⟩
 obtain ⟨b3, hb3⟩ : ∃ b, b = w.heap.size + 1 + 1 := ⟨_, rfl⟩
 rw [← hb3, ← hb2] at h3 hd ⊢
 replace hd : w.heap.size ≤ b1 ∧ b1 < b2 ∧ b2 < b3 := by omega
 replace h3 : Three w W b1 b2 b3 (.slice none 0 0) 0 0 := by rw [hb1]; exact h3
 rw [show (some ({ block := w.heap.size, off := 0 } : Addr)) = some { block := b1, off := 0 } by rw [hb1]]
 have n12 : b1 ≠ b2 := by omega
 have n13 : b1 ≠ b3 := by omega
 have n23 : b2 ≠ b3 := by omega
 have n21 : b2 ≠ b1 := by omega
 have n31 : b3 ≠ b1 := by omega
 have n32 : b3 ≠ b2 := by omega
 clear hb1 hb2 hb3 hmf hsz
 have c1 : W.cell? ⟨b1, 0, none⟩ = some (.slice none 0 0) := h3.k1.cell 0
 have c2 : W.cell? ⟨b2, 0, none⟩ = some (.int .i64 0) := h3.k2.cell 0
 have c3 : W.cell? ⟨b3, 0, none⟩ = some (.int .i64 0) := h3.k3.cell 0
 have f1 : W.frozen? ⟨b1, 0, none⟩ = false := h3.k1.frozen 0
 have f2 : W.frozen? ⟨b2, 0, none⟩ = false := h3.k2.frozen 0
 have f3 : W.frozen? ⟨b3, 0, none⟩ = false := h3.k3.frozen 0
 have HP := Lib.hid (h3.put hd (.slice none 0 0) 0 2)
 clear h3
 go_wp2
 clear c1 c2 c3 f1 f2 f3
 refine leaves_cons (f := 16) (args := #[.pointer (some ⟨b1, 0, none⟩), .pointer (some ⟨b2, 0, none⟩), .pointer (some ⟨b3, 0, none⟩)]) (by simp) (by simp [go_sem]) ?_
 refine (catch_idle ⟨b1, 0, none⟩ ⟨b2, 0, none⟩ ⟨b3, 0, none⟩ _).mono ?_
 rintro e u' w9 ⟨rfl, rfl, hb9⟩
 have g3 := HP.out.below hb9
 have c1 : w9.cell? ⟨b1, 0, none⟩ = some (.slice none 0 0) := g3.k1.cell 0
 have c2 : w9.cell? ⟨b2, 0, none⟩ = some (.int .i64 0) := g3.k2.cell 0
 have c3 : w9.cell? ⟨b3, 0, none⟩ = some (.int .i64 2) := g3.k3.cell 0
 have f1 : w9.frozen? ⟨b1, 0, none⟩ = false := g3.k1.frozen 0
 have f2 : w9.frozen? ⟨b2, 0, none⟩ = false := g3.k2.frozen 0
 have f3 : w9.frozen? ⟨b3, 0, none⟩ = false := g3.k3.frozen 0
 simp [Leaves, settle, results, Tryz.results6, go_sem, c1, c2, c3]
 refine ⟨_, rfl, World.ownsRow_nil _ _ _ _, g3.bl⟩
set_option maxRecDepth 100000 in
set_option maxHeartbeats 4000000 in
theorem parse_wrong (s : ByteArray) (k : Nat) (w : World) (hs : s.size ≤ 8000) (hL : LaidW w) (h : takeS s.data.toList = .error k) : Calls Tryz.prog 6 #[.string s] w (ParseOut ([], k, 12) w) := by
 have hlong : ¬ (8000 : Int) < s.size := by omega
 have hmf : ∀ (fn : Fn) (first cap : Array Value) (w : World), (Instr.makeFunc fn first cap).run Tryz.prog w = .ok (.func fn first cap) w := fun _ _ _ _ => rfl
 have h3 := Three.new w
 have hd : w.heap.size ≤ w.heap.size ∧ w.heap.size < w.heap.size + 1 ∧ w.heap.size + 1 < w.heap.size + 1 + 1 := by omega
 go_enter_defers Tryz.func6, Tryz.ntmps6
 go_upto_region 2 with fail
 generalize ((w.alloc (Obj.cells #[Value.slice none 0 0] 24)).alloc (Obj.cells #[Value.int IntKind.i64 0] 3)).alloc (Obj.cells #[Value.int IntKind.i64 0] 25) = W at h3 ⊢
 have hsz : w.heap.size ≤ W.heap.size := h3.bl.size
 obtain ⟨b1, hb1⟩ : ∃ b, b = w.heap.size := ⟨_, rfl⟩
 obtain ⟨b2, hb2⟩ : ∃ b, b = w.heap.size + 1 := ⟨_, rfl⟩
 obtain ⟨b3, hb3⟩ : ∃ b, b = w.heap.size + 1 + 1 := ⟨_, rfl⟩
 rw [← hb3, ← hb2] at h3 hd ⊢
 replace hd : w.heap.size ≤ b1 ∧ b1 < b2 ∧ b2 < b3 := by omega
 replace h3 : Three w W b1 b2 b3 (.slice none 0 0) 0 0 := by rw [hb1]; exact h3
 rw [show (some ({ block := w.heap.size, off := 0 } : Addr)) = some { block := b1, off := 0 } by rw [hb1]]
 have n12 : b1 ≠ b2 := by omega
 have n13 : b1 ≠ b3 := by omega
 have n23 : b2 ≠ b3 := by omega
 have n21 : b2 ≠ b1 := by omega
 have n31 : b3 ≠ b1 := by omega
 have n32 : b3 ≠ b2 := by omega
 clear hb1 hb2 hb3 hmf hsz
 have HR := Lib.hid (readPoints_any s W (by omega) (hL.below h3.bl))
 rw [h] at HR
 have H3 := Lib.hid h3
 have HD := Lib.hid hd
 clear h3 hL h hd
 go_wp2_with (go_at_call 17; refine HR.out.mono ?_; rintro e w1 ⟨rfl, hb⟩; have HP := Lib.hid (H3.out.below hb); clear hb)
 refine leaves_cons (f := 16) (args := #[.pointer (some ⟨b1, 0, none⟩), .pointer (some ⟨b2, 0, none⟩), .pointer (some ⟨b3, 0, none⟩)]) (by simp) (by simp [go_sem]) ?_
 refine (catch_wrong w.heap.size b1 b2 b3 (.slice none 0 0) 0 0 (k : Int) w1 HP.out.k1 HP.out.k2 HP.out.k3 n12 n13 n23 (by have := HD.out; omega)).mono ?_
 rintro e u' w9 ⟨rfl, rfl, k1, k2, k3, hb9⟩
 have g3 : Three w w9 b1 b2 b3 (.slice none 0 0) k 12 := ⟨k1, k2, k3, HP.out.bl.trans hb9⟩
 have c1 : w9.cell? ⟨b1, 0, none⟩ = some (.slice none 0 0) := g3.k1.cell 0
 have c2 : w9.cell? ⟨b2, 0, none⟩ = some (.int .i64 k) := g3.k2.cell 0
 have c3 : w9.cell? ⟨b3, 0, none⟩ = some (.int .i64 12) := g3.k3.cell 0
 have f1 : w9.frozen? ⟨b1, 0, none⟩ = false := g3.k1.frozen 0
 have f2 : w9.frozen? ⟨b2, 0, none⟩ = false := g3.k2.frozen 0
 have f3 : w9.frozen? ⟨b3, 0, none⟩ = false := g3.k3.frozen 0
 simp [Leaves, settle, results, Tryz.results6, go_sem, c1, c2, c3]
 exact ⟨_, rfl, World.ownsRow_nil _ _ _ _, g3.bl⟩
set_option maxRecDepth 100000 in
set_option maxHeartbeats 4000000 in
theorem parse_bad (s : ByteArray) (ps : List P3) (w : World) (hs : s.size ≤ 8000) (hps : ps.length ≤ 1000000) (hL : LaidW w) (h : takeS s.data.toList = .ok ps) (ht : tabOk ps = false) : Calls Tryz.prog 6 #[.string s] w (ParseOut ([], 0, 11) w) := by
 have hlong : ¬ (8000 : Int) < s.size := by omega
 have hmf : ∀ (fn : Fn) (first cap : Array Value) (w : World), (Instr.makeFunc fn first cap).run Tryz.prog w = .ok (.func fn first cap) w := fun _ _ _ _ => rfl
 have h3 := Three.new w
 have hd : w.heap.size ≤ w.heap.size ∧ w.heap.size < w.heap.size + 1 ∧ w.heap.size + 1 < w.heap.size + 1 + 1 := by omega
 go_enter_defers Tryz.func6, Tryz.ntmps6
 go_upto_region 2 with fail
 generalize ((w.alloc (Obj.cells #[Value.slice none 0 0] 24)).alloc (Obj.cells #[Value.int IntKind.i64 0] 3)).alloc (Obj.cells #[Value.int IntKind.i64 0] 25) = W at h3 ⊢
 have hsz : w.heap.size ≤ W.heap.size := h3.bl.size
 obtain ⟨b1, hb1⟩ : ∃ b, b = w.heap.size := ⟨_, rfl⟩
 obtain ⟨b2, hb2⟩ : ∃ b, b = w.heap.size + 1 := ⟨_, rfl⟩
 obtain ⟨b3, hb3⟩ : ∃ b, b = w.heap.size + 1 + 1 := ⟨_, rfl⟩
 rw [← hb3, ← hb2] at h3 hd ⊢
 replace hd : w.heap.size ≤ b1 ∧ b1 < b2 ∧ b2 < b3 := by omega
 replace h3 : Three w W b1 b2 b3 (.slice none 0 0) 0 0 := by rw [hb1]; exact h3
 rw [show (some ({ block := w.heap.size, off := 0 } : Addr)) = some { block := b1, off := 0 } by rw [hb1]]
 have n12 : b1 ≠ b2 := by omega
 have n13 : b1 ≠ b3 := by omega
 have n23 : b2 ≠ b3 := by omega
 have n21 : b2 ≠ b1 := by omega
 have n31 : b3 ≠ b1 := by omega
 have n32 : b3 ≠ b2 := by omega
 clear hb1 hb2 hb3 hmf hsz
 have HR := Lib.hid (readPoints_any s W (by omega) (hL.below h3.bl))
 rw [h] at HR
 have HT := Lib.hid ht
 have H3 := Lib.hid h3
 have HD := Lib.hid hd
 clear h3 hL h hd ht
 go_wp2_with (go_at_call 17; refine HR.out.mono ?_)
 rintro e w1 ⟨v, rfl, hown, hb⟩
 obtain ⟨A, c, rfl, _⟩ := pts_form hown
 have HO1 := Lib.hid hown
 have hb1W : b1 < W.heap.size := H3.out.k1.lt
 have hb2W : b2 < W.heap.size := H3.out.k2.lt
 have hb3W : b3 < W.heap.size := H3.out.k3.lt
 have hWw : w.heap.size ≤ W.heap.size := H3.out.bl.size
 have HP := Lib.hid (H3.out.below hb)
 clear hb hown HR H3
 have h4 := HP.out
 have c1 : w1.cell? ⟨b1, 0, none⟩ = some (.slice none 0 0) := h4.k1.cell 0
 have c2 : w1.cell? ⟨b2, 0, none⟩ = some (.int .i64 0) := h4.k2.cell 0
 have c3 : w1.cell? ⟨b3, 0, none⟩ = some (.int .i64 0) := h4.k3.cell 0
 have f1 : w1.frozen? ⟨b1, 0, none⟩ = false := h4.k1.frozen 0
 have f2 : w1.frozen? ⟨b2, 0, none⟩ = false := h4.k2.frozen 0
 have f3 : w1.frozen? ⟨b3, 0, none⟩ = false := h4.k3.frozen 0
 have HQ := Lib.hid (show Three w (w1.setCell ⟨b1, 0, none⟩ (.slice A ps.length c)) b1 b2 b3 (.slice A ps.length c) 0 0 from ⟨h4.k1.set_ 0 (.slice A ps.length c), h4.k2.far (p := ⟨b1, 0, none⟩) n21 _, h4.k3.far (p := ⟨b1, 0, none⟩) n31 _, h4.bl.setCell (p := ⟨b1, 0, none⟩) HD.out.1 _⟩)
 have HO2 : Hid (OwnPts W.heap.size (w1.setCell ⟨b1, 0, none⟩ (.slice A ps.length c)) (.slice A ps.length c) ps) := Lib.hid (by
  refine World.ownsRow.kept (show w1.ownsRow W.heap.size 39 3 _ _ _ from HO1.out) (grownBy_setCell' w1 b1 _) (.inr ?_)
  intro e
  have := (World.ownsRow.lt (show w1.ownsRow W.heap.size 39 3 _ _ _ from HO1.out) _ e).1
  omega)
 clear h4 HO1
 go_upto_region 5 with fail
 clear c1 c2 c3 f1 f2 f3
 generalize w1.setCell ⟨b1, 0, none⟩ (.slice A ps.length c) = w2 at HQ HO2 ⊢
 have h4 := HQ.out
 have c1 : w2.cell? ⟨b1, 0, none⟩ = some (.slice A ps.length c) := h4.k1.cell 0
 have c2 : w2.cell? ⟨b2, 0, none⟩ = some (.int .i64 0) := h4.k2.cell 0
 have c3 : w2.cell? ⟨b3, 0, none⟩ = some (.int .i64 0) := h4.k3.cell 0
 have f1 : w2.frozen? ⟨b1, 0, none⟩ = false := h4.k1.frozen 0
 have f2 : w2.frozen? ⟨b2, 0, none⟩ = false := h4.k2.frozen 0
 have f3 : w2.frozen? ⟨b3, 0, none⟩ = false := h4.k3.frozen 0
 obtain ⟨A2, cc2, hA2, hpt⟩ := pts_form HO2.out
 injection hA2 with hA2 _ hc2
 subst hA2
 have HC := Lib.hid (checkTable_to A ps.length c ps false 11 w2 rfl (by unfold maxLen; omega) hpt HT.out rfl)
 clear h4 hc2 hpt
 go_wp2_with (go_at_call 10; refine HC.out.mono ?_)
 rintro e w3 rfl hb
 have HQ3 := Lib.hid (HQ.out.below hb)
 have HO3 := Lib.hid (HO2.out.grown (below_grownNone hb) (fun _ e => by cases e))
 clear hb HQ HO2 HC c1 c2 c3 f1 f2 f3
 have h4 := HQ3.out
 have c1 : w3.cell? ⟨b1, 0, none⟩ = some (.slice A ps.length c) := h4.k1.cell 0
 have c2 : w3.cell? ⟨b2, 0, none⟩ = some (.int .i64 0) := h4.k2.cell 0
 have c3 : w3.cell? ⟨b3, 0, none⟩ = some (.int .i64 0) := h4.k3.cell 0
 have f1 : w3.frozen? ⟨b1, 0, none⟩ = false := h4.k1.frozen 0
 have f2 : w3.frozen? ⟨b2, 0, none⟩ = false := h4.k2.frozen 0
 have f3 : w3.frozen? ⟨b3, 0, none⟩ = false := h4.k3.frozen 0
 clear h4
 have HP4 := Lib.hid (HQ3.out.put HD.out (.slice none 0 0) 0 11)
 clear HQ3 HO3
 go_wp2
 clear c1 c2 c3 f1 f2 f3
 refine leaves_cons (f := 16) (args := #[.pointer (some ⟨b1, 0, none⟩), .pointer (some ⟨b2, 0, none⟩), .pointer (some ⟨b3, 0, none⟩)]) (by simp) (by simp [go_sem]) ?_
 refine (catch_idle ⟨b1, 0, none⟩ ⟨b2, 0, none⟩ ⟨b3, 0, none⟩ _).mono ?_
 rintro e u' w9 ⟨rfl, rfl, hb9⟩
 have g3 := HP4.out.below hb9
 have c1 : w9.cell? ⟨b1, 0, none⟩ = some (.slice none 0 0) := g3.k1.cell 0
 have c2 : w9.cell? ⟨b2, 0, none⟩ = some (.int .i64 0) := g3.k2.cell 0
 have c3 : w9.cell? ⟨b3, 0, none⟩ = some (.int .i64 11) := g3.k3.cell 0
 have f1 : w9.frozen? ⟨b1, 0, none⟩ = false := g3.k1.frozen 0
 have f2 : w9.frozen? ⟨b2, 0, none⟩ = false := g3.k2.frozen 0
 have f3 : w9.frozen? ⟨b3, 0, none⟩ = false := g3.k3.frozen 0
 simp [Leaves, settle, results, Tryz.results6, go_sem, c1, c2, c3]
 refine ⟨_, rfl, World.ownsRow_nil _ _ _ _, g3.bl⟩
set_option maxRecDepth 100000 in
set_option maxHeartbeats 4000000 in
theorem parse_good (s : ByteArray) (ps : List P3) (w : World) (hs : s.size ≤ 8000) (hps : ps.length ≤ 1000000) (hL : LaidW w) (h : takeS s.data.toList = .ok ps) (ht : tabOk ps = true) : Calls Tryz.prog 6 #[.string s] w (ParseOut (ps, 0, 0) w) := by
 have hlong : ¬ (8000 : Int) < s.size := by omega
 have hmf : ∀ (fn : Fn) (first cap : Array Value) (w : World), (Instr.makeFunc fn first cap).run Tryz.prog w = .ok (.func fn first cap) w := fun _ _ _ _ => rfl
 have h3 := Three.new w
 have hd : w.heap.size ≤ w.heap.size ∧ w.heap.size < w.heap.size + 1 ∧ w.heap.size + 1 < w.heap.size + 1 + 1 := by omega
 go_enter_defers Tryz.func6, Tryz.ntmps6
 go_upto_region 2 with fail
 generalize ((w.alloc (Obj.cells #[Value.slice none 0 0] 24)).alloc (Obj.cells #[Value.int IntKind.i64 0] 3)).alloc (Obj.cells #[Value.int IntKind.i64 0] 25) = W at h3 ⊢
 have hsz : w.heap.size ≤ W.heap.size := h3.bl.size
 obtain ⟨b1, hb1⟩ : ∃ b, b = w.heap.size := ⟨_, rfl⟩
 obtain ⟨b2, hb2⟩ : ∃ b, b = w.heap.size + 1 := ⟨_, rfl⟩
 obtain ⟨b3, hb3⟩ : ∃ b, b = w.heap.size + 1 + 1 := ⟨_, rfl⟩
 rw [← hb3, ← hb2] at h3 hd ⊢
 replace hd : w.heap.size ≤ b1 ∧ b1 < b2 ∧ b2 < b3 := by omega
 replace h3 : Three w W b1 b2 b3 (.slice none 0 0) 0 0 := by rw [hb1]; exact h3
 rw [show (some ({ block := w.heap.size, off := 0 } : Addr)) = some { block := b1, off := 0 } by rw [hb1]]
 have n12 : b1 ≠ b2 := by omega
 have n13 : b1 ≠ b3 := by omega
 have n23 : b2 ≠ b3 := by omega
 have n21 : b2 ≠ b1 := by omega
 have n31 : b3 ≠ b1 := by omega
 have n32 : b3 ≠ b2 := by omega
 clear hb1 hb2 hb3 hmf hsz
 have HR := Lib.hid (readPoints_any s W (by omega) (hL.below h3.bl))
 rw [h] at HR
 have HT := Lib.hid ht
 have H3 := Lib.hid h3
 have HD := Lib.hid hd
 clear h3 hL h hd ht
 go_wp2_with (go_at_call 17; refine HR.out.mono ?_)
 rintro e w1 ⟨v, rfl, hown, hb⟩
 obtain ⟨A, c, rfl, _⟩ := pts_form hown
 have HO1 := Lib.hid hown
 have hb1W : b1 < W.heap.size := H3.out.k1.lt
 have hb2W : b2 < W.heap.size := H3.out.k2.lt
 have hb3W : b3 < W.heap.size := H3.out.k3.lt
 have hWw : w.heap.size ≤ W.heap.size := H3.out.bl.size
 have HP := Lib.hid (H3.out.below hb)
 clear hb hown HR H3
 have h4 := HP.out
 have c1 : w1.cell? ⟨b1, 0, none⟩ = some (.slice none 0 0) := h4.k1.cell 0
 have c2 : w1.cell? ⟨b2, 0, none⟩ = some (.int .i64 0) := h4.k2.cell 0
 have c3 : w1.cell? ⟨b3, 0, none⟩ = some (.int .i64 0) := h4.k3.cell 0
 have f1 : w1.frozen? ⟨b1, 0, none⟩ = false := h4.k1.frozen 0
 have f2 : w1.frozen? ⟨b2, 0, none⟩ = false := h4.k2.frozen 0
 have f3 : w1.frozen? ⟨b3, 0, none⟩ = false := h4.k3.frozen 0
 have HQ := Lib.hid (show Three w (w1.setCell ⟨b1, 0, none⟩ (.slice A ps.length c)) b1 b2 b3 (.slice A ps.length c) 0 0 from ⟨h4.k1.set_ 0 (.slice A ps.length c), h4.k2.far (p := ⟨b1, 0, none⟩) n21 _, h4.k3.far (p := ⟨b1, 0, none⟩) n31 _, h4.bl.setCell (p := ⟨b1, 0, none⟩) HD.out.1 _⟩)
 have HO2 : Hid (OwnPts W.heap.size (w1.setCell ⟨b1, 0, none⟩ (.slice A ps.length c)) (.slice A ps.length c) ps) := Lib.hid (by
  refine World.ownsRow.kept (show w1.ownsRow W.heap.size 39 3 _ _ _ from HO1.out) (grownBy_setCell' w1 b1 _) (.inr ?_)
  intro e
  have := (World.ownsRow.lt (show w1.ownsRow W.heap.size 39 3 _ _ _ from HO1.out) _ e).1
  omega)
 clear h4 HO1
 go_upto_region 5 with fail
 clear c1 c2 c3 f1 f2 f3
 generalize w1.setCell ⟨b1, 0, none⟩ (.slice A ps.length c) = w2 at HQ HO2 ⊢
 have h4 := HQ.out
 have c1 : w2.cell? ⟨b1, 0, none⟩ = some (.slice A ps.length c) := h4.k1.cell 0
 have c2 : w2.cell? ⟨b2, 0, none⟩ = some (.int .i64 0) := h4.k2.cell 0
 have c3 : w2.cell? ⟨b3, 0, none⟩ = some (.int .i64 0) := h4.k3.cell 0
 have f1 : w2.frozen? ⟨b1, 0, none⟩ = false := h4.k1.frozen 0
 have f2 : w2.frozen? ⟨b2, 0, none⟩ = false := h4.k2.frozen 0
 have f3 : w2.frozen? ⟨b3, 0, none⟩ = false := h4.k3.frozen 0
 obtain ⟨A2, cc2, hA2, hpt⟩ := pts_form HO2.out
 injection hA2 with hA2 _ hc2
 subst hA2
 have HC := Lib.hid (checkTable_to A ps.length c ps true 0 w2 rfl (by unfold maxLen; omega) hpt HT.out rfl)
 clear h4 hc2 hpt
 go_wp2_with (go_at_call 10; refine HC.out.mono ?_)
 rintro e w3 rfl hb
 have HQ3 := Lib.hid (HQ.out.below hb)
 have HO3 := Lib.hid (HO2.out.grown (below_grownNone hb) (fun _ e => by cases e))
 clear hb HQ HO2 HC c1 c2 c3 f1 f2 f3
 have h4 := HQ3.out
 have c1 : w3.cell? ⟨b1, 0, none⟩ = some (.slice A ps.length c) := h4.k1.cell 0
 have c2 : w3.cell? ⟨b2, 0, none⟩ = some (.int .i64 0) := h4.k2.cell 0
 have c3 : w3.cell? ⟨b3, 0, none⟩ = some (.int .i64 0) := h4.k3.cell 0
 have f1 : w3.frozen? ⟨b1, 0, none⟩ = false := h4.k1.frozen 0
 have f2 : w3.frozen? ⟨b2, 0, none⟩ = false := h4.k2.frozen 0
 have f3 : w3.frozen? ⟨b3, 0, none⟩ = false := h4.k3.frozen 0
 clear h4
 have HP4 := Lib.hid (HQ3.out.put HD.out (.slice A ps.length c) 0 0)
 have hnb : ∀ X b, Hid (OwnPts W.heap.size X (.slice A ps.length c) ps) → b < W.heap.size → ∀ u, Hid (OwnPts W.heap.size (X.setCell ⟨b, 0, none⟩ u) (.slice A ps.length c) ps) := fun X b hX hb u => Lib.hid (by
  refine World.ownsRow.kept (show X.ownsRow W.heap.size 39 3 _ _ _ from hX.out) (grownBy_setCell' X b _) (.inr ?_)
  intro e
  have := (World.ownsRow.lt (show X.ownsRow W.heap.size 39 3 _ _ _ from hX.out) _ e).1
  omega)
 have HO4 := hnb _ b3 (hnb _ b2 (hnb _ b1 HO3 hb1W (.slice A ps.length c)) hb2W (.int .i64 0)) hb3W (.int .i64 0)
 clear HQ3 HO3 hnb
 go_wp2
 clear c1 c2 c3 f1 f2 f3
 refine leaves_cons (f := 16) (args := #[.pointer (some ⟨b1, 0, none⟩), .pointer (some ⟨b2, 0, none⟩), .pointer (some ⟨b3, 0, none⟩)]) (by simp) (by simp [go_sem]) ?_
 refine (catch_idle ⟨b1, 0, none⟩ ⟨b2, 0, none⟩ ⟨b3, 0, none⟩ _).mono ?_
 rintro e u' w9 ⟨rfl, rfl, hb9⟩
 have g3 := HP4.out.below hb9
 have c1 : w9.cell? ⟨b1, 0, none⟩ = some (.slice A ps.length c) := g3.k1.cell 0
 have c2 : w9.cell? ⟨b2, 0, none⟩ = some (.int .i64 0) := g3.k2.cell 0
 have c3 : w9.cell? ⟨b3, 0, none⟩ = some (.int .i64 0) := g3.k3.cell 0
 have f1 : w9.frozen? ⟨b1, 0, none⟩ = false := g3.k1.frozen 0
 have f2 : w9.frozen? ⟨b2, 0, none⟩ = false := g3.k2.frozen 0
 have f3 : w9.frozen? ⟨b3, 0, none⟩ = false := g3.k3.frozen 0
 simp [Leaves, settle, results, Tryz.results6, go_sem, c1, c2, c3]
 refine ⟨_, rfl, (World.ownsRow.mono (show OwnPts W.heap.size w9 (.slice A ps.length c) ps from HO4.out.grown (below_grownNone hb9) (fun _ e => by cases e)) hWw), g3.bl⟩
end

end Go.Proofs.YtmglhhbfkohkcaaGreatDoor
