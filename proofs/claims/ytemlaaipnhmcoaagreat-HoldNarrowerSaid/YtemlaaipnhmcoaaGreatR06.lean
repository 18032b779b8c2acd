/- The contracts of stretch, its own closure and sort.Search as stretch calls it (fix), for the closures of Where. Their conditions: what was captured lies in memory; the numbers are those of a valid table. -/
import Derived.Laws.Small
import Derived.Test.YtemlaaipnhmcoaaGreatR04
set_option linter.unusedVariables false
set_option linter.unusedSimpArgs false
set_option linter.constructorNameAsVariable false
namespace Go.Proofs.YtemlaaipnhmcoaaGreat

section
open Go.RowKit

def bs (f : Int → Bool) : Nat → Int → Int → Int
  | 0, i, _ => i
  | k + 1, i, j => if i < j then (if f ((i + j) / 2) = true then bs f k i ((i + j) / 2) else bs f k ((i + j) / 2 + 1) j) else i
theorem bs_done (f : Int → Bool) (k : Nat) (i j : Int) (h : ¬ i < j) : bs f k i j = i := by
  cases k with
  | zero => rfl
  | succ k => rw [bs, if_neg h]
theorem bs_yes (f : Int → Bool) (k : Nat) (i j : Int) (h : i < j) (hf : f ((i + j) / 2) = true) : bs f (k + 1) i j = bs f k i ((i + j) / 2) := by rw [bs, if_pos h, if_pos hf]
theorem bs_no (f : Int → Bool) (k : Nat) (i j : Int) (h : i < j) (hf : f ((i + j) / 2) = false) : bs f (k + 1) i j = bs f k ((i + j) / 2 + 1) j := by rw [bs, if_pos h, hf]; simp

def Asked (w : World) (Bp Br : Nat) (p q : P3) (lo hi : Int) : Prop := Blk w Bp 172 (pCells p q) ∧ Blk w Br 30 #[.int .i64 lo, .int .i64 hi] ∧ Okp p ∧ Okp q
theorem Asked.below {w w' : World} {Bp Br : Nat} {p q : P3} {lo hi : Int} (h : Asked w Bp Br p q lo hi) (hB : Below w.heap.size w w') : Asked w' Bp Br p q lo hi :=
  ⟨h.1.below hB h.1.lt, h.2.1.below hB h.2.1.lt, h.2.2⟩
theorem Asked.drew {w : World} {Bp Br : Nat} {p q : P3} {lo hi : Int} (h : Asked w Bp Br p q lo hi) : Asked w.drew Bp Br p q lo hi := h

def lowSo (p q : P3) (lo hi x : Int) : Bool := decide ((pAt p q x).1 ≤ hi)
def highSo (p q : P3) (lo hi x : Int) : Bool := decide (lo ≤ (pAt p q x).2)

theorem low_asked (Bp Br : Nat) (p q : P3) (lo hi x : Int) (w : World) (h : Asked w Bp Br p q lo hi) (hx : 0 ≤ x) (hx' : x ≤ 1000000) :
    Calls Tryz.prog 168 #[.int .i64 x, .pointer (some ⟨Bp, 0, none⟩), .pointer (some ⟨Br, 0, none⟩)] w fun e w' => e = .returned (.bool (lowSo p q lo hi x)) ∧ Below w.heap.size w w' :=
  lowAsk Bp Br p q lo hi x w h.1 h.2.1 h.2.2.1 h.2.2.2 hx hx'

abbrev lowFn (Bp Br : Nat) : Value := .func (.func 168) #[] #[.pointer (some ⟨Bp, 0, none⟩), .pointer (some ⟨Br, 0, none⟩)]
def lowTurn (w : World) (B3 B5 B7 Bp Br : Nat) (p q : P3) (lo hi a : Int) (first : Bool) : Prop :=
  Blk w B3 72 #[lowFn Bp Br] ∧ Blk w B5 3 #[.int .i64 a] ∧ Blk w B7 4 #[.bool first] ∧ Asked w Bp Br p q lo hi
theorem lowTurn.below {w w' : World} {B3 B5 B7 Bp Br : Nat} {p q : P3} {lo hi a : Int} {first : Bool} (h : lowTurn w B3 B5 B7 Bp Br p q lo hi a first) (hB : Below w.heap.size w w') : lowTurn w' B3 B5 B7 Bp Br p q lo hi a first :=
  ⟨h.1.below hB h.1.lt, h.2.1.below hB h.2.1.lt, h.2.2.1.below hB h.2.2.1.lt, h.2.2.2.below hB⟩

set_option maxRecDepth 100000 in
set_option maxHeartbeats 1000000 in
theorem low_turn (B3 B5 B7 Bp Br : Nat) (p q : P3) (lo hi a i : Int) (first : Bool) (w : World) (h : lowTurn w B3 B5 B7 Bp Br p q lo hi a first) (hx : 0 ≤ a + i) (hx' : a + i ≤ 1000000) :
  Calls Tryz.prog 207 #[.int .i64 i, .pointer (some ⟨B3, 0, none⟩), .pointer (some ⟨B5, 0, none⟩), .pointer (some ⟨B7, 0, none⟩)] w fun e w' => e = .returned (.bool (!(lowSo p q lo hi (a + i) == first))) ∧ Below w.heap.size w w' := by
 have a0 := h.1.cell 0
 have a1 := h.2.1.cell 0
 have a2 := h.2.2.1.cell 0
 have l3 := h.1.lt
 have l5 := h.2.1.lt
 have l7 := h.2.2.1.lt
 simp at a0 a1 a2
 have hd3 : B3 < w.drew.heap.size := l3
 have hd5 : B5 < w.drew.heap.size := l5
 have hd7 : B7 < w.drew.heap.size := l7
 have w1 : IntKind.i64.wrap (a + i) = a + i := IntWalk.i64_in _ ⟨by omega, by omega⟩
 have HA := Lib.hid h.2.2.2
 clear h
 generalize hso : lowSo p q lo hi (a + i) = so
 have HC := Lib.hid (fun V (hV : Asked V Bp Br p q lo hi) => (hso ▸ low_asked Bp Br p q lo hi (a + i) V hV hx hx'))
 clear hso
 go_enter Tryz.func207, Tryz.ntmps207
 go_wp2_with fail
 go_region_held3 (fun w' => w'.cell? ⟨B3, 0, none⟩ = some (lowFn Bp Br) ∧ w'.cell? ⟨B5, 0, none⟩ = some (.int .i64 a) ∧ w'.cell? ⟨B7, 0, none⟩ = some (.bool first))
  (first | (go_keep; done) | exact ⟨((bcell hb).1 _ _ hd3).trans (‹_ ∧ _ ∧ _›).1, ((bcell hb).1 _ _ hd5).trans (‹_ ∧ _ ∧ _›).2.1, ((bcell hb).1 _ _ hd7).trans (‹_ ∧ _ ∧ _›).2.2⟩)
  (first | (go_at_call 168; refine (HC.out w.drew HA.out).mono ?_; rintro e w1 ⟨rfl, hb⟩))
 go_wp2
 go_ret
 exact ⟨rfl, below_d hb⟩

theorem high_asked (Bp Br : Nat) (p q : P3) (lo hi x : Int) (w : World) (h : Asked w Bp Br p q lo hi) (hx : 0 ≤ x) (hx' : x ≤ 1000000) :
    Calls Tryz.prog 170 #[.int .i64 x, .pointer (some ⟨Bp, 0, none⟩), .pointer (some ⟨Br, 0, none⟩)] w fun e w' => e = .returned (.bool (highSo p q lo hi x)) ∧ Below w.heap.size w w' :=
  highAsk Bp Br p q lo hi x w h.1 h.2.1 h.2.2.1 h.2.2.2 hx hx'

abbrev highFn (Bp Br : Nat) : Value := .func (.func 170) #[] #[.pointer (some ⟨Bp, 0, none⟩), .pointer (some ⟨Br, 0, none⟩)]
def highTurn (w : World) (B3 B5 B7 Bp Br : Nat) (p q : P3) (lo hi a : Int) (first : Bool) : Prop :=
  Blk w B3 72 #[highFn Bp Br] ∧ Blk w B5 3 #[.int .i64 a] ∧ Blk w B7 4 #[.bool first] ∧ Asked w Bp Br p q lo hi
theorem highTurn.below {w w' : World} {B3 B5 B7 Bp Br : Nat} {p q : P3} {lo hi a : Int} {first : Bool} (h : highTurn w B3 B5 B7 Bp Br p q lo hi a first) (hB : Below w.heap.size w w') : highTurn w' B3 B5 B7 Bp Br p q lo hi a first :=
  ⟨h.1.below hB h.1.lt, h.2.1.below hB h.2.1.lt, h.2.2.1.below hB h.2.2.1.lt, h.2.2.2.below hB⟩

set_option maxRecDepth 100000 in
set_option maxHeartbeats 1000000 in
theorem high_turn (B3 B5 B7 Bp Br : Nat) (p q : P3) (lo hi a i : Int) (first : Bool) (w : World) (h : highTurn w B3 B5 B7 Bp Br p q lo hi a first) (hx : 0 ≤ a + i) (hx' : a + i ≤ 1000000) :
  Calls Tryz.prog 207 #[.int .i64 i, .pointer (some ⟨B3, 0, none⟩), .pointer (some ⟨B5, 0, none⟩), .pointer (some ⟨B7, 0, none⟩)] w fun e w' => e = .returned (.bool (!(highSo p q lo hi (a + i) == first))) ∧ Below w.heap.size w w' := by
 have a0 := h.1.cell 0
 have a1 := h.2.1.cell 0
 have a2 := h.2.2.1.cell 0
 have l3 := h.1.lt
 have l5 := h.2.1.lt
 have l7 := h.2.2.1.lt
 simp at a0 a1 a2
 have hd3 : B3 < w.drew.heap.size := l3
 have hd5 : B5 < w.drew.heap.size := l5
 have hd7 : B7 < w.drew.heap.size := l7
 have w1 : IntKind.i64.wrap (a + i) = a + i := IntWalk.i64_in _ ⟨by omega, by omega⟩
 have HA := Lib.hid h.2.2.2
 clear h
 generalize hso : highSo p q lo hi (a + i) = so
 have HC := Lib.hid (fun V (hV : Asked V Bp Br p q lo hi) => (hso ▸ high_asked Bp Br p q lo hi (a + i) V hV hx hx'))
 clear hso
 go_enter Tryz.func207, Tryz.ntmps207
 go_wp2_with fail
 go_region_held3 (fun w' => w'.cell? ⟨B3, 0, none⟩ = some (highFn Bp Br) ∧ w'.cell? ⟨B5, 0, none⟩ = some (.int .i64 a) ∧ w'.cell? ⟨B7, 0, none⟩ = some (.bool first))
  (first | (go_keep; done) | exact ⟨((bcell hb).1 _ _ hd3).trans (‹_ ∧ _ ∧ _›).1, ((bcell hb).1 _ _ hd5).trans (‹_ ∧ _ ∧ _›).2.1, ((bcell hb).1 _ _ hd7).trans (‹_ ∧ _ ∧ _›).2.2⟩)
  (first | (go_at_call 170; refine (HC.out w.drew HA.out).mono ?_; rintro e w1 ⟨rfl, hb⟩))
 go_wp2
 go_ret
 exact ⟨rfl, below_d hb⟩

abbrev lowTurnFn (B3 B5 B7 : Nat) : Value := .func (.func 207) #[] #[.pointer (some ⟨B3, 0, none⟩), .pointer (some ⟨B5, 0, none⟩), .pointer (some ⟨B7, 0, none⟩)]
theorem low_turn_to (B3 B5 B7 Bp Br : Nat) (p q : P3) (lo hi a i : Int) (first t : Bool) (w : World) (h : lowTurn w B3 B5 B7 Bp Br p q lo hi a first) (hx : 0 ≤ a + i) (hx' : a + i ≤ 1000000) (ht : (!(lowSo p q lo hi (a + i) == first)) = t) :
    Calls Tryz.prog 207 #[.int .i64 i, .pointer (some ⟨B3, 0, none⟩), .pointer (some ⟨B5, 0, none⟩), .pointer (some ⟨B7, 0, none⟩)] w fun e w' => e = .returned (.bool t) ∧ Below w.heap.size w w' := by
  subst ht; exact low_turn B3 B5 B7 Bp Br p q lo hi a i first w h hx hx'

set_option maxRecDepth 100000 in
set_option maxHeartbeats 2000000 in
theorem low_search (B3 B5 B7 Bp Br : Nat) (p q : P3) (lo hi a : Int) (n : Nat) (first : Bool) (w : World) (h : lowTurn w B3 B5 B7 Bp Br p q lo hi a first) (ha : 0 ≤ a) (han : a + n ≤ 1000000) :
  Calls Tryz.prog 200 #[.int .i64 n, lowTurnFn B3 B5 B7] w fun e w' => e = .returned (.int .i64 (bs (fun i => !(lowSo p q lo hi (a + i) == first)) n 0 n)) ∧ Below w.heap.size w w' := by
 generalize hR : bs (fun i => !(lowSo p q lo hi (a + i) == first)) n 0 n = R
 have HR := Lib.hid hR; clear hR
 have HT := Lib.hid h; clear h
 go_enter Tryz.func200, Tryz.ntmps200
 go_wp2_with fail
 go_loopw [5, 6] (fun vi vj wr => ∃ (i j k : Nat), i ≤ j ∧ j ≤ n ∧ j - i ≤ k ∧ vi = .int .i64 i ∧ vj = .int .i64 j ∧ Below w.heap.size w wr ∧ Hid (bs (fun i => !(lowSo p q lo hi (a + i) == first)) k i j = R)) (fun vi vj _ => (intOf vj).toNat - (intOf vi).toNat)
 case atStart => exact ⟨0, n, n, by omega, by omega, by omega, rfl, rfl, Below.refl _ _, HR.out⟩
 case round =>
  obtain ⟨i, j, k, hij, hjn, hk, rfl, rfl, hB, HP⟩ := hrel
  by_cases hlt : i < j
  ·have hlt' : (i : Int) < (j : Int) := by omega
   obtain ⟨k', rfl⟩ : ∃ k', k = k' + 1 := ⟨k - 1, by omega⟩
   obtain ⟨m, hm⟩ : ∃ m : Nat, (i + j) / 2 = m := ⟨_, rfl⟩
   have hmi : ((i : Int) + (j : Int)) / 2 = (m : Int) := by omega
   have m1 : i ≤ m := by omega
   have m2 : m < j := by omega
   have HM := Lib.hid hmi; clear hmi hm
   cases ht : (!(lowSo p q lo hi (a + m) == first))
   ·have hnext : bs (fun i => !(lowSo p q lo hi (a + i) == first)) k' ((m : Int) + 1) j = R := by
     rw [← HP.out, bs_no _ _ _ _ hlt' (by rw [HM.out]; exact ht), HM.out]
    have HNX := Lib.hid hnext; clear hnext HP HR
    have HTT := Lib.hid ht; clear ht
    go_wp2_with fail
    rw [HM.out]
    refine (low_turn_to B3 B5 B7 Bp Br p q lo hi a m first _ wr (HT.out.below hB) (by omega) (by omega) HTT.out).mono ?_
    rintro e w1 ⟨rfl, hb1⟩
    have hB1 := below_then hB hb1
    go_wp2
    go_roundw
    case rel => exact ⟨m + 1, j, k', by omega, by omega, by omega, by rw [Int.natCast_add]; rfl, rfl, hB1, by rw [Int.natCast_add]; exact HNX.out⟩
    case measure => simp [intOf]; omega
   ·have hnext : bs (fun i => !(lowSo p q lo hi (a + i) == first)) k' (i : Int) m = R := by
     rw [← HP.out, bs_yes _ _ _ _ hlt' (by rw [HM.out]; exact ht), HM.out]
    have HNX := Lib.hid hnext; clear hnext HP HR
    have HTT := Lib.hid ht; clear ht
    go_wp2_with fail
    rw [HM.out]
    refine (low_turn_to B3 B5 B7 Bp Br p q lo hi a m first _ wr (HT.out.below hB) (by omega) (by omega) HTT.out).mono ?_
    rintro e w1 ⟨rfl, hb1⟩
    have hB1 := below_then hB hb1
    go_wp2
    go_roundw
    case rel => exact ⟨i, m, k', by omega, by omega, by omega, rfl, rfl, hB1, HNX.out⟩
    case measure => simp [intOf]; omega
  ·have hf : R = (i : Int) := by rw [← HP.out]; exact bs_done _ _ _ _ (by omega)
   subst hf
   clear HP HR
   go_wp2
   go_ret
   exact ⟨rfl, hB⟩

abbrev highTurnFn (B3 B5 B7 : Nat) : Value := .func (.func 207) #[] #[.pointer (some ⟨B3, 0, none⟩), .pointer (some ⟨B5, 0, none⟩), .pointer (some ⟨B7, 0, none⟩)]
theorem high_turn_to (B3 B5 B7 Bp Br : Nat) (p q : P3) (lo hi a i : Int) (first t : Bool) (w : World) (h : highTurn w B3 B5 B7 Bp Br p q lo hi a first) (hx : 0 ≤ a + i) (hx' : a + i ≤ 1000000) (ht : (!(highSo p q lo hi (a + i) == first)) = t) :
    Calls Tryz.prog 207 #[.int .i64 i, .pointer (some ⟨B3, 0, none⟩), .pointer (some ⟨B5, 0, none⟩), .pointer (some ⟨B7, 0, none⟩)] w fun e w' => e = .returned (.bool t) ∧ Below w.heap.size w w' := by
  subst ht; exact high_turn B3 B5 B7 Bp Br p q lo hi a i first w h hx hx'

set_option maxRecDepth 100000 in
set_option maxHeartbeats 2000000 in
theorem high_search (B3 B5 B7 Bp Br : Nat) (p q : P3) (lo hi a : Int) (n : Nat) (first : Bool) (w : World) (h : highTurn w B3 B5 B7 Bp Br p q lo hi a first) (ha : 0 ≤ a) (han : a + n ≤ 1000000) :
  Calls Tryz.prog 200 #[.int .i64 n, highTurnFn B3 B5 B7] w fun e w' => e = .returned (.int .i64 (bs (fun i => !(highSo p q lo hi (a + i) == first)) n 0 n)) ∧ Below w.heap.size w w' := by
 generalize hR : bs (fun i => !(highSo p q lo hi (a + i) == first)) n 0 n = R
 have HR := Lib.hid hR; clear hR
 have HT := Lib.hid h; clear h
 go_enter Tryz.func200, Tryz.ntmps200
 go_wp2_with fail
 go_loopw [5, 6] (fun vi vj wr => ∃ (i j k : Nat), i ≤ j ∧ j ≤ n ∧ j - i ≤ k ∧ vi = .int .i64 i ∧ vj = .int .i64 j ∧ Below w.heap.size w wr ∧ Hid (bs (fun i => !(highSo p q lo hi (a + i) == first)) k i j = R)) (fun vi vj _ => (intOf vj).toNat - (intOf vi).toNat)
 case atStart => exact ⟨0, n, n, by omega, by omega, by omega, rfl, rfl, Below.refl _ _, HR.out⟩
 case round =>
  obtain ⟨i, j, k, hij, hjn, hk, rfl, rfl, hB, HP⟩ := hrel
  by_cases hlt : i < j
  ·have hlt' : (i : Int) < (j : Int) := by omega
   obtain ⟨k', rfl⟩ : ∃ k', k = k' + 1 := ⟨k - 1, by omega⟩
   obtain ⟨m, hm⟩ : ∃ m : Nat, (i + j) / 2 = m := ⟨_, rfl⟩
   have hmi : ((i : Int) + (j : Int)) / 2 = (m : Int) := by omega
   have m1 : i ≤ m := by omega
   have m2 : m < j := by omega
   have HM := Lib.hid hmi; clear hmi hm
   cases ht : (!(highSo p q lo hi (a + m) == first))
   ·have hnext : bs (fun i => !(highSo p q lo hi (a + i) == first)) k' ((m : Int) + 1) j = R := by
     rw [← HP.out, bs_no _ _ _ _ hlt' (by rw [HM.out]; exact ht), HM.out]
    have HNX := Lib.hid hnext; clear hnext HP HR
    have HTT := Lib.hid ht; clear ht
    go_wp2_with fail
    rw [HM.out]
    refine (high_turn_to B3 B5 B7 Bp Br p q lo hi a m first _ wr (HT.out.below hB) (by omega) (by omega) HTT.out).mono ?_
    rintro e w1 ⟨rfl, hb1⟩
    have hB1 := below_then hB hb1
    go_wp2
    go_roundw
    case rel => exact ⟨m + 1, j, k', by omega, by omega, by omega, by rw [Int.natCast_add]; rfl, rfl, hB1, by rw [Int.natCast_add]; exact HNX.out⟩
    case measure => simp [intOf]; omega
   ·have hnext : bs (fun i => !(highSo p q lo hi (a + i) == first)) k' (i : Int) m = R := by
     rw [← HP.out, bs_yes _ _ _ _ hlt' (by rw [HM.out]; exact ht), HM.out]
    have HNX := Lib.hid hnext; clear hnext HP HR
    have HTT := Lib.hid ht; clear ht
    go_wp2_with fail
    rw [HM.out]
    refine (high_turn_to B3 B5 B7 Bp Br p q lo hi a m first _ wr (HT.out.below hB) (by omega) (by omega) HTT.out).mono ?_
    rintro e w1 ⟨rfl, hb1⟩
    have hB1 := below_then hB hb1
    go_wp2
    go_roundw
    case rel => exact ⟨i, m, k', by omega, by omega, by omega, rfl, rfl, hB1, HNX.out⟩
    case measure => simp [intOf]; omega
  ·have hf : R = (i : Int) := by rw [← HP.out]; exact bs_done _ _ _ _ (by omega)
   subst hf
   clear HP HR
   go_wp2
   go_ret
   exact ⟨rfl, hB⟩
end

end Go.Proofs.YtemlaaipnhmcoaaGreat
