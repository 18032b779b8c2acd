/- What FixJoined needs beside: places with what is joined of two tables, a value and its block around the calls. Plain facts; the conditions: the tables are valid. -/
import Derived.Test.YtmenlaefekkahaaRows
import Derived.WalkKit
import Derived.ProofKit
import Derived.OpenShut
import Derived.Lib.SmallJoins
import Derived.Test.YtmenlaefekkahaaD4
import Derived.Test.YtmenlaefekkahaaE4
import Derived.Test.YtmenlaefekkahaaC3
import Derived.Test.YtmenlaefekkahaaN1
import Derived.Test.YtmenlaefekkahaaM1
import Derived.Test.YtmenlaefekkahaaQ1
import Derived.Test.YtmenlaefekkahaaU0
import Derived.Deep.Slices
import Derived.Deep.Strs
import Derived.Test.YtmenlaefekkahaaR1
import Derived.Test.YtmenlaefekkahaaL3
import Derived.Test.YtmenlaefekkahaaG4
import Derived.StillTailTactics
import Derived.RegionTactic
import Derived.Test.YtmenlaefekkahaaI1
import Derived.Test.YtmenlaefekkahaaQ2
import Derived.Test.YtmenlaefekkahaaN2
import Derived.Test.YtmenlaefekkahaaM2
import Derived.Test.YtmenlaefekkahaaE5
import Derived.Test.YtmenlaefekkahaaMB
import Derived.Test.YtmenlaefekkahaaL4
import Derived.Test.YtmenlaefekkahaaNC
import Derived.Test.YtmenlaefekkahaaG7
set_option linter.unusedVariables false
set_option linter.unusedSimpArgs false
set_option linter.constructorNameAsVariable false
namespace Go.Proofs.Ytmenlaefekkahaa

section
open Go.ChangeShapes Go.WideShapes Go.ChangeAt Go.RowKit Go.Joins

theorem own : ownKnob Try.prog.godebug = none := by kernel_rfl
theorem laidOut : laidOutB Try.prog = true := by kernel_rfl

/-- The arguments read behind the call as they did. -/
theorem trodAll_below {H : Type} {enc : TypeId × Value → H} {W W' : World} (hb : Below W.heap.size W W') :
    ∀ (ts : List TypeId) (vs : List Value) (ds : List (DataW H)) (ps : List MemPlace), (∀ t ∈ ts, Try.prog.readableRec t = true ∧ t < Try.prog.types.size) →
    DataW.TrodAll enc Try.prog W 0 (fun _ => true) true ts vs ds ps → (∀ x ∈ ps, x.block < W.heap.size) → DataW.TrodAll enc Try.prog W' 0 (fun b => decide (b < W.heap.size)) true ts vs ds ps
  | [], [], [], ps, _, h, _ => h
  | t :: ts, v :: vs, d :: ds, ps, ht, h, hlt => by
    obtain ⟨p, q, h0, h1, rfl⟩ := h
    exact ⟨p, q, Below.trod laidOut (ht t (by simp)).1 (ht t (by simp)).2 h0 hb (fun x hx => hlt x (by simp [hx])),
      trodAll_below hb ts vs ds q (fun t' h' => ht t' (by simp [h'])) h1 (fun x hx => hlt x (by simp [hx])), rfl⟩
  | [], [], _ :: _, _, _, h, _ => by cases h
  | [], _ :: _, _, _, _, h, _ => by cases h
  | _ :: _, [], _, _, _, h, _ => by cases h
  | _ :: _, _ :: _, [], _, _, h, _ => by cases h

theorem okWide_agg {P : Program} {W : World} {r : Reach} {b0 : Nat} {t : TypeId} {fs : Array Field} {v : Value} (hs : P.underlying t = some (.struct fs)) (hv : Value.okWide P W r b0 t v) : ∃ cs, v = .agg cs ∧ cs.size = P.cellsOf t := okWide_struct hs hv

/-- The post of a law: it gives true, and its arguments read as they did. -/
theorem law_post {H : Type} {enc : TypeId × Value → H} {f : Func} {s : ChangeSpec} {W W' : World} {args : Array Value} {ds gs : List (DataW H)} {before : List MemPlace}
    (hv : s.vars = []) (hrt : f.resultTypes = #[4]) (hts : ∀ t ∈ f.params.toList, Try.prog.readableRec t = true ∧ t < Try.prog.types.size)
    (hW : DataW.Whole enc Try.prog f.params.toList s.vars false W args.toList ds gs before)
    (hres : (s.fn H (ds ++ gs)).results = [.lit (.bool true)]) (hargs : (s.fn H (ds ++ gs)).args = ds) (hvars : (s.fn H (ds ++ gs)).vars = []) (hb : Below W.heap.size W W') :
    s.post enc Try.prog f false true false false W args (.bool true) W' := by
  have hW' := hW
  obtain ⟨p, q, hA, hV, rfl, hfz, hnd⟩ := hW
  rw [hv] at hV
  obtain ⟨rfl, rfl⟩ := trodVars_none hV
  have hA' := trodAll_below hb _ _ _ _ hts hA (fun x hx => by simpa using hW'.lt x (by simp [hx]))
  refine ⟨_, _, _, [], p, [], hW', ?_, ?_, ?_, hb.frame _, fun h => by cases h⟩
  · rw [hres, hrt]
    exact trodAll_mk1 (shut_bool Try.underlying4 true)
  · rw [hargs]
    exact hA'
  · rw [hvars, hv]
    rfl
end

section
open Go.RowKit

/-- whether the low line of a piece is at least a number -/
def aboveSo (p q : P3) (y x : Int) : Bool := decide (y ≤ (pAt p q x).1)
def aboveS (y : Int) (p q : P3) : Int × Int := stretchS (aboveSo p q y) p.1 q.1
/-- What a call to the closure of Above needs of a world. -/
def AskedA (w : World) (Bp Br : Nat) (p q : P3) (lv : Int) : Prop := Blk w Bp 111 (pCells p q) ∧ Blk w Br 3 #[.int .i64 lv] ∧ Okp p ∧ Okp q
theorem AskedA.below {w w' : World} {Bp Br : Nat} {p q : P3} {lv : Int} (h : AskedA w Bp Br p q lv) (hB : Below w.heap.size w w') : AskedA w' Bp Br p q lv :=
  ⟨h.1.below hB h.1.lt, h.2.1.below hB h.2.1.lt, h.2.2⟩
theorem AskedA.drew {w : World} {Bp Br : Nat} {p q : P3} {lv : Int} (h : AskedA w Bp Br p q lv) : AskedA w.drew Bp Br p q lv := h
def SixOne (Bp Br : Nat) (p q : P3) (lv : Int) (w : World) : Prop :=
  w.cell? ⟨Bp, 0, none⟩ = some (.int .i64 p.1) ∧ w.cell? ⟨Bp, 1, none⟩ = some (.int .i64 p.2.1) ∧ w.cell? ⟨Bp, 2, none⟩ = some (.int .i64 p.2.2) ∧ w.cell? ⟨Bp, 3, none⟩ = some (.int .i64 q.1) ∧ w.cell? ⟨Bp, 4, none⟩ = some (.int .i64 q.2.1) ∧ w.cell? ⟨Bp, 5, none⟩ = some (.int .i64 q.2.2) ∧ w.cell? ⟨Br, 0, none⟩ = some (.int .i64 lv)
theorem SixOne.of {Bp Br : Nat} {p q : P3} {lv : Int} {w : World} (h : Blk w Bp 111 (pCells p q)) (h' : Blk w Br 3 #[.int .i64 lv]) : SixOne Bp Br p q lv w :=
  ⟨h.cell 0, h.cell 1, h.cell 2, h.cell 3, h.cell 4, h.cell 5, h'.cell 0⟩
theorem SixOne.below {Bp Br : Nat} {p q : P3} {lv : Int} {w w' : World} (h : SixOne Bp Br p q lv w) (hB : Below w.heap.size w w') (h1 : Bp < w.heap.size) (h2 : Br < w.heap.size) : SixOne Bp Br p q lv w' := by
  have k := (bcell hB).1
  obtain ⟨a0, a1, a2, a3, a4, a5, b0⟩ := h
  exact ⟨(k _ _ h1).trans a0, (k _ _ h1).trans a1, (k _ _ h1).trans a2, (k _ _ h1).trans a3, (k _ _ h1).trans a4, (k _ _ h1).trans a5, (k _ _ h2).trans b0⟩

set_option maxRecDepth 100000 in
set_option maxHeartbeats 1000000 in
theorem aboveAsk (Bp Br : Nat) (p q : P3) (lv x : Int) (w : World) (h : Blk w Bp 111 (pCells p q)) (h' : Blk w Br 3 #[.int .i64 lv]) (hp : Okp p) (hq : Okp q) (hx : 0 ≤ x) (hx' : x ≤ 1000000) :
    Calls Try.prog 110 #[.int .i64 x, .pointer (some ⟨Bp, 0, none⟩), .pointer (some ⟨Br, 0, none⟩)] w fun e w' => e = .returned (.bool (decide (lv ≤ (pAt p q x).1))) ∧ Below w.heap.size w w' := by
  have hS := SixOne.of h h'
  have h1 := h.lt
  have h2 := h'.lt
  have hd1 : Bp < w.drew.heap.size := h1
  have hd2 : Br < w.drew.heap.size := h2
  have HS := Lib.hid hS
  obtain ⟨a0, a1, a2, a3, a4, a5, b0⟩ := hS
  have HP := Lib.hid hp; have HQ := Lib.hid hq
  clear h h' hp hq
  go_enter Try.func110, Try.ntmps110
  go_wp2_with fail
  go_region_held3 (fun w' => w'.cell? ⟨Bp, 0, none⟩ = some (.int .i64 p.1) ∧ w'.cell? ⟨Bp, 1, none⟩ = some (.int .i64 p.2.1) ∧ w'.cell? ⟨Bp, 2, none⟩ = some (.int .i64 p.2.2) ∧ w'.cell? ⟨Bp, 3, none⟩ = some (.int .i64 q.1) ∧ w'.cell? ⟨Bp, 4, none⟩ = some (.int .i64 q.2.1) ∧ w'.cell? ⟨Bp, 5, none⟩ = some (.int .i64 q.2.2) ∧
  w'.cell? ⟨Br, 0, none⟩ = some (.int .i64 lv))
    (first | (go_keep; done) | exact SixOne.below ‹_› hb hd1 hd2)
    (first | (go_at_call 106; refine (pieceAt_any p q x _ HP.out HQ.out hx hx').mono ?_; rintro e w1 ⟨rfl, hb⟩))
  go_wp2
  go_ret
  exact ⟨rfl, below_d hb⟩

theorem above_asked (Bp Br : Nat) (p q : P3) (lv x : Int) (w : World) (h : AskedA w Bp Br p q lv) (hx : 0 ≤ x) (hx' : x ≤ 1000000) :
    Calls Try.prog 110 #[.int .i64 x, .pointer (some ⟨Bp, 0, none⟩), .pointer (some ⟨Br, 0, none⟩)] w fun e w' => e = .returned (.bool (aboveSo p q lv x)) ∧ Below w.heap.size w w' :=
  aboveAsk Bp Br p q lv x w h.1 h.2.1 h.2.2.1 h.2.2.2 hx hx'

/-- a function value that Where makes -/
abbrev aboveFn (Bp Br : Nat) : Value := .func (.func 110) #[] #[.pointer (some ⟨Bp, 0, none⟩), .pointer (some ⟨Br, 0, none⟩)]
/-- What the closure of stretch needs of a world. -/
def aboveTurn (w : World) (B3 B5 B7 Bp Br : Nat) (p q : P3) (lv a : Int) (first : Bool) : Prop :=
  Blk w B3 113 #[aboveFn Bp Br] ∧ Blk w B5 3 #[.int .i64 a] ∧ Blk w B7 4 #[.bool first] ∧ AskedA w Bp Br p q lv
theorem aboveTurn.below {w w' : World} {B3 B5 B7 Bp Br : Nat} {p q : P3} {lv a : Int} {first : Bool} (h : aboveTurn w B3 B5 B7 Bp Br p q lv a first) (hB : Below w.heap.size w w') : aboveTurn w' B3 B5 B7 Bp Br p q lv a first :=
  ⟨h.1.below hB h.1.lt, h.2.1.below hB h.2.1.lt, h.2.2.1.below hB h.2.2.1.lt, h.2.2.2.below hB⟩

set_option maxRecDepth 100000 in
set_option maxHeartbeats 1000000 in
theorem above_turn (B3 B5 B7 Bp Br : Nat) (p q : P3) (lv a i : Int) (first : Bool) (w : World) (h : aboveTurn w B3 B5 B7 Bp Br p q lv a first) (hx : 0 ≤ a + i) (hx' : a + i ≤ 1000000) :
    Calls Try.prog 128 #[.int .i64 i, .pointer (some ⟨B3, 0, none⟩), .pointer (some ⟨B5, 0, none⟩), .pointer (some ⟨B7, 0, none⟩)] w fun e w' => e = .returned (.bool (!(aboveSo p q lv (a + i) == first))) ∧ Below w.heap.size w w' := by
  have a0 := h.1.cell 0
  have a1 := h.2.1.cell 0
  have a2 := h.2.2.1.cell 0
  have l3 := h.1.lt
  have l5 := h.2.1.lt
  have l7 := h.2.2.1.lt
  simp at a0 a1 a2
  have hd3 : B3 < w.drew.heap.size := l3
  have hd5 : B5 < w.drew.heap.size := l5
  have hd7 : B7 < w.drew.heap.size := l7
  have w1 : IntKind.i64.wrap (a + i) = a + i := IntWalk.i64_in _ ⟨by omega, by omega⟩
  have HA := Lib.hid h.2.2.2
  clear h
  generalize hso : aboveSo p q lv (a + i) = so
  have HC := Lib.hid (fun V (hV : AskedA V Bp Br p q lv) => (hso ▸ above_asked Bp Br p q lv (a + i) V hV hx hx'))
  clear hso
  go_enter Try.func128, Try.ntmps128
  go_wp2_with fail
  go_region_held3 (fun w' => w'.cell? ⟨B3, 0, none⟩ = some (aboveFn Bp Br) ∧ w'.cell? ⟨B5, 0, none⟩ = some (.int .i64 a) ∧ w'.cell? ⟨B7, 0, none⟩ = some (.bool first))
    (first | (go_keep; done) | exact ⟨((bcell hb).1 _ _ hd3).trans (‹_ ∧ _ ∧ _›).1, ((bcell hb).1 _ _ hd5).trans (‹_ ∧ _ ∧ _›).2.1, ((bcell hb).1 _ _ hd7).trans (‹_ ∧ _ ∧ _›).2.2⟩)
    (first | (go_at_call 110; refine (HC.out w.drew HA.out).mono ?_; rintro e w1 ⟨rfl, hb⟩))
  go_wp2
  go_ret
  exact ⟨rfl, below_d hb⟩

/-- the closure that stretch hands to sort.Search -/
abbrev aboveTurnFn (B3 B5 B7 : Nat) : Value := .func (.func 128) #[] #[.pointer (some ⟨B3, 0, none⟩), .pointer (some ⟨B5, 0, none⟩), .pointer (some ⟨B7, 0, none⟩)]
theorem above_turn_to (B3 B5 B7 Bp Br : Nat) (p q : P3) (lv a i : Int) (first t : Bool) (w : World) (h : aboveTurn w B3 B5 B7 Bp Br p q lv a first) (hx : 0 ≤ a + i) (hx' : a + i ≤ 1000000) (ht : (!(aboveSo p q lv (a + i) == first)) = t) :
    Calls Try.prog 128 #[.int .i64 i, .pointer (some ⟨B3, 0, none⟩), .pointer (some ⟨B5, 0, none⟩), .pointer (some ⟨B7, 0, none⟩)] w fun e w' => e = .returned (.bool t) ∧ Below w.heap.size w w' := by
  subst ht; exact above_turn B3 B5 B7 Bp Br p q lv a i first w h hx hx'

set_option maxRecDepth 100000 in
set_option maxHeartbeats 2000000 in
theorem above_search (B3 B5 B7 Bp Br : Nat) (p q : P3) (lv a : Int) (n : Nat) (first : Bool) (w : World) (h : aboveTurn w B3 B5 B7 Bp Br p q lv a first) (ha : 0 ≤ a) (han : a + n ≤ 1000000) :
    Calls Try.prog 127 #[.int .i64 n, aboveTurnFn B3 B5 B7] w fun e w' => e = .returned (.int .i64 (bs (fun i => !(aboveSo p q lv (a + i) == first)) n 0 n)) ∧ Below w.heap.size w w' := by
  generalize hR : bs (fun i => !(aboveSo p q lv (a + i) == first)) n 0 n = R
  have HR := Lib.hid hR; clear hR
  have HT := Lib.hid h; clear h
  go_enter Try.func127, Try.ntmps127
  go_wp2_with fail
  go_loopw [5, 6] (fun vi vj wr => ∃ (i j k : Nat), i ≤ j ∧ j ≤ n ∧ j - i ≤ k ∧ vi = .int .i64 i ∧ vj = .int .i64 j ∧ Below w.heap.size w wr ∧ Hid (bs (fun i => !(aboveSo p q lv (a + i) == first)) k i j = R)) (fun vi vj _ => (intOf vj).toNat - (intOf vi).toNat)
  case atStart => exact ⟨0, n, n, by omega, by omega, by omega, rfl, rfl, Below.refl _ _, HR.out⟩
  case round =>
    obtain ⟨i, j, k, hij, hjn, hk, rfl, rfl, hB, HP⟩ := hrel
    by_cases hlt : i < j
    · have hlt' : (i : Int) < (j : Int) := by omega
      obtain ⟨k', rfl⟩ : ∃ k', k = k' + 1 := ⟨k - 1, by omega⟩
      obtain ⟨m, hm⟩ : ∃ m : Nat, (i + j) / 2 = m := ⟨_, rfl⟩
      have hmi : ((i : Int) + (j : Int)) / 2 = (m : Int) := by omega
      have m1 : i ≤ m := by omega
      have m2 : m < j := by omega
      have HM := Lib.hid hmi; clear hmi hm
      cases ht : (!(aboveSo p q lv (a + m) == first))
      · have hnext : bs (fun i => !(aboveSo p q lv (a + i) == first)) k' ((m : Int) + 1) j = R := by
          rw [← HP.out, bs_no _ _ _ _ hlt' (by rw [HM.out]; exact ht), HM.out]
        have HNX := Lib.hid hnext; clear hnext HP HR
        have HTT := Lib.hid ht; clear ht
        go_wp2_with fail
        rw [HM.out]
        refine (above_turn_to B3 B5 B7 Bp Br p q lv a m first _ wr (HT.out.below hB) (by omega) (by omega) HTT.out).mono ?_
        rintro e w1 ⟨rfl, hb1⟩
        have hB1 := below_then hB hb1
        go_wp2
        go_roundw
        case rel => exact ⟨m + 1, j, k', by omega, by omega, by omega, by rw [Int.natCast_add]; rfl, rfl, hB1, by rw [Int.natCast_add]; exact HNX.out⟩
        case measure => simp [intOf]; omega
      · have hnext : bs (fun i => !(aboveSo p q lv (a + i) == first)) k' (i : Int) m = R := by
          rw [← HP.out, bs_yes _ _ _ _ hlt' (by rw [HM.out]; exact ht), HM.out]
        have HNX := Lib.hid hnext; clear hnext HP HR
        have HTT := Lib.hid ht; clear ht
        go_wp2_with fail
        rw [HM.out]
        refine (above_turn_to B3 B5 B7 Bp Br p q lv a m first _ wr (HT.out.below hB) (by omega) (by omega) HTT.out).mono ?_
        rintro e w1 ⟨rfl, hb1⟩
        have hB1 := below_then hB hb1
        go_wp2
        go_roundw
        case rel => exact ⟨i, m, k', by omega, by omega, by omega, rfl, rfl, hB1, HNX.out⟩
        case measure => simp [intOf]; omega
    · have hf : R = (i : Int) := by rw [← HP.out]; exact bs_done _ _ _ _ (by omega)
      subst hf
      clear HP HR
      go_wp2
      go_ret
      exact ⟨rfl, hB⟩

theorem above_asked_to (Bp Br : Nat) (p q : P3) (lv x : Int) (t : Bool) (w : World) (h : AskedA w Bp Br p q lv) (hx : 0 ≤ x) (hx' : x ≤ 1000000) (ht : aboveSo p q lv x = t) :
    Calls Try.prog 110 #[.int .i64 x, .pointer (some ⟨Bp, 0, none⟩), .pointer (some ⟨Br, 0, none⟩)] w fun e w' => e = .returned (.bool t) ∧ Below w.heap.size w w' := by
  subst ht; exact above_asked Bp Br p q lv x w h hx hx'

theorem above_search_int (B3 B5 B7 Bp Br : Nat) (p q : P3) (lv a d : Int) (first : Bool) (w : World) (h : aboveTurn w B3 B5 B7 Bp Br p q lv a first) (ha : 0 ≤ a) (hd : 0 ≤ d) (had : a + d ≤ 1000000) :
    Calls Try.prog 127 #[.int .i64 d, aboveTurnFn B3 B5 B7] w fun e w' => e = .returned (.int .i64 (bs (fun i => !(aboveSo p q lv (a + i) == first)) d.toNat 0 d)) ∧ Below w.heap.size w w' := by
  obtain ⟨n, rfl⟩ := Int.eq_ofNat_of_zero_le hd
  exact above_search B3 B5 B7 Bp Br p q lv a n first w h ha had

set_option maxRecDepth 100000 in
set_option maxHeartbeats 2000000 in
theorem above_stretch (Bp Br : Nat) (p q : P3) (lv : Int) (w : World) (h : AskedA w Bp Br p q lv) (hab : p.1 ≤ q.1) :
    Calls Try.prog 104 #[pv p q, aboveFn Bp Br] w fun e w' => e = .returned (rv (stretchS (aboveSo p q lv) p.1 q.1).1 (stretchS (aboveSo p q lv) p.1 q.1).2) ∧ Below w.heap.size w w' := by
  obtain ⟨o1, o2, _, _, _, _⟩ := h.2.2.1
  obtain ⟨o3, o4, _, _, _, _⟩ := h.2.2.2
  have HA := Lib.hid h; clear h
  generalize hf : aboveSo p q lv p.1 = f
  generalize hs : aboveSo p q lv q.1 = s
  generalize hR : stretchS (aboveSo p q lv) p.1 q.1 = R
  have HF := Lib.hid hf; have HS := Lib.hid hs; have HR := Lib.hid hR; clear hf hs hR
  go_enter Try.func104, Try.ntmps104
  go_wp2_with fail
  go_region
  go_wp2_with fail
  have b3 := ((Blk.new (w.alloc (.cells (pCells p q) 111)) 113 #[aboveFn Bp Br]).alloc (.cells #[.int .i64 0, .int .i64 0] 23)).alloc (.cells #[.int .i64 p.1] 3)
  have b4 := (Blk.new ((w.alloc (.cells (pCells p q) 111)).alloc (.cells #[aboveFn Bp Br] 113)) 23 #[.int .i64 0, .int .i64 0]).alloc (.cells #[.int .i64 p.1] 3)
  have b5 := Blk.new (((w.alloc (.cells (pCells p q) 111)).alloc (.cells #[aboveFn Bp Br] 113)).alloc (.cells #[.int .i64 0, .int .i64 0] 23)) 3 #[.int .i64 p.1]
  have hE : Below w.heap.size w ((((w.alloc (.cells (pCells p q) 111)).alloc (.cells #[aboveFn Bp Br] 113)).alloc (.cells #[.int .i64 0, .int .i64 0] 23)).alloc (.cells #[.int .i64 p.1] 3)) := below_a2 (below_a2 (Below.refl _ _))
  have hsz : ((((w.alloc (.cells (pCells p q) 111)).alloc (.cells #[aboveFn Bp Br] 113)).alloc (.cells #[.int .i64 0, .int .i64 0] 23)).alloc (.cells #[.int .i64 p.1] 3)).drew.heap.size = w.heap.size + 4 := by show _ = _; simp [World.drew]
  have b3 := b3.drew
  have b4 := b4.drew
  have b5 := b5.drew
  have hE := hE.drew
  simp only [World.size_alloc] at b3 b4 b5
  obtain ⟨W4, hW4⟩ : ∃ W4, ((((w.alloc (.cells (pCells p q) 111)).alloc (.cells #[aboveFn Bp Br] 113)).alloc (.cells #[.int .i64 0, .int .i64 0] 23)).alloc (.cells #[.int .i64 p.1] 3)).drew = W4 := ⟨_, rfl⟩
  rw [hW4] at b3 b4 b5 hE hsz ⊢
  clear hW4
  have hA4 := HA.out.below hE
  refine (above_asked_to Bp Br p q lv p.1 f W4 hA4 o1 o2 HF.out).mono ?_
  rintro e W5 ⟨rfl, hb5⟩
  have c3 := b3.below hb5 b3.lt
  have c4 := b4.below hb5 b4.lt
  have c5 := b5.below hb5 b5.lt
  have hA5 := hA4.below hb5
  have hE5 := below_then hE hb5
  have hz5 : w.heap.size + 1 + 1 + 1 < W5.heap.size := by have := hb5.size; omega
  clear b3 b4 b5 hA4 hE hb5 hsz
  have d3 := c3.alloc (.cells #[.bool f] 4)
  have d4 := c4.alloc (.cells #[.bool f] 4)
  have d5 := c5.alloc (.cells #[.bool f] 4)
  have d7 := Blk.new W5 4 #[.bool f]
  have hA6 := hA5.below ((Below.refl _ _).alloc (Nat.le_refl _) (.cells #[.bool f] 4))
  have hE6 := below_then hE5 ((Below.refl _ _).alloc (Nat.le_refl _) (.cells #[.bool f] 4))
  have x3 := c3.cell 0
  have x5 := c5.cell 0
  simp at x3 x5
  have C3 := Lib.hid d3; have C4 := Lib.hid d4; have C5 := Lib.hid d5; have C7 := Lib.hid d7; have A6 := Lib.hid hA6; have E6 := Lib.hid hE6
  clear c3 c4 c5 d3 d4 d5 d7 hA5 hA6 hE5 hE6
  go_wp2_with fail
  obtain ⟨W6, hW6⟩ : ∃ W6, W5.alloc (.cells #[.bool f] 4) = W6 := ⟨_, rfl⟩
  rw [hW6] at C3 C4 C5 C7 A6 E6 ⊢
  clear hW6 x3 x5
  have e3 := C3.out.cell 0
  have e5 := C5.out.cell 0
  have e7 := C7.out.cell 0
  have l3 := C3.out.lt
  have l5 := C5.out.lt
  have l7 := C7.out.lt
  simp at e3 e5 e7
  have hd3 : w.heap.size + 1 < W6.drew.heap.size := l3
  have hd5 : w.heap.size + 1 + 1 + 1 < W6.drew.heap.size := l5
  have hd7 : W5.heap.size < W6.drew.heap.size := l7
  go_region_held3 (fun w' => w'.cell? ⟨w.heap.size + 1, 0, none⟩ = some (aboveFn Bp Br) ∧ w'.cell? ⟨W5.heap.size, 0, none⟩ = some (.bool f))
    (first | (go_keep; done) | exact ⟨((bcell hb7).1 _ _ hd3).trans (‹_ ∧ _›).1, ((bcell hb7).1 _ _ hd7).trans (‹_ ∧ _›).2⟩)
    (first | (go_at_call 110; refine (above_asked_to Bp Br p q lv q.1 s W6.drew A6.out.drew o3 o4 HS.out).mono ?_; rintro e W7 ⟨rfl, hb7⟩))
  have D3 := C3.out.drew.below hb7 hd3
  have D4 := C4.out.drew.below hb7 (show w.heap.size + 1 + 1 < W6.drew.heap.size from C4.out.lt)
  have D5 := C5.out.drew.below hb7 hd5
  have D7 := C7.out.drew.below hb7 hd7
  have A7 := A6.out.drew.below hb7
  have E7 := below_then E6.out (below_d hb7)
  have y5 := D5.cell 0
  have y7 := D7.cell 0
  have r0 := D4.cell 0
  have r1 := D4.cell 1
  have f0 := D4.frozen 0
  have f1 := D4.frozen 1
  simp at y5 y7 r0 r1
  have m5 := D5.lt
  have m7 := D7.lt
  have HT := Lib.hid (show aboveTurn W7 (w.heap.size + 1) (w.heap.size + 1 + 1 + 1) W5.heap.size Bp Br p q lv p.1 f from ⟨D3, D5, D7, A7⟩)
  have H4 := Lib.hid D4
  have H7 := Lib.hid E7
  clear C3 C4 C5 C7 A6 E6 D3 D4 D5 D7 A7 E7 hb7 hd3 hd5 hd7 e3 e5 e7 l3 l5 l7
  have w1 : IntKind.i64.wrap (q.1 - p.1) = q.1 - p.1 := IntWalk.i64_in _ ⟨by omega, by omega⟩
  have hbr := bs_range (fun i => !(aboveSo p q lv (p.1 + i) == f)) (q.1 - p.1).toNat 0 (q.1 - p.1) (by omega)
  have hsize : w.heap.size ≤ W7.heap.size := by omega
  cases f <;> cases s
  · have hr : R = (q.1 + 1, q.1) := by rw [← HR.out]; unfold stretchS; rw [HF.out, HS.out]; simp
    have HRR := Lib.hid hr; clear HR HF HS hr hbr HT
    go_wp2
    refine bodyPost_ret (v := rv (q.1 + 1) q.1) (by simp [results, Try.results104, go_sem, r0, r1]) rfl ⟨by rw [HRR.out], ?_⟩
    exact (H7.out.setCell (p := ⟨w.heap.size + 1 + 1, 0, none⟩) (by simp; omega) _).setCell (p := ⟨w.heap.size + 1 + 1, 1, none⟩) (by simp; omega) _
  · have hr : R = (p.1 + bs (fun i => !(aboveSo p q lv (p.1 + i) == false)) (q.1 - p.1).toNat 0 (q.1 - p.1), q.1) := by rw [← HR.out]; unfold stretchS; rw [HF.out, HS.out]; simp
    have HRR := Lib.hid hr; clear HR HF HS hr
    have HS8 := Lib.hid (above_search_int (w.heap.size + 1) (w.heap.size + 1 + 1 + 1) W5.heap.size Bp Br p q lv p.1 (q.1 - p.1) false W7.drew HT.out o1 (by omega) (by omega))
    generalize hB : bs (fun i => !(aboveSo p q lv (p.1 + i) == false)) (q.1 - p.1).toNat 0 (q.1 - p.1) = T at *
    have w2 : IntKind.i64.wrap (p.1 + T) = p.1 + T := IntWalk.i64_in _ ⟨by omega, by omega⟩
    clear hB HT
    go_wp2_with fail
    go_region_held3 (fun w' => w'.cell? ⟨w.heap.size + 1 + 1 + 1, 0, none⟩ = some (.int .i64 p.1) ∧ w'.cell? ⟨W5.heap.size, 0, none⟩ = some (.bool false))
      (first | (go_keep; done) | exact ⟨((bcell hb8).1 _ _ (show w.heap.size + 1 + 1 + 1 < W7.drew.heap.size from m5)).trans (‹_ ∧ _›).1, ((bcell hb8).1 _ _ (show W5.heap.size < W7.drew.heap.size from m7)).trans (‹_ ∧ _›).2⟩)
      (first | (go_at_call 127; refine (HS8.out).mono ?_; rintro e W8 ⟨rfl, hb8⟩))
    have J4 := H4.out.drew.below hb8 (show w.heap.size + 1 + 1 < W7.drew.heap.size from H4.out.lt)
    have z7 := ((bcell hb8).1 W5.heap.size 0 (show W5.heap.size < W7.drew.heap.size from m7)).trans y7
    have z5 := ((bcell hb8).1 (w.heap.size + 1 + 1 + 1) 0 (show w.heap.size + 1 + 1 + 1 < W7.drew.heap.size from m5)).trans y5
    have q0 := J4.cell 0
    have q1 := J4.cell 1
    have g0 := J4.frozen 0
    have g1 := J4.frozen 1
    simp at q0 q1
    have H8 := Lib.hid (below_then H7.out (below_d hb8))
    clear hb8 J4 y5 y7 r0 r1 f0 f1
    go_wp2
    refine bodyPost_ret (v := rv (p.1 + T) q.1) (by simp [results, Try.results104, go_sem, q0, q1]) rfl ⟨by rw [HRR.out], ?_⟩
    exact (H8.out.setCell (p := ⟨w.heap.size + 1 + 1, 0, none⟩) (by simp; omega) _).setCell (p := ⟨w.heap.size + 1 + 1, 1, none⟩) (by simp; omega) _
  · have hr : R = (p.1, p.1 + bs (fun i => !(aboveSo p q lv (p.1 + i) == true)) (q.1 - p.1).toNat 0 (q.1 - p.1) - 1) := by rw [← HR.out]; unfold stretchS; rw [HF.out, HS.out]; simp
    have HRR := Lib.hid hr; clear HR HF HS hr
    have HS8 := Lib.hid (above_search_int (w.heap.size + 1) (w.heap.size + 1 + 1 + 1) W5.heap.size Bp Br p q lv p.1 (q.1 - p.1) true W7.drew HT.out o1 (by omega) (by omega))
    generalize hB : bs (fun i => !(aboveSo p q lv (p.1 + i) == true)) (q.1 - p.1).toNat 0 (q.1 - p.1) = T at *
    have w2 : IntKind.i64.wrap (p.1 + T) = p.1 + T := IntWalk.i64_in _ ⟨by omega, by omega⟩
    clear hB HT
    go_wp2_with fail
    go_region_held3 (fun w' => w'.cell? ⟨w.heap.size + 1 + 1 + 1, 0, none⟩ = some (.int .i64 p.1) ∧ w'.cell? ⟨W5.heap.size, 0, none⟩ = some (.bool true))
      (first | (go_keep; done) | exact ⟨((bcell hb8).1 _ _ (show w.heap.size + 1 + 1 + 1 < W7.drew.heap.size from m5)).trans (‹_ ∧ _›).1, ((bcell hb8).1 _ _ (show W5.heap.size < W7.drew.heap.size from m7)).trans (‹_ ∧ _›).2⟩)
      (first | (go_at_call 127; refine (HS8.out).mono ?_; rintro e W8 ⟨rfl, hb8⟩))
    have J4 := H4.out.drew.below hb8 (show w.heap.size + 1 + 1 < W7.drew.heap.size from H4.out.lt)
    have z7 := ((bcell hb8).1 W5.heap.size 0 (show W5.heap.size < W7.drew.heap.size from m7)).trans y7
    have z5 := ((bcell hb8).1 (w.heap.size + 1 + 1 + 1) 0 (show w.heap.size + 1 + 1 + 1 < W7.drew.heap.size from m5)).trans y5
    have q0 := J4.cell 0
    have q1 := J4.cell 1
    have g0 := J4.frozen 0
    have g1 := J4.frozen 1
    simp at q0 q1
    have H8 := Lib.hid (below_then H7.out (below_d hb8))
    clear hb8 J4 y5 y7 r0 r1 f0 f1
    go_wp2
    refine bodyPost_ret (v := rv p.1 (p.1 + T - 1)) (by simp [results, Try.results104, go_sem, q0, q1]) rfl ⟨by rw [HRR.out], ?_⟩
    exact (H8.out.setCell (p := ⟨w.heap.size + 1 + 1, 0, none⟩) (by simp; omega) _).setCell (p := ⟨w.heap.size + 1 + 1, 1, none⟩) (by simp; omega) _
  · have hr : R = (p.1, q.1) := by rw [← HR.out]; unfold stretchS; rw [HF.out, HS.out]; simp
    have HRR := Lib.hid hr; clear HR HF HS hr hbr HT
    go_wp2
    refine bodyPost_ret (v := rv p.1 q.1) (by simp [results, Try.results104, go_sem, r0, r1]) rfl ⟨by rw [HRR.out], ?_⟩
    exact (H7.out.setCell (p := ⟨w.heap.size + 1 + 1, 0, none⟩) (by simp; omega) _).setCell (p := ⟨w.heap.size + 1 + 1, 1, none⟩) (by simp; omega) _

set_option maxRecDepth 100000 in
set_option maxHeartbeats 2000000 in
/-- the closure that Above hands to collect -/
theorem abovePiece (Br : Nat) (p q : P3) (lv : Int) (w : World) (h : Blk w Br 3 #[.int .i64 lv]) (hp : Okp p) (hq : Okp q) (hab : p.1 ≤ q.1) :
    Calls Try.prog 109 #[pv p q, .pointer (some ⟨Br, 0, none⟩)] w fun e w' => e = .returned (rv (aboveS lv p q).1 (aboveS lv p q).2) ∧ Below w.heap.size w w' := by
  have bp := (Blk.new w 111 (pCells p q)).alloc (.cells #[.int .i64 0, .int .i64 0] 23)
  have br := (Blk.new (w.alloc (.cells (pCells p q) 111)) 23 #[.int .i64 0, .int .i64 0])
  have bb := (h.alloc (.cells (pCells p q) 111)).alloc (.cells #[.int .i64 0, .int .i64 0] 23)
  have hE : Below w.heap.size w ((w.alloc (.cells (pCells p q) 111)).alloc (.cells #[.int .i64 0, .int .i64 0] 23)) := below_a2 (Below.refl _ _)
  simp only [World.size_alloc] at br
  have HP := Lib.hid bp; have HR := Lib.hid br; have HB := Lib.hid bb; have HE := Lib.hid hE
  have HO := Lib.hid (And.intro hp (And.intro hq hab))
  clear bp br bb hE h hp hq
  generalize hS1 : aboveS lv p q = s1
  have H1 := Lib.hid hS1
  clear hS1
  go_enter Try.func109, Try.ntmps109
  go_wp2_with fail
  have hz : w.heap.size + 2 = ((w.alloc (.cells (pCells p q) 111)).alloc (.cells #[.int .i64 0, .int .i64 0] 23)).heap.size := by simp
  obtain ⟨W1, hW1⟩ : ∃ W1, ((w.alloc (.cells (pCells p q) 111)).alloc (.cells #[.int .i64 0, .int .i64 0] 23)) = W1 := ⟨_, rfl⟩
  rw [hW1] at HP HR HB HE hz ⊢
  clear hW1
  have hA1 : AskedA W1 w.heap.size Br p q lv := ⟨HP.out, HB.out, HO.out.1, HO.out.2.1⟩
  have C1 := above_stretch w.heap.size Br p q lv W1 hA1 HO.out.2.2
  rw [show stretchS (aboveSo p q lv) p.1 q.1 = s1 from H1.out] at C1
  refine C1.mono ?_
  rintro e W2 ⟨rfl, hb2⟩
  have r2 := HR.out.below hb2 HR.out.lt
  have hz2 : w.heap.size + 1 < W2.heap.size := by have := hb2.size; omega
  have q0 := r2.cell 0
  have q1 := r2.cell 1
  have f0 := r2.frozen 0
  have f1 := r2.frozen 1
  simp at q0 q1
  have HE2 := Lib.hid (below_then HE.out hb2)
  clear hb2 C1 hA1 r2
  go_wp2
  refine bodyPost_ret (v := rv s1.1 s1.2) (by simp [results, Try.results109, go_sem, q0, q1]) rfl ⟨rfl, ?_⟩
  exact ((HE2.out.setCell (p := ⟨w.heap.size + 1, 0, none⟩) (by simp) _).setCell (p := ⟨w.heap.size + 1, 1, none⟩) (by simp) _)

section
open Go.Shelf
attribute [local go_sem] Oper.semAt_some

/-- The closure of Above as a value. -/
@[reducible] def abovePFn (Br : Nat) : Value := .func (.func 109) #[] #[.pointer (some ⟨Br, 0, none⟩)]

set_option maxRecDepth 100000 in
set_option maxHeartbeats 4000000 in
theorem collect_above (b0 o n c Br : Nat) (ps : List P3) (xs : List Pr) (lv : Int) (w : World) (hn : n = ps.length) (h2 : 1 ≤ n) (hb : b0 < w.heap.size) (ht : tabOk ps = true) (hxs : xs.map (·.1) = pcs ps) (hc : PtsAt w b0 o ps)
    (hr : Blk w Br 3 #[.int .i64 lv]) :
    Calls Try.prog 102 #[tv (some ⟨b0, o, none⟩) n c, abovePFn Br] w fun e w' => GivesRuns w (runsF (aboveS lv) xs) e w' := by
  have h40 := (tabOk_len ht).2
  have hml : n ≤ maxLen := by unfold maxLen; omega
  have hn40 : n ≤ 40 := by omega
  have hbr := hr.lt
  have HN := Lib.hid hn; clear hn
  have HT := Lib.hid ht; clear ht
  have HX := Lib.hid hxs; clear hxs
  refine (callsIn_wide (n := 6)).1 ?_
  refine callsIn_of_wp_marks Try.func102 rfl trivial ?_ rfl
  simp only [Try.ntmps102, List.size_toArray, List.length_cons, List.length_nil, Nat.reduceAdd, Nat.reduceSub, Array.replicate_succ, Array.replicate_zero, List.push_toArray, List.append_toArray, List.nil_append, List.cons_append]
  gi_wp2_with (refine ⟨trivial, ?_⟩; gi_at_call 111; refine (callsIn_wide.2 (pieces_any _ _ _ _)).mono ?_; rintro e w' ⟨rfl, rfl⟩)
  have bF := (((Blk.new (w.alloc (.cells #[.slice (some ⟨b0, o, none⟩) n c] 43)) 114 #[abovePFn Br]).alloc (.cells #[.slice none 0 0] 137)).alloc (.cells #[.pointer (some ⟨w.heap.size + 1 + 1, 0, none⟩)] 135)).alloc (.cells #[.slice (some ⟨b0, o, none⟩) n c] 43)
  have bG := ((Blk.new ((w.alloc (.cells #[.slice (some ⟨b0, o, none⟩) n c] 43)).alloc (.cells #[abovePFn Br] 114)) 137 #[.slice none 0 0]).alloc (.cells #[.pointer (some ⟨w.heap.size + 1 + 1, 0, none⟩)] 135)).alloc (.cells #[.slice (some ⟨b0, o, none⟩) n c] 43)
  have bL := (Blk.new (((w.alloc (.cells #[.slice (some ⟨b0, o, none⟩) n c] 43)).alloc (.cells #[abovePFn Br] 114)).alloc (.cells #[.slice none 0 0] 137)) 135 #[.pointer (some ⟨w.heap.size + 1 + 1, 0, none⟩)]).alloc (.cells #[.slice (some ⟨b0, o, none⟩) n c] 43)
  have bT := Blk.new ((((w.alloc (.cells #[.slice (some ⟨b0, o, none⟩) n c] 43)).alloc (.cells #[abovePFn Br] 114)).alloc (.cells #[.slice none 0 0] 137)).alloc (.cells #[.pointer (some ⟨w.heap.size + 1 + 1, 0, none⟩)] 135)) 43 #[.slice (some ⟨b0, o, none⟩) n c]
  simp only [World.size_alloc] at bF bG bL bT
  have hE : Below w.heap.size w (((((w.alloc (.cells #[.slice (some ⟨b0, o, none⟩) n c] 43)).alloc (.cells #[abovePFn Br] 114)).alloc (.cells #[.slice none 0 0] 137)).alloc (.cells #[.pointer (some ⟨w.heap.size + 1 + 1, 0, none⟩)] 135)).alloc (.cells #[.slice (some ⟨b0, o, none⟩) n c] 43)) := below_a3 (below_a2 (Below.refl _ _))
  have hsz : (((((w.alloc (.cells #[.slice (some ⟨b0, o, none⟩) n c] 43)).alloc (.cells #[abovePFn Br] 114)).alloc (.cells #[.slice none 0 0] 137)).alloc (.cells #[.pointer (some ⟨w.heap.size + 1 + 1, 0, none⟩)] 135)).alloc (.cells #[.slice (some ⟨b0, o, none⟩) n c] 43)).heap.size = w.heap.size + 5 := by simp
  obtain ⟨W0, hW0⟩ : ∃ W0, (((((w.alloc (.cells #[.slice (some ⟨b0, o, none⟩) n c] 43)).alloc (.cells #[abovePFn Br] 114)).alloc (.cells #[.slice none 0 0] 137)).alloc (.cells #[.pointer (some ⟨w.heap.size + 1 + 1, 0, none⟩)] 135)).alloc (.cells #[.slice (some ⟨b0, o, none⟩) n c] 43)) = W0 := ⟨_, rfl⟩
  rw [hW0] at bF bG bL bT hE hsz ⊢
  clear hW0
  have hc0 := hc.below hE hb
  have hr0 := hr.below hE hbr
  have HE := Lib.hid hE
  clear hE hc hr
  refine wpIn_rangeFunc_ownH rfl (by omega) (gf := 132) (lb := #[.pointer (some ⟨w.heap.size + 1 + 1 + 1 + 1, 0, none⟩)]) rfl trivial (enters_of Try.func132 (by kernel_rfl) rfl)
    (rise_stops xs (6 - 1) (by omega) (w.heap.size + 1 + 1 + 1 + 1) w.heap.size b0 o n c ps HN.out h2 hn40 HX.out hb W0 (by omega) (by omega) (bT.cell 0) hc0) belowK_t (belowK_b (by omega)) (Below.refl _ _) (fun _ => rfl)
    (fun pre W => (Blk W (w.heap.size + 1) 114 #[abovePFn Br] ∧ Blk W (w.heap.size + 1 + 1 + 1) 135 #[.pointer (some ⟨w.heap.size + 1 + 1, 0, none⟩)] ∧ Blk W Br 3 #[.int .i64 lv] ∧ RunsN (w.heap.size + 1 + 1) W0.heap.size W (runsF (aboveS lv) pre)) ∧ Below w.heap.size W0 W)
    (fun _ _ _ => False)
    (OwnFrom.and (Own.from (fun s X Y row hs hg hr => ⟨blk_own (β := Unit) _ _ (fun _ => _) () X Y row hs.1 hg hr, blk_own (β := Unit) _ _ (fun _ => _) () X Y row hs.2.1 hg hr, blk_own (β := Unit) _ _ (fun _ => _) () X Y row hs.2.2.1 hg hr, hs.2.2.2.grown hg hr⟩) _) (ownFrom_below (by omega) (by omega)))
    (fun _ _ _ _ _ hs _ _ => hs)
    ⟨⟨bF, bL, hr0, .inl ⟨rfl, bG⟩⟩, Below.refl _ _⟩
    (fun y a' W => ∃ Bx, w.heap.size + 1 + 1 + 1 < Bx ∧ Blk W Bx 111 #[.int .i64 y.1.1.1, .int .i64 y.1.1.2.1, .int .i64 y.1.1.2.2, .int .i64 y.1.2.1, .int .i64 y.1.2.2.1, .int .i64 y.1.2.2.2] ∧ a' = { tmps := #[tv (some ⟨b0, o, none⟩) n c, abovePFn Br, .pointer (some ⟨w.heap.size, 0, none⟩), .pointer (some ⟨w.heap.size + 1, 0, none⟩), .slice none 0 0, .pointer (some ⟨w.heap.size + 1 + 1 + 1, 0, none⟩), .pointer (some ⟨Bx, 0, none⟩), undef, .agg #[.slice none 0 0], .pointer (some ⟨w.heap.size + 1 + 1, 0, none⟩), .agg #[.slice (some ⟨b0, o, none⟩) n c], .func (.func 132) #[] #[.pointer (some ⟨w.heap.size + 1 + 1 + 1 + 1, 0, none⟩)], pv y.1.1 y.1.2, undef, undef, undef, undef, undef, undef, undef, undef, undef, undef, undef, undef, undef, undef, undef], defers := [] })
    (fun y a' _ X Y row hs hg hr => by
      obtain ⟨Bx, h1, h2, h3⟩ := hs
      exact ⟨Bx, h1, blk_own (β := Unit) _ _ (fun _ => _) () X Y row h2 hg (fun r e => (hr r e).2), h3⟩)
    ?assign ?body ?done ?stop
  case assign =>
    rintro l pre y W K ⟨⟨i1, i2, i3, i4⟩, hB1⟩ hK
    gi_wp2
    have hBs := hB1.size
    exact hK _ _ ((KeepsOthers.alloc _ _).from _) ((Below.refl _ W).alloc (by omega) _) ⟨⟨i1.alloc _, i2.alloc _, i3.alloc _, i4.alloc _⟩, hB1.alloc (by omega) _⟩ ⟨W.heap.size, by omega, Blk.new W 111 _, rfl⟩
  case body =>
    rintro l pre y a' W hl ⟨r, hr⟩ ⟨⟨i1, i2, i3, i4⟩, hB1⟩ ⟨Bx, hBx, bP, rfl⟩ hlt
    have x1 := i1.cell 0
    have x2 := i2.cell 0
    have p0 := bP.cell 0
    have p1 := bP.cell 1
    have p2 := bP.cell 2
    have p3 := bP.cell 3
    have p4 := bP.cell 4
    have p5 := bP.cell 5
    simp at x1 x2 p0 p1 p2 p3 p4 p5
    have hBs := hB1.size
    have J1 := Lib.hid i1; have J2 := Lib.hid i2; have J3 := Lib.hid i3; have J4 := Lib.hid i4; have JB := Lib.hid hB1
    clear i1 i2 i3 i4 hB1 bP
    have hy3 := y.2.2.2
    gi_wp2_with fail
    refine ⟨trivial, ?_⟩
    refine (CallsIn.inRound l (callsIn_wide.2 (abovePiece Br y.1.1 y.1.2 lv W J3.out y.2.1 y.2.2.1 (by omega)))).mono ?_
    rintro e W2 ⟨rfl, hb2⟩
    have hs2 := hb2.size
    generalize hR : aboveS lv y.1.1 y.1.2 = R
    obtain ⟨ra, rb⟩ := R
    dsimp only
    have HR := Lib.hid hR; clear hR
    have hOb : Below W.heap.size W (W2.alloc (.cells #[.int .i64 ra, .int .i64 rb] 23)) := below_then hb2 ((Below.refl _ _).alloc (Nat.le_refl _) _)
    have k1 := (J1.out.below hb2 J1.out.lt).alloc (.cells #[.int .i64 ra, .int .i64 rb] 23)
    have k2 := (J2.out.below hb2 J2.out.lt).alloc (.cells #[.int .i64 ra, .int .i64 rb] 23)
    have k3 := (J3.out.below hb2 J3.out.lt).alloc (.cells #[.int .i64 ra, .int .i64 rb] 23)
    have k4 := (J4.out.below hb2).alloc (.cells #[.int .i64 ra, .int .i64 rb] 23)
    have kR := Blk.new W2 23 #[.int .i64 ra, .int .i64 rb]
    have kB := below_then' JB.out hb2 ra rb (by omega)
    have kK := keeps_below W0.heap.size hOb
    have kN := hOb.mono (show w.heap.size ≤ W.heap.size by omega)
    have z1 := (J2.out.below hb2 J2.out.lt).cell 0
    simp at z1
    have L1 := Lib.hid k1; have L2 := Lib.hid k2; have L3 := Lib.hid k3; have L4 := Lib.hid k4; have LR := Lib.hid kR; have LB := Lib.hid kB; have LK := Lib.hid kK; have LN := Lib.hid kN
    clear x1 x2 p0 p1 p2 p3 p4 p5 k1 k2 k3 k4 kR kB kK kN hb2 hOb
    have hza : w.heap.size + 1 + 1 + 1 < W2.heap.size := by omega
    by_cases hle : ra ≤ rb
    · gi_wp2_with fail
      refine ⟨trivial, ?_⟩
      have hpl : pre.length ≤ 1000000 := by have h1 := HN.out; have h2' := congrArg List.length HX.out; have h3' := pcs_len ps; simp at h2'; omega
      refine (CallsIn.inRound l (callsIn_wide.2 (runsAdd_any (w.heap.size + 1 + 1) W0.heap.size (runsF (aboveS lv) pre) ra rb (W2.alloc (.cells #[.int .i64 ra, .int .i64 rb] 23)) L4.out (by simp; omega) (Nat.le_trans (runsF_len _ _) hpl)))).mono ?_
      rintro e W3 ⟨rfl, hA3, hM3, hK3⟩
      have m1 := L1.out.most hM3 (by omega) (by omega)
      have m2 := L2.out.most hM3 (by omega) (by omega)
      have m3 := L3.out.most hM3 (by omega) (by omega)
      have mN := hM3.below (n := w.heap.size) (by omega) (by omega)
      have H3 := Lib.hid hA3; have HK3 := Lib.hid hK3; have M1 := Lib.hid m1; have M2 := Lib.hid m2; have M3 := Lib.hid m3; have MN := Lib.hid mN
      clear hA3 hM3 hK3 m1 m2 m3 mN
      gi_wp2
      have q1 : KeepsFrom W0.heap.size W W3 := LK.out.trans (HK3.out.from _)
      have q2 : Below w.heap.size W W3 := LN.out.trans MN.out
      have q3 : Below w.heap.size W0 W3 := LB.out.trans MN.out
      refine ⟨q1, q2, ⟨M1.out, M2.out, M3.out, ?_⟩, q3⟩
      rw [runsF_snoc]; unfold runStep; rw [HR.out, if_pos hle]; exact .inr ⟨addRun_ne _ _, H3.out⟩
    · gi_wp2
      rw [← hsz]
      refine ⟨LK.out, LN.out, ⟨L1.out, L2.out, L3.out, ?_⟩, LB.out⟩
      rw [runsF_snoc]; unfold runStep; rw [HR.out, if_neg (show ¬ ra ≤ rb by omega)]; exact L4.out
  case done =>
    rintro D ys W hD rfl ⟨⟨i1, i2, i3, i4⟩, hB1⟩ hK
    have x2 := i2.cell 0
    simp at x2
    have hBs := hB1.size
    obtain ⟨v, hbv, hov⟩ : ∃ v, Blk W (w.heap.size + 1 + 1) 137 #[v] ∧ OwnRuns W0.heap.size W v (runsF (aboveS lv) ys) := by
      rcases i4 with ⟨h1, h2⟩ | ⟨_, v, h1, h2⟩
      · exact ⟨_, h2, by rw [h1]; exact World.ownsRow_nil _ _ _ _⟩
      · exact ⟨v, h1, h2⟩
    have x3 := hbv.cell 0
    simp at x3
    have JB := Lib.hid hB1; have JV := Lib.hid hov
    clear i1 i2 i3 i4 hB1 hov
    gi_wp2
    refine ⟨by simp, .inl ⟨_, _, rfl, run_takeDeferred hK, ?_⟩⟩
    refine ⟨v, ?_, v, rfl, (JV.out.grown (grownBy_putObj' W D (.deferred none)) (fun r e => by injection e with e; subst e; exact ⟨_, hK, rfl⟩)).mono (by omega), ?_⟩
    · simp [results, Try.f102, go_sem]
    · exact (HE.out.trans JB.out).trans (belowK_b (w := W0) (by omega) _ D _ _ (by omega) hK rfl rfl)
  case stop =>
    rintro D cd pre W _ _ h _
    exact h.elim
end
end

section
open Go.RowKit

theorem w64_id {x : Int} (h : -9223372036854775808 ≤ x ∧ x ≤ 9223372036854775807) : wrap64 x = x := IntWalk.wrap64_in x h

theorem areaStep_ar {a b N D : Int} {s : Int × Int × Int} {p q : P3} {l0 l1 : Int} (h : Under a b p.1 s N D) (hab : a ≤ b) (h0 : 0 ≤ p.1) (h1 : p.1 < q.1) (h2 : q.1 ≤ 1000000) (a1 : -1000000000 ≤ l0) (a2 : l0 ≤ 1000000000) (b1 : -1000000000 ≤ l1) (b2 : l1 ≤ 1000000000) :
    areaStep s p q l0 l1 a b = arStep a b s p.1 q.1 l0 l1 := by
  have hU := under_step h hab h0 h1 h2 a1 a2 b1 b2
  unfold areaStep arStep
  unfold arStep at hU
  by_cases hc : min b q.1 ≤ max a p.1
  · rw [if_pos hc, if_pos hc]
  · rw [if_neg hc] at hU
    rw [if_neg hc, if_neg hc]
    unfold areaIn
    obtain ⟨W, n, d⟩ := s
    obtain ⟨_, hd, _, hn, hnk, _, _, hdm, w1, w2⟩ := h
    dsimp only at *
    have hE : arE p.1 q.1 l0 l1 (max a p.1) (min b q.1) = (q.1 - p.1) * (2 * l0 * (min b q.1 - max a p.1) + mS p.1 (max a p.1) (min b q.1) / (q.1 - p.1) * (l1 - l0)) + mS p.1 (max a p.1) (min b q.1) % (q.1 - p.1) * (l1 - l0) := by
      have := Int.mul_ediv_add_emod (mS p.1 (max a p.1) (min b q.1)) (q.1 - p.1)
      generalize mS p.1 (max a p.1) (min b q.1) / (q.1 - p.1) = x at *
      generalize mS p.1 (max a p.1) (min b q.1) % (q.1 - p.1) = y at *
      unfold arE
      unfold mS at this
      grind
    have hq : arE p.1 q.1 l0 l1 (max a p.1) (min b q.1) / (q.1 - p.1) = 2 * l0 * (min b q.1 - max a p.1) + mS p.1 (max a p.1) (min b q.1) / (q.1 - p.1) * (l1 - l0) + mS p.1 (max a p.1) (min b q.1) % (q.1 - p.1) * (l1 - l0) / (q.1 - p.1) := by
      rw [hE, Int.mul_add_ediv_left _ _ (by omega)]
    have hr : arE p.1 q.1 l0 l1 (max a p.1) (min b q.1) % (q.1 - p.1) = mS p.1 (max a p.1) (min b q.1) % (q.1 - p.1) * (l1 - l0) - mS p.1 (max a p.1) (min b q.1) % (q.1 - p.1) * (l1 - l0) / (q.1 - p.1) * (q.1 - p.1) := by
      rw [hE, Int.mul_add_emod_self_left]
      have := Int.mul_ediv_add_emod (mS p.1 (max a p.1) (min b q.1) % (q.1 - p.1) * (l1 - l0)) (q.1 - p.1)
      rw [Int.mul_comm (q.1 - p.1)] at this
      omega
    rw [← hq, ← hr]
    have hr0 := Int.emod_nonneg (arE p.1 q.1 l0 l1 (max a p.1) (min b q.1)) (show q.1 - p.1 ≠ 0 by omega)
    generalize arE p.1 q.1 l0 l1 (max a p.1) (min b q.1) / (q.1 - p.1) = Q at *
    generalize arE p.1 q.1 l0 l1 (max a p.1) (min b q.1) % (q.1 - p.1) = R at *
    clear hE hq hr
    unfold addS3
    by_cases hz : R = 0
    · rw [if_pos hz] at hU
      rw [if_pos hz, if_pos hz]
      obtain ⟨_, _, _, _, _, _, _, _, u1, u2⟩ := hU
      dsimp only at u1 u2 ⊢
      rw [w64_id ⟨by omega, by omega⟩]
    · rw [if_neg hz] at hU
      rw [if_neg hz, if_neg hz]
      have hk := (arK_in a b q.1).2
      obtain ⟨_, v1, _, _, v2, _, _, v3, u1, u2⟩ := hU
      dsimp only at u1 u2 v1 v2 v3 ⊢
      have m1 : 0 ≤ n * (q.1 - p.1) := Int.mul_nonneg hn (by omega)
      have m2 : 0 ≤ R * d := Int.mul_nonneg hr0 (by omega)
      have m3 := Int.mul_le_mul_of_nonneg_right hk (show 0 ≤ d * (q.1 - p.1) by omega)
      rw [w64_id (x := W + Q) ⟨by omega, by omega⟩, w64_id (x := n * (q.1 - p.1)) ⟨by omega, by omega⟩, w64_id (x := R * d) ⟨by omega, by omega⟩, w64_id (x := n * (q.1 - p.1) + R * d) ⟨by omega, by omega⟩, w64_id (x := d * (q.1 - p.1)) ⟨by omega, by omega⟩]

/-- Points whose places rise, with the numbers of a line. -/
def LineOk (l : P3 → Int) (ps : List P3) : Prop := ps.Pairwise (fun p q => p.1 < q.1) ∧ ∀ p ∈ ps, 0 ≤ p.1 ∧ p.1 ≤ 1000000 ∧ -1000000000 ≤ l p ∧ l p ≤ 1000000000
theorem fold_area {a b : Int} (hab : a ≤ b) (l : P3 → Int) : ∀ (ps : List P3) (x0 : Int) (s : Int × Int × Int) (N D : Int), (ps.map (·.1)).head? = some x0 → Under a b x0 s N D → LineOk l ps →
    (ps.zip ps.tail).foldl (fun s y => areaStep s y.1 y.2 (l y.1) (l y.2) a b) s = arXY a b s (ps.map (·.1)) (ps.map l)
  | [], _, _, _, _, hh, _, _ => by simp at hh
  | [p], _, _, _, _, _, _, _ => by simp [arXY]
  | p :: q :: r, x0, s, N, D, hh, h, ⟨h1, h2⟩ => by
    simp at hh; subst hh
    obtain ⟨g1, g2⟩ := List.pairwise_cons.1 h1
    have hp := h2 p (by simp)
    have hq := h2 q (by simp)
    have hlt := g1 q (by simp)
    have ea := areaStep_ar h hab hp.1 hlt hq.2.1 hp.2.2.1 hp.2.2.2 hq.2.2.1 hq.2.2.2
    have hu := under_step h hab hp.1 hlt hq.2.1 hp.2.2.1 hp.2.2.2 hq.2.2.1 hq.2.2.2
    have e1 : arXY a b s ((p :: q :: r).map (·.1)) ((p :: q :: r).map l) = arXY a b (arStep a b s p.1 q.1 (l p) (l q)) ((q :: r).map (·.1)) ((q :: r).map l) := by
      simp only [List.map_cons]; rw [arXY]
    rw [e1, ← ea]
    rw [← ea] at hu
    exact fold_area hab l (q :: r) q.1 (areaStep s p q (l p) (l q) a b) _ _ rfl hu ⟨g2, fun z hz => h2 z (List.mem_cons_of_mem _ hz)⟩
theorem areaStep_self (s : Int × Int × Int) (p : P3) (l0 l1 a b : Int) : areaStep s p p l0 l1 a b = s := by
  unfold areaStep; rw [if_pos (by omega)]
theorem fold_pcs {a b : Int} (hab : a ≤ b) (l : P3 → Int) {ps : List P3} {x0 : Int} (hh : (ps.map (·.1)).head? = some x0) (h1 : x0 ≤ a) (hl : LineOk l ps) :
    (pcs ps).foldl (fun s y => areaStep s y.1 y.2 (l y.1) (l y.2) a b) (0, 0, 1) = arXY a b (0, 0, 1) (ps.map (·.1)) (ps.map l) := by
  rcases pcs_cases ps with ⟨p, rfl⟩ | e
  · simp [pcs, arXY, areaStep_self]
  · rw [e]
    refine fold_area hab l ps x0 _ 0 1 hh (under_start h1 hab ?_) hl
    cases ps with
    | nil => simp at hh
    | cons p t => simp at hh; subst hh; exact (hl.2 p (by simp)).1

abbrev xsOf (ps : List P3) : List Int := ps.map (·.1)
theorem tab_lines {ps : List P3} (ht : tabOk ps = true) : (xsOf ps).Pairwise (· < ·) ∧ (∀ x ∈ xsOf ps, 0 ≤ x ∧ x ≤ 1000000) ∧ InY (ps.map (·.2.1)) ∧ InY (ps.map (·.2.2)) ∧ InY (ps.map fun p => -p.2.2) ∧ (xsOf ps).head? = some (firstX ps) := by
  have hok := okp_of ps (-1) (tabOk_pts ht) (by omega)
  have hr := rising_pts ps (-1) (tabOk_pts ht) (by omega)
  have hl := (tabOk_len ht).1
  refine ⟨List.pairwise_map.2 hr, fun x hx => ?_, fun x hx => ?_, fun x hx => ?_, fun x hx => ?_, ?_⟩
  · obtain ⟨p, hp, rfl⟩ := List.mem_map.1 hx; exact ⟨(hok p hp).1.1, (hok p hp).1.2.1⟩
  · obtain ⟨p, hp, rfl⟩ := List.mem_map.1 hx; exact ⟨(hok p hp).1.2.2.1, (hok p hp).1.2.2.2.1⟩
  · obtain ⟨p, hp, rfl⟩ := List.mem_map.1 hx; exact ⟨(hok p hp).1.2.2.2.2.1, (hok p hp).1.2.2.2.2.2⟩
  · obtain ⟨p, hp, rfl⟩ := List.mem_map.1 hx
    have := (hok p hp).1.2.2.2.2
    show -1000000000 ≤ -p.2.2 ∧ -p.2.2 ≤ 1000000000
    omega
  · cases ps with
    | nil => simp at hl
    | cons p t => rfl
theorem tab_lineOk {ps : List P3} (ht : tabOk ps = true) (l : P3 → Int) (hy : InY (ps.map l)) : LineOk l ps := by
  obtain ⟨h1, h2, _⟩ := tab_lines ht
  refine ⟨List.pairwise_map.1 h1, fun p hp => ?_⟩
  have a := h2 p.1 (List.mem_map.2 ⟨p, hp, rfl⟩)
  have b := hy (l p) (List.mem_map.2 ⟨p, hp, rfl⟩)
  exact ⟨a.1, a.2, b.1, b.2⟩

/-- the exact area below a line: its numerator and denominator -/
def exN (a b : Int) (xs ys : List Int) : Int := (exXY a b (0, 1) xs ys).1
def exD (a b : Int) (xs ys : List Int) : Int := (exXY a b (0, 1) xs ys).2
/-- Area -/
def areaLo (ps : List P3) (a b : Int) : Int := exN a b (xsOf ps) (ps.map (·.2.1)) / exD a b (xsOf ps) (ps.map (·.2.1))
def areaHi (ps : List P3) (a b : Int) : Int := -(exN a b (xsOf ps) (ps.map fun p => -p.2.2) / exD a b (xsOf ps) (ps.map fun p => -p.2.2))

theorem area_to (b0 o n c : Nat) (ps : List P3) (a b : Int) (w : World) (hn : n = ps.length) (hb : b0 < w.heap.size) (hpl : placesS ps a b = 0) (hc : PtsAt w b0 o ps) :
    Calls Try.prog 54 #[tv (some ⟨b0, o, none⟩) n c, .int .i64 a, .int .i64 b] w fun e w' => e = .returned (.tuple #[.int .i64 (areaLo ps a b), .int .i64 (areaHi ps a b), .int .i64 0]) ∧ Below w.heap.size w w' := by
  obtain ⟨ht, hab, hf, hl⟩ := places_ok hpl
  have h1 := (tabOk_len ht).1
  obtain ⟨L1, L2, L3, L4, L5, L6⟩ := tab_lines ht
  obtain ⟨xs, hxs⟩ := pieces_list ht
  have e1 : lowF a b xs = arXY a b (0, 0, 1) (xsOf ps) (ps.map (·.2.1)) := by
    rw [← fold_pcs hab (fun p => p.2.1) L6 hf (tab_lineOk ht _ L3), ← hxs, List.foldl_map]; rfl
  have e2 : highF a b xs = arXY a b (0, 0, 1) (xsOf ps) (ps.map fun p => -p.2.2) := by
    rw [← fold_pcs hab (fun p => -p.2.2) L6 hf (tab_lineOk ht _ L5), ← hxs, List.foldl_map]; rfl
  have s1 := arXY_summed L6 hf hab L1 L2 L3
  have s2 := arXY_summed L6 hf hab L1 L2 L5
  rw [← e1] at s1
  rw [← e2] at s2
  have f1 := s1.floor
  have f2 := s2.floor
  obtain ⟨_, a1, _, a2, a3, a4, a5, _⟩ := s1
  obtain ⟨_, b1, _, b2, b3, b4, b5, _⟩ := s2
  have d1 : downS (lowF a b xs) = areaLo ps a b := by
    unfold downS; rw [f1.1, w64_id ⟨by omega, by omega⟩]; rfl
  have d2 : wrap64 (-(downS (highF a b xs))) = areaHi ps a b := by
    unfold downS; rw [f2.1, w64_id (x := _ / _) ⟨by omega, by omega⟩, w64_id ⟨by omega, by omega⟩]; rfl
  have h := area_good b0 o n c ps xs a b w hn (by omega) hb ht hxs hpl hc a1 (by omega) (by omega) b1 (by omega) (by omega)
  rw [d1, d2] at h
  exact h
end

section
open Go.ChangeShapes Go.WideShapes Go.ChangeAt Go.RowKit Go.Joins Go.Deep

theorem Try.cellsRange : Try.prog.cellsOf 23 = 2 := by kernel_rfl
theorem Try.cellsInt : Try.prog.cellsOf 3 = 1 := by kernel_rfl
theorem okWide_arr {P : Program} {w : World} {r : Reach} {base : Nat} {t e : TypeId} {n : Nat} {v : Value} (ht : P.underlying t = some (.array n e)) (h : Value.okWide P w r base t v) : ∃ cs, v = .agg cs ∧ cs.size = P.cellsOf t := by
  simp only [Value.okWide, ht] at h
  obtain ⟨cs, h1, h2, _⟩ := h
  exact ⟨cs, h1, h2⟩
set_option maxRecDepth 100000 in
theorem open_int64 {H : Type} {enc : TypeId × Value → H} {W : World} {base : Nat} {v : Value} {d : DataW H} {ps : List MemPlace} (hv : Value.okWide Try.prog W .any base 3 v) (h : DataW.Trod enc Try.prog W 0 (fun _ => true) true 3 v d ps) : ∃ n : Int, v = .int .i64 n ∧ I64 n := by
  obtain ⟨n, rfl, _, _, hw⟩ := open_int Try.underlying3 hv h
  exact ⟨n, rfl, bounds_i64 hw⟩
theorem pick_list {α : Type} {Q : Nat → α → Prop} : ∀ n : Nat, (∀ i, i < n → ∃ x, Q i x) → ∃ l : List α, l.length = n ∧ ∀ i x, l[i]? = some x → Q i x
  | 0, _ => ⟨[], rfl, fun i x h => by simp at h⟩
  | n + 1, h => by
    obtain ⟨l, hl, hq⟩ := pick_list n fun i hi => h i (by omega)
    obtain ⟨x, hx⟩ := h n (by omega)
    refine ⟨l ++ [x], by simp [hl], fun i y hy => ?_⟩
    rcases Nat.lt_or_ge i n with c | c
    · rw [List.getElem?_append_left (by omega)] at hy
      exact hq i y hy
    · rw [List.getElem?_append_right (by omega), hl] at hy
      have : i = n := by
        rcases Nat.eq_or_lt_of_le c with e | e
        · exact e.symm
        · rw [List.getElem?_eq_none (by simp; omega)] at hy; cases hy
      subst this
      simp at hy
      subst hy
      exact hx
theorem spot_none {w : World} {a : Addr} {v : Value} (h : w.cell? a = some v) : a = ⟨a.block, a.off, none⟩ ∧ a.block < w.heap.size := by
  obtain ⟨b, o, s⟩ := a
  unfold World.cell? at h
  dsimp only at h ⊢
  split at h
  · rename_i c e f hc
    cases s with
    | none => exact ⟨rfl, (Array.getElem?_eq_some_iff.1 hc).1⟩
    | some k => simp at h
  · cases h
theorem addr_add (b o i : Nat) : (⟨b, o, none⟩ : Addr).add i = ⟨b, o + i, none⟩ := by
  by_cases h : i = 0
  · subst h; simp [Addr.add]
  · simp [Addr.add, h]
theorem Try.cellsPoint : Try.prog.cellsOf 87 = 3 := by kernel_rfl
theorem Try.cellsTable : Try.prog.cellsOf 43 = 1 := by kernel_rfl
theorem Try.cellsTwoInts : Try.prog.cellsOf 45 = 2 := by kernel_rfl
theorem Try.cellsPts : Try.prog.cellsOf 41 = 1 := by kernel_rfl

set_option maxRecDepth 100000 in
theorem open_pts {H : Type} {enc : TypeId × Value → H} {W : World} {fuel : Nat} {v : Value} {x : DataW H × List MemPlace} (h : DataW.trod enc Try.prog W 0 (fun _ => true) true fuel 41 [v] = some x) :
    ∃ (A : Option Addr) (n c : Nat) (ps : List P3), v = .slice A n c ∧ n = ps.length ∧ n ≤ maxLen ∧ Pts W A ps := by
  rcases open_slice Try.underlying41 h with ⟨e, _⟩ | ⟨a, len, cap, m, k, D, Pl, e, _, hl, hm, hmm, _, hi⟩
  · injection e with e _
    exact ⟨none, 0, 0, [], e, rfl, by unfold maxLen; omega, .inl rfl⟩
  · injection e with e _
    have hmc : m = cap := by simpa using hmm
    rw [Try.cellsPoint] at hi
    obtain ⟨ps, hps, hq⟩ := pick_list (Q := fun i (p : P3) => W.cell? (a.add (i * 3)) = some (.int .i64 p.1) ∧ W.cell? ((a.add (i * 3)).add 1) = some (.int .i64 p.2.1) ∧ W.cell? ((a.add (i * 3)).add 2) = some (.int .i64 p.2.2)) len (fun i hil => by
      obtain ⟨cs', h1, h2⟩ := hi i (by omega)
      obtain ⟨_, hlen, hat⟩ := World.cells?_some h1
      match cs', hlen with
      | [v0, v1, v2], _ =>
        obtain ⟨y0, y1, y2, k', _, _, i0, i1, i2⟩ := trod_struct3 Try.underlying87 h2
        simp only [Try.cellsInt] at i0 i1 i2
        obtain ⟨p0, e0, _, _⟩ := DataW.trod_int Try.underlying3 i0
        obtain ⟨p1, e1, _, _⟩ := DataW.trod_int Try.underlying3 i1
        obtain ⟨p2, e2, _, _⟩ := DataW.trod_int Try.underlying3 i2
        simp at e0 e1 e2
        subst e0 e1 e2
        exact ⟨(p0, p1, p2), by simpa [Addr.add] using hat 0 (by omega), by simpa using hat 1 (by omega), by simpa using hat 2 (by omega)⟩)
    refine ⟨some a, len, cap, ps, e, hps.symm, by omega, ?_⟩
    rcases Nat.lt_or_ge 0 len with c | c
    · obtain ⟨q0, _, _⟩ := hq 0 _ (List.getElem?_eq_getElem (show 0 < ps.length by omega))
      obtain ⟨ea, la⟩ := spot_none q0
      obtain ⟨b, o, s⟩ := a
      simp [Addr.add] at ea la
      subst ea
      exact .inr ⟨b, o, rfl, la, fun i p hp => by have h := hq i p hp; simp only [addr_add] at h; exact h⟩
    · exact .inl (List.eq_nil_of_length_eq_zero (by omega))
set_option maxRecDepth 100000 in
theorem open_table {H : Type} {enc : TypeId × Value → H} {W : World} {base : Nat} {v : Value} {d : DataW H} {pl : List MemPlace} (hv : Value.okWide Try.prog W .any base 43 v) (h : DataW.Trod enc Try.prog W 0 (fun _ => true) true 43 v d pl) :
    ∃ (A : Option Addr) (n c : Nat) (ps : List P3), v = tv A n c ∧ n = ps.length ∧ n ≤ maxLen ∧ Pts W A ps := by
  obtain ⟨cs, rfl, hsz⟩ := okWide_struct Try.underlying43 hv
  rw [Try.cellsTable] at hsz
  obtain ⟨l⟩ := cs
  match l, hsz with
  | [c0], _ =>
    obtain ⟨fuel, hf⟩ := h
    obtain ⟨y0, k, _, _, i0⟩ := trod_struct1 Try.underlying43 hf
    simp only [Value.cells, Try.cellsPts] at i0
    obtain ⟨A, n, c, ps, e, h1, h2, h3⟩ := open_pts (v := c0) (by simpa using i0)
    subst e
    exact ⟨A, n, c, ps, rfl, h1, h2, h3⟩
set_option maxRecDepth 100000 in
theorem open_nums {H : Type} {enc : TypeId × Value → H} {W : World} {fuel : Nat} {v : Value} {x : DataW H × List MemPlace} (h : DataW.trod enc Try.prog W 0 (fun _ => true) true fuel 44 [v] = some x) :
    ∃ (A : Option Addr) (n c : Nat) (cs : List Int), v = .slice A n c ∧ n = cs.length ∧ n ≤ maxLen ∧ (∀ z ∈ cs, I64 z) ∧ IntsP W A cs := by
  rcases open_ints Try.underlying44 Try.underlying3 Try.cellsInt h with ⟨e, _⟩ | ⟨a, len, cap, zs, e, _, hl, hm, hz, _, hi, hw⟩
  · injection e with e _
    exact ⟨none, 0, 0, [], e, rfl, by unfold maxLen; omega, by simp, .inl rfl⟩
  · injection e with e _
    have hzc : zs.length = cap := by simpa using hz
    refine ⟨some a, len, cap, zs.take len, e, by rw [List.length_take]; omega, by omega, fun z hz => bounds_i64 (hw z (List.mem_of_mem_take hz)), ?_⟩
    rcases Nat.lt_or_ge 0 len with c | c
    · have q0 := hi 0 (by omega)
      obtain ⟨ea, la⟩ := spot_none q0
      obtain ⟨b, o, s⟩ := a
      simp [Addr.add] at ea la
      subst ea
      refine .inr ⟨b, o, rfl, la, fun k x hx => ?_⟩
      have hk : k < len := by
        have := (List.getElem?_eq_some_iff.1 hx).1
        rw [List.length_take] at this; omega
      rw [List.getElem?_take_of_lt hk] at hx
      have := hi k (by omega)
      rw [List.getD_eq_getElem?_getD, hx] at this
      rw [addr_add] at this; exact this
    · exact .inl (List.eq_nil_of_length_eq_zero (by rw [List.length_take]; omega))
theorem array2 {α : Type} {cs : Array α} (h : cs.size = 2) : ∃ c0 c1, cs = #[c0, c1] := by
  obtain ⟨l⟩ := cs
  match l, h with
  | [c0, c1], _ => exact ⟨c0, c1, rfl⟩
set_option maxRecDepth 100000 in
theorem open_two_ints {H : Type} {enc : TypeId × Value → H} {W : World} {base : Nat} {v : Value} {d : DataW H} {ps : List MemPlace} (hv : Value.okWide Try.prog W .any base 45 v) (h : DataW.Trod enc Try.prog W 0 (fun _ => true) true 45 v d ps) :
    ∃ x0 x1 : Int, v = .agg #[.int .i64 x0, .int .i64 x1] ∧ I64 x0 ∧ I64 x1 := by
  obtain ⟨cs, rfl, hsz⟩ := okWide_arr Try.underlying45 hv
  rw [Try.cellsTwoInts] at hsz
  obtain ⟨c0, c1, rfl⟩ := array2 hsz
  obtain ⟨fuel, hf⟩ := h
  obtain ⟨xs, m, _, _, _, hl, hi⟩ := DataW.trod_array Try.underlying45 hf
  have one : ∀ (i : Nat) (c : Value), i < 2 → ((#[c0, c1] : Array Value).toList.drop (i * 1)).take 1 = [c] → ∃ n : Int, c = .int .i64 n ∧ I64 n := by
    intro i c hi6 hc
    have h1 := hi i hi6
    simp only [Value.cells, Try.cellsInt] at h1
    rw [hc] at h1
    obtain ⟨y, hy⟩ : ∃ y, xs[i]? = some y := ⟨_, List.getElem?_eq_getElem (by omega)⟩
    rw [hy] at h1
    obtain ⟨n, e, _, hw⟩ := DataW.trod_int Try.underlying3 h1
    simp at e
    exact ⟨n, e, bounds_i64 hw⟩
  obtain ⟨x0, rfl, b0⟩ := one 0 c0 (by omega) rfl
  obtain ⟨x1, rfl, b1⟩ := one 1 c1 (by omega) rfl
  exact ⟨x0, x1, rfl, b0, b1⟩
end

section
open Go.ChangeShapes Go.WideShapes Go.ChangeAt Go.RowKit Go.Joins Go.Deep

theorem Try.cellsCurved : Try.prog.cellsOf 66 = 2 := by kernel_rfl
theorem Try.cellsNums : Try.prog.cellsOf 44 = 1 := by kernel_rfl
theorem Try.cellsThreeInts : Try.prog.cellsOf 67 = 3 := by kernel_rfl
set_option maxRecDepth 100000 in
theorem open_curved {H : Type} {enc : TypeId × Value → H} {W : World} {base : Nat} {v : Value} {d : DataW H} {pl : List MemPlace} (hv : Value.okWide Try.prog W .any base 66 v) (h : DataW.Trod enc Try.prog W 0 (fun _ => true) true 66 v d pl) :
    ∃ (A A' : Option Addr) (n n' c c' : Nat) (ps : List P3) (cs : List Int), v = .agg #[.slice A n c, .slice A' n' c'] ∧ n = ps.length ∧ n' = cs.length ∧ n ≤ maxLen ∧ n' ≤ maxLen ∧ Pts W A ps ∧ (∀ z ∈ cs, I64 z) ∧ IntsP W A' cs := by
  obtain ⟨cs, rfl, hsz⟩ := okWide_struct Try.underlying66 hv
  rw [Try.cellsCurved] at hsz
  obtain ⟨c0, c1, rfl⟩ := array2 hsz
  obtain ⟨fuel, hf⟩ := h
  obtain ⟨y0, y1, k, _, _, h0, h1⟩ := trod_struct2 Try.underlying66 hf
  simp only [Value.cells, Try.cellsTable, Try.cellsNums] at h0 h1
  obtain ⟨x0, k0, _, _, i0⟩ := trod_struct1 Try.underlying43 h0
  simp only [Try.cellsPts] at i0
  obtain ⟨A, n, c, ps, e, g1, g2, g3⟩ := open_pts (v := c0) (by simpa using i0)
  obtain ⟨A', n', c', zs, e', g4, g5, g6, g7⟩ := open_nums (v := c1) (by simpa using h1)
  subst e e'
  exact ⟨A, A', n, n', c, c', ps, zs, rfl, g1, g4, g2, g5, g3, g6, g7⟩
theorem array3 {α : Type} {cs : Array α} (h : cs.size = 3) : ∃ c0 c1 c2, cs = #[c0, c1, c2] := by
  obtain ⟨l⟩ := cs
  match l, h with
  | [c0, c1, c2], _ => exact ⟨c0, c1, c2, rfl⟩
set_option maxRecDepth 100000 in
theorem open_three_ints {H : Type} {enc : TypeId × Value → H} {W : World} {base : Nat} {v : Value} {d : DataW H} {ps : List MemPlace} (hv : Value.okWide Try.prog W .any base 67 v) (h : DataW.Trod enc Try.prog W 0 (fun _ => true) true 67 v d ps) :
    ∃ x0 x1 x2 : Int, v = .agg #[.int .i64 x0, .int .i64 x1, .int .i64 x2] ∧ I64 x0 ∧ I64 x1 ∧ I64 x2 := by
  obtain ⟨cs, rfl, hsz⟩ := okWide_arr Try.underlying67 hv
  rw [Try.cellsThreeInts] at hsz
  obtain ⟨c0, c1, c2, rfl⟩ := array3 hsz
  obtain ⟨fuel, hf⟩ := h
  obtain ⟨xs, m, _, _, _, hl, hi⟩ := DataW.trod_array Try.underlying67 hf
  have one : ∀ (i : Nat) (c : Value), i < 3 → ((#[c0, c1, c2] : Array Value).toList.drop (i * 1)).take 1 = [c] → ∃ n : Int, c = .int .i64 n ∧ I64 n := by
    intro i c hi6 hc
    have h1 := hi i hi6
    simp only [Value.cells, Try.cellsInt] at h1
    rw [hc] at h1
    obtain ⟨y, hy⟩ : ∃ y, xs[i]? = some y := ⟨_, List.getElem?_eq_getElem (by omega)⟩
    rw [hy] at h1
    obtain ⟨n, e, _, hw⟩ := DataW.trod_int Try.underlying3 h1
    simp at e
    exact ⟨n, e, bounds_i64 hw⟩
  obtain ⟨x0, rfl, b0⟩ := one 0 c0 (by omega) rfl
  obtain ⟨x1, rfl, b1⟩ := one 1 c1 (by omega) rfl
  obtain ⟨x2, rfl, b2⟩ := one 2 c2 (by omega) rfl
  exact ⟨x0, x1, x2, rfl, b0, b1, b2⟩
end

section
open Go.RowKit

set_option maxRecDepth 100000 in
theorem xs_any (b o n c : Nat) (ps : List P3) (w : World) (hn : n = ps.length) (h40 : n ≤ 40) (hb : b < w.heap.size) (hc : PtsAt w b o ps) :
    Calls Try.prog 67 #[tv (some ⟨b, o, none⟩) n c] w (GivesInts w (xsOf ps)) := by
  have hE := below_alloc1 w (.cells #[.slice (some ⟨b, o, none⟩) n c] 43)
  have HL := Lib.hid (lines_any b o n c ps _ hn h40 (Nat.lt_of_lt_of_le hb hE.size) (hc.below hE hb))
  have HE := Lib.hid hE
  clear hE hc hn h40
  go_enter Try.func67, Try.ntmps67
  go_wp2_with fail
  refine (HL.out).mono ?_
  rintro e w1 ⟨v1, v2, v3, rfl, hL, hb1⟩
  have HO := Lib.hid (World.ownsRow.mono (show w1.ownsRow _ 3 1 v1 _ _ from hL.1) HE.out.size); have HE1 := Lib.hid (below_then HE.out hb1)
  clear hb1 hL
  go_wp2
  go_ret
  exact ⟨v1, rfl, HO.out, HE1.out⟩

/-- the number that numbers choose at a point -/
def pickN (cs : List Int) (i : Nat) : Int := if 0 < cs.length then cs.getD (i % cs.length) 0 else 0
def curveAt (cs : List Int) (p : P3) (i : Nat) : Int := p.2.1 + pickN cs i % (p.2.2 - p.2.1 + 1)
/-- curve, from the i-th point on -/
def curveFrom (cs : List Int) : Nat → List P3 → List Int
  | _, [] => []
  | i, p :: ps => curveAt cs p i :: curveFrom cs (i + 1) ps
theorem curveFrom_len (cs : List Int) : ∀ (i : Nat) (ps : List P3), (curveFrom cs i ps).length = ps.length
  | _, [] => rfl
  | i, p :: ps => by simp [curveFrom, curveFrom_len cs (i + 1) ps]
theorem curveFrom_snoc (cs : List Int) : ∀ (i : Nat) (ps : List P3) (p : P3), curveFrom cs i (ps ++ [p]) = curveFrom cs i ps ++ [curveAt cs p (i + ps.length)]
  | i, [], p => by simp [curveFrom]
  | i, q :: ps, p => by
    rw [List.cons_append, curveFrom, curveFrom, curveFrom_snoc cs (i + 1) ps p, List.cons_append, List.length_cons]
    rw [show i + 1 + ps.length = i + (ps.length + 1) by omega]
theorem curveFrom_get (cs : List Int) : ∀ (i : Nat) (ps : List P3) (k : Nat) (y : Int), (curveFrom cs i ps)[k]? = some y → ∃ p, ps[k]? = some p ∧ y = curveAt cs p (i + k)
  | _, [], k, y, h => by simp [curveFrom] at h
  | i, p :: ps, 0, y, h => by simp [curveFrom] at h; exact ⟨p, rfl, by rw [← h]; rfl⟩
  | i, p :: ps, k + 1, y, h => by
    rw [curveFrom] at h
    obtain ⟨q, h1, h2⟩ := curveFrom_get cs (i + 1) ps k y (by simpa using h)
    exact ⟨q, by simpa using h1, by rw [h2]; congr 1; omega⟩
theorem curveAt_in (cs : List Int) (p : P3) (i : Nat) (h : p.2.1 ≤ p.2.2) : p.2.1 ≤ curveAt cs p i ∧ curveAt cs p i ≤ p.2.2 := by
  unfold curveAt
  have h1 := Int.emod_nonneg (pickN cs i) (show p.2.2 - p.2.1 + 1 ≠ 0 by omega)
  have h2 := Int.emod_lt_of_pos (pickN cs i) (show 0 < p.2.2 - p.2.1 + 1 by omega)
  omega

set_option maxRecDepth 100000 in
set_option maxHeartbeats 4000000 in
theorem curve_any (b o n c : Nat) (A' : Option Addr) (n' c' : Nat) (ps : List P3) (cs : List Int) (w : World) (hn : n = ps.length) (hb : b < w.heap.size) (ht : tabOk ps = true) (hc : PtsAt w b o ps) (hn' : n' = cs.length) (hm' : n' ≤ maxLen) (hq : IntsP w A' cs) :
    Calls Try.prog 64 #[.agg #[.slice (some ⟨b, o, none⟩) n c, .slice A' n' c']] w (GivesInts w (curveFrom cs 0 ps)) := by
  have hl := tabOk_len ht
  have hok := okp_of ps (-1) (tabOk_pts ht) (by omega)
  have hor := pts_ordered ps (-1) (tabOk_pts ht)
  have h40 : n ≤ 40 := by omega
  obtain ⟨i0, hi, hz0, hz1, hz2⟩ := info_parts Try.info3
  have HN := Lib.hid (And.intro hn hn'); have HC := Lib.hid hc; have HQ := Lib.hid hq; have HO := Lib.hid (And.intro hok hor)
  have HB := Lib.hid (Blk.new w 66 #[.slice (some ⟨b, o, none⟩) n c, .slice A' n' c'])
  unfold maxLen at hm'
  clear hn hn' hc hq hl hok hor ht
  go_enter Try.func64, Try.ntmps64
  go_wp2_with fail
  go_loopw [3, 12] (fun v i wr => ∃ k : Nat, k ≤ n ∧ i = .int .i64 k ∧ OwnInts (w.heap.size + 1) wr v (curveFrom cs 0 (ps.take k)) ∧ Blk wr w.heap.size 66 #[.slice (some ⟨b, o, none⟩) n c, .slice A' n' c'] ∧ Below w.heap.size w wr) (fun _ i _ => n - (intOf i).toNat)
  case atStart => exact ⟨0, by omega, rfl, World.ownsRow_nil _ _ _ _, HB.out, below_alloc1 _ _⟩
  case round =>
    obtain ⟨k, hk, rfl, hown, hT, hB⟩ := hrel
    by_cases hlt : k < n
    · obtain ⟨p, hp⟩ : ∃ p, ps[k]? = some p := ⟨_, List.getElem?_eq_getElem (show k < ps.length by rw [← HN.out.1]; exact hlt)⟩
      obtain ⟨c0, c1, c2⟩ := HC.out k p hp
      rw [← hB.cell (p := ⟨b, o + k * 3, none⟩) hb] at c0
      rw [← hB.cell (p := ⟨b, o + k * 3 + 1, none⟩) hb] at c1
      rw [← hB.cell (p := ⟨b, o + k * 3 + 2, none⟩) hb] at c2
      have hS := take_snocP' hp
      have hlen : (ps.take k).length = k := by rw [List.length_take]; have := HN.out.1; omega
      have hsn := curveFrom_snoc cs 0 (ps.take k) p
      rw [← hS, hlen, Nat.zero_add] at hsn
      have hbo := (HO.out.1 p (List.mem_of_getElem? hp)).1
      have hor := HO.out.2 p (List.mem_of_getElem? hp)
      have hll := curveFrom_len cs 0 (ps.take k)
      rw [hlen] at hll
      obtain ⟨x, lo, hi'⟩ := p
      obtain ⟨_, _, b1, b2, b3, b4⟩ := hbo
      dsimp only at c0 c1 c2 b1 b2 b3 b4 hor
      obtain ⟨d0, w1⟩ : ∃ r, IntKind.i64.wrap (hi' - lo) = r := ⟨_, rfl⟩
      have e1 : hi' - lo = d0 := by rw [← w1, IntWalk.i64_in _ ⟨by omega, by omega⟩]
      obtain ⟨d, w2⟩ : ∃ r, IntKind.i64.wrap (d0 + 1) = r := ⟨_, rfl⟩
      have e2 : d0 + 1 = d := by rw [← w2, IntWalk.i64_in _ ⟨by omega, by omega⟩]
      obtain ⟨z, hz⟩ : ∃ z, pickN cs k = z := ⟨_, rfl⟩
      have t1 := tmod_twice z d (by omega)
      have t2 := Int.tmod_lt_of_pos z (show 0 < d by omega)
      have t3 : -d < z.tmod d := Int.lt_tmod_of_pos z (by omega)
      have t4 := Int.emod_nonneg z (show d ≠ 0 by omega)
      have t5 := Int.emod_lt_of_pos z (show 0 < d by omega)
      obtain ⟨m, g1⟩ : ∃ r, z.tmod d = r := ⟨_, rfl⟩
      rw [g1] at t1 t2 t3
      have q1 : IntKind.i64.wrap m = m := IntWalk.i64_in _ ⟨by omega, by omega⟩
      obtain ⟨s, w3⟩ : ∃ r, IntKind.i64.wrap (m + d) = r := ⟨_, rfl⟩
      have e3 : m + d = s := by rw [← w3, IntWalk.i64_in _ ⟨by omega, by omega⟩]
      rw [e3] at t1
      obtain ⟨kk, g2⟩ : ∃ r, z % d = r := ⟨_, rfl⟩
      rw [g2] at t1 t4 t5
      have q2 : IntKind.i64.wrap kk = kk := IntWalk.i64_in _ ⟨by omega, by omega⟩
      obtain ⟨V, w4⟩ : ∃ r, IntKind.i64.wrap (lo + kk) = r := ⟨_, rfl⟩
      have e4 : lo + kk = V := by rw [← w4, IntWalk.i64_in _ ⟨by omega, by omega⟩]
      have hV : curveAt cs (x, lo, hi') k = V := by
        unfold curveAt
        dsimp only
        rw [hz, e1, e2, g2, e4]
      rw [hV] at hsn
      have z1 : (d == 0) = false := beq_eq_false_iff_ne.2 (by omega)
      have z2 : ¬ d = 0 := by omega
      have HS := Lib.hid hsn; have HLL := Lib.hid hll
      have T0 := (hT.alloc (.cells #[.int .i64 x, .int .i64 lo, .int .i64 hi'] 87)).cell 0
      have T1 := (hT.alloc (.cells #[.int .i64 x, .int .i64 lo, .int .i64 hi'] 87)).cell 1
      simp at T0 T1
      have hlT := hT.lt
      have HT := Lib.hid hT; have HB2 := Lib.hid hB; have HW := Lib.hid hown
      clear hS hlen hsn hll e1 e2 e3 e4 hV b1 b2 b3 b4 hor t2 t3 t4 t5 g2 hp hown hT hB
      have HPI : Hid (pickN cs k = z) := Lib.hid hz
      clear hz
      go_upto_if 20 with (fail)
      go_cut [6] (fun s6 wx => s6 = .int .i64 z ∧ ∃ j, wx = (wr.alloc (.cells #[.int .i64 x, .int .i64 lo, .int .i64 hi'] 87)).drewN j)
      case first =>
        by_cases h0 : 0 < n'
        · obtain ⟨b', o', rfl, hb', hc'⟩ : ∃ b' o', A' = some ⟨b', o', none⟩ ∧ b' < w.heap.size ∧ IntsMem w b' o' cs := by
            rcases HQ.out with h | h
            · have := HN.out.2; rw [h] at this; simp at this; omega
            · exact h
          obtain ⟨j, hj⟩ : ∃ j, k % n' = j := ⟨_, rfl⟩
          have hjn : j < n' := by rw [← hj]; exact Nat.mod_lt _ h0
          obtain ⟨z', hz'⟩ : ∃ z', cs[j]? = some z' := ⟨_, List.getElem?_eq_getElem (show j < cs.length by rw [← HN.out.2]; exact hjn)⟩
          have hzz : z' = z := by
            rw [← HPI.out]
            unfold pickN
            rw [if_pos (by rw [← HN.out.2]; exact h0), ← HN.out.2, hj, List.getD_eq_getElem?_getD, hz']; rfl
          subst hzz
          have d0' := hc' j z' hz'
          rw [← HB2.out.cell (p := ⟨b', o' + j, none⟩) hb'] at d0'
          have r1 : ((k : Int)).tmod (n' : Int) = (j : Int) := by rw [← hj]; rfl
          have r2 : IntKind.i64.wrap (j : Int) = (j : Int) := IntWalk.i64_in _ ⟨by omega, by omega⟩
          have r3 : (j : Int) < (n' : Int) := by omega
          have r4 : (0 : Int) ≤ (j : Int) := by omega
          have r5 : (0 : Int) < (n' : Int) := by omega
          have r6 : ((n' : Int) == 0) = false := beq_eq_false_iff_ne.2 (by omega)
          have lb' : b' < wr.heap.size := Nat.lt_of_lt_of_le hb' HB2.out.size
          clear hc' hz' hj
          go_wp2_with fail
          go_region
          go_wp2_with fail
          go_meet
          exact ⟨rfl, 1, rfl⟩
        · have hzz : z = 0 := by
            rw [← HPI.out]
            unfold pickN
            rw [if_neg (by rw [← HN.out.2]; exact h0)]
          subst hzz
          have r5 : ¬ (0 : Int) < (n' : Int) := by omega
          go_wp2_with fail
          go_meet
          exact ⟨rfl, 0, rfl⟩
      case rest =>
        obtain ⟨rfl, j, rfl⟩ := hcut
        clear T0 T1 hlT
        have HWW : Hid (OwnInts (w.heap.size + 1) (((wr.alloc (.cells #[.int .i64 x, .int .i64 lo, .int .i64 hi'] 87)).drewN (j + 1)).alloc (.cells #[.int .i64 V] 3)) u3 (curveFrom cs 0 (ps.take k))) := Lib.hid ((show OwnInts _ ((wr.alloc (.cells #[.int .i64 x, .int .i64 lo, .int .i64 hi'] 87)).drewN (j + 1)) u3 _ from HW.out.alloc _).alloc _)
        have HNB : Hid ((((wr.alloc (.cells #[.int .i64 x, .int .i64 lo, .int .i64 hi'] 87)).drewN (j + 1)).alloc (.cells #[.int .i64 V] 3)).heap[wr.heap.size + 1]? = some (.cells #[.int .i64 V] 3 (0, 0))) := Lib.hid (by
          have h1 := heap_alloc_new ((wr.alloc (.cells #[.int .i64 x, .int .i64 lo, .int .i64 hi'] 87)).drewN (j + 1)) (.cells #[.int .i64 V] 3)
          have h2 : ((wr.alloc (.cells #[.int .i64 x, .int .i64 lo, .int .i64 hi'] 87)).drewN (j + 1)).heap.size = wr.heap.size + 1 := by show (wr.alloc _).heap.size = _; simp
          rw [h2] at h1; exact h1)
        have hwl := HB2.out.size
        go_upto_region 9 with fail
        go_region_law (refine step_append_lies _ (by rfl) _ _ _ (by rfl) (w.heap.size + 1) 3 i0 _ 1 8 Try.underlying44 hi hz0 hz1 hz2 rfl (by omega) u3 (ints (curveFrom cs 0 (ps.take k))).length (ints (curveFrom cs 0 (ps.take k))) (by rfl) (by exact HWW.out) ⟨wr.heap.size + 1, 0, none⟩ 1 1 [.int .i64 V] (by rfl) (by rfl) (World.news_of_block (cs := #[.int .i64 V]) (t := 3) (fr := (0, 0)) (by exact HNB.out)) (by simp [Value.oneCell']) (by omega) (by simp [maxLen]; rw [HLL.out]; omega) (by simp; rw [HLL.out]; omega) (by simp; omega) (wr.heap.size + 1 + 1) (by simp) ?_; intro gg cap w5 hown1 hgrow hat hlt5)
        all_goals
          have hrow : ∀ i, Value.ownBlock u3 = some i → w.heap.size + 1 ≤ i := fun i e => (World.ownsRow.lt (show World.ownsRow _ (w.heap.size + 1) 3 1 u3 _ _ from HW.out) i e).1
          have hB5 : Below w.heap.size w w5 := ((below_drewM (HB2.out.alloc HB2.out.size (.cells #[.int .i64 x, .int .i64 lo, .int .i64 hi'] 87)) (j + 1)).alloc (by show w.heap.size ≤ (wr.alloc (.cells #[.int .i64 x, .int .i64 lo, .int .i64 hi'] 87)).heap.size; simp; omega) (.cells #[.int .i64 V] 3)).grown hgrow (by show w.heap.size ≤ ((wr.alloc (.cells #[.int .i64 x, .int .i64 lo, .int .i64 hi'] 87)).alloc (.cells #[.int .i64 V] 3)).heap.size; simp; omega) (fun i e => by have := hrow i e; omega)
          have hT5 : Blk w5 w.heap.size 66 #[.slice (some ⟨b, o, none⟩) n c, .slice A' n' c'] := (((HT.out.alloc (.cells #[.int .i64 x, .int .i64 lo, .int .i64 hi'] 87)).drewN (j + 1)).alloc (.cells #[.int .i64 V] 3)).grown hgrow (fun e => absurd (hrow _ e.symm) (by omega))
          have hown2 : OwnInts (w.heap.size + 1) w5 (.slice (some ⟨gg, 0, none⟩) ((ints (curveFrom cs 0 (ps.take k))).length + 1) cap) (curveFrom cs 0 (ps.take (k + 1))) := by
            rw [HS.out]; exact own_snoc' hown1
          clear hown1 hgrow hat
          go_wp2
          go_roundw
          case rel => exact ⟨k + 1, by omega, by go_num, by rw [List.length_map] at hown2; exact hown2, hT5, hB5⟩
          case measure => simp [intOf]; omega
    · have hkn : ps.take k = ps := List.take_of_length_le (by have := HN.out.1; omega)
      rw [hkn] at hown
      have HO2 := Lib.hid (World.ownsRow.mono (show wr.ownsRow _ 3 1 u3 _ _ from hown) (Nat.le_succ _))
      clear hown hkn
      go_wp2
      go_ret
      exact ⟨u3, rfl, HO2.out, hB⟩
end

section
open Go.RowKit

/-- A row of numbers in memory is handed back. -/
def GivesRow (w : World) (n : Nat) (L : List Int) (e : Ending) (w' : World) : Prop := ∃ pg cap, e = .returned (.slice (some ⟨pg, 0, none⟩) n cap) ∧ pg < w'.heap.size ∧ IntsMem w' pg 0 L ∧ Below w.heap.size w w'
theorem row_of {w w' : World} {n : Nat} {L : List Int} {e : Ending} (h : GivesInts w L e w') (hn : n = L.length) (h1 : 1 ≤ n) : GivesRow w n L e w' := by
  subst hn
  obtain ⟨pg, cap, rfl, _, l, m, hb⟩ := gives_form h (by intro c; rw [c] at h1; simp at h1)
  exact ⟨pg, cap, rfl, l, fun k x hx => by rw [Nat.zero_add]; exact m k x hx, hb⟩
end

section
open Go.RowKit

theorem areaLo_in {ps : List P3} {a b : Int} (hpl : placesS ps a b = 0) : -4000000000000000 ≤ areaLo ps a b ∧ areaLo ps a b ≤ 4000000000000000 := by
  obtain ⟨ht, hab, hf, hl⟩ := places_ok hpl
  obtain ⟨L1, L2, L3, L4, L5, L6⟩ := tab_lines ht
  have s := arXY_summed L6 hf hab L1 L2 L3
  have f := s.floor
  obtain ⟨_, _, _, _, _, a4, a5, _⟩ := s
  unfold areaLo exN exD
  omega
theorem areaHi_in {ps : List P3} {a b : Int} (hpl : placesS ps a b = 0) : -4000000000000000 ≤ areaHi ps a b ∧ areaHi ps a b ≤ 4000000000000000 := by
  obtain ⟨ht, hab, hf, hl⟩ := places_ok hpl
  obtain ⟨L1, L2, L3, L4, L5, L6⟩ := tab_lines ht
  have s := arXY_summed L6 hf hab L1 L2 L5
  have f := s.floor
  obtain ⟨_, _, _, _, _, a4, a5, _⟩ := s
  unfold areaHi exN exD
  omega
theorem exD_pos (a b : Int) (xs ys : List Int) : 1 ≤ exD a b xs ys := exXY_pos a b xs ys (0, 1) (Int.le_refl _)
theorem area_parts {ps : List P3} {a b c : Int} (ht : tabOk ps = true) (h1 : a ≤ b) (h2 : b ≤ c) :
    (0 ≤ areaLo ps a c - areaLo ps a b - areaLo ps b c ∧ areaLo ps a c - areaLo ps a b - areaLo ps b c ≤ 1) ∧
    (0 ≤ areaHi ps a b + areaHi ps b c - areaHi ps a c ∧ areaHi ps a b + areaHi ps b c - areaHi ps a c ≤ 1) := by
  obtain ⟨L1, _⟩ := tab_lines ht
  have hp : (xsOf ps).Pairwise (· ≤ ·) := L1.imp Int.le_of_lt
  constructor
  · obtain ⟨e1, e2, e3⟩ := exXY_split h1 h2 (xsOf ps) (ps.map (·.2.1)) (0, 1) (0, 1) (0, 1) hp rfl rfl rfl
    have := floors_add (exD_pos a c (xsOf ps) (ps.map (·.2.1))) e1
    unfold areaLo exN exD
    unfold exD at this
    rw [← e2, ← e3]
    exact this
  · obtain ⟨e1, e2, e3⟩ := exXY_split h1 h2 (xsOf ps) (ps.map fun p => -p.2.2) (0, 1) (0, 1) (0, 1) hp rfl rfl rfl
    have := floors_add (exD_pos a c (xsOf ps) (ps.map fun p => -p.2.2)) e1
    unfold areaHi exN exD
    unfold exD at this
    rw [← e2, ← e3]
    omega
theorem area_between {ps : List P3} {ys : List Int} {a b : Int} (hl : ys.length = ps.length) (hy : ∀ (k : Nat) (p : P3) (y : Int), ps[k]? = some p → ys[k]? = some y → p.2.1 ≤ y ∧ y ≤ p.2.2) :
    areaLo ps a b ≤ exN a b (xsOf ps) ys / exD a b (xsOf ps) ys ∧ exN a b (xsOf ps) ys / exD a b (xsOf ps) ys ≤ areaHi ps a b ∧
    (0 < exN a b (xsOf ps) ys % exD a b (xsOf ps) ys → exN a b (xsOf ps) ys / exD a b (xsOf ps) ys ≠ areaHi ps a b) := by
  have m1 := exXY_mono a b (xsOf ps) (ps.map (·.2.1)) ys (0, 1) (0, 1) (by rw [List.length_map, hl]) (fun k y z h1 h2 => by
    rw [List.getElem?_map, Option.map_eq_some_iff] at h1
    obtain ⟨p, hp, rfl⟩ := h1
    exact (hy k p z hp h2).1) (Int.le_refl _) rfl (Int.le_refl _)
  have m2 := exXY_mono a b (xsOf ps) ys (ps.map (·.2.2)) (0, 1) (0, 1) (by rw [List.length_map, hl]) (fun k y z h1 h2 => by
    rw [List.getElem?_map, Option.map_eq_some_iff] at h2
    obtain ⟨p, hp, rfl⟩ := h2
    exact (hy k p y hp h1).2) (Int.le_refl _) rfl (Int.le_refl _)
  have m3 := exXY_neg a b (xsOf ps) (ps.map (·.2.2)) (0, 1) (0, 1) rfl rfl
  rw [List.map_map] at m3
  have h := area_lies (exD_pos a b (xsOf ps) ys) m1.1 m2.1
  unfold areaLo areaHi exN exD
  unfold exD at h
  rw [m1.2]
  rw [show ps.map (fun p => -p.2.2) = ps.map ((- ·) ∘ (·.2.2)) from rfl, m3.1, m3.2, ← m2.2]
  exact h
theorem curve_within {ps : List P3} {cs : List Int} (ht : tabOk ps = true) (k : Nat) (p : P3) (y : Int) (hp : ps[k]? = some p) (hy : (curveFrom cs 0 ps)[k]? = some y) : p.2.1 ≤ y ∧ y ≤ p.2.2 := by
  obtain ⟨q, h1, h2⟩ := curveFrom_get cs 0 ps k y hy
  rw [hp] at h1; injection h1 with h1; subst h1
  rw [h2]
  exact curveAt_in cs p _ (pts_ordered ps (-1) (tabOk_pts ht) p (List.mem_of_getElem? hp))
theorem curve_inY {ps : List P3} {cs : List Int} (ht : tabOk ps = true) : InY (curveFrom cs 0 ps) := fun y hy => by
  obtain ⟨k, hk⟩ := List.mem_iff_getElem?.1 hy
  obtain ⟨q, h1, _⟩ := curveFrom_get cs 0 ps k y hk
  have hw := curve_within ht k q y h1 hk
  have ho := ((okp_of ps (-1) (tabOk_pts ht) (by omega)) q (List.mem_of_getElem? h1)).1
  obtain ⟨_, _, o1, _, _, o4⟩ := ho
  omega
end

section
open Go.RowKit

/-- the table between two curves -/
def narrowS : List P3 → List Int → List Int → List P3
  | p :: ps, y :: ys, z :: zs => (p.1, min y z, max y z) :: narrowS ps ys zs
  | _, _, _ => []
/-- numbers at the points that lie within the table -/
def InTab (ps : List P3) (ys : List Int) : Prop := ys.length = ps.length ∧ ∀ (k : Nat) (p : P3) (y : Int), ps[k]? = some p → ys[k]? = some y → p.2.1 ≤ y ∧ y ≤ p.2.2
theorem InTab.tail {p : P3} {ps : List P3} {y : Int} {ys : List Int} (h : InTab (p :: ps) (y :: ys)) : (p.2.1 ≤ y ∧ y ≤ p.2.2) ∧ InTab ps ys :=
  ⟨h.2 0 p y rfl rfl, by have := h.1; simpa using this, fun k q z hq hz => h.2 (k + 1) q z (by simpa using hq) (by simpa using hz)⟩
theorem curve_inTab {ps : List P3} (cs : List Int) (ht : tabOk ps = true) : InTab ps (curveFrom cs 0 ps) := ⟨curveFrom_len cs 0 ps, fun k p y => curve_within ht k p y⟩
/-- a table that lies within another one, with the same places -/
def Within3 (qs ps : List P3) : Prop := qs.length = ps.length ∧ ∀ (k : Nat) (q p : P3), qs[k]? = some q → ps[k]? = some p → q.1 = p.1 ∧ p.2.1 ≤ q.2.1 ∧ q.2.1 ≤ q.2.2 ∧ q.2.2 ≤ p.2.2
theorem narrow_within : ∀ (ps : List P3) (ys zs : List Int), InTab ps ys → InTab ps zs → Within3 (narrowS ps ys zs) ps
  | [], ys, zs, _, _ => ⟨by simp [narrowS], fun k q p h => by simp [narrowS] at h⟩
  | p :: ps, [], _, h, _ => by have := h.1; simp at this
  | p :: ps, _ :: _, [], _, h => by have := h.1; simp at this
  | p :: ps, y :: ys, z :: zs, h1, h2 => by
    obtain ⟨b1, t1⟩ := h1.tail
    obtain ⟨b2, t2⟩ := h2.tail
    obtain ⟨l, ih⟩ := narrow_within ps ys zs t1 t2
    refine ⟨by simp [narrowS, l], fun k q r hq hr => ?_⟩
    cases k with
    | zero =>
      simp [narrowS] at hq hr
      subst hq hr
      dsimp only
      omega
    | succ k => exact ih k q r (by simpa [narrowS] using hq) (by simpa using hr)
theorem narrow_snoc : ∀ (ps : List P3) (ys zs : List Int) (k : Nat) (p : P3) (y z : Int), ps[k]? = some p → ys[k]? = some y → zs[k]? = some z → ys.length = ps.length → zs.length = ps.length →
    narrowS (ps.take (k + 1)) (ys.take (k + 1)) (zs.take (k + 1)) = narrowS (ps.take k) (ys.take k) (zs.take k) ++ [(p.1, min y z, max y z)]
  | [], _, _, _, _, _, _, h, _, _, _, _ => by simp at h
  | p :: ps, [], _, _, _, _, _, _, h, _, _, _ => by simp at h
  | p :: ps, _ :: _, [], _, _, _, _, _, _, h, _, _ => by simp at h
  | p :: ps, y :: ys, z :: zs, 0, q, u, v, h1, h2, h3, _, _ => by
    simp at h1 h2 h3
    subst h1 h2 h3
    simp [narrowS]
  | p :: ps, y :: ys, z :: zs, k + 1, q, u, v, h1, h2, h3, l1, l2 => by
    have := narrow_snoc ps ys zs k q u v (by simpa using h1) (by simpa using h2) (by simpa using h3) (by simpa using l1) (by simpa using l2)
    simp only [List.take_succ_cons, narrowS, List.cons_append] at this ⊢
    rw [this]

theorem Within3.map_fst {qs ps : List P3} (h : Within3 qs ps) : xsOf qs = xsOf ps := by
  apply List.ext_getElem?
  intro k
  rw [List.getElem?_map, List.getElem?_map]
  rcases Nat.lt_or_ge k qs.length with c | c
  · have e1 : qs[k]? = some (qs[k]'c) := List.getElem?_eq_getElem c
    have e2 : ps[k]? = some (ps[k]'(by have := h.1; omega)) := List.getElem?_eq_getElem _
    rw [e1, e2]
    simp only [Option.map_some]
    rw [(h.2 k _ _ e1 e2).1]
  · rw [List.getElem?_eq_none c, List.getElem?_eq_none (by have := h.1; omega)]
theorem ptsOk_within : ∀ (qs ps : List P3) (last : Int), Within3 qs ps → ptsOk last ps = true → ptsOk last qs = true
  | [], _, _, _, _ => rfl
  | q :: qs, [], _, h, _ => by have := h.1; simp at this
  | q :: qs, p :: ps, last, h, hp => by
    simp only [ptsOk, Bool.and_eq_true] at hp ⊢
    obtain ⟨e, b1, b2, b3⟩ := h.2 0 q p rfl rfl
    refine ⟨?_, ?_⟩
    · have h1 := hp.1
      simp only [ptOk, inB, Bool.and_eq_true, decide_eq_true_eq] at h1 ⊢
      omega
    · rw [e]
      exact ptsOk_within qs ps p.1 ⟨by have := h.1; simpa using this, fun k a b ha hb => h.2 (k + 1) a b (by simpa using ha) (by simpa using hb)⟩ hp.2
theorem tabOk_within {qs ps : List P3} (h : Within3 qs ps) (ht : tabOk ps = true) : tabOk qs = true := by
  unfold tabOk at ht ⊢
  rw [Bool.and_eq_true] at ht ⊢
  rw [h.1]
  exact ⟨ht.1, ptsOk_within qs ps _ h ht.2⟩
theorem firstX_map (ps : List P3) : firstX ps = ((xsOf ps).head?).getD 0 := by
  unfold firstX; rw [List.head?_map]
theorem lastX_map (ps : List P3) : lastX ps = ((xsOf ps).getLast?).getD 0 := by
  unfold lastX; rw [List.getLast?_map]
theorem Within3.first {qs ps : List P3} (h : Within3 qs ps) : firstX qs = firstX ps := by rw [firstX_map, firstX_map, h.map_fst]
theorem Within3.last {qs ps : List P3} (h : Within3 qs ps) : lastX qs = lastX ps := by rw [lastX_map, lastX_map, h.map_fst]
theorem Within3.place {qs ps : List P3} (h : Within3 qs ps) (z : Int) : placeS qs z = placeS ps z := by unfold placeS; rw [h.first, h.last]
theorem cornersS_map (ps : List P3) (a b : Int) : cornersS ps a b = a :: ((xsOf ps).filter fun x => decide (a < x) && decide (x < b)) ++ (if a < b then [b] else []) := by
  unfold cornersS
  rw [List.filter_map]; rfl
theorem Within3.corners {qs ps : List P3} (h : Within3 qs ps) (a b : Int) : cornersS qs a b = cornersS ps a b := by rw [cornersS_map, cornersS_map, h.map_fst]

/-- a piece's value, as one quotient -/
theorem pAt_lo (p q : P3) (x : Int) : (pAt p q x).1 = (p.2.1 * (max (q.1 - p.1) 1 - (x - p.1)) + q.2.1 * (x - p.1)) / max (q.1 - p.1) 1 := by
  simp only [pAt, riseS]
  have e : p.2.1 * (max (q.1 - p.1) 1 - (x - p.1)) + q.2.1 * (x - p.1) = (x - p.1) * (q.2.1 - p.2.1) + p.2.1 * max (q.1 - p.1) 1 := by grind
  rw [e, Int.add_mul_ediv_right _ _ (by omega)]
  omega
theorem pAt_hi (p q : P3) (x : Int) : (pAt p q x).2 = -(((-p.2.2) * (max (q.1 - p.1) 1 - (x - p.1)) + (-q.2.2) * (x - p.1)) / max (q.1 - p.1) 1) := by
  simp only [pAt, riseS]
  have e : (-p.2.2) * (max (q.1 - p.1) 1 - (x - p.1)) + (-q.2.2) * (x - p.1) = (x - p.1) * (p.2.2 - q.2.2) + (-p.2.2) * max (q.1 - p.1) 1 := by grind
  rw [e, Int.add_mul_ediv_right _ _ (by omega)]
  omega
theorem quot_mono {D u a b c d : Int} (hD : 0 < D) (h0 : 0 ≤ u) (h1 : u ≤ D) (hac : a ≤ c) (hbd : b ≤ d) : (a * (D - u) + b * u) / D ≤ (c * (D - u) + d * u) / D := by
  refine Int.ediv_le_ediv hD ?_
  have := Int.mul_le_mul_of_nonneg_right hac (show 0 ≤ D - u by omega)
  have := Int.mul_le_mul_of_nonneg_right hbd h0
  omega
theorem pAt_mono {p q p' q' : P3} {x : Int} (hp : p'.1 = p.1 ∧ p.2.1 ≤ p'.2.1 ∧ p'.2.2 ≤ p.2.2) (hq : q'.1 = q.1 ∧ q.2.1 ≤ q'.2.1 ∧ q'.2.2 ≤ q.2.2) (h1 : p.1 ≤ x) (h2 : x ≤ q.1) :
    (pAt p q x).1 ≤ (pAt p' q' x).1 ∧ (pAt p' q' x).2 ≤ (pAt p q x).2 := by
  rw [pAt_lo, pAt_lo, pAt_hi, pAt_hi, hp.1, hq.1]
  have hD : 0 < max (q.1 - p.1) 1 := by omega
  have hu : x - p.1 ≤ max (q.1 - p.1) 1 := by omega
  have m1 := quot_mono hD (show 0 ≤ x - p.1 by omega) hu hp.2.1 hq.2.1
  have m2 := quot_mono hD (show 0 ≤ x - p.1 by omega) hu (show -p.2.2 ≤ -p'.2.2 by omega) (show -q.2.2 ≤ -q'.2.2 by omega)
  omega

/-- the piece that has a place -/
theorem piece_at {ps : List P3} {x : Int} (ht : tabOk ps = true) (h1 : firstX ps ≤ x) (h2 : x ≤ lastX ps) : ∃ (i : Nat) (pq : P3 × P3), (pcs ps)[i]? = some pq ∧ pq.1.1 ≤ x ∧ x ≤ pq.2.1 ∧ (∀ j, j < i → ∀ r, (pcs ps)[j]? = some r → r.2.1 < x) := by
  have hl := (tabOk_len ht).1
  rcases Nat.lt_or_ge ps.length 2 with hc | hc
  · obtain ⟨p, rfl⟩ : ∃ p, ps = [p] := List.length_eq_one_iff.1 (by omega)
    exact ⟨0, (p, p), rfl, h1, h2, fun j hj => by omega⟩
  · cases hf : (pcs ps).find? (fun pq => decide (x ≤ pq.2.1)) with
    | none =>
      exfalso
      rw [List.find?_eq_none] at hf
      have e1 : ps[ps.length - 2]? = some ps[ps.length - 2] := List.getElem?_eq_getElem (by omega)
      have e2 : ps[ps.length - 2 + 1]? = some ps[ps.length - 2 + 1] := List.getElem?_eq_getElem (by omega)
      have hm := hf _ (List.mem_of_getElem? (pcs_at hc e1 e2))
      simp only [decide_eq_true_eq] at hm
      have : lastX ps = (ps[ps.length - 2 + 1]'(by omega)).1 := by
        unfold lastX
        rw [List.getLast?_eq_getElem?, show ps.length - 1 = ps.length - 2 + 1 by omega, e2]; rfl
      omega
    | some pq =>
      obtain ⟨hx, i, li, hi, hb⟩ := List.find?_eq_some_iff_getElem.1 hf
      have hx' : x ≤ pq.2.1 := by simpa using hx
      have hi' : (pcs ps)[i]? = some pq := by rw [List.getElem?_eq_getElem li, hi]
      refine ⟨i, pq, hi', ?_, hx', fun j hj r hr => ?_⟩
      · cases i with
        | zero =>
          have hz := hi'
          rw [pcs_two hc, List.getElem?_zip_eq_some] at hz
          have hz0 := hz.1
          have : firstX ps = pq.1.1 := by unfold firstX; rw [List.head?_eq_getElem?, hz0]; rfl
          omega
        | succ k =>
          have lk : k < (pcs ps).length := by omega
          have h0 := hb k (by omega)
          have hr := pcs_before hc (List.getElem?_eq_getElem lk)
          have hz := hi'
          rw [pcs_two hc, List.getElem?_zip_eq_some] at hz
          rw [hz.1] at hr
          injection hr with hr
          simp only [Bool.not_eq_true', decide_eq_false_iff_not] at h0
          rw [hr]; omega
      · have lj := (List.getElem?_eq_some_iff.1 hr).1
        have h0 := hb j hj
        have e := List.getElem?_eq_getElem lj
        rw [hr] at e
        injection e with e
        simp only [Bool.not_eq_true', decide_eq_false_iff_not] at h0
        rw [e]; omega
theorem pcs_within {qs ps : List P3} (h : Within3 qs ps) {i : Nat} {r : P3 × P3} (hr : (pcs qs)[i]? = some r) : ∃ pq, (pcs ps)[i]? = some pq ∧
    (r.1.1 = pq.1.1 ∧ pq.1.2.1 ≤ r.1.2.1 ∧ r.1.2.2 ≤ pq.1.2.2) ∧ (r.2.1 = pq.2.1 ∧ pq.2.2.1 ≤ r.2.2.1 ∧ r.2.2.2 ≤ pq.2.2.2) := by
  rcases Nat.lt_or_ge qs.length 2 with hc | hc
  · match qs, ps, h.1 with
    | [], [], _ => simp [pcs] at hr
    | [q], [p], _ =>
      have e := h.2 0 q p rfl rfl
      cases i with
      | zero =>
        simp [pcs] at hr
        subst hr
        exact ⟨(p, p), rfl, ⟨e.1, e.2.1, e.2.2.2⟩, ⟨e.1, e.2.1, e.2.2.2⟩⟩
      | succ k => simp [pcs] at hr
    | _ :: _ :: _, _, _ => exfalso; simp at hc; omega
  · have hc' : 2 ≤ ps.length := by have := h.1; omega
    rw [pcs_two hc, List.getElem?_zip_eq_some, List.getElem?_tail] at hr
    have l2 := (List.getElem?_eq_some_iff.1 hr.2).1
    obtain ⟨p, hp⟩ : ∃ p, ps[i]? = some p := ⟨_, List.getElem?_eq_getElem (by have := h.1; omega)⟩
    obtain ⟨p2, hp2⟩ : ∃ p, ps[i + 1]? = some p := ⟨_, List.getElem?_eq_getElem (by have := h.1; omega)⟩
    have e1 := h.2 i _ _ hr.1 hp
    have e2 := h.2 (i + 1) _ _ hr.2 hp2
    exact ⟨(p, p2), pcs_at hc' hp hp2, ⟨e1.1, e1.2.1, e1.2.2.2⟩, ⟨e2.1, e2.2.1, e2.2.2.2⟩⟩
theorem atS_mono {qs ps : List P3} {x : Int} (h : Within3 qs ps) (ht : tabOk ps = true) (h1 : firstX ps ≤ x) (h2 : x ≤ lastX ps) : (atS ps x).1 ≤ (atS qs x).1 ∧ (atS qs x).2 ≤ (atS ps x).2 := by
  obtain ⟨i, r, hi, b1, b2, bef⟩ := piece_at (tabOk_within h ht) (by rw [h.first]; exact h1) (by rw [h.last]; exact h2)
  obtain ⟨pq, hpq, e1, e2⟩ := pcs_within h hi
  rw [atS_piece hi b2 bef]
  rw [atS_piece hpq (by omega) (fun j hj s hs => by
    obtain ⟨r', hr'⟩ : ∃ r', (pcs qs)[j]? = some r' := ⟨_, List.getElem?_eq_getElem (by have := (List.getElem?_eq_some_iff.1 hi).1; omega)⟩
    obtain ⟨s', hs', _, e⟩ := pcs_within h hr'
    rw [hs] at hs'; injection hs' with hs'; subst hs'
    have := bef j hj r' hr'
    omega)]
  exact pAt_mono e1 e2 (by omega) (by omega)

/-- Over -/
theorem foldG_true : ∀ (l : List (Int × Int)) (s : Int × Int × Bool), s.2.2 = true → (l.foldl stepG s).2.2 = true
  | [], s, h => h
  | r :: l, s, h => by
    rw [List.foldl_cons]
    refine foldG_true l _ ?_
    unfold stepG; rw [if_pos h]
theorem foldG_mono : ∀ (l : List Int) (f g : Int → Int × Int) (s t : Int × Int × Bool), (∀ x ∈ l, (g x).1 ≤ (f x).1 ∧ (f x).2 ≤ (g x).2) → s.2.2 = true → t.2.2 = true → t.1 ≤ s.1 → s.2.1 ≤ t.2.1 →
    ((l.map g).foldl stepG t).1 ≤ ((l.map f).foldl stepG s).1 ∧ ((l.map f).foldl stepG s).2.1 ≤ ((l.map g).foldl stepG t).2.1
  | [], _, _, s, t, _, _, _, h3, h4 => ⟨h3, h4⟩
  | x :: l, f, g, s, t, h, h1, h2, h3, h4 => by
    have hx := h x (by simp)
    rw [List.map_cons, List.map_cons, List.foldl_cons, List.foldl_cons]
    have e1 : stepG s (f x) = (min s.1 (f x).1, max s.2.1 (f x).2, true) := by unfold stepG; rw [if_pos h1]
    have e2 : stepG t (g x) = (min t.1 (g x).1, max t.2.1 (g x).2, true) := by unfold stepG; rw [if_pos h2]
    rw [e1, e2]
    refine foldG_mono l f g _ _ (fun y hy => h y (List.mem_cons_of_mem _ hy)) rfl rfl ?_ ?_ <;> dsimp only <;> omega
theorem over_mono {qs ps : List P3} {a b : Int} (h : Within3 qs ps) (ht : tabOk ps = true) (hab : a ≤ b) (h1 : firstX ps ≤ a) (h2 : b ≤ lastX ps) : (overGood ps a b).1 ≤ (overGood qs a b).1 ∧ (overGood qs a b).2.1 ≤ (overGood ps a b).2.1 := by
  unfold overGood foldG
  rw [h.corners]
  have hm : ∀ x ∈ cornersS ps a b, (atS ps x).1 ≤ (atS qs x).1 ∧ (atS qs x).2 ≤ (atS ps x).2 := fun x hx => by
    rcases corners_mem hx with c | c <;> exact atS_mono h ht (by omega) (by omega)
  cases hc : cornersS ps a b with
  | nil => exact absurd hc (corners_ne ps a b)
  | cons x l =>
    rw [hc] at hm
    have hx := hm x (by simp)
    rw [List.map_cons, List.map_cons, List.foldl_cons, List.foldl_cons]
    have e1 : stepG (0, 0, false) (atS qs x) = ((atS qs x).1, (atS qs x).2, true) := rfl
    have e2 : stepG (0, 0, false) (atS ps x) = ((atS ps x).1, (atS ps x).2, true) := rfl
    rw [e1, e2]
    exact foldG_mono l (atS qs) (atS ps) _ _ (fun y hy => hm y (List.mem_cons_of_mem _ hy)) rfl rfl hx.1 hx.2
/-- Area -/
theorem area_mono {qs ps : List P3} {a b : Int} (h : Within3 qs ps) : areaLo ps a b ≤ areaLo qs a b ∧ areaHi qs a b ≤ areaHi ps a b := by
  have hl := h.1
  have m1 := exXY_mono a b (xsOf ps) (ps.map (·.2.1)) (qs.map (·.2.1)) (0, 1) (0, 1) (by simp [hl]) (fun k y z h1 h2 => by
    rw [List.getElem?_map, Option.map_eq_some_iff] at h1 h2
    obtain ⟨p, hp, rfl⟩ := h1
    obtain ⟨q, hq, rfl⟩ := h2
    exact (h.2 k q p hq hp).2.1) (Int.le_refl _) rfl (Int.le_refl _)
  have m2 := exXY_mono a b (xsOf ps) (ps.map fun p => -p.2.2) (qs.map fun p => -p.2.2) (0, 1) (0, 1) (by simp [hl]) (fun k y z h1 h2 => by
    rw [List.getElem?_map, Option.map_eq_some_iff] at h1 h2
    obtain ⟨p, hp, rfl⟩ := h1
    obtain ⟨q, hq, rfl⟩ := h2
    have := (h.2 k q p hq hp).2.2.2
    omega) (Int.le_refl _) rfl (Int.le_refl _)
  have d1 := exD_pos a b (xsOf ps) (ps.map (·.2.1))
  have d2 := exD_pos a b (xsOf ps) (ps.map fun p => -p.2.2)
  unfold areaLo areaHi exN exD
  unfold exD at d1 d2
  rw [h.map_fst, ← m1.2, ← m2.2]
  have f1 := Int.ediv_le_ediv (show 0 < (exXY a b (0, 1) (xsOf ps) (ps.map (·.2.1))).2 by omega) m1.1
  have f2 := Int.ediv_le_ediv (show 0 < (exXY a b (0, 1) (xsOf ps) (ps.map fun p => -p.2.2)).2 by omega) m2.1
  omega
/-- curves of a table that does not fall, or does not rise -/
theorem pairs_of {so : P3 → P3 → Bool} : ∀ (ps : List P3), pairsOk so ps = true → ∀ (k : Nat) (p q : P3), ps[k]? = some p → ps[k + 1]? = some q → so p q = true
  | [], _, k, p, q, h, _ => by simp at h
  | [_], _, k, p, q, _, h => by simp at h
  | a :: b :: r, h, 0, p, q, h1, h2 => by
    simp only [pairsOk, Bool.and_eq_true] at h
    simp at h1 h2
    subst h1 h2
    exact h.1
  | a :: b :: r, h, k + 1, p, q, h1, h2 => by
    simp only [pairsOk, Bool.and_eq_true] at h
    exact pairs_of (b :: r) h.2 k p q (by simpa using h1) (by simpa using h2)
theorem rising_curves {ps : List P3} {ys zs : List Int} {k : Nat} {y z : Int} (hr : risingS ps = true) (h1 : InTab ps ys) (h2 : InTab ps zs) (hy : ys[k + 1]? = some y) (hz : zs[k]? = some z) : z ≤ y := by
  unfold risingS at hr
  rw [Bool.and_eq_true] at hr
  have l := (List.getElem?_eq_some_iff.1 hy).1
  obtain ⟨p, hp⟩ : ∃ p, ps[k]? = some p := ⟨_, List.getElem?_eq_getElem (by have := h1.1; omega)⟩
  obtain ⟨q, hq⟩ : ∃ q, ps[k + 1]? = some q := ⟨_, List.getElem?_eq_getElem (by have := h1.1; omega)⟩
  have := pairs_of ps hr.2 k p q hp hq
  simp only [risingSo, decide_eq_true_eq] at this
  have b1 := h1.2 _ _ _ hq hy
  have b2 := h2.2 _ _ _ hp hz
  omega
theorem falling_curves {ps : List P3} {ys zs : List Int} {k : Nat} {y z : Int} (hr : fallingS ps = true) (h1 : InTab ps ys) (h2 : InTab ps zs) (hy : ys[k + 1]? = some y) (hz : zs[k]? = some z) : y ≤ z := by
  unfold fallingS at hr
  rw [Bool.and_eq_true] at hr
  have l := (List.getElem?_eq_some_iff.1 hy).1
  obtain ⟨p, hp⟩ : ∃ p, ps[k]? = some p := ⟨_, List.getElem?_eq_getElem (by have := h1.1; omega)⟩
  obtain ⟨q, hq⟩ : ∃ q, ps[k + 1]? = some q := ⟨_, List.getElem?_eq_getElem (by have := h1.1; omega)⟩
  have := pairs_of ps hr.2 k p q hp hq
  simp only [fallingSo, decide_eq_true_eq] at this
  have b1 := h1.2 _ _ _ hq hy
  have b2 := h2.2 _ _ _ hp hz
  omega
end

section
open Go.RowKit

/-- A table at a place of one of its pieces, whichever. -/
theorem piece_start {ps : List P3} (ht : tabOk ps = true) {i j : Nat} {pq r : P3 × P3} (hi : (pcs ps)[i]? = some pq) (hj : (pcs ps)[j]? = some r) (h : j < i) : r.2.1 ≤ pq.1.1 := by
  rcases Nat.lt_or_ge ps.length 2 with c | c
  · exfalso
    have hl := (tabOk_len ht).1
    obtain ⟨p, rfl⟩ : ∃ p, ps = [p] := List.length_eq_one_iff.1 (by omega)
    have := (List.getElem?_eq_some_iff.1 hi).1
    simp [pcs] at this
    omega
  · have h1 := pcs_before c hj
    have h2 := hi
    rw [pcs_two c, List.getElem?_zip_eq_some] at h2
    exact rising_le ht h1 h2.1 (by omega)
theorem piece_mem {ps : List P3} (ht : tabOk ps = true) {i : Nat} {pq : P3 × P3} (hi : (pcs ps)[i]? = some pq) : pq.1 ∈ ps ∧ pq.2 ∈ ps ∧ pq.1.1 ≤ pq.2.1 := by
  rcases Nat.lt_or_ge ps.length 2 with c | c
  · have hl := (tabOk_len ht).1
    obtain ⟨p, rfl⟩ : ∃ p, ps = [p] := List.length_eq_one_iff.1 (by omega)
    have : pq = (p, p) := by
      have := List.mem_of_getElem? hi
      simpa [pcs] using this
    subst this
    exact ⟨by simp, by simp, Int.le_refl _⟩
  · have h2 := hi
    rw [pcs_two c, List.getElem?_zip_eq_some] at h2
    have h1 := pcs_before c hi
    exact ⟨List.mem_of_getElem? h2.1, List.mem_of_getElem? h1, rising_le ht h2.1 h1 (by omega)⟩
theorem pAt_start (p q : P3) : pAt p q p.1 = (p.2.1, p.2.2) := by simp [pAt, riseS]
theorem atS_any {ps : List P3} (ht : tabOk ps = true) {i : Nat} {pq : P3 × P3} {x : Int} (hi : (pcs ps)[i]? = some pq) (h1 : pq.1.1 ≤ x) (h2 : x ≤ pq.2.1) : atS ps x = pAt pq.1 pq.2 x := by
  by_cases he : pq.1.1 = x
  · subst he
    rw [atS_point ht (piece_mem ht hi).1, pAt_start]
  · exact atS_piece hi h2 (fun j hj r hr => by have := piece_start ht hi hr hj; omega)

/-- rise goes one way -/
theorem riseS_up {u v D dy : Int} (h : u ≤ v) (hy : 0 ≤ dy) : riseS u D dy ≤ riseS v D dy :=
  Int.ediv_le_ediv (by omega) (Int.mul_le_mul_of_nonneg_right h hy)
theorem riseS_down {u v D dy : Int} (h : u ≤ v) (hy : dy ≤ 0) : riseS v D dy ≤ riseS u D dy :=
  Int.ediv_le_ediv (by omega) (by
    have := Int.mul_le_mul_of_nonneg_right h (show 0 ≤ -dy by omega)
    rw [Int.mul_neg, Int.mul_neg] at this; omega)
/-- the lines of a piece go one way -/
theorem pAt_low_way (p q : P3) : (∀ x y, x ≤ y → (pAt p q x).1 ≤ (pAt p q y).1) ∨ (∀ x y, x ≤ y → (pAt p q y).1 ≤ (pAt p q x).1) := by
  rcases Int.le_total 0 (q.2.1 - p.2.1) with c | c
  · exact .inl fun x y h => by have := riseS_up (D := q.1 - p.1) (show x - p.1 ≤ y - p.1 by omega) c; simp only [pAt]; omega
  · exact .inr fun x y h => by have := riseS_down (D := q.1 - p.1) (show x - p.1 ≤ y - p.1 by omega) c; simp only [pAt]; omega
theorem pAt_high_way (p q : P3) : (∀ x y, x ≤ y → (pAt p q x).2 ≤ (pAt p q y).2) ∨ (∀ x y, x ≤ y → (pAt p q y).2 ≤ (pAt p q x).2) := by
  rcases Int.le_total 0 (p.2.2 - q.2.2) with c | c
  · exact .inr fun x y h => by have := riseS_up (D := q.1 - p.1) (show x - p.1 ≤ y - p.1 by omega) c; simp only [pAt]; omega
  · exact .inl fun x y h => by have := riseS_down (D := q.1 - p.1) (show x - p.1 ≤ y - p.1 by omega) c; simp only [pAt]; omega

/-- Over has what lies between -/
theorem foldG_le : ∀ (l : List (Int × Int)) (s : Int × Int × Bool), s.2.2 = true → ((l.foldl stepG s).1 ≤ s.1 ∧ s.2.1 ≤ (l.foldl stepG s).2.1) ∧ (∀ r ∈ l, (l.foldl stepG s).1 ≤ r.1 ∧ r.2 ≤ (l.foldl stepG s).2.1)
  | [], s, _ => ⟨⟨Int.le_refl _, Int.le_refl _⟩, fun r h => by simp at h⟩
  | z :: l, s, h => by
    rw [List.foldl_cons]
    have e : stepG s z = (min s.1 z.1, max s.2.1 z.2, true) := by unfold stepG; rw [if_pos h]
    obtain ⟨h1, h2⟩ := foldG_le l (stepG s z) (by rw [e])
    rw [e] at h1 h2 ⊢
    dsimp only at h1
    refine ⟨by omega, fun r hr => ?_⟩
    rcases List.mem_cons.1 hr with rfl | hr
    · omega
    · exact h2 r hr
theorem foldG_has {l : List (Int × Int)} {r : Int × Int} (hr : r ∈ l) : (foldG l).1 ≤ r.1 ∧ r.2 ≤ (foldG l).2.1 := by
  cases l with
  | nil => simp at hr
  | cons z l =>
    unfold foldG
    rw [List.foldl_cons]
    have e : stepG (0, 0, false) z = (z.1, z.2, true) := rfl
    obtain ⟨h1, h2⟩ := foldG_le l (stepG (0, 0, false) z) (by rw [e])
    rw [e] at h1 h2 ⊢
    rcases List.mem_cons.1 hr with rfl | hr
    · exact h1
    · exact h2 r hr
theorem over_corner {ps : List P3} {a b c : Int} (h : c ∈ cornersS ps a b) : (overGood ps a b).1 ≤ (atS ps c).1 ∧ (atS ps c).2 ≤ (overGood ps a b).2.1 :=
  foldG_has (List.mem_map_of_mem h)
theorem corner_mem {ps : List P3} {a b c : Int} (hab : a ≤ b) (h : c = a ∨ c = b ∨ (a ≤ c ∧ c ≤ b ∧ ∃ p ∈ ps, p.1 = c)) : c ∈ cornersS ps a b := by
  unfold cornersS
  rw [List.cons_append, List.mem_cons]
  by_cases h1 : c = a
  · exact .inl h1
  · refine .inr (List.mem_append.2 ?_)
    by_cases h2 : c = b
    · right; rw [if_pos (by omega)]; simp [h2]
    · rcases h with h | h | ⟨h3, h4, p, hp, rfl⟩
      · exact absurd h h1
      · exact absurd h h2
      · left
        exact List.mem_map.2 ⟨p, List.mem_filter.2 ⟨hp, by simp; omega⟩, rfl⟩
theorem over_has {ps : List P3} {a b x : Int} (ht : tabOk ps = true) (h0 : firstX ps ≤ a) (h1 : a ≤ x) (h2 : x ≤ b) (h3 : b ≤ lastX ps) : (overGood ps a b).1 ≤ (atS ps x).1 ∧ (atS ps x).2 ≤ (overGood ps a b).2.1 := by
  obtain ⟨i, pq, hi, b1, b2, _⟩ := piece_at ht (show firstX ps ≤ x by omega) (show x ≤ lastX ps by omega)
  obtain ⟨m1, m2, _⟩ := piece_mem ht hi
  have c1 : max a pq.1.1 ∈ cornersS ps a b := corner_mem (by omega) (by
    rcases Int.le_total pq.1.1 a with c | c
    · left; omega
    · right; right; exact ⟨by omega, by omega, pq.1, m1, by omega⟩)
  have c2 : min b pq.2.1 ∈ cornersS ps a b := corner_mem (by omega) (by
    rcases Int.le_total b pq.2.1 with c | c
    · right; left; omega
    · right; right; exact ⟨by omega, by omega, pq.2, m2, by omega⟩)
  have o1 := over_corner c1
  have o2 := over_corner c2
  rw [atS_any ht hi (by omega) (by omega)] at o1 o2 ⊢
  have k1 : max a pq.1.1 ≤ x := by omega
  have k2 : x ≤ min b pq.2.1 := by omega
  constructor
  · rcases pAt_low_way pq.1 pq.2 with w | w
    · have := w _ _ k1; omega
    · have := w _ _ k2; omega
  · rcases pAt_high_way pq.1 pq.2 with w | w
    · have := w _ _ k2; omega
    · have := w _ _ k1; omega

/-- The binary search finds where a question turns. -/
theorem bs_turn (f : Int → Bool) : ∀ (k : Nat) (i j : Int), i ≤ j → (j - i).toNat ≤ k → (∀ u v, i ≤ u → u ≤ v → v < j → f u = true → f v = true) →
    (i ≤ bs f k i j ∧ bs f k i j ≤ j) ∧ (∀ v, i ≤ v → v < bs f k i j → f v = false) ∧ (∀ v, bs f k i j ≤ v → v < j → f v = true)
  | 0, i, j, h, hk, _ => ⟨by simp [bs]; omega, fun v h1 h2 => by simp [bs] at h2; omega, fun v h1 h2 => by simp [bs] at h1; omega⟩
  | k + 1, i, j, h, hk, hm => by
    rw [bs]
    by_cases hlt : i < j
    · rw [if_pos hlt]
      have m1 : i ≤ (i + j) / 2 := by omega
      have m2 : (i + j) / 2 < j := by omega
      cases hf : f ((i + j) / 2)
      · simp only [Bool.false_eq_true, if_false]
        obtain ⟨⟨r1, r2⟩, r3, r4⟩ := bs_turn f k ((i + j) / 2 + 1) j (by omega) (by omega) (fun u v a b c => hm u v (by omega) b c)
        refine ⟨by omega, fun v h1 h2 => ?_, r4⟩
        rcases Int.lt_or_le ((i + j) / 2) v with c | c
        · exact r3 v (by omega) h2
        · cases hv : f v
          · rfl
          · have := hm v ((i + j) / 2) h1 c m2 hv
            rw [hf] at this; cases this
      · simp only [if_true]
        obtain ⟨⟨r1, r2⟩, r3, r4⟩ := bs_turn f k i ((i + j) / 2) (by omega) (by omega) (fun u v a b c => hm u v a b (by omega))
        refine ⟨by omega, r3, fun v h1 h2 => ?_⟩
        rcases Int.lt_or_le v ((i + j) / 2) with c | c
        · exact r4 v h1 c
        · exact hm ((i + j) / 2) v m1 c h2 hf
    · rw [if_neg hlt]
      exact ⟨by omega, fun v h1 h2 => by omega, fun v h1 h2 => by omega⟩

/-- A question that turns once at most, from a to b. -/
def OneWay (so : Int → Bool) (a b : Int) : Prop := (∀ x y, a ≤ x → x ≤ y → y ≤ b → so x = true → so y = true) ∨ (∀ x y, a ≤ x → x ≤ y → y ≤ b → so y = true → so x = true)
theorem stretch_turn {so : Int → Bool} {a b : Int} (hab : a ≤ b) (h : OneWay so a b) (hne : ¬ so a = so b) : ∃ t, a + bs (fun i => !(so (a + i) == so a)) (b - a).toNat 0 (b - a) = t ∧ a < t ∧ t ≤ b ∧ (∀ x, a ≤ x → x < t → so x = so a) ∧ (∀ x, t ≤ x → x ≤ b → so x = so b) := by
  have hmono : ∀ x y, a ≤ x → x ≤ y → y ≤ b → so x ≠ so a → so y ≠ so a := fun x y h1 h2 h3 hx hy => by
    cases ha : so a with
    | false =>
      rw [ha] at hx hy
      have hx' : so x = true := by cases h : so x <;> simp_all
      rcases h with m | m
      · have := m x y h1 h2 h3 hx'; rw [hy] at this; cases this
      · have := m a x (Int.le_refl _) h1 (by omega) hx'; rw [ha] at this; cases this
    | true =>
      rw [ha] at hx hy
      have hx' : so x = false := by cases h : so x <;> simp_all
      rcases h with m | m
      · have := m a x (Int.le_refl _) h1 (by omega) ha; rw [hx'] at this; cases this
      · have := m x y h1 h2 h3 hy; rw [hx'] at this; cases this
  obtain ⟨⟨r1, r2⟩, r3, r4⟩ := bs_turn (fun i => !(so (a + i) == so a)) (b - a).toNat 0 (b - a) (by omega) (by omega) (fun u v h1 h2 h3 hu => by
    have hu' : so (a + u) ≠ so a := by simpa using hu
    have := hmono (a + u) (a + v) (by omega) (by omega) (by omega) hu'
    simpa using this)
  refine ⟨_, rfl, ?_, by omega, fun x h1 h2 => ?_, fun x h1 h2 => ?_⟩
  · rcases Int.lt_or_le 0 (bs (fun i => !(so (a + i) == so a)) (b - a).toNat 0 (b - a)) with c | c
    · omega
    · exfalso
      have h0 : a < b := by
        rcases Int.lt_or_le a b with d | d
        · exact d
        · have : a = b := by omega
          subst this; exact absurd rfl hne
      have := r4 0 (by omega) (by omega)
      simp at this
  · have := r3 (x - a) (by omega) (by omega)
    rw [show a + (x - a) = x by omega] at this
    simpa using this
  · by_cases e : x = b
    · rw [e]
    · have := r4 (x - a) (by omega) (by omega)
      rw [show a + (x - a) = x by omega] at this
      have h1 : so x ≠ so a := by simpa using this
      cases hx : so x <;> cases hb : so b <;> cases ha : so a <;> simp_all
theorem stretch_iff {so : Int → Bool} {a b : Int} (hab : a ≤ b) (h : OneWay so a b) :
    (∀ x, ((stretchS so a b).1 ≤ x ∧ x ≤ (stretchS so a b).2) ↔ (a ≤ x ∧ x ≤ b ∧ so x = true)) ∧ a ≤ (stretchS so a b).1 ∧ (stretchS so a b).2 ≤ b ∧ ((stretchS so a b).1 ≤ (stretchS so a b).2 ∨ ((stretchS so a b).1 = b + 1 ∧ (stretchS so a b).2 = b)) := by
  unfold stretchS
  by_cases e : so a = so b
  · rw [if_pos e]
    cases ha : so a with
    | true =>
      rw [if_pos rfl]
      dsimp only
      refine ⟨fun x => ⟨fun ⟨h1, h2⟩ => ⟨h1, h2, ?_⟩, fun ⟨h1, h2, _⟩ => ⟨h1, h2⟩⟩, Int.le_refl _, Int.le_refl _, .inl hab⟩
      rcases h with m | m
      · exact m a x (Int.le_refl _) h1 h2 ha
      · exact m x b h1 h2 (Int.le_refl _) (by rw [← e]; exact ha)
    | false =>
      simp only [Bool.false_eq_true, if_false]
      refine ⟨fun x => ⟨fun ⟨h1, h2⟩ => by omega, fun ⟨h1, h2, h3⟩ => ?_⟩, by omega, Int.le_refl _, .inr (by simp)⟩
      exfalso
      rcases h with m | m
      · have := m x b h1 h2 (Int.le_refl _) h3; rw [← e, ha] at this; cases this
      · have := m a x (Int.le_refl _) h1 h2 h3; rw [ha] at this; cases this
  · rw [if_neg e]
    obtain ⟨t, ht, t1, t2, t3, t4⟩ := stretch_turn hab h e
    rw [ht]
    cases ha : so a with
    | true =>
      rw [if_pos rfl]
      dsimp only
      have hb : so b = false := by cases hb : so b <;> simp_all
      refine ⟨fun x => ⟨fun ⟨h1, h2⟩ => ⟨h1, by omega, by rw [t3 x h1 (by omega), ha]⟩, fun ⟨h1, h2, h3⟩ => ⟨h1, ?_⟩⟩, Int.le_refl _, by omega, .inl (by omega)⟩
      rcases Int.lt_or_le x t with c | c
      · omega
      · have := t4 x c h2; rw [h3, hb] at this; cases this
    | false =>
      simp only [Bool.false_eq_true, if_false]
      have hb : so b = true := by cases hb : so b <;> simp_all
      refine ⟨fun x => ⟨fun ⟨h1, h2⟩ => ⟨by omega, h2, by rw [t4 x h1 h2, hb]⟩, fun ⟨h1, h2, h3⟩ => ⟨?_, h2⟩⟩, by omega, Int.le_refl _, .inl (by omega)⟩
      rcases Int.lt_or_le x t with c | c
      · have := t3 x h1 c; rw [h3, ha] at this; cases this
      · exact c

/-- Runs that have a place. -/
def InRuns (L : List (Int × Int)) (x : Int) : Prop := ∃ r ∈ L, r.1 ≤ x ∧ x ≤ r.2
def Full (L : List (Int × Int)) : Prop := ∀ r ∈ L, r.1 ≤ r.2
theorem addRun_has {L : List (Int × Int)} {r : Int × Int} (hL : Full L) (hr : r.1 ≤ r.2) : Full (addRun L r) ∧ ∀ x, InRuns (addRun L r) x ↔ (InRuns L x ∨ (r.1 ≤ x ∧ x ≤ r.2)) := by
  unfold addRun
  cases hz : L.getLast? with
  | none =>
    have : L = [] := List.getLast?_eq_none_iff.1 hz
    subst this
    exact ⟨fun z hz => by simp at hz; subst hz; exact hr, fun x => by simp [InRuns]⟩
  | some z =>
    obtain ⟨init, rfl⟩ : ∃ init, L = init ++ [z] := List.getLast?_eq_some_iff.1 hz
    have hzf := hL z (by simp)
    dsimp only
    by_cases e : r.1 = z.2
    · rw [if_pos e, List.dropLast_concat]
      refine ⟨fun y hy => ?_, fun x => ?_⟩
      · rcases List.mem_append.1 hy with hy | hy
        · exact hL y (List.mem_append.2 (.inl hy))
        · simp at hy; subst hy; dsimp only; omega
      · constructor
        · rintro ⟨y, hy, h1, h2⟩
          rcases List.mem_append.1 hy with hy | hy
          · exact .inl ⟨y, List.mem_append.2 (.inl hy), h1, h2⟩
          · simp at hy; subst hy
            dsimp only at h1 h2
            rcases Int.lt_or_le z.2 x with c | c
            · right; omega
            · left; exact ⟨z, by simp, h1, c⟩
        · rintro (⟨y, hy, h1, h2⟩ | ⟨h1, h2⟩)
          · rcases List.mem_append.1 hy with hy | hy
            · exact ⟨y, List.mem_append.2 (.inl hy), h1, h2⟩
            · simp at hy; subst hy
              exact ⟨(y.1, r.2), by simp, h1, by dsimp only; omega⟩
          · exact ⟨(z.1, r.2), by simp, by dsimp only; omega, h2⟩
    · rw [if_neg e]
      refine ⟨fun y hy => ?_, fun x => ?_⟩
      · rcases List.mem_append.1 hy with hy | hy
        · exact hL y hy
        · simp at hy; subst hy; exact hr
      · constructor
        · rintro ⟨y, hy, h1, h2⟩
          rcases List.mem_append.1 hy with hy | hy
          · exact .inl ⟨y, hy, h1, h2⟩
          · simp at hy; subst hy; exact .inr ⟨h1, h2⟩
        · rintro (⟨y, hy, h1, h2⟩ | ⟨h1, h2⟩)
          · exact ⟨y, List.mem_append.2 (.inl hy), h1, h2⟩
          · exact ⟨r, by simp, h1, h2⟩
theorem runs_fold (f : P3 → P3 → Int × Int) : ∀ (xs : List Pr) (L : List (Int × Int)), Full L → Full (xs.foldl (runStep f) L) ∧ ∀ x, InRuns (xs.foldl (runStep f) L) x ↔ (InRuns L x ∨ ∃ y ∈ xs, (f y.1.1 y.1.2).1 ≤ x ∧ x ≤ (f y.1.1 y.1.2).2)
  | [], L, h => ⟨h, fun x => by simp⟩
  | y :: xs, L, h => by
    rw [List.foldl_cons]
    by_cases c : (f y.1.1 y.1.2).1 ≤ (f y.1.1 y.1.2).2
    · have e : runStep f L y = addRun L (f y.1.1 y.1.2) := by unfold runStep; rw [if_pos c]
      obtain ⟨a1, a2⟩ := addRun_has h c
      obtain ⟨b1, b2⟩ := runs_fold f xs (runStep f L y) (by rw [e]; exact a1)
      refine ⟨b1, fun x => ?_⟩
      rw [b2 x, e, a2 x]
      simp only [List.mem_cons, exists_eq_or_imp]
      exact or_assoc
    · have e : runStep f L y = L := by unfold runStep; rw [if_neg c]
      obtain ⟨b1, b2⟩ := runs_fold f xs (runStep f L y) (by rw [e]; exact h)
      refine ⟨b1, fun x => ?_⟩
      rw [b2 x, e]
      simp only [List.mem_cons, exists_eq_or_imp]
      constructor
      · rintro (h | h)
        · exact .inl h
        · exact .inr (.inr h)
      · rintro (h | ⟨h1, h2⟩ | h)
        · exact .inl h
        · exact absurd (Int.le_trans h1 h2) c
        · exact .inr h
theorem runs_iff (f : P3 → P3 → Int × Int) (xs : List Pr) (x : Int) : InRuns (runsF f xs) x ↔ ∃ y ∈ xs, (f y.1.1 y.1.2).1 ≤ x ∧ x ≤ (f y.1.1 y.1.2).2 := by
  have := (runs_fold f xs [] (fun r h => by simp at h)).2 x
  unfold runsF
  rw [this]
  simp [InRuns]

/-- The runs of a table, by what its pieces' questions tell. -/
theorem table_runs {ps : List P3} {xs : List Pr} {f : P3 → P3 → Int × Int} {Q : Int × Int → Prop} (ht : tabOk ps = true) (hxs : xs.map (·.1) = pcs ps)
    (hf : ∀ p q : P3, p.1 ≤ q.1 → ∀ x, ((f p q).1 ≤ x ∧ x ≤ (f p q).2) ↔ (p.1 ≤ x ∧ x ≤ q.1 ∧ Q (pAt p q x))) {x : Int} (h1 : firstX ps ≤ x) (h2 : x ≤ lastX ps) : InRuns (runsF f xs) x ↔ Q (atS ps x) := by
  rw [runs_iff]
  constructor
  · rintro ⟨y, hy, hx⟩
    have hm : y.1 ∈ pcs ps := by rw [← hxs]; exact List.mem_map_of_mem hy
    obtain ⟨i, hi⟩ := List.mem_iff_getElem?.1 hm
    obtain ⟨a, b, c⟩ := (hf _ _ y.2.2.2 x).1 hx
    rw [atS_any ht hi a b]; exact c
  · intro hq
    obtain ⟨i, pq, hi, b1, b2, _⟩ := piece_at ht h1 h2
    have hm := List.mem_of_getElem? hi
    rw [← hxs] at hm
    obtain ⟨y, hy, rfl⟩ := List.mem_map.1 hm
    refine ⟨y, hy, (hf _ _ y.2.2.2 x).2 ⟨b1, b2, ?_⟩⟩
    rw [← atS_any ht hi b1 b2]; exact hq
theorem lowSo_way (p q : P3) (lo hi a b : Int) : OneWay (lowSo p q lo hi) a b := by
  rcases pAt_low_way p q with w | w
  · exact .inr fun x y _ h _ hy => by simp only [lowSo, decide_eq_true_eq] at hy ⊢; have := w x y h; omega
  · exact .inl fun x y _ h _ hy => by simp only [lowSo, decide_eq_true_eq] at hy ⊢; have := w x y h; omega
theorem highSo_way (p q : P3) (lo hi a b : Int) : OneWay (highSo p q lo hi) a b := by
  rcases pAt_high_way p q with w | w
  · exact .inl fun x y _ h _ hy => by simp only [highSo, decide_eq_true_eq] at hy ⊢; have := w x y h; omega
  · exact .inr fun x y _ h _ hy => by simp only [highSo, decide_eq_true_eq] at hy ⊢; have := w x y h; omega
theorem whereS_iff (lo hi : Int) (p q : P3) (hpq : p.1 ≤ q.1) (x : Int) : ((whereS lo hi p q).1 ≤ x ∧ x ≤ (whereS lo hi p q).2) ↔ (p.1 ≤ x ∧ x ≤ q.1 ∧ ((pAt p q x).1 ≤ hi ∧ lo ≤ (pAt p q x).2)) := by
  have s1 := (stretch_iff hpq (lowSo_way p q lo hi p.1 q.1)).1 x
  have s2 := (stretch_iff hpq (highSo_way p q lo hi p.1 q.1)).1 x
  simp only [whereS]
  have e1 : lowSo p q lo hi x = true ↔ (pAt p q x).1 ≤ hi := by simp [lowSo]
  have e2 : highSo p q lo hi x = true ↔ lo ≤ (pAt p q x).2 := by simp [highSo]
  rw [e1] at s1
  rw [e2] at s2
  constructor
  · intro h
    have a := s1.1 (by omega)
    have b := s2.1 (by omega)
    exact ⟨a.1, a.2.1, a.2.2, b.2.2⟩
  · rintro ⟨h1, h2, h3, h4⟩
    have a := s1.2 ⟨h1, h2, h3⟩
    have b := s2.2 ⟨h1, h2, h4⟩
    omega
theorem aboveSo_way (p q : P3) (y a b : Int) : OneWay (aboveSo p q y) a b := by
  rcases pAt_low_way p q with w | w
  · exact .inl fun x z _ h _ hy => by simp only [aboveSo, decide_eq_true_eq] at hy ⊢; have := w x z h; omega
  · exact .inr fun x z _ h _ hy => by simp only [aboveSo, decide_eq_true_eq] at hy ⊢; have := w x z h; omega
theorem aboveS_iff (y : Int) (p q : P3) (hpq : p.1 ≤ q.1) (x : Int) : ((aboveS y p q).1 ≤ x ∧ x ≤ (aboveS y p q).2) ↔ (p.1 ≤ x ∧ x ≤ q.1 ∧ y ≤ (pAt p q x).1) := by
  have s1 := (stretch_iff hpq (aboveSo_way p q y p.1 q.1)).1 x
  have e1 : aboveSo p q y x = true ↔ y ≤ (pAt p q x).1 := by simp [aboveSo]
  rw [e1] at s1
  exact s1
theorem where_iff {ps : List P3} {xs : List Pr} {lo hi x : Int} (ht : tabOk ps = true) (hxs : xs.map (·.1) = pcs ps) (h1 : firstX ps ≤ x) (h2 : x ≤ lastX ps) : InRuns (runsF (whereS lo hi) xs) x ↔ ((atS ps x).1 ≤ hi ∧ lo ≤ (atS ps x).2) :=
  table_runs (Q := fun r => r.1 ≤ hi ∧ lo ≤ r.2) ht hxs (fun p q hpq x => whereS_iff lo hi p q hpq x) h1 h2
theorem above_iff {ps : List P3} {xs : List Pr} {y x : Int} (ht : tabOk ps = true) (hxs : xs.map (·.1) = pcs ps) (h1 : firstX ps ≤ x) (h2 : x ≤ lastX ps) : InRuns (runsF (aboveS y) xs) x ↔ y ≤ (atS ps x).1 :=
  table_runs (Q := fun r => y ≤ r.1) ht hxs (fun p q hpq x => aboveS_iff y p q hpq x) h1 h2

/-- A value with a fraction lies within a range. -/
def Lies (a b W N : Int) : Prop := a ≤ W ∧ (W < b ∨ (W = b ∧ N = 0))
theorem Lies.wider {a b c d W N : Int} (h : Lies a b W N) (h1 : c ≤ a) (h2 : b ≤ d) : Lies c d W N := by
  unfold Lies at h ⊢; omega
/-- The value of numbers within a table at its points lies within the table's range at the place. -/
theorem value_lies {p q : P3} {y z x : Int} (h1 : p.1 < x) (h2 : x < q.1) (a1 : p.2.1 ≤ y) (a2 : y ≤ p.2.2) (b1 : q.2.1 ≤ z) (b2 : z ≤ q.2.2) :
    Lies (pAt p q x).1 (pAt p q x).2 (y + (z - y) * (x - p.1) / (q.1 - p.1)) ((z - y) * (x - p.1) % (q.1 - p.1)) := by
  have hm : max (q.1 - p.1) 1 = q.1 - p.1 := by omega
  have hD : 1 ≤ q.1 - p.1 := by omega
  rw [pAt_lo, pAt_hi, hm]
  generalize hDD : q.1 - p.1 = D at *
  generalize hu : x - p.1 = u at *
  have u0 : 0 ≤ u := by omega
  have u1 : 0 ≤ D - u := by omega
  have e : y * (D - u) + z * u = (z - y) * u + y * D := by grind
  have n1 : p.2.1 * (D - u) + q.2.1 * u ≤ y * (D - u) + z * u := by
    have := Int.mul_le_mul_of_nonneg_right a1 u1
    have := Int.mul_le_mul_of_nonneg_right b1 u0
    omega
  have n2 : y * (D - u) + z * u ≤ p.2.2 * (D - u) + q.2.2 * u := by
    have := Int.mul_le_mul_of_nonneg_right a2 u1
    have := Int.mul_le_mul_of_nonneg_right b2 u0
    omega
  have hN : -p.2.2 * (D - u) + -q.2.2 * u = -(p.2.2 * (D - u) + q.2.2 * u) := by grind
  rw [hN]
  have h := area_lies hD n1 n2
  have e1 : (y * (D - u) + z * u) / D = y + (z - y) * u / D := by
    rw [e, Int.add_mul_ediv_right _ _ (by omega)]; omega
  have e2 : (y * (D - u) + z * u) % D = (z - y) * u % D := by
    rw [e, Int.add_mul_emod_self_right]
  rw [e1, e2] at h
  have hr := Int.emod_nonneg ((z - y) * u) (show D ≠ 0 by omega)
  unfold Lies
  omega
end

section
open Go.RowKit Go.Shelf

set_option maxRecDepth 100000 in
set_option maxHeartbeats 2000000 in
theorem above_good (b0 o n c : Nat) (ps : List P3) (xs : List Pr) (lv : Int) (w : World) (hn : n = ps.length) (h2 : 1 ≤ n) (hb : b0 < w.heap.size) (ht : tabOk ps = true) (hxs : xs.map (·.1) = pcs ps) (hc : PtsAt w b0 o ps) :
    Calls Try.prog 52 #[tv (some ⟨b0, o, none⟩) n c, .int .i64 lv] w (GivesRunsOk w (runsF (aboveS lv) xs)) := by
  have h40 := (tabOk_len ht).2
  have hml : n ≤ maxLen := by unfold maxLen; omega
  have HN := Lib.hid hn; clear hn
  have HT := Lib.hid ht; clear ht
  have HX := Lib.hid hxs; clear hxs
  have hB0 : Below w.heap.size w ((w.alloc (.cells #[.slice (some ⟨b0, o, none⟩) n c] 43)).alloc (.cells #[.int .i64 lv] 3)) := below_a2 (Below.refl _ _)
  have HC := Lib.hid (hc.below hB0 hb); clear hc
  have hb0 : b0 < ((w.alloc (.cells #[.slice (some ⟨b0, o, none⟩) n c] 43)).alloc (.cells #[.int .i64 lv] 3)).heap.size := by simp; omega
  have bT := (Blk.new w 43 #[.slice (some ⟨b0, o, none⟩) n c]).alloc (.cells #[.int .i64 lv] 3)
  have bR := Blk.new (w.alloc (.cells #[.slice (some ⟨b0, o, none⟩) n c] 43)) 3 #[.int .i64 lv]
  simp only [World.size_alloc] at bR
  have HB := Lib.hid hb0; have HBT := Lib.hid bT; have HBR := Lib.hid bR; have HB0 := Lib.hid hB0
  clear hb0 bT bR hB0
  go_enter Try.func52, Try.ntmps52
  go_wp2_with fail
  refine (checkTable_to _ n c ps _ _ _ HN.out hml (HC.out.pts HB.out) HT.out rfl).mono ?_
  rintro e w1 ⟨rfl, hb1⟩
  have bT1 := HBT.out.below hb1 HBT.out.lt
  have bR1 := HBR.out.below hb1 HBR.out.lt
  have P1 := HC.out.below hb1 HB.out
  have hB1 := below_then HB0.out hb1
  have hz1 : w.heap.size + 1 < w1.heap.size := by have := hb1.size; simp at this; omega
  have t0 := bT1.cell 0
  simp at t0
  have HBT1 := Lib.hid bT1; have HBR1 := Lib.hid bR1; have HP1 := Lib.hid P1; have HB1 := Lib.hid hB1
  clear bT1 bR1 P1 hB1 hb1
  have hza : w.heap.size < w1.heap.size := by omega
  go_wp2_with fail
  refine (collect_above b0 o n c (w.heap.size + 1) ps xs lv w1 HN.out h2 (by omega) HT.out HX.out HP1.out HBR1.out).mono ?_
  rintro e w3 ⟨v, rfl, ho, hb3⟩
  have hB3 := below_then HB1.out hb3
  have HO := Lib.hid ho; have HB3 := Lib.hid hB3
  clear ho hB3 hb3
  go_wp2
  refine bodyPost_ret (v := .tuple #[v, .int .i64 0]) (by simp [results, Try.results52, go_sem]) rfl ⟨v, rfl, HO.out.mono (by omega), HB3.out⟩

/-- A row of runs in memory, or nothing. -/
def RunsP (w : World) (A : Option Addr) (L : List (Int × Int)) : Prop := L = [] ∨ ∃ b o, A = some ⟨b, o, none⟩ ∧ b < w.heap.size ∧ RunsMem w b o L
theorem RunsP.below {w w' : World} {A : Option Addr} {L : List (Int × Int)} (h : RunsP w A L) (hB : Below w.heap.size w w') : RunsP w' A L := by
  rcases h with h | ⟨b, o, h1, h2, h3⟩
  · exact .inl h
  · exact .inr ⟨b, o, h1, Nat.lt_of_lt_of_le h2 hB.size, h3.below hB h2⟩
theorem runCells_at : ∀ (L : List (Int × Int)) (k : Nat) (r : Int × Int), L[k]? = some r → (runCells L)[k * 2]? = some (.int .i64 r.1) ∧ (runCells L)[k * 2 + 1]? = some (.int .i64 r.2)
  | [], k, r, h => by simp at h
  | z :: L, 0, r, h => by simp at h; subst h; simp [runCells]
  | z :: L, k + 1, r, h => by
    have := runCells_at L k r (by simpa using h)
    have e : runCells (z :: L) = [Value.int .i64 z.1, .int .i64 z.2] ++ runCells L := by simp [runCells]
    rw [e, List.getElem?_append_right (by simp; omega), List.getElem?_append_right (by simp; omega)]
    rw [show (k + 1) * 2 - [Value.int .i64 z.1, .int .i64 z.2].length = k * 2 by simp; omega, show (k + 1) * 2 + 1 - [Value.int .i64 z.1, .int .i64 z.2].length = k * 2 + 1 by simp; omega]
    exact this
theorem OwnRuns.runsP {base : Nat} {w : World} {v : Value} {L : List (Int × Int)} (ho : OwnRuns base w v L) : ∃ A c, v = .slice A L.length c ∧ RunsP w A L := by
  have ho' : w.ownsRow base 23 2 v L.length (runCells L) := ho
  rcases Nat.lt_or_ge 0 L.length with hl | hl
  · obtain ⟨g, cap, rfl, _, h2⟩ := ho'.form hl
    refine ⟨_, _, rfl, .inr ⟨g, 0, rfl, h2, fun k p hp => ?_⟩⟩
    have hk := (List.getElem?_eq_some_iff.1 hp).1
    obtain ⟨a, b⟩ := runCells_at L k p hp
    have c0 := (ho'.cellAt (k * 2) (by omega)).trans a
    have c1 := (ho'.cellAt (k * 2 + 1) (by omega)).trans b
    rw [Nat.zero_add]
    exact ⟨c0, c1⟩
  · obtain rfl : L = [] := List.eq_nil_of_length_eq_zero (by omega)
    rcases ho'.2 with ⟨h, _⟩ | ⟨g, cap, _, h, _⟩
    · exact ⟨_, _, h, .inl rfl⟩
    · exact ⟨_, _, h, .inl rfl⟩
/-- Runs are handed back, with no error. -/
def GivesRow2 (w : World) (L : List (Int × Int)) (e : Ending) (w' : World) : Prop := ∃ A c, e = .returned (.tuple #[.slice A L.length c, .int .i64 0]) ∧ RunsP w' A L ∧ Below w.heap.size w w'
theorem givesRow2_of {w w' : World} {L : List (Int × Int)} {e : Ending} (h : GivesRunsOk w L e w') : GivesRow2 w L e w' := by
  obtain ⟨v, rfl, ho, hb⟩ := h
  obtain ⟨A, c, rfl, hp⟩ := ho.runsP
  exact ⟨A, c, rfl, hp, hb⟩

/-- in -/
def inB2 (L : List (Int × Int)) (x : Int) : Bool := L.any fun r => decide (r.1 ≤ x) && decide (x ≤ r.2)
theorem inB2_iff (L : List (Int × Int)) (x : Int) : inB2 L x = true ↔ InRuns L x := by
  simp [inB2, InRuns]
theorem inB2_snoc {L : List (Int × Int)} {x : Int} {k : Nat} {r : Int × Int} (h : L[k]? = some r) : inB2 (L.drop k) x = ((decide (r.1 ≤ x) && decide (x ≤ r.2)) || inB2 (L.drop (k + 1)) x) := by
  obtain ⟨hk, rfl⟩ := List.getElem?_eq_some_iff.1 h
  unfold inB2
  rw [List.drop_eq_getElem_cons hk, List.any_cons]
theorem inB2_end {L : List (Int × Int)} {x : Int} {k : Nat} (h : L.length ≤ k) : inB2 (L.drop k) x = false := by
  rw [List.drop_of_length_le h]; rfl

set_option maxRecDepth 100000 in
set_option maxHeartbeats 2000000 in
theorem in_any (A : Option Addr) (n c : Nat) (L : List (Int × Int)) (x : Int) (w : World) (hn : n = L.length) (hm : n ≤ 1000000) (hp : RunsP w A L) :
    Calls Try.prog 69 #[.slice A n c, .int .i64 x] w fun e w' => e = .returned (.bool (inB2 L x)) ∧ Below w.heap.size w w' := by
  generalize hR : inB2 L x = R
  have HR := Lib.hid (show inB2 (L.drop 0) x = R from hR); clear hR
  have HN := Lib.hid hn; have HP := Lib.hid hp; clear hn hp
  go_enter Try.func69, Try.ntmps69
  go_wp2_with fail
  go_loopw [9] (fun i wr => ∃ k : Nat, k ≤ n ∧ i = .int .i64 k ∧ Hid (inB2 (L.drop k) x = R) ∧ Below w.heap.size w wr) (fun i _ => n - (intOf i).toNat)
  case atStart => exact ⟨0, by omega, rfl, HR, Below.refl _ _⟩
  case round =>
    obtain ⟨k, hk, rfl, HK, hB⟩ := hrel
    by_cases hlt : k < n
    · obtain ⟨⟨a, b⟩, hr⟩ : ∃ p, L[k]? = some p := ⟨_, List.getElem?_eq_getElem (show k < L.length by rw [← HN.out]; exact hlt)⟩
      obtain ⟨b', o', rfl, hb', hmem⟩ : ∃ b o, A = some ⟨b, o, none⟩ ∧ b < w.heap.size ∧ RunsMem w b o L := by
        rcases HP.out with h | h
        · have := HN.out; rw [h] at this; simp at this; omega
        · exact h
      obtain ⟨c0, c1⟩ := hmem k _ hr
      rw [← hB.cell (p := ⟨b', o' + k * 2, none⟩) hb'] at c0
      rw [← hB.cell (p := ⟨b', o' + k * 2 + 1, none⟩) hb'] at c1
      dsimp only at c0 c1
      have HS := Lib.hid (inB2_snoc (x := x) hr)
      have HB := Lib.hid (hB.alloc hB.size (.cells #[.int .i64 a, .int .i64 b] 23))
      clear hr hmem hB
      by_cases h1 : a ≤ x
      · by_cases h2 : x ≤ b
        · have hr : true = R := by rw [← HK.out, HS.out, decide_eq_true h1, decide_eq_true h2]; rfl
          subst hr
          go_wp2
          go_ret
          exact ⟨rfl, HB.out⟩
        · have hr : inB2 (L.drop (k + 1)) x = R := by rw [← HK.out, HS.out, decide_eq_true h1, decide_eq_false h2]; rfl
          have HK2 := Lib.hid hr; clear hr HK HS
          go_wp2
          go_roundw
          case rel => exact ⟨k + 1, by omega, by go_num, HK2, HB.out⟩
          case measure => simp [intOf]; omega
      · have hr : inB2 (L.drop (k + 1)) x = R := by rw [← HK.out, HS.out, decide_eq_false h1]; rfl
        have HK2 := Lib.hid hr; clear hr HK HS
        go_wp2
        go_roundw
        case rel => exact ⟨k + 1, by omega, by go_num, HK2, HB.out⟩
        case measure => simp [intOf]; omega
    · have hr : false = R := by rw [← HK.out, inB2_end (by have := HN.out; omega)]
      subst hr
      clear HK HR
      go_wp2
      go_ret
      exact ⟨rfl, hB⟩

/-- lies -/
def liesB (a b W N : Int) : Bool := decide (a ≤ W) && (decide (W < b) || (decide (W = b) && decide (N = 0)))
theorem liesB_iff (a b W N : Int) : liesB a b W N = true ↔ Lies a b W N := by simp [liesB, Lies]
set_option maxRecDepth 100000 in
set_option maxHeartbeats 2000000 in
theorem lies_any (a b W N D : Int) (w : World) :
    Calls Try.prog 68 #[rv a b, fv W N D] w fun e w' => e = .returned (.bool (liesB a b W N)) ∧ Below w.heap.size w w' := by
  have hE : Below w.heap.size w ((w.alloc (.cells #[.int .i64 a, .int .i64 b] 23)).alloc (.cells #[.int .i64 W, .int .i64 N, .int .i64 D] 71)) := below_a2 (Below.refl _ _)
  have HE := Lib.hid hE; clear hE
  by_cases h1 : a ≤ W
  · by_cases h2 : W < b
    · have hr : liesB a b W N = true := by unfold liesB; rw [decide_eq_true h1, decide_eq_true h2]; rfl
      rw [hr]; clear hr
      go_enter Try.func68, Try.ntmps68
      go_wp2
      go_ret
      exact ⟨rfl, HE.out⟩
    · by_cases h3 : W = b
      · subst h3
        by_cases h4 : N = 0
        · subst h4
          have hr : liesB a W W 0 = true := by unfold liesB; rw [decide_eq_true h1]; simp
          rw [hr]; clear hr
          go_enter Try.func68, Try.ntmps68
          go_wp2
          go_ret
          exact ⟨rfl, HE.out⟩
        · have hr : liesB a W W N = false := by unfold liesB; simp [h4]
          rw [hr]; clear hr
          have hz : (N == 0) = false := beq_eq_false_iff_ne.2 h4
          go_enter Try.func68, Try.ntmps68
          go_wp2
          go_ret
          exact ⟨rfl, HE.out⟩
      · have hr : liesB a b W N = false := by unfold liesB; simp [h3, h2]
        rw [hr]; clear hr
        have hz : (W == b) = false := beq_eq_false_iff_ne.2 h3
        go_enter Try.func68, Try.ntmps68
        go_wp2
        go_ret
        exact ⟨rfl, HE.out⟩
  · have hr : liesB a b W N = false := by unfold liesB; simp [h1]
    rw [hr]; clear hr
    go_enter Try.func68, Try.ntmps68
    go_wp2
    go_ret
    exact ⟨rfl, HE.out⟩
end

section
theorem between_low {E u D a0 a1 l0 l1 y : Int} (hE : 0 < E) (hD : 0 < D) (hu : 0 ≤ u) (hu' : u ≤ E) (h0 : l0 * D ≤ a0) (h1 : l1 * D ≤ a1) (hy : E * y = a0 * (E - u) + a1 * u) : (l0 + (l1 - l0) * u / E) * D ≤ y := by
  have f1 : E * ((l1 - l0) * u / E) ≤ (l1 - l0) * u := Int.mul_ediv_self_le (by omega)
  have f2 := Int.mul_le_mul_of_nonneg_right h0 (show 0 ≤ E - u by omega)
  have f3 := Int.mul_le_mul_of_nonneg_right h1 hu
  have f4 := Int.mul_le_mul_of_nonneg_right f1 (Int.le_of_lt hD)
  generalize (l1 - l0) * u / E = q at *
  refine Int.le_of_mul_le_mul_left (a := E) ?_ hE
  have e1 : E * ((l0 + q) * D) = E * q * D + l0 * D * E := by grind
  have e2 : l0 * D * (E - u) + l1 * D * u = (l1 - l0) * u * D + l0 * D * E := by grind
  omega
theorem between_high {E u D a0 a1 l0 l1 y : Int} (hE : 0 < E) (hD : 0 < D) (hu : 0 ≤ u) (hu' : u ≤ E) (h0 : a0 ≤ l0 * D) (h1 : a1 ≤ l1 * D) (hy : E * y = a0 * (E - u) + a1 * u) : y ≤ upS (l0 + (l1 - l0) * u / E) ((l1 - l0) * u % E) * D := by
  have g1 := Int.mul_ediv_add_emod ((l1 - l0) * u) E
  have g2 := Int.emod_nonneg ((l1 - l0) * u) (show E ≠ 0 by omega)
  have g3 := Int.emod_lt_of_pos ((l1 - l0) * u) hE
  have f2 := Int.mul_le_mul_of_nonneg_right h0 (show 0 ≤ E - u by omega)
  have f3 := Int.mul_le_mul_of_nonneg_right h1 hu
  have e2 : l0 * D * (E - u) + l1 * D * u = (l1 - l0) * u * D + l0 * D * E := by grind
  generalize hq : (l1 - l0) * u / E = q at *
  generalize hr : (l1 - l0) * u % E = r at *
  refine Int.le_of_mul_le_mul_left (a := E) ?_ hE
  have f4 : (l1 - l0) * u ≤ E * (upS (l0 + q) r - l0) := by
    unfold upS
    by_cases c : 0 < r
    · rw [if_pos c]
      have : E * (l0 + q + 1 - l0) = E * q + E := by grind
      omega
    · rw [if_neg c]
      have : E * (l0 + q - l0) = E * q := by grind
      omega
  have f5 := Int.mul_le_mul_of_nonneg_right f4 (Int.le_of_lt hD)
  generalize upS (l0 + q) r = s at *
  have e3 : E * (s - l0) * D = E * (s * D) - l0 * D * E := by grind
  omega
theorem lastk_at : ∀ (L : List P3) (x : Int), 1 ≤ L.length → firstX L ≤ x → ∃ k p, L[k]? = some p ∧ p.1 ≤ x ∧ ∀ q, L[k + 1]? = some q → x < q.1
  | [], _, h, _ => by simp at h
  | [p], x, _, h => ⟨0, p, rfl, h, fun q hq => by simp at hq⟩
  | p :: q :: r, x, _, h => by
    by_cases c : q.1 ≤ x
    · obtain ⟨k, z, h1, h2, h3⟩ := lastk_at (q :: r) x (by simp) c
      exact ⟨k + 1, z, h1, h2, h3⟩
    · exact ⟨0, p, rfl, h, fun z hz => by simp at hz; subst hz; omega⟩
/-- A line between bounds at the points of a table lies between the table's bounds. -/
theorem joined_core {us : List P3} (hu : tabOk us = true) {x A B D : Int} (hD : 0 < D) (h1 : firstX us ≤ x) (h2 : x ≤ lastX us)
    (hpt : ∀ p ∈ us, p.1 = x → p.2.1 * D ≤ A + B * x ∧ A + B * x ≤ p.2.2 * D)
    (hseg : ∀ (k : Nat) (p q : P3), us[k]? = some p → us[k + 1]? = some q → p.1 < x → x < q.1 → (p.2.1 * D ≤ A + B * p.1 ∧ A + B * p.1 ≤ p.2.2 * D) ∧ (q.2.1 * D ≤ A + B * q.1 ∧ A + B * q.1 ≤ q.2.2 * D)) :
    (atS us x).1 * D ≤ A + B * x ∧ A + B * x ≤ (atS us x).2 * D := by
  obtain ⟨k, p, hp, hle, hn⟩ := lastk_at us x (tabOk_len hu).1 h1
  obtain ⟨r1, r2⟩ := ref_at hu hp hle h2 hn
  by_cases c : p.1 = x
  · rw [r1 c]
    exact hpt p (List.mem_of_getElem? hp) c
  · obtain ⟨q, hq, c1, c2, e⟩ := r2 c
    obtain ⟨⟨s1, s2⟩, s3, s4⟩ := hseg k p q hp hq c1 c2
    rw [e]
    have hy : (q.1 - p.1) * (A + B * x) = (A + B * p.1) * ((q.1 - p.1) - (x - p.1)) + (A + B * q.1) * (x - p.1) := by grind
    exact ⟨between_low (by omega) hD (by omega) (by omega) s1 s3 hy, between_high (by omega) hD (by omega) (by omega) s2 s4 hy⟩
theorem built_mem {f : Int → Int × Int × Int} {L : List Int} {p : P3} (h : p ∈ built f L) : p.1 ∈ L ∧ p.2.1 = (f p.1).1 ∧ p.2.2 = (f p.1).2.1 := by
  obtain ⟨x, hx, rfl⟩ := List.mem_map.1 h
  exact ⟨hx, rfl, rfl⟩
theorem built_gap {f : Int → Int × Int × Int} {L : List Int} (hu : tabOk (built f L) = true) {k : Nat} {p q : P3} (hp : (built f L)[k]? = some p) (hq : (built f L)[k + 1]? = some q) : ∀ y ∈ L, y ≤ p.1 ∨ q.1 ≤ y := by
  intro y hy
  obtain ⟨j, hj⟩ := List.mem_iff_getElem?.1 hy
  have hj' : (built f L)[j]? = some (y, (f y).1, (f y).2.1) := by unfold built; rw [List.getElem?_map, hj]; rfl
  rcases Nat.lt_or_ge k j with c | c
  · exact .inr (rising_le hu hq hj' c)
  · exact .inl (rising_le hu hj' hp c)
theorem joined_built {f : Int → Int × Int × Int} {L : List Int} (hu : tabOk (built f L) = true) {x A B D : Int} (hD : 0 < D) (h1 : firstX (built f L) ≤ x) (h2 : x ≤ lastX (built f L))
    (hpt : x ∈ L → (f x).1 * D ≤ A + B * x ∧ A + B * x ≤ (f x).2.1 * D)
    (hseg : ∀ X0 X1, X0 ∈ L → X1 ∈ L → X0 < x → x < X1 → (∀ y ∈ L, y ≤ X0 ∨ X1 ≤ y) → ((f X0).1 * D ≤ A + B * X0 ∧ A + B * X0 ≤ (f X0).2.1 * D) ∧ ((f X1).1 * D ≤ A + B * X1 ∧ A + B * X1 ≤ (f X1).2.1 * D)) :
    (atS (built f L) x).1 * D ≤ A + B * x ∧ A + B * x ≤ (atS (built f L) x).2 * D := by
  refine joined_core hu hD h1 h2 (fun p hp e => ?_) (fun k p q hp hq c1 c2 => ?_)
  · obtain ⟨m1, m2, m3⟩ := built_mem hp
    rw [m2, m3]; subst e
    exact hpt m1
  · obtain ⟨m1, m2, m3⟩ := built_mem (List.mem_of_getElem? hp)
    obtain ⟨n1, n2, n3⟩ := built_mem (List.mem_of_getElem? hq)
    rw [m2, m3, n2, n3]
    exact hseg p.1 q.1 m1 n1 c1 c2 (built_gap hu hp hq)
/-- The line of numbers within a table lies within the table along a piece. -/
theorem tab_line {ps : List P3} (ht : tabOk ps = true) {ys : List Int} (hi : InTab ps ys) {k : Nat} {p q : P3} {y z t : Int} (hp : ps[k]? = some p) (hq : ps[k + 1]? = some q) (hy : ys[k]? = some y) (hz : ys[k + 1]? = some z) (h1 : p.1 ≤ t) (h2 : t ≤ q.1) :
    (atS ps t).1 * (q.1 - p.1) ≤ y * (q.1 - p.1) - (z - y) * p.1 + (z - y) * t ∧ y * (q.1 - p.1) - (z - y) * p.1 + (z - y) * t ≤ (atS ps t).2 * (q.1 - p.1) := by
  have hpq := rising_at ht hp hq (by omega)
  have b1 := hi.2 k p y hp hy
  have b2 := hi.2 (k + 1) q z hq hz
  have hD : 0 < q.1 - p.1 := by omega
  have p1 := Int.mul_le_mul_of_nonneg_right b1.1 (Int.le_of_lt hD)
  have p2 := Int.mul_le_mul_of_nonneg_right b1.2 (Int.le_of_lt hD)
  have p3 := Int.mul_le_mul_of_nonneg_right b2.1 (Int.le_of_lt hD)
  have p4 := Int.mul_le_mul_of_nonneg_right b2.2 (Int.le_of_lt hD)
  have e0 : y * (q.1 - p.1) - (z - y) * p.1 + (z - y) * p.1 = y * (q.1 - p.1) := by omega
  have e1 : y * (q.1 - p.1) - (z - y) * p.1 + (z - y) * q.1 = z * (q.1 - p.1) := by grind
  by_cases c : t = q.1
  · subst c
    rw [atS_point ht (List.mem_of_getElem? hq), e1]
    exact ⟨p3, p4⟩
  · have hl : t ≤ lastX ps := by have := rising_last ht (List.mem_of_getElem? hq); omega
    obtain ⟨r1, r2⟩ := ref_at ht hp h1 hl (fun q' hq' => by rw [hq] at hq'; injection hq' with hq'; subst hq'; omega)
    by_cases d : p.1 = t
    · rw [r1 d]; subst d; rw [e0]; exact ⟨p1, p2⟩
    · obtain ⟨q', hq', _, _, e⟩ := r2 d
      rw [hq] at hq'; injection hq' with hq'; subst hq'
      rw [e]
      have hy : (q.1 - p.1) * (y * (q.1 - p.1) - (z - y) * p.1 + (z - y) * t) = y * (q.1 - p.1) * ((q.1 - p.1) - (t - p.1)) + z * (q.1 - p.1) * (t - p.1) := by grind
      exact ⟨between_low hD hD (by omega) (by omega) p1 p3 hy, between_high hD hD (by omega) (by omega) p2 p4 hy⟩
/-- A curve about a place: W + N / D is (A + B x) / D there, and the line lies within the table at all places of the piece. -/
def LineAt (ps : List P3) (x W N D A B : Int) : Prop :=
  (0 ≤ N ∧ N < D ∧ D ≤ 1000000 ∧ -1000000000 ≤ W ∧ W ≤ 1000000000) ∧ W * D + N = A + B * x ∧ ((atS ps x).1 * D ≤ A + B * x ∧ A + B * x ≤ (atS ps x).2 * D) ∧
  ∀ X0 X1, firstX ps ≤ X0 → X1 ≤ lastX ps → X0 < x → x < X1 → (∀ p ∈ ps, p.1 ≤ X0 ∨ X1 ≤ p.1) →
    ((atS ps X0).1 * D ≤ A + B * X0 ∧ A + B * X0 ≤ (atS ps X0).2 * D) ∧ ((atS ps X1).1 * D ≤ A + B * X1 ∧ A + B * X1 ≤ (atS ps X1).2 * D)
theorem point_b {ps : List P3} (ht : tabOk ps = true) {p : P3} (hp : p ∈ ps) : 0 ≤ p.1 ∧ p.1 ≤ 1000000 ∧ -1000000000 ≤ p.2.1 ∧ p.2.1 ≤ p.2.2 ∧ p.2.2 ≤ 1000000000 := by
  have h1 := first_le ht hp
  have h2 := rising_last ht hp
  have h := inB_of (atS_in ht h1 h2)
  have := places_in ht
  rw [atS_point ht hp] at h
  dsimp only at h
  omega
theorem line_point {ps : List P3} (ht : tabOk ps = true) {ys : List Int} (hi : InTab ps ys) {k : Nat} {p : P3} {y : Int} (hp : ps[k]? = some p) (hy : ys[k]? = some y) : LineAt ps p.1 y 0 1 y 0 := by
  have b1 := hi.2 k p y hp hy
  have b2 := point_b ht (List.mem_of_getElem? hp)
  refine ⟨⟨by omega, by omega, by omega, by omega, by omega⟩, by omega, ?_, ?_⟩
  · rw [atS_point ht (List.mem_of_getElem? hp)]; dsimp only; omega
  · intro X0 X1 _ _ c1 c2 h
    have := h p (List.mem_of_getElem? hp)
    omega
theorem line_piece {ps : List P3} (ht : tabOk ps = true) {ys : List Int} (hi : InTab ps ys) {k : Nat} {p q : P3} {y z x : Int} (hp : ps[k]? = some p) (hq : ps[k + 1]? = some q) (hy : ys[k]? = some y) (hz : ys[k + 1]? = some z) (h1 : p.1 < x) (h2 : x < q.1) :
    LineAt ps x (y + (z - y) * (x - p.1) / (q.1 - p.1)) ((z - y) * (x - p.1) % (q.1 - p.1)) (q.1 - p.1) (y * (q.1 - p.1) - (z - y) * p.1) (z - y) := by
  have b1 := hi.2 k p y hp hy
  have b2 := point_b ht (List.mem_of_getElem? hp)
  have b3 := hi.2 (k + 1) q z hq hz
  have b4 := point_b ht (List.mem_of_getElem? hq)
  have hD : 0 < q.1 - p.1 := by omega
  have g1 := Int.mul_ediv_add_emod ((z - y) * (x - p.1)) (q.1 - p.1)
  have g2 := Int.emod_nonneg ((z - y) * (x - p.1)) (show q.1 - p.1 ≠ 0 by omega)
  have g3 := Int.emod_lt_of_pos ((z - y) * (x - p.1)) hD
  have hl := tab_line ht hi hp hq hy hz (Int.le_of_lt h1) (Int.le_of_lt h2)
  have hx := inB_of (atS_in ht (show firstX ps ≤ x by have := first_le ht (List.mem_of_getElem? hp); omega) (show x ≤ lastX ps by have := rising_last ht (List.mem_of_getElem? hq); omega))
  have eW : (y + (z - y) * (x - p.1) / (q.1 - p.1)) * (q.1 - p.1) + (z - y) * (x - p.1) % (q.1 - p.1) = y * (q.1 - p.1) - (z - y) * p.1 + (z - y) * x := by
    generalize (z - y) * (x - p.1) / (q.1 - p.1) = W at *
    generalize (z - y) * (x - p.1) % (q.1 - p.1) = N at *
    have : (y + W) * (q.1 - p.1) = y * (q.1 - p.1) + (q.1 - p.1) * W := by grind
    have : (z - y) * (x - p.1) = (z - y) * x - (z - y) * p.1 := by grind
    omega
  refine ⟨⟨g2, g3, by omega, ?_, ?_⟩, eW, hl, ?_⟩
  · generalize y + (z - y) * (x - p.1) / (q.1 - p.1) = W at *
    generalize (z - y) * (x - p.1) % (q.1 - p.1) = N at *
    refine Decidable.byContradiction fun c => ?_
    have d1 : W + 1 ≤ -1000000000 := by omega
    have d2 := Int.mul_le_mul_of_nonneg_right d1 (Int.le_of_lt hD)
    have d3 := Int.mul_le_mul_of_nonneg_right hx.2.1 (Int.le_of_lt hD)
    have : (W + 1) * (q.1 - p.1) = W * (q.1 - p.1) + (q.1 - p.1) := by grind
    omega
  · generalize y + (z - y) * (x - p.1) / (q.1 - p.1) = W at *
    generalize (z - y) * (x - p.1) % (q.1 - p.1) = N at *
    refine Decidable.byContradiction fun c => ?_
    have d1 : 1000000001 ≤ W := by omega
    have d2 := Int.mul_le_mul_of_nonneg_right d1 (Int.le_of_lt hD)
    have d3 := Int.mul_le_mul_of_nonneg_right hx.2.2 (Int.le_of_lt hD)
    have : 1000000001 * (q.1 - p.1) = 1000000000 * (q.1 - p.1) + (q.1 - p.1) := by grind
    omega
  · intro X0 X1 _ _ c1 c2 h
    have n1 := h p (List.mem_of_getElem? hp)
    have n2 := h q (List.mem_of_getElem? hq)
    exact ⟨tab_line ht hi hp hq hy hz (by omega) (by omega), tab_line ht hi hp hq hy hz (by omega) (by omega)⟩
theorem lies_of {a b W N D : Int} (h0 : 0 ≤ N) (h1 : N < D) (h2 : a * D ≤ W * D + N) (h3 : W * D + N ≤ b * D) : Lies a b W N := by
  have hD : 0 < D := by omega
  refine ⟨?_, ?_⟩
  · refine Decidable.byContradiction fun c => ?_
    have d1 : W + 1 ≤ a := by omega
    have d2 := Int.mul_le_mul_of_nonneg_right d1 (Int.le_of_lt hD)
    have : (W + 1) * D = W * D + D := by grind
    omega
  · by_cases c : W < b
    · exact .inl c
    · right
      have c1 : b ≤ W := by omega
      have d2 := Int.mul_le_mul_of_nonneg_right c1 (Int.le_of_lt hD)
      have hN : N = 0 := by omega
      refine ⟨?_, hN⟩
      refine Decidable.byContradiction fun c2 => ?_
      have d1 : b + 1 ≤ W := by omega
      have d3 := Int.mul_le_mul_of_nonneg_right d1 (Int.le_of_lt hD)
      have : (b + 1) * D = b * D + D := by grind
      omega
end

section
/-- the ends of what is built over rising places -/
theorem built_first {f : Int → Int × Int × Int} {L : List Int} {a : Int} (hL : L.Pairwise (· < ·)) (ha : a ∈ L) (h : ∀ x ∈ L, a ≤ x) : firstX (built f L) = a := by
  cases L with
  | nil => simp at ha
  | cons x r =>
    have e : firstX (built f (x :: r)) = x := rfl
    rw [e]
    rw [List.pairwise_cons] at hL
    have h1 := h x (by simp)
    rcases List.mem_cons.1 ha with c | c
    · exact c.symm
    · have := hL.1 a c; omega
theorem built_last {f : Int → Int × Int × Int} {L : List Int} {b : Int} (hu : tabOk (built f L) = true) (hb : b ∈ L) (h : ∀ x ∈ L, x ≤ b) : lastX (built f L) = b := by
  obtain ⟨p, hp, e⟩ := last_mem (tabOk_len hu).1
  have h1 := h p.1 (built_mem hp).1
  have h2 := rising_last hu (p := (b, (f b).1, (f b).2.1)) (List.mem_map.2 ⟨b, hb, rfl⟩)
  dsimp only at h2
  omega
theorem cut_tab {ps : List P3} (ht : tabOk ps = true) {a b : Int} (hab : a ≤ b) (h1 : firstX ps ≤ a) (h2 : b ≤ lastX ps) (hl : (cornersS ps a b).length ≤ 40) : tabOk (built (cutAt ps) (cornersS ps a b)) = true := by
  have hp := places_in ht
  have hin : ∀ x ∈ cornersS ps a b, a ≤ x ∧ x ≤ b := by
    intro x hx
    rcases (cornersS_mem hab).1 hx with h | h | ⟨h, h', _⟩ <;> omega
  unfold tabOk
  have hlen : (built (cutAt ps) (cornersS ps a b)).length = (cornersS ps a b).length := by simp [built]
  rw [hlen, ptsOk_built _ _ (-1) (List.pairwise_cons.2 ⟨fun x hx => by have := hin x hx; omega, corners_rising ht⟩) (fun x hx => by have := hin x hx; omega)]
  have hne : 1 ≤ (cornersS ps a b).length := by unfold cornersS; simp
  rw [decide_eq_true (show 1 ≤ (cornersS ps a b).length ∧ (cornersS ps a b).length ≤ 40 by omega), Bool.true_and, List.all_eq_true]
  intro x hx
  have := hin x hx
  exact atS_in ht (by omega) (by omega)
/-- THE CURVE LIES WITHIN THE CUT. -/
theorem cut_lies {ps : List P3} (ht : tabOk ps = true) {a b x W N D A B : Int} (h1 : firstX ps ≤ a) (h2 : a ≤ x) (h3 : x ≤ b) (h4 : b ≤ lastX ps) (hl : (cornersS ps a b).length ≤ 40) (h : LineAt ps x W N D A B) :
    tabOk (built (cutAt ps) (cornersS ps a b)) = true ∧ (firstX (built (cutAt ps) (cornersS ps a b)) = a ∧ lastX (built (cutAt ps) (cornersS ps a b)) = b) ∧ Lies (atS (built (cutAt ps) (cornersS ps a b)) x).1 (atS (built (cutAt ps) (cornersS ps a b)) x).2 W N := by
  have hab : a ≤ b := by omega
  have hu := cut_tab ht hab h1 h4 hl
  have hin : ∀ y ∈ cornersS ps a b, a ≤ y ∧ y ≤ b := by
    intro y hy
    rcases (cornersS_mem hab).1 hy with h | h | ⟨h, h', _⟩ <;> omega
  have e1 : firstX (built (cutAt ps) (cornersS ps a b)) = a := built_first (corners_rising ht) ((cornersS_mem hab).2 (.inl rfl)) fun y hy => (hin y hy).1
  have e2 : lastX (built (cutAt ps) (cornersS ps a b)) = b := built_last hu ((cornersS_mem hab).2 (.inr (.inl rfl))) fun y hy => (hin y hy).2
  obtain ⟨⟨n0, n1, _, _, _⟩, hv, hx, hs⟩ := h
  have hD : 0 < D := by omega
  refine ⟨hu, ⟨e1, e2⟩, ?_⟩
  obtain ⟨j1, j2⟩ := joined_built hu (A := A) (B := B) hD (by rw [e1]; exact h2) (by rw [e2]; exact h3) (fun _ => hx) (fun X0 X1 m0 m1 c0 c1 hg => by
    refine hs X0 X1 (by have := hin X0 m0; omega) (by have := hin X1 m1; omega) c0 c1 fun p hp => ?_
    by_cases d : a < p.1 ∧ p.1 < b
    · exact hg p.1 ((cornersS_mem hab).2 (.inr (.inr ⟨d.1, d.2, p, hp, rfl⟩)))
    · have d0 := hin X0 m0; have d1 := hin X1 m1
      omega)
  rw [← hv] at j1 j2
  exact lies_of n0 n1 j1 j2
theorem scaled_low {lo hi n d D Y : Int} (hd : 0 < d) (hD : 0 < D) (h0 : lo * D ≤ Y) (h1 : Y ≤ hi * D) : (if n < 0 then hi * n / d else lo * n / d) * (D * d) ≤ n * Y := by
  by_cases c : n < 0
  · rw [if_pos c]
    have f1 : d * (hi * n / d) ≤ hi * n := Int.mul_ediv_self_le (by omega)
    have f2 := Int.mul_le_mul_of_nonneg_right f1 (Int.le_of_lt hD)
    have f3 := Int.mul_le_mul_of_nonpos_left (show n ≤ 0 by omega) h1
    generalize hi * n / d = q at *
    have e1 : q * (D * d) = d * q * D := by grind
    have e2 : hi * n * D = n * (hi * D) := by grind
    omega
  · rw [if_neg c]
    have f1 : d * (lo * n / d) ≤ lo * n := Int.mul_ediv_self_le (by omega)
    have f2 := Int.mul_le_mul_of_nonneg_right f1 (Int.le_of_lt hD)
    have f3 := Int.mul_le_mul_of_nonneg_left h0 (show 0 ≤ n by omega)
    generalize lo * n / d = q at *
    have e1 : q * (D * d) = d * q * D := by grind
    have e2 : lo * n * D = n * (lo * D) := by grind
    omega
theorem scaled_high {lo hi n d D Y : Int} (hd : 0 < d) (hD : 0 < D) (h0 : lo * D ≤ Y) (h1 : Y ≤ hi * D) : n * Y ≤ (if n < 0 then -(-lo * n / d) else -(-hi * n / d)) * (D * d) := by
  by_cases c : n < 0
  · rw [if_pos c]
    have f1 : d * (-lo * n / d) ≤ -lo * n := Int.mul_ediv_self_le (by omega)
    have f2 := Int.mul_le_mul_of_nonneg_right f1 (Int.le_of_lt hD)
    have f3 := Int.mul_le_mul_of_nonpos_left (show n ≤ 0 by omega) h0
    generalize -lo * n / d = q at *
    have e1 : -q * (D * d) = -(d * q * D) := by grind
    have e2 : -lo * n * D = -(n * (lo * D)) := by grind
    omega
  · rw [if_neg c]
    have f1 : d * (-hi * n / d) ≤ -hi * n := Int.mul_ediv_self_le (by omega)
    have f2 := Int.mul_le_mul_of_nonneg_right f1 (Int.le_of_lt hD)
    have f3 := Int.mul_le_mul_of_nonneg_left h1 (show 0 ≤ n by omega)
    generalize -hi * n / d = q at *
    have e1 : -q * (D * d) = -(d * q * D) := by grind
    have e2 : -hi * n * D = -(n * (hi * D)) := by grind
    omega
theorem scale_between {lo hi n d D Y : Int} (hd : 0 < d) (hD : 0 < D) (he : (scaleS lo hi n d).2.2 = 0) (h0 : lo * D ≤ Y) (h1 : Y ≤ hi * D) : (scaleS lo hi n d).1 * (D * d) ≤ n * Y ∧ n * Y ≤ (scaleS lo hi n d).2.1 * (D * d) := by
  have g1 := scaled_low (n := n) hd hD h0 h1
  have g2 := scaled_high (n := n) hd hD h0 h1
  unfold scaleS at he ⊢
  by_cases v : vR lo hi = true
  · rw [if_pos v] at he ⊢
    by_cases a : -1000000000 ≤ n ∧ n ≤ 1000000000 ∧ 1 ≤ d ∧ d ≤ 1000000000
    · rw [if_pos a] at he ⊢
      by_cases c : n < 0
      · rw [if_pos c] at he g1 g2 ⊢
        unfold bigS at he ⊢
        by_cases k : vR (hi * n / d) (-(-lo * n / d)) = true
        · rw [if_pos k] at he ⊢; exact ⟨g1, g2⟩
        · rw [if_neg k] at he; simp at he
      · rw [if_neg c] at he g1 g2 ⊢
        unfold bigS at he ⊢
        by_cases k : vR (lo * n / d) (-(-hi * n / d)) = true
        · rw [if_pos k] at he ⊢; exact ⟨g1, g2⟩
        · rw [if_neg k] at he; simp at he
    · rw [if_neg a] at he; simp at he
  · rw [if_neg v] at he; simp at he
/-- behind no error: the table is valid, and no place has an error -/
theorem built_ok {f : Int → Int × Int × Int} {L : List Int} (hL : L.Pairwise (· < ·)) (h0 : ∀ x ∈ L, 0 ≤ x ∧ x ≤ 1000000) (hne : L ≠ []) (he : ∀ x ∈ L, (f x).2.2 = 0 ∨ (f x).2.2 = 5) (h : buildErr f L = 0) : tabOk (built f L) = true ∧ ∀ x ∈ L, (f x).2.2 = 0 := by
  unfold buildErr at h
  by_cases c : 40 < L.length
  · rw [if_pos c] at h; omega
  rw [if_neg c, buildE_all f L he] at h
  by_cases d : (L.all fun x => decide ((f x).2.2 = 0) && inB (f x).1 (f x).2.1 (-1000000000) 1000000000) = true
  · have d1 : ∀ x ∈ L, (f x).2.2 = 0 ∧ inB (f x).1 (f x).2.1 (-1000000000) 1000000000 = true := fun x hx => by
      have := List.all_eq_true.1 d x hx; simpa using this
    refine ⟨?_, fun x hx => (d1 x hx).1⟩
    unfold tabOk
    have hlen : (built f L).length = L.length := by simp [built]
    have hn : 1 ≤ L.length := by
      cases L with
      | nil => exact absurd rfl hne
      | cons _ _ => simp
    rw [hlen, ptsOk_built f L (-1) (List.pairwise_cons.2 ⟨fun x hx => by have := h0 x hx; omega, hL⟩) (fun x hx => (h0 x hx).2), decide_eq_true (show 1 ≤ L.length ∧ L.length ≤ 40 by omega), Bool.true_and, List.all_eq_true]
    exact fun x hx => (d1 x hx).2
  · rw [if_neg d] at h; omega
theorem point_places {ps : List P3} (ht : tabOk ps = true) : ∀ x ∈ ps.map (·.1), 0 ≤ x ∧ x ≤ 1000000 := by
  intro x hx
  obtain ⟨p, hp, rfl⟩ := List.mem_map.1 hx
  have := point_b ht hp
  omega
theorem points_rising {ps : List P3} (ht : tabOk ps = true) : (ps.map (·.1)).Pairwise (· < ·) := by
  rw [List.pairwise_map]; exact rising_pts ps (-1) (tabOk_pts ht) (by omega)
theorem points_ne {ps : List P3} (ht : tabOk ps = true) : ps.map (·.1) ≠ [] := by
  have := (tabOk_len ht).1
  intro e; have h2 := congrArg List.length e; simp at h2; subst h2; simp at this
/-- THE SCALED CURVE LIES WITHIN TIMES. -/
theorem times_lies {ps : List P3} (ht : tabOk ps = true) {n d x W N D A B : Int} (ha : argsOk n d) (h1 : firstX ps ≤ x) (h2 : x ≤ lastX ps) (he : timesErr n d ps = 0) (h : LineAt ps x W N D A B) :
    tabOk (built (timesAt n d ps) (ps.map (·.1))) = true ∧ (firstX (built (timesAt n d ps) (ps.map (·.1))) = firstX ps ∧ lastX (built (timesAt n d ps) (ps.map (·.1))) = lastX ps) ∧
    (atS (built (timesAt n d ps) (ps.map (·.1))) x).1 * (D * d) ≤ n * (W * D + N) ∧ n * (W * D + N) ≤ (atS (built (timesAt n d ps) (ps.map (·.1))) x).2 * (D * d) := by
  unfold timesErr at he
  rw [if_pos ht, corners_all ht] at he
  obtain ⟨hu, h0⟩ := built_ok (points_rising ht) (point_places ht) (points_ne ht) (fun x hx => by obtain ⟨p, hp, rfl⟩ := List.mem_map.1 hx; exact timesAt_err ht ha hp) he
  have e1 : firstX (built (timesAt n d ps) (ps.map (·.1))) = firstX ps := built_first (points_rising ht) (by obtain ⟨p, hp, e⟩ := first_mem (tabOk_len ht).1; exact List.mem_map.2 ⟨p, hp, e⟩) fun y hy => by
    obtain ⟨p, hp, rfl⟩ := List.mem_map.1 hy; exact first_le ht hp
  have e2 : lastX (built (timesAt n d ps) (ps.map (·.1))) = lastX ps := built_last hu (by obtain ⟨p, hp, e⟩ := last_mem (tabOk_len ht).1; exact List.mem_map.2 ⟨p, hp, e⟩) fun y hy => by
    obtain ⟨p, hp, rfl⟩ := List.mem_map.1 hy; exact rising_last ht hp
  obtain ⟨⟨n0, n1, _, _, _⟩, hv, hx, hs⟩ := h
  have hD : 0 < D := by omega
  have hd : 0 < d := by omega
  have hDd : 0 < D * d := Int.mul_pos hD hd
  have hb : ∀ X, X ∈ ps.map (·.1) → ((atS ps X).1 * D ≤ A + B * X ∧ A + B * X ≤ (atS ps X).2 * D) → (timesAt n d ps X).1 * (D * d) ≤ n * A + n * B * X ∧ n * A + n * B * X ≤ (timesAt n d ps X).2.1 * (D * d) := by
    intro X hX hh
    have e : n * A + n * B * X = n * (A + B * X) := by grind
    rw [e]
    exact scale_between hd hD (h0 X hX) hh.1 hh.2
  refine ⟨hu, ⟨e1, e2⟩, ?_⟩
  have j := joined_built hu (A := n * A) (B := n * B) hDd (by rw [e1]; exact h1) (by rw [e2]; exact h2) (fun m => hb x m hx) (fun X0 X1 m0 m1 c0 c1 hg => by
    obtain ⟨s0, s1⟩ := hs X0 X1 (by obtain ⟨p, hp, rfl⟩ := List.mem_map.1 m0; exact first_le ht hp) (by obtain ⟨p, hp, rfl⟩ := List.mem_map.1 m1; exact rising_last ht hp) c0 c1 (fun p hp => hg p.1 (List.mem_map.2 ⟨p, hp, rfl⟩))
    exact ⟨hb X0 m0 s0, hb X1 m1 s1⟩)
  have e : n * A + n * B * x = n * (W * D + N) := by rw [hv]; grind
  rw [e] at j
  exact j
theorem places_ends {ps qs : List P3} (ht : tabOk ps = true) (hq : tabOk qs = true) (h : max (firstX ps) (firstX qs) ≤ min (lastX ps) (lastX qs)) :
    (max (firstX ps) (firstX qs) ∈ placesOf ps qs ∧ min (lastX ps) (lastX qs) ∈ placesOf ps qs) ∧ ∀ x ∈ placesOf ps qs, max (firstX ps) (firstX qs) ≤ x ∧ x ≤ min (lastX ps) (lastX qs) := by
  have pc := places_corners (tabOk_len ht).1 (tabOk_len hq).1 h
  refine ⟨⟨(pc _).2 (List.mem_append.2 (.inl ((cornersS_mem h).2 (.inl rfl)))), (pc _).2 (List.mem_append.2 (.inl ((cornersS_mem h).2 (.inr (.inl rfl)))))⟩, fun x hx => ?_⟩
  obtain ⟨⟨a, b⟩, ⟨c, d⟩, _⟩ := placesOf_in ht hx
  omega
theorem join_places {ps qs : List P3} (ht : tabOk ps = true) (hq : tabOk qs = true) {X0 X1 : Int} (m0 : X0 ∈ placesOf ps qs) (m1 : X1 ∈ placesOf ps qs) (hg : ∀ y ∈ placesOf ps qs, y ≤ X0 ∨ X1 ≤ y) : (∀ p ∈ ps, p.1 ≤ X0 ∨ X1 ≤ p.1) ∧ (∀ p ∈ qs, p.1 ≤ X0 ∨ X1 ≤ p.1) := by
  obtain ⟨⟨a0, b0⟩, ⟨c0, d0⟩, _⟩ := placesOf_in ht m0
  obtain ⟨⟨a1, b1⟩, ⟨c1, d1⟩, _⟩ := placesOf_in ht m1
  refine ⟨fun p hp => ?_, fun p hp => ?_⟩
  · by_cases c : firstX qs ≤ p.1 ∧ p.1 ≤ lastX qs
    · exact hg p.1 ((placesOf_mem ps qs p.1).2 ⟨p, List.mem_append.2 (.inl hp), rfl, by have := first_le ht hp; have := rising_last ht hp; simp [inBoth]; omega⟩)
    · omega
  · by_cases c : firstX ps ≤ p.1 ∧ p.1 ≤ lastX ps
    · exact hg p.1 ((placesOf_mem ps qs p.1).2 ⟨p, List.mem_append.2 (.inr hp), rfl, by have := first_le hq hp; have := rising_last hq hp; simp [inBoth]; omega⟩)
    · omega
/-- what is joined of two tables without an error is valid, over what both domains have -/
theorem join_ok {f : Int → Int × Int × Int} {ps qs : List P3} (ht : tabOk ps = true) (hq : tabOk qs = true) (hf : ∀ x ∈ placesOf ps qs, (f x).2.2 = 0) {x : Int} (h1 : firstX ps ≤ x ∧ x ≤ lastX ps) (h2 : firstX qs ≤ x ∧ x ≤ lastX qs) (he : joinErr f ps qs = 0) :
    tabOk (built f (placesOf ps qs)) = true ∧ firstX (built f (placesOf ps qs)) ≤ x ∧ x ≤ lastX (built f (placesOf ps qs)) := by
  have hm : max (firstX ps) (firstX qs) ≤ min (lastX ps) (lastX qs) := by omega
  unfold joinErr at he
  rw [if_pos ⟨ht, hq⟩, if_pos hm] at he
  obtain ⟨⟨m1, m2⟩, m3⟩ := places_ends ht hq hm
  obtain ⟨hu, _⟩ := built_ok (placesOf_rising ps qs) (fun y hy => (placesOf_in ht hy).2.2) (by intro e; rw [e] at m1; simp at m1) (fun y hy => .inl (hf y hy)) he
  refine ⟨hu, ?_, ?_⟩
  · rw [built_first (placesOf_rising ps qs) m1 fun y hy => (m3 y hy).1]; omega
  · rw [built_last hu m2 fun y hy => (m3 y hy).2]; omega
/-- BOTH CURVES LIE WITHIN EITHER. -/
theorem either_lies {ps qs : List P3} (ht : tabOk ps = true) (hq : tabOk qs = true) {x W N D A B W' N' D' A' B' : Int} (h1 : firstX ps ≤ x ∧ x ≤ lastX ps) (h2 : firstX qs ≤ x ∧ x ≤ lastX qs) (he : joinErr (hullAt ps qs) ps qs = 0)
    (h : LineAt ps x W N D A B) (h' : LineAt qs x W' N' D' A' B') :
    Lies (atS (built (hullAt ps qs) (placesOf ps qs)) x).1 (atS (built (hullAt ps qs) (placesOf ps qs)) x).2 W N ∧ Lies (atS (built (hullAt ps qs) (placesOf ps qs)) x).1 (atS (built (hullAt ps qs) (placesOf ps qs)) x).2 W' N' := by
  obtain ⟨hu, f1, f2⟩ := join_ok ht hq (fun y hy => by rw [hullAt_is ht hq hy]) h1 h2 he
  obtain ⟨⟨n0, n1, _, _, _⟩, hv, hx, hs⟩ := h
  obtain ⟨⟨n0', n1', _, _, _⟩, hv', hx', hs'⟩ := h'
  have hD : 0 < D := by omega
  have hD' : 0 < D' := by omega
  constructor
  · have hb : ∀ X, X ∈ placesOf ps qs → ((atS ps X).1 * D ≤ A + B * X ∧ A + B * X ≤ (atS ps X).2 * D) → (hullAt ps qs X).1 * D ≤ A + B * X ∧ A + B * X ≤ (hullAt ps qs X).2.1 * D := by
      intro X hX hh
      rw [hullAt_is ht hq hX]
      have k1 := Int.mul_le_mul_of_nonneg_right (show min (atS ps X).1 (atS qs X).1 ≤ (atS ps X).1 by omega) (Int.le_of_lt hD)
      have k2 := Int.mul_le_mul_of_nonneg_right (show (atS ps X).2 ≤ max (atS ps X).2 (atS qs X).2 by omega) (Int.le_of_lt hD)
      dsimp only
      omega
    obtain ⟨j1, j2⟩ := joined_built hu (A := A) (B := B) hD f1 f2 (fun m => hb x m hx) (fun X0 X1 m0 m1 c0 c1 hg => by
      obtain ⟨s0, s1⟩ := hs X0 X1 (placesOf_in ht m0).1.1 (placesOf_in ht m1).1.2 c0 c1 (join_places ht hq m0 m1 hg).1
      exact ⟨hb X0 m0 s0, hb X1 m1 s1⟩)
    rw [← hv] at j1 j2
    exact lies_of n0 n1 j1 j2
  · have hb : ∀ X, X ∈ placesOf ps qs → ((atS qs X).1 * D' ≤ A' + B' * X ∧ A' + B' * X ≤ (atS qs X).2 * D') → (hullAt ps qs X).1 * D' ≤ A' + B' * X ∧ A' + B' * X ≤ (hullAt ps qs X).2.1 * D' := by
      intro X hX hh
      rw [hullAt_is ht hq hX]
      have k1 := Int.mul_le_mul_of_nonneg_right (show min (atS ps X).1 (atS qs X).1 ≤ (atS qs X).1 by omega) (Int.le_of_lt hD')
      have k2 := Int.mul_le_mul_of_nonneg_right (show (atS qs X).2 ≤ max (atS ps X).2 (atS qs X).2 by omega) (Int.le_of_lt hD')
      dsimp only
      omega
    obtain ⟨j1, j2⟩ := joined_built hu (A := A') (B := B') hD' f1 f2 (fun m => hb x m hx') (fun X0 X1 m0 m1 c0 c1 hg => by
      obtain ⟨s0, s1⟩ := hs' X0 X1 (placesOf_in ht m0).2.1.1 (placesOf_in ht m1).2.1.2 c0 c1 (join_places ht hq m0 m1 hg).2
      exact ⟨hb X0 m0 s0, hb X1 m1 s1⟩)
    rw [← hv'] at j1 j2
    exact lies_of n0' n1' j1 j2
/-- THE SUM OF BOTH CURVES LIES WITHIN PLUS. -/
theorem plus_lies {ps qs : List P3} (ht : tabOk ps = true) (hq : tabOk qs = true) {x W N D A B W' N' D' A' B' : Int} (h1 : firstX ps ≤ x ∧ x ≤ lastX ps) (h2 : firstX qs ≤ x ∧ x ≤ lastX qs) (he : joinErr (plusAt ps qs) ps qs = 0)
    (h : LineAt ps x W N D A B) (h' : LineAt qs x W' N' D' A' B') :
    Lies (atS (built (plusAt ps qs) (placesOf ps qs)) x).1 (atS (built (plusAt ps qs) (placesOf ps qs)) x).2 (W + W' + (N * D' + N' * D) / (D * D')) ((N * D' + N' * D) % (D * D')) := by
  obtain ⟨hu, f1, f2⟩ := join_ok ht hq (fun y hy => by rw [plusAt_is ht hq hy]) h1 h2 he
  obtain ⟨⟨n0, n1, _, _, _⟩, hv, hx, hs⟩ := h
  obtain ⟨⟨n0', n1', _, _, _⟩, hv', hx', hs'⟩ := h'
  have hD : 0 < D := by omega
  have hD' : 0 < D' := by omega
  have hDD : 0 < D * D' := Int.mul_pos hD hD'
  have hb : ∀ X, X ∈ placesOf ps qs → ((atS ps X).1 * D ≤ A + B * X ∧ A + B * X ≤ (atS ps X).2 * D) → ((atS qs X).1 * D' ≤ A' + B' * X ∧ A' + B' * X ≤ (atS qs X).2 * D') →
      (plusAt ps qs X).1 * (D * D') ≤ (A * D' + A' * D) + (B * D' + B' * D) * X ∧ (A * D' + A' * D) + (B * D' + B' * D) * X ≤ (plusAt ps qs X).2.1 * (D * D') := by
    intro X hX hh hh'
    rw [plusAt_is ht hq hX]
    have k1 := Int.mul_le_mul_of_nonneg_right hh.1 (Int.le_of_lt hD')
    have k2 := Int.mul_le_mul_of_nonneg_right hh.2 (Int.le_of_lt hD')
    have k3 := Int.mul_le_mul_of_nonneg_right hh'.1 (Int.le_of_lt hD)
    have k4 := Int.mul_le_mul_of_nonneg_right hh'.2 (Int.le_of_lt hD)
    dsimp only
    have e1 : ((atS ps X).1 + (atS qs X).1) * (D * D') = (atS ps X).1 * D * D' + (atS qs X).1 * D' * D := by grind
    have e2 : ((atS ps X).2 + (atS qs X).2) * (D * D') = (atS ps X).2 * D * D' + (atS qs X).2 * D' * D := by grind
    have e3 : (A * D' + A' * D) + (B * D' + B' * D) * X = (A + B * X) * D' + (A' + B' * X) * D := by grind
    rw [e1, e2, e3]
    omega
  obtain ⟨j1, j2⟩ := joined_built hu (A := A * D' + A' * D) (B := B * D' + B' * D) hDD f1 f2 (fun m => hb x m hx hx') (fun X0 X1 m0 m1 c0 c1 hg => by
    obtain ⟨g1, g2⟩ := join_places ht hq m0 m1 hg
    obtain ⟨s0, s1⟩ := hs X0 X1 (placesOf_in ht m0).1.1 (placesOf_in ht m1).1.2 c0 c1 g1
    obtain ⟨s0', s1'⟩ := hs' X0 X1 (placesOf_in ht m0).2.1.1 (placesOf_in ht m1).2.1.2 c0 c1 g2
    exact ⟨hb X0 m0 s0 s0', hb X1 m1 s1 s1'⟩)
  have q1 := Int.mul_ediv_add_emod (N * D' + N' * D) (D * D')
  have q2 := Int.emod_nonneg (N * D' + N' * D) (show D * D' ≠ 0 by omega)
  have q3 := Int.emod_lt_of_pos (N * D' + N' * D) hDD
  have e : (A * D' + A' * D) + (B * D' + B' * D) * x = (W + W' + (N * D' + N' * D) / (D * D')) * (D * D') + (N * D' + N' * D) % (D * D') := by
    have e3 : (A * D' + A' * D) + (B * D' + B' * D) * x = (A + B * x) * D' + (A' + B' * x) * D := by grind
    rw [e3, ← hv, ← hv']
    generalize (N * D' + N' * D) / (D * D') = Q at *
    generalize (N * D' + N' * D) % (D * D') = R at *
    have e4 : (W + W' + Q) * (D * D') = (W * D) * D' + (W' * D') * D + D * D' * Q := by grind
    have e5 : (W * D + N) * D' + (W' * D' + N') * D = (W * D) * D' + (W' * D') * D + (N * D' + N' * D) := by grind
    omega
  rw [e] at j1 j2
  exact lies_of q2 q3 j1 j2
/-- The whole part and the rest of n / d times a fraction lie as it does. -/
theorem scaled_lies {lo hi W N D n d : Int} (hd : 0 < d) (h0 : 0 ≤ N) (h1 : N < D) (h2 : lo * (D * d) ≤ n * (W * D + N)) (h3 : n * (W * D + N) ≤ hi * (D * d)) :
    Lies lo hi (n * W / d + ((n * W - n * W / d * d) * D + n * N) / (D * d)) (((n * W - n * W / d * d) * D + n * N) - ((n * W - n * W / d * d) * D + n * N) / (D * d) * (D * d)) := by
  have hDd : 0 < D * d := Int.mul_pos (by omega) hd
  generalize n * W / d = w at *
  generalize hR : (n * W - w * d) * D + n * N = R at *
  have q1 := Int.mul_ediv_add_emod R (D * d)
  have q2 := Int.emod_nonneg R (show D * d ≠ 0 by omega)
  have q3 := Int.emod_lt_of_pos R hDd
  generalize hQ : R / (D * d) = Q at *
  have e1 : R - Q * (D * d) = R % (D * d) := by
    have : Q * (D * d) = D * d * Q := by grind
    omega
  have e2 : (w + Q) * (D * d) + (R - Q * (D * d)) = n * (W * D + N) := by rw [← hR]; grind
  rw [← e2] at h2 h3
  exact lies_of (D := D * d) (by omega) (by omega) h2 h3
end

section
open Go.RowKit

theorem val_line {ps : List P3} {ys : List Int} {x : Int} {w w' : World} {e : Ending} (ht : tabOk ps = true) (hi : InTab ps ys) (h : GivesVal (ps.map (·.1)) ys x w e w') :
    ∃ V N D A B, e = .returned (fv V N D) ∧ LineAt ps x V N D A B ∧ Below w.heap.size w w' := by
  obtain ⟨k, xk, yk, hxk, hyk, hle, hnx, hb, h⟩ := h
  obtain ⟨p, hp, hp1⟩ := getElem?_fst hxk
  have hp1' : p.1 = xk := hp1
  subst hp1'
  rcases h with ⟨he, rfl⟩ | ⟨hne, z, yz, hz, hyz, rfl⟩
  · refine ⟨yk, 0, 1, yk, 0, rfl, ?_, hb⟩
    rw [← he]
    exact line_point ht hi hp hyk
  · obtain ⟨q, hq, hq1⟩ := getElem?_fst hz
    have hq1' : q.1 = z := hq1
    subst hq1'
    exact ⟨_, _, _, _, _, rfl, line_piece ht hi hp hq hyk hyz (by omega) (hnx q.1 hz), hb⟩

set_option maxRecDepth 100000 in
set_option maxHeartbeats 2000000 in
theorem fplus_any (W1 N1 D1 W2 N2 D2 : Int) (w : World) (hW1 : -1000000000 ≤ W1) (hW1' : W1 ≤ 1000000000) (hW2 : -1000000000 ≤ W2) (hW2' : W2 ≤ 1000000000) (hN1 : 0 ≤ N1) (hN1' : N1 < D1) (hN2 : 0 ≤ N2) (hN2' : N2 < D2) (hD2 : D2 ≤ 1000000) (hD1 : D1 ≤ 1000000) :
    Calls Try.prog 74 #[fv W1 N1 D1, fv W2 N2 D2] w fun e w' => e = .returned (fv (W1 + W2 + (N1 * D2 + N2 * D1) / (D1 * D2)) ((N1 * D2 + N2 * D1) % (D1 * D2)) (D1 * D2)) ∧ Below w.heap.size w w' := by
  have p1 : N1 * D2 ≤ 1000000 * 1000000 := Int.mul_le_mul (by omega) (by omega) (by omega) (by omega)
  have p1' : 0 ≤ N1 * D2 := Int.mul_nonneg (by omega) (by omega)
  have p2 : N2 * D1 ≤ 1000000 * 1000000 := Int.mul_le_mul (by omega) (by omega) (by omega) (by omega)
  have p2' : 0 ≤ N2 * D1 := Int.mul_nonneg (by omega) (by omega)
  have p3 : D1 * D2 ≤ 1000000 * 1000000 := Int.mul_le_mul (by omega) (by omega) (by omega) (by omega)
  have p3' : 1 * 1 ≤ D1 * D2 := Int.mul_le_mul (by omega) (by omega) (by omega) (by omega)
  obtain ⟨A, w1⟩ : ∃ r, IntKind.i64.wrap (N1 * D2) = r := ⟨_, rfl⟩
  have e1 : N1 * D2 = A := by rw [← w1, IntWalk.i64_in _ ⟨by omega, by omega⟩]
  obtain ⟨B, w2⟩ : ∃ r, IntKind.i64.wrap (N2 * D1) = r := ⟨_, rfl⟩
  have e2 : N2 * D1 = B := by rw [← w2, IntWalk.i64_in _ ⟨by omega, by omega⟩]
  obtain ⟨N, w3⟩ : ∃ r, IntKind.i64.wrap (A + B) = r := ⟨_, rfl⟩
  have e3 : A + B = N := by rw [← w3, IntWalk.i64_in _ ⟨by omega, by omega⟩]
  obtain ⟨D, w4⟩ : ∃ r, IntKind.i64.wrap (D1 * D2) = r := ⟨_, rfl⟩
  have e4 : D1 * D2 = D := by rw [← w4, IntWalk.i64_in _ ⟨by omega, by omega⟩]
  rw [e1, e2, e3, e4]
  have f0 : 0 ≤ N / D := Int.ediv_nonneg (by omega) (by omega)
  have f1 := Int.ediv_le_self D (show 0 ≤ N by omega)
  have f3 := Int.emod_nonneg N (show D ≠ 0 by omega)
  have f4 := Int.emod_lt_of_pos N (show 0 < D by omega)
  have g1 : N.tdiv D = N / D := Int.tdiv_eq_ediv_of_nonneg (by omega)
  have g2 : N.tmod D = N % D := Int.tmod_eq_emod_of_nonneg (by omega)
  generalize N / D = q at *
  generalize N % D = R at *
  obtain ⟨S, w5⟩ : ∃ r, IntKind.i64.wrap (W1 + W2) = r := ⟨_, rfl⟩
  have e5 : W1 + W2 = S := by rw [← w5, IntWalk.i64_in _ ⟨by omega, by omega⟩]
  obtain ⟨S2, w6⟩ : ∃ r, IntKind.i64.wrap (S + q) = r := ⟨_, rfl⟩
  have e6 : S + q = S2 := by rw [← w6, IntWalk.i64_in _ ⟨by omega, by omega⟩]
  have w7 : IntKind.i64.wrap q = q := IntWalk.i64_in _ ⟨by omega, by omega⟩
  have w8 : IntKind.i64.wrap R = R := IntWalk.i64_in _ ⟨by omega, by omega⟩
  have z1 : (D == 0) = false := beq_eq_false_iff_ne.2 (by omega)
  have z2 : ¬ D = 0 := by omega
  rw [e5, e6]
  clear e1 e2 e3 e4 e5 e6 p1 p1' p2 p2' p3 p3' f0 f1 f3 f4 hW1 hW1' hW2 hW2' hN1 hN1' hN2 hN2' hD2 hD1
  go_enter Try.func74, Try.ntmps74
  go_wp2_with fail
  go_region
  go_wp2
  refine bodyPost_ret (v := fv S2 R D) (by simp [results, Try.results74, go_sem]) rfl ⟨rfl, ?_⟩

  exact (below_a3 (Below.refl _ _)).drew

set_option maxRecDepth 100000 in
set_option maxHeartbeats 2000000 in
theorem fscaled_any (a b W N D n d : Int) (w : World) (hW : -1000000000 ≤ W) (hW' : W ≤ 1000000000) (hN : 0 ≤ N) (hN' : N < D) (hD : D ≤ 1000000) (hn : -1000 ≤ n) (hn' : n ≤ 1000) (hd : 1 ≤ d) (hd' : d ≤ 1000)
    (hl : Lies a b (n * W / d + ((n * W - n * W / d * d) * D + n * N) / (D * d)) (((n * W - n * W / d * d) * D + n * N) - ((n * W - n * W / d * d) * D + n * N) / (D * d) * (D * d))) :
    Calls Try.prog 71 #[rv a b, fv W N D, .int .i64 n, .int .i64 d] w fun e w' => e = .returned (.bool true) ∧ Below w.heap.size w w' := by
  have p1 := mul_between2 n W 1000 1000000000 (by omega) (by omega) (by omega) (by omega)
  obtain ⟨P, w1⟩ : ∃ r, IntKind.i64.wrap (n * W) = r := ⟨_, rfl⟩
  have e1 : n * W = P := by rw [← w1, IntWalk.i64_in _ ⟨by omega, by omega⟩]
  rw [e1] at p1 hl
  have hq := ediv_between P d 1000000000000 (by omega) (by omega) (by omega) (by omega)
  have hr := rest_bounds P d (by omega)
  have CF1 : Hid (∀ W, Calls Try.prog 120 #[.int .i64 P, .int .i64 d] W fun e w' => e = .returned (.int .i64 (P / d)) ∧ W = w') := Lib.hid fun W => rFloor_any P d W (by omega) (by omega) (by omega)
  have hqd := mul_between2 (P / d) d 1000000000000 1000 (by omega) (by omega) (by omega) (by omega)
  generalize P / d = q at *
  obtain ⟨QD, w2⟩ : ∃ r, IntKind.i64.wrap (q * d) = r := ⟨_, rfl⟩
  have e2 : q * d = QD := by rw [← w2, IntWalk.i64_in _ ⟨by omega, by omega⟩]
  rw [e2] at hr hl
  obtain ⟨M, w3⟩ : ∃ r, IntKind.i64.wrap (P - QD) = r := ⟨_, rfl⟩
  have e3 : P - QD = M := by rw [← w3, IntWalk.i64_in _ ⟨by omega, by omega⟩]
  rw [e3] at hr hl
  have p2 := mul_between2 M D 1000 1000000 (by omega) (by omega) (by omega) (by omega)
  obtain ⟨MD, w4⟩ : ∃ r, IntKind.i64.wrap (M * D) = r := ⟨_, rfl⟩
  have e4 : M * D = MD := by rw [← w4, IntWalk.i64_in _ ⟨by omega, by omega⟩]
  rw [e4] at p2 hl
  have p3 := mul_between2 n N 1000 1000000 (by omega) (by omega) (by omega) (by omega)
  obtain ⟨NN, w5⟩ : ∃ r, IntKind.i64.wrap (n * N) = r := ⟨_, rfl⟩
  have e5 : n * N = NN := by rw [← w5, IntWalk.i64_in _ ⟨by omega, by omega⟩]
  rw [e5] at p3 hl
  obtain ⟨R, w6⟩ : ∃ r, IntKind.i64.wrap (MD + NN) = r := ⟨_, rfl⟩
  have e6 : MD + NN = R := by rw [← w6, IntWalk.i64_in _ ⟨by omega, by omega⟩]
  rw [e6] at hl
  have p4 : D * d ≤ 1000000 * 1000 := Int.mul_le_mul (by omega) (by omega) (by omega) (by omega)
  have p4' : 1 * 1 ≤ D * d := Int.mul_le_mul (by omega) (by omega) (by omega) (by omega)
  obtain ⟨E, w7⟩ : ∃ r, IntKind.i64.wrap (D * d) = r := ⟨_, rfl⟩
  have e7 : D * d = E := by rw [← w7, IntWalk.i64_in _ ⟨by omega, by omega⟩]
  rw [e7] at p4 p4' hl
  have hk := ediv_between R E 2000000000 (by omega) (by omega) (by omega) (by omega)
  have hs := rest_bounds R E (by omega)
  have CF2 : Hid (∀ W, Calls Try.prog 120 #[.int .i64 R, .int .i64 E] W fun e w' => e = .returned (.int .i64 (R / E)) ∧ W = w') := Lib.hid fun W => rFloor_any R E W (by omega) (by omega) (by omega)
  generalize R / E = k at *
  obtain ⟨V, w8⟩ : ∃ r, IntKind.i64.wrap (q + k) = r := ⟨_, rfl⟩
  have e8 : q + k = V := by rw [← w8, IntWalk.i64_in _ ⟨by omega, by omega⟩]
  rw [e8] at hl
  have p5 := mul_between2 k D 2000000000 1000000 (by omega) (by omega) (by omega) (by omega)
  obtain ⟨KD, w9⟩ : ∃ r, IntKind.i64.wrap (k * D) = r := ⟨_, rfl⟩
  have e9 : k * D = KD := by rw [← w9, IntWalk.i64_in _ ⟨by omega, by omega⟩]
  have e10' : KD * d = k * E := by rw [← e9, ← e7]; grind
  obtain ⟨KE, w10⟩ : ∃ r, IntKind.i64.wrap (KD * d) = r := ⟨_, rfl⟩
  have p6 := mul_between2 k E 2000000000 1000000000 (by omega) (by omega) (by omega) (by omega)
  have e10 : KD * d = KE := by rw [← w10, IntWalk.i64_in _ ⟨by omega, by omega⟩]
  rw [e10] at e10'
  rw [← e10'] at hs hl
  obtain ⟨T, w11⟩ : ∃ r, IntKind.i64.wrap (R - KE) = r := ⟨_, rfl⟩
  have e11 : R - KE = T := by rw [← w11, IntWalk.i64_in _ ⟨by omega, by omega⟩]
  rw [e11] at hl
  have LA : Hid (∀ W, Calls Try.prog 68 #[rv a b, fv V T E] W fun e w' => e = .returned (.bool true) ∧ Below W.heap.size W w') := Lib.hid fun W => bool_to (lies_any a b V T E W) ((liesB_iff _ _ _ _).2 hl)
  clear e1 e2 e3 e4 e5 e6 e7 e8 e9 e10 e10' e11 p1 p2 p3 p4 p4' p5 p6 hq hr hk hs hl hqd hW hW' hN hN' hD hn hn' hd hd'
  go_enter Try.func71, Try.ntmps71
  go_wp2_with fail
  refine (CF1.out _).mono ?_
  rintro e w' ⟨rfl, rfl⟩
  go_wp2_with fail
  refine (CF2.out _).mono ?_
  rintro e w' ⟨rfl, rfl⟩
  go_wp2_with fail
  refine (LA.out _).mono ?_
  rintro e w' ⟨rfl, hb⟩
  go_wp2
  go_ret
  exact ⟨rfl, below_a2 hb⟩
end

section
open Go.RowKit

theorem timesErr_cases {n d : Int} {ps : List P3} (ht : tabOk ps = true) (h : argsOk n d) : timesErr n d ps = 0 ∨ timesErr n d ps = 5 := by
  unfold timesErr
  rw [if_pos ht, corners_all ht]
  unfold buildErr
  rw [if_neg (by have := (tabOk_len ht).2; simp; omega), buildE_all _ _ (by intro x hx; obtain ⟨p, hp, rfl⟩ := List.mem_map.1 hx; exact timesAt_err ht h hp)]
  split
  · exact .inl rfl
  · exact .inr rfl
theorem joinErr_cases {f : Int → Int × Int × Int} {ps qs : List P3} (ht : tabOk ps = true) (hq : tabOk qs = true) (hf : ∀ x ∈ placesOf ps qs, (f x).2.2 = 0) {x : Int} (h1 : firstX ps ≤ x ∧ x ≤ lastX ps) (h2 : firstX qs ≤ x ∧ x ≤ lastX qs) :
    joinErr f ps qs = 0 ∨ joinErr f ps qs = 5 ∨ joinErr f ps qs = 2 := by
  unfold joinErr
  rw [if_pos ⟨ht, hq⟩, if_pos (by omega)]
  unfold buildErr
  split
  · exact .inr (.inr rfl)
  · rw [buildE_all _ _ fun y hy => .inl (hf y hy)]
    split
    · exact .inl rfl
    · exact .inr (.inl rfl)
theorem hullErr_cases {ps qs : List P3} (ht : tabOk ps = true) (hq : tabOk qs = true) {x : Int} (h1 : firstX ps ≤ x ∧ x ≤ lastX ps) (h2 : firstX qs ≤ x ∧ x ≤ lastX qs) : joinErr (hullAt ps qs) ps qs = 0 ∨ joinErr (hullAt ps qs) ps qs = 2 := by
  have hf : ∀ y ∈ placesOf ps qs, (hullAt ps qs y).2.2 = 0 := fun y hy => by rw [hullAt_is ht hq hy]
  unfold joinErr
  rw [if_pos ⟨ht, hq⟩, if_pos (by omega)]
  unfold buildErr
  split
  · exact .inr rfl
  · rw [buildE_all _ _ fun y hy => .inl (hf y hy), if_pos]
    · exact .inl rfl
    · rw [List.all_eq_true]
      intro y hy
      obtain ⟨⟨a, b⟩, ⟨c, d⟩, _⟩ := placesOf_in ht hy
      have g1 := inB_of (atS_in ht a b)
      have g2 := inB_of (atS_in hq c d)
      rw [hullAt_is ht hq hy]
      simp [inB]; omega
theorem atS_of {us : List P3} {x s1 s2 : Int} (hu : tabOk us = true) (h1 : firstX us ≤ x) (h2 : x ≤ lastX us) (h : atS us x = (s1, s2)) : AtS us x = (s1, s2, 0) := by
  unfold AtS
  have : placesS us x x = 0 := by unfold placesS; rw [if_pos hu, if_pos (inB_yes (by omega) (by omega) (by omega))]
  rw [if_pos this, h]
/-- At of a table that was made, where it is valid and has the place -/
theorem at_made {us : List P3} {x s1 s2 : Int} (hu : tabOk us = true) (h1 : firstX us ≤ x) (h2 : x ≤ lastX us) (h : atS us x = (s1, s2)) (P : Option Addr) (m k : Nat) (W : World) (hm : m = us.length) (hl : m ≤ maxLen) (hp : Pts W P us) :
    Calls Try.prog 35 #[tv P m k, .int .i64 x] W fun e w' => e = .returned (.tuple #[rv s1 s2, .int .i64 0]) ∧ Below W.heap.size W w' := rt_to (at_all P m k us x W hm hl hp) (atS_of hu h1 h2 h)
/-- what is held while a curve's value is asked for: the cells of the table with its numbers, and that all from before is as it was -/
theorem mkG {W2 w1 : World} {a b : Value} {A : Nat} (hb : Below W2.heap.size W2 w1) (h : W2.cell? ⟨A, 0, none⟩ = some a ∧ W2.cell? ⟨A, 1, none⟩ = some b) (h1 : A < W2.heap.size) :
    w1.cell? ⟨A, 0, none⟩ = some a ∧ w1.cell? ⟨A, 1, none⟩ = some b ∧ Below W2.heap.size W2 w1 := ⟨((bcell hb).1 _ _ h1).trans h.1, ((bcell hb).1 _ _ h1).trans h.2, hb⟩
theorem belowG {W2 w0 : World} {a b : Value} {A : Nat} (h : w0.cell? ⟨A, 0, none⟩ = some a ∧ w0.cell? ⟨A, 1, none⟩ = some b ∧ Below W2.heap.size W2 w0) : Below W2.heap.size W2 w0 := h.2.2
/-- rows of numbers in memory, in all worlds behind -/
def RowIn (w : World) (g : Nat) (L : List Int) : Prop := g < w.heap.size ∧ IntsMem w g 0 L
theorem RowIn.below {w w' : World} {g : Nat} {L : List Int} (h : RowIn w g L) (hb : Below w.heap.size w w') : RowIn w' g L := ⟨Nat.lt_of_lt_of_le h.1 hb.size, h.2.below hb h.1⟩
theorem curve_value (g1 k1 g2 k2 n : Nat) (ps : List P3) (cs : List Int) (a : Int) (W : World) (hn : n = ps.length) (ht : tabOk ps = true) (h1 : firstX ps ≤ a) (h2 : a ≤ lastX ps) (r1 : RowIn W g1 (xsOf ps)) (r2 : RowIn W g2 (curveFrom cs 0 ps)) :
    Calls Try.prog 66 #[.slice (some ⟨g1, 0, none⟩) n k1, .slice (some ⟨g2, 0, none⟩) n k2, .int .i64 a] W fun e w' => ∃ V N D A B, e = .returned (fv V N D) ∧ LineAt ps a V N D A B ∧ Below W.heap.size W w' := by
  obtain ⟨L1, L2, L3, L4, L5, L6⟩ := tab_lines ht
  have hl := tabOk_len ht
  have hcl := curveFrom_len cs 0 ps
  have hit := curve_inTab cs ht
  have hiy : InY (curveFrom cs 0 ps) := curve_inY ht
  exact (value_any g1 0 g2 0 n k1 k2 (xsOf ps) (curveFrom cs 0 ps) a W (by rw [List.length_map]; exact hn) (by rw [hcl]; exact hn) (by omega) (by omega) r1.1 r2.1 r1.2 r2.2 L2 hiy (by have := places_in ht; omega) (by have := places_in ht; omega)
    (fun z hz => by have e := firstX_map ps; rw [List.head?_eq_getElem?, hz] at e; simp at e; omega)
    (fun z hz => by have e := lastX_map ps; rw [List.getLast?_eq_getElem?, List.length_map, ← hn, hz] at e; simp at e; omega)).mono fun e w' h => val_line ht hit h
theorem boxes_cons {W : World} {b : Nat} {t : TypeId} {cs : Array Value} {L : List (Nat × TypeId × Array Value)} (h : Blk W b t cs) (hL : Boxes W L) : Boxes W ((b, t, cs) :: L) := fun p hp => by
  rcases List.mem_cons.1 hp with rfl | hp
  · exact h
  · exact hL p hp
theorem mk8 {W2 w1 : World} {A B C : Nat} {a0 a1 b0 b1 b2 c0 c1 c2 : Value} (hb : Below W2.heap.size W2 w1) (h : W2.cell? ⟨A, 0, none⟩ = some a0 ∧ W2.cell? ⟨A, 1, none⟩ = some a1 ∧ W2.cell? ⟨B, 0, none⟩ = some b0 ∧ W2.cell? ⟨B, 1, none⟩ = some b1 ∧ W2.cell? ⟨B, 2, none⟩ = some b2 ∧ W2.cell? ⟨C, 0, none⟩ = some c0 ∧ W2.cell? ⟨C, 1, none⟩ = some c1 ∧ W2.cell? ⟨C, 2, none⟩ = some c2) (h1 : A < W2.heap.size) (h2 : B < W2.heap.size) (h3 : C < W2.heap.size) :
    w1.cell? ⟨A, 0, none⟩ = some a0 ∧ w1.cell? ⟨A, 1, none⟩ = some a1 ∧ w1.cell? ⟨B, 0, none⟩ = some b0 ∧ w1.cell? ⟨B, 1, none⟩ = some b1 ∧ w1.cell? ⟨B, 2, none⟩ = some b2 ∧ w1.cell? ⟨C, 0, none⟩ = some c0 ∧ w1.cell? ⟨C, 1, none⟩ = some c1 ∧ w1.cell? ⟨C, 2, none⟩ = some c2 ∧ Below W2.heap.size W2 w1 :=
  ⟨((bcell hb).1 _ _ h1).trans h.1, ((bcell hb).1 _ _ h1).trans h.2.1, ((bcell hb).1 _ _ h2).trans h.2.2.1, ((bcell hb).1 _ _ h2).trans h.2.2.2.1, ((bcell hb).1 _ _ h2).trans h.2.2.2.2.1, ((bcell hb).1 _ _ h3).trans h.2.2.2.2.2.1, ((bcell hb).1 _ _ h3).trans h.2.2.2.2.2.2.1, ((bcell hb).1 _ _ h3).trans h.2.2.2.2.2.2.2, hb⟩
theorem below8 {W2 w0 : World} {A B C : Nat} {a0 a1 b0 b1 b2 c0 c1 c2 : Value} (h : w0.cell? ⟨A, 0, none⟩ = some a0 ∧ w0.cell? ⟨A, 1, none⟩ = some a1 ∧ w0.cell? ⟨B, 0, none⟩ = some b0 ∧ w0.cell? ⟨B, 1, none⟩ = some b1 ∧ w0.cell? ⟨B, 2, none⟩ = some b2 ∧ w0.cell? ⟨C, 0, none⟩ = some c0 ∧ w0.cell? ⟨C, 1, none⟩ = some c1 ∧ w0.cell? ⟨C, 2, none⟩ = some c2 ∧ Below W2.heap.size W2 w0) : Below W2.heap.size W2 w0 := h.2.2.2.2.2.2.2.2
end

end Go.Proofs.Ytmenlaefekkahaa
