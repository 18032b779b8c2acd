/- The contracts of stretch, its own closure and sort.Search as stretch calls it (fix), for the closures of Above. Their conditions: what was captured lies in memory; the numbers are those of a valid table. -/
import Derived.Test.YthhcejcpopgkiaaD4
import Derived.Test.YthhcejcpopgkiaaE4
set_option linter.unusedVariables false
set_option linter.unusedSimpArgs false
set_option linter.constructorNameAsVariable false
namespace Go.Proofs.Ythhcejcpopgkiaa
open Go.RowKit

/-- whether the low line of a piece is at least a number -/
def aboveSo (p q : P3) (y x : Int) : Bool := decide (y ≤ (pAt p q x).1)
def aboveS (y : Int) (p q : P3) : Int × Int := stretchS (aboveSo p q y) p.1 q.1
/-- What a call to the closure of Above needs of a world. -/
def AskedA (w : World) (Bp Br : Nat) (p q : P3) (lv : Int) : Prop := Blk w Bp 111 (pCells p q) ∧ Blk w Br 3 #[.int .i64 lv] ∧ Okp p ∧ Okp q
theorem AskedA.below {w w' : World} {Bp Br : Nat} {p q : P3} {lv : Int} (h : AskedA w Bp Br p q lv) (hB : Below w.heap.size w w') : AskedA w' Bp Br p q lv :=
  ⟨h.1.below hB h.1.lt, h.2.1.below hB h.2.1.lt, h.2.2⟩
theorem AskedA.drew {w : World} {Bp Br : Nat} {p q : P3} {lv : Int} (h : AskedA w Bp Br p q lv) : AskedA w.drew Bp Br p q lv := h
def SixOne (Bp Br : Nat) (p q : P3) (lv : Int) (w : World) : Prop :=
  w.cell? ⟨Bp, 0, none⟩ = some (.int .i64 p.1) ∧ w.cell? ⟨Bp, 1, none⟩ = some (.int .i64 p.2.1) ∧ w.cell? ⟨Bp, 2, none⟩ = some (.int .i64 p.2.2) ∧ w.cell? ⟨Bp, 3, none⟩ = some (.int .i64 q.1) ∧ w.cell? ⟨Bp, 4, none⟩ = some (.int .i64 q.2.1) ∧ w.cell? ⟨Bp, 5, none⟩ = some (.int .i64 q.2.2) ∧ w.cell? ⟨Br, 0, none⟩ = some (.int .i64 lv)
theorem SixOne.of {Bp Br : Nat} {p q : P3} {lv : Int} {w : World} (h : Blk w Bp 111 (pCells p q)) (h' : Blk w Br 3 #[.int .i64 lv]) : SixOne Bp Br p q lv w :=
  ⟨h.cell 0, h.cell 1, h.cell 2, h.cell 3, h.cell 4, h.cell 5, h'.cell 0⟩
theorem SixOne.below {Bp Br : Nat} {p q : P3} {lv : Int} {w w' : World} (h : SixOne Bp Br p q lv w) (hB : Below w.heap.size w w') (h1 : Bp < w.heap.size) (h2 : Br < w.heap.size) : SixOne Bp Br p q lv w' := by
  have k := (bcell hB).1
  obtain ⟨a0, a1, a2, a3, a4, a5, b0⟩ := h
  exact ⟨(k _ _ h1).trans a0, (k _ _ h1).trans a1, (k _ _ h1).trans a2, (k _ _ h1).trans a3, (k _ _ h1).trans a4, (k _ _ h1).trans a5, (k _ _ h2).trans b0⟩

set_option maxRecDepth 100000 in
set_option maxHeartbeats 1000000 in
theorem aboveAsk (Bp Br : Nat) (p q : P3) (lv x : Int) (w : World) (h : Blk w Bp 111 (pCells p q)) (h' : Blk w Br 3 #[.int .i64 lv]) (hp : Okp p) (hq : Okp q) (hx : 0 ≤ x) (hx' : x ≤ 1000000) :
    Calls Try.prog 110 #[.int .i64 x, .pointer (some ⟨Bp, 0, none⟩), .pointer (some ⟨Br, 0, none⟩)] w fun e w' => e = .returned (.bool (decide (lv ≤ (pAt p q x).1))) ∧ Below w.heap.size w w' := by
  have hS := SixOne.of h h'
  have h1 := h.lt
  have h2 := h'.lt
  have hd1 : Bp < w.drew.heap.size := h1
  have hd2 : Br < w.drew.heap.size := h2
  have HS := Lib.hid hS
  obtain ⟨a0, a1, a2, a3, a4, a5, b0⟩ := hS
  have HP := Lib.hid hp; have HQ := Lib.hid hq
  clear h h' hp hq
  go_enter Try.func110, Try.ntmps110
  go_wp2_with fail
  go_region_held3 (fun w' => w'.cell? ⟨Bp, 0, none⟩ = some (.int .i64 p.1) ∧ w'.cell? ⟨Bp, 1, none⟩ = some (.int .i64 p.2.1) ∧ w'.cell? ⟨Bp, 2, none⟩ = some (.int .i64 p.2.2) ∧ w'.cell? ⟨Bp, 3, none⟩ = some (.int .i64 q.1) ∧ w'.cell? ⟨Bp, 4, none⟩ = some (.int .i64 q.2.1) ∧ w'.cell? ⟨Bp, 5, none⟩ = some (.int .i64 q.2.2) ∧
  w'.cell? ⟨Br, 0, none⟩ = some (.int .i64 lv))
    (first | (go_keep; done) | exact SixOne.below ‹_› hb hd1 hd2)
    (first | (go_at_call 106; refine (pieceAt_any p q x _ HP.out HQ.out hx hx').mono ?_; rintro e w1 ⟨rfl, hb⟩))
  go_wp2
  go_ret
  exact ⟨rfl, below_d hb⟩

theorem above_asked (Bp Br : Nat) (p q : P3) (lv x : Int) (w : World) (h : AskedA w Bp Br p q lv) (hx : 0 ≤ x) (hx' : x ≤ 1000000) :
    Calls Try.prog 110 #[.int .i64 x, .pointer (some ⟨Bp, 0, none⟩), .pointer (some ⟨Br, 0, none⟩)] w fun e w' => e = .returned (.bool (aboveSo p q lv x)) ∧ Below w.heap.size w w' :=
  aboveAsk Bp Br p q lv x w h.1 h.2.1 h.2.2.1 h.2.2.2 hx hx'

/-- a function value that Where makes -/
abbrev aboveFn (Bp Br : Nat) : Value := .func (.func 110) #[] #[.pointer (some ⟨Bp, 0, none⟩), .pointer (some ⟨Br, 0, none⟩)]
/-- What the closure of stretch needs of a world. -/
def aboveTurn (w : World) (B3 B5 B7 Bp Br : Nat) (p q : P3) (lv a : Int) (first : Bool) : Prop :=
  Blk w B3 113 #[aboveFn Bp Br] ∧ Blk w B5 3 #[.int .i64 a] ∧ Blk w B7 4 #[.bool first] ∧ AskedA w Bp Br p q lv
theorem aboveTurn.below {w w' : World} {B3 B5 B7 Bp Br : Nat} {p q : P3} {lv a : Int} {first : Bool} (h : aboveTurn w B3 B5 B7 Bp Br p q lv a first) (hB : Below w.heap.size w w') : aboveTurn w' B3 B5 B7 Bp Br p q lv a first :=
  ⟨h.1.below hB h.1.lt, h.2.1.below hB h.2.1.lt, h.2.2.1.below hB h.2.2.1.lt, h.2.2.2.below hB⟩

set_option maxRecDepth 100000 in
set_option maxHeartbeats 1000000 in
theorem above_turn (B3 B5 B7 Bp Br : Nat) (p q : P3) (lv a i : Int) (first : Bool) (w : World) (h : aboveTurn w B3 B5 B7 Bp Br p q lv a first) (hx : 0 ≤ a + i) (hx' : a + i ≤ 1000000) :
    Calls Try.prog 128 #[.int .i64 i, .pointer (some ⟨B3, 0, none⟩), .pointer (some ⟨B5, 0, none⟩), .pointer (some ⟨B7, 0, none⟩)] w fun e w' => e = .returned (.bool (!(aboveSo p q lv (a + i) == first))) ∧ Below w.heap.size w w' := by
  have a0 := h.1.cell 0
  have a1 := h.2.1.cell 0
  have a2 := h.2.2.1.cell 0
  have l3 := h.1.lt
  have l5 := h.2.1.lt
  have l7 := h.2.2.1.lt
  simp at a0 a1 a2
  have hd3 : B3 < w.drew.heap.size := l3
  have hd5 : B5 < w.drew.heap.size := l5
  have hd7 : B7 < w.drew.heap.size := l7
  have w1 : IntKind.i64.wrap (a + i) = a + i := IntWalk.i64_in _ ⟨by omega, by omega⟩
  have HA := Lib.hid h.2.2.2
  clear h
  generalize hso : aboveSo p q lv (a + i) = so
  have HC := Lib.hid (fun V (hV : AskedA V Bp Br p q lv) => (hso ▸ above_asked Bp Br p q lv (a + i) V hV hx hx'))
  clear hso
  go_enter Try.func128, Try.ntmps128
  go_wp2_with fail
  go_region_held3 (fun w' => w'.cell? ⟨B3, 0, none⟩ = some (aboveFn Bp Br) ∧ w'.cell? ⟨B5, 0, none⟩ = some (.int .i64 a) ∧ w'.cell? ⟨B7, 0, none⟩ = some (.bool first))
    (first | (go_keep; done) | exact ⟨((bcell hb).1 _ _ hd3).trans (‹_ ∧ _ ∧ _›).1, ((bcell hb).1 _ _ hd5).trans (‹_ ∧ _ ∧ _›).2.1, ((bcell hb).1 _ _ hd7).trans (‹_ ∧ _ ∧ _›).2.2⟩)
    (first | (go_at_call 110; refine (HC.out w.drew HA.out).mono ?_; rintro e w1 ⟨rfl, hb⟩))
  go_wp2
  go_ret
  exact ⟨rfl, below_d hb⟩

/-- the closure that stretch hands to sort.Search -/
abbrev aboveTurnFn (B3 B5 B7 : Nat) : Value := .func (.func 128) #[] #[.pointer (some ⟨B3, 0, none⟩), .pointer (some ⟨B5, 0, none⟩), .pointer (some ⟨B7, 0, none⟩)]
theorem above_turn_to (B3 B5 B7 Bp Br : Nat) (p q : P3) (lv a i : Int) (first t : Bool) (w : World) (h : aboveTurn w B3 B5 B7 Bp Br p q lv a first) (hx : 0 ≤ a + i) (hx' : a + i ≤ 1000000) (ht : (!(aboveSo p q lv (a + i) == first)) = t) :
    Calls Try.prog 128 #[.int .i64 i, .pointer (some ⟨B3, 0, none⟩), .pointer (some ⟨B5, 0, none⟩), .pointer (some ⟨B7, 0, none⟩)] w fun e w' => e = .returned (.bool t) ∧ Below w.heap.size w w' := by
  subst ht; exact above_turn B3 B5 B7 Bp Br p q lv a i first w h hx hx'

set_option maxRecDepth 100000 in
set_option maxHeartbeats 2000000 in
theorem above_search (B3 B5 B7 Bp Br : Nat) (p q : P3) (lv a : Int) (n : Nat) (first : Bool) (w : World) (h : aboveTurn w B3 B5 B7 Bp Br p q lv a first) (ha : 0 ≤ a) (han : a + n ≤ 1000000) :
    Calls Try.prog 127 #[.int .i64 n, aboveTurnFn B3 B5 B7] w fun e w' => e = .returned (.int .i64 (bs (fun i => !(aboveSo p q lv (a + i) == first)) n 0 n)) ∧ Below w.heap.size w w' := by
  generalize hR : bs (fun i => !(aboveSo p q lv (a + i) == first)) n 0 n = R
  have HR := Lib.hid hR; clear hR
  have HT := Lib.hid h; clear h
  go_enter Try.func127, Try.ntmps127
  go_wp2_with fail
  go_loopw [5, 6] (fun vi vj wr => ∃ (i j k : Nat), i ≤ j ∧ j ≤ n ∧ j - i ≤ k ∧ vi = .int .i64 i ∧ vj = .int .i64 j ∧ Below w.heap.size w wr ∧ Hid (bs (fun i => !(aboveSo p q lv (a + i) == first)) k i j = R)) (fun vi vj _ => (intOf vj).toNat - (intOf vi).toNat)
  case atStart => exact ⟨0, n, n, by omega, by omega, by omega, rfl, rfl, Below.refl _ _, HR.out⟩
  case round =>
    obtain ⟨i, j, k, hij, hjn, hk, rfl, rfl, hB, HP⟩ := hrel
    by_cases hlt : i < j
    · have hlt' : (i : Int) < (j : Int) := by omega
      obtain ⟨k', rfl⟩ : ∃ k', k = k' + 1 := ⟨k - 1, by omega⟩
      obtain ⟨m, hm⟩ : ∃ m : Nat, (i + j) / 2 = m := ⟨_, rfl⟩
      have hmi : ((i : Int) + (j : Int)) / 2 = (m : Int) := by omega
      have m1 : i ≤ m := by omega
      have m2 : m < j := by omega
      have HM := Lib.hid hmi; clear hmi hm
      cases ht : (!(aboveSo p q lv (a + m) == first))
      · have hnext : bs (fun i => !(aboveSo p q lv (a + i) == first)) k' ((m : Int) + 1) j = R := by
          rw [← HP.out, bs_no _ _ _ _ hlt' (by rw [HM.out]; exact ht), HM.out]
        have HNX := Lib.hid hnext; clear hnext HP HR
        have HTT := Lib.hid ht; clear ht
        go_wp2_with fail
        rw [HM.out]
        refine (above_turn_to B3 B5 B7 Bp Br p q lv a m first _ wr (HT.out.below hB) (by omega) (by omega) HTT.out).mono ?_
        rintro e w1 ⟨rfl, hb1⟩
        have hB1 := below_then hB hb1
        go_wp2
        go_roundw
        case rel => exact ⟨m + 1, j, k', by omega, by omega, by omega, by rw [Int.natCast_add]; rfl, rfl, hB1, by rw [Int.natCast_add]; exact HNX.out⟩
        case measure => simp [intOf]; omega
      · have hnext : bs (fun i => !(aboveSo p q lv (a + i) == first)) k' (i : Int) m = R := by
          rw [← HP.out, bs_yes _ _ _ _ hlt' (by rw [HM.out]; exact ht), HM.out]
        have HNX := Lib.hid hnext; clear hnext HP HR
        have HTT := Lib.hid ht; clear ht
        go_wp2_with fail
        rw [HM.out]
        refine (above_turn_to B3 B5 B7 Bp Br p q lv a m first _ wr (HT.out.below hB) (by omega) (by omega) HTT.out).mono ?_
        rintro e w1 ⟨rfl, hb1⟩
        have hB1 := below_then hB hb1
        go_wp2
        go_roundw
        case rel => exact ⟨i, m, k', by omega, by omega, by omega, rfl, rfl, hB1, HNX.out⟩
        case measure => simp [intOf]; omega
    · have hf : R = (i : Int) := by rw [← HP.out]; exact bs_done _ _ _ _ (by omega)
      subst hf
      clear HP HR
      go_wp2
      go_ret
      exact ⟨rfl, hB⟩

theorem above_asked_to (Bp Br : Nat) (p q : P3) (lv x : Int) (t : Bool) (w : World) (h : AskedA w Bp Br p q lv) (hx : 0 ≤ x) (hx' : x ≤ 1000000) (ht : aboveSo p q lv x = t) :
    Calls Try.prog 110 #[.int .i64 x, .pointer (some ⟨Bp, 0, none⟩), .pointer (some ⟨Br, 0, none⟩)] w fun e w' => e = .returned (.bool t) ∧ Below w.heap.size w w' := by
  subst ht; exact above_asked Bp Br p q lv x w h hx hx'

theorem above_search_int (B3 B5 B7 Bp Br : Nat) (p q : P3) (lv a d : Int) (first : Bool) (w : World) (h : aboveTurn w B3 B5 B7 Bp Br p q lv a first) (ha : 0 ≤ a) (hd : 0 ≤ d) (had : a + d ≤ 1000000) :
    Calls Try.prog 127 #[.int .i64 d, aboveTurnFn B3 B5 B7] w fun e w' => e = .returned (.int .i64 (bs (fun i => !(aboveSo p q lv (a + i) == first)) d.toNat 0 d)) ∧ Below w.heap.size w w' := by
  obtain ⟨n, rfl⟩ := Int.eq_ofNat_of_zero_le hd
  exact above_search B3 B5 B7 Bp Br p q lv a n first w h ha had

set_option maxRecDepth 100000 in
set_option maxHeartbeats 2000000 in
theorem above_stretch (Bp Br : Nat) (p q : P3) (lv : Int) (w : World) (h : AskedA w Bp Br p q lv) (hab : p.1 ≤ q.1) :
    Calls Try.prog 104 #[pv p q, aboveFn Bp Br] w fun e w' => e = .returned (rv (stretchS (aboveSo p q lv) p.1 q.1).1 (stretchS (aboveSo p q lv) p.1 q.1).2) ∧ Below w.heap.size w w' := by
  obtain ⟨o1, o2, _, _, _, _⟩ := h.2.2.1
  obtain ⟨o3, o4, _, _, _, _⟩ := h.2.2.2
  have HA := Lib.hid h; clear h
  generalize hf : aboveSo p q lv p.1 = f
  generalize hs : aboveSo p q lv q.1 = s
  generalize hR : stretchS (aboveSo p q lv) p.1 q.1 = R
  have HF := Lib.hid hf; have HS := Lib.hid hs; have HR := Lib.hid hR; clear hf hs hR
  go_enter Try.func104, Try.ntmps104
  go_wp2_with fail
  go_region
  go_wp2_with fail
  have b3 := ((Blk.new (w.alloc (.cells (pCells p q) 111)) 113 #[aboveFn Bp Br]).alloc (.cells #[.int .i64 0, .int .i64 0] 23)).alloc (.cells #[.int .i64 p.1] 3)
  have b4 := (Blk.new ((w.alloc (.cells (pCells p q) 111)).alloc (.cells #[aboveFn Bp Br] 113)) 23 #[.int .i64 0, .int .i64 0]).alloc (.cells #[.int .i64 p.1] 3)
  have b5 := Blk.new (((w.alloc (.cells (pCells p q) 111)).alloc (.cells #[aboveFn Bp Br] 113)).alloc (.cells #[.int .i64 0, .int .i64 0] 23)) 3 #[.int .i64 p.1]
  have hE : Below w.heap.size w ((((w.alloc (.cells (pCells p q) 111)).alloc (.cells #[aboveFn Bp Br] 113)).alloc (.cells #[.int .i64 0, .int .i64 0] 23)).alloc (.cells #[.int .i64 p.1] 3)) := below_a2 (below_a2 (Below.refl _ _))
  have hsz : ((((w.alloc (.cells (pCells p q) 111)).alloc (.cells #[aboveFn Bp Br] 113)).alloc (.cells #[.int .i64 0, .int .i64 0] 23)).alloc (.cells #[.int .i64 p.1] 3)).drew.heap.size = w.heap.size + 4 := by show _ = _; simp [World.drew]
  have b3 := b3.drew
  have b4 := b4.drew
  have b5 := b5.drew
  have hE := hE.drew
  simp only [World.size_alloc] at b3 b4 b5
  obtain ⟨W4, hW4⟩ : ∃ W4, ((((w.alloc (.cells (pCells p q) 111)).alloc (.cells #[aboveFn Bp Br] 113)).alloc (.cells #[.int .i64 0, .int .i64 0] 23)).alloc (.cells #[.int .i64 p.1] 3)).drew = W4 := ⟨_, rfl⟩
  rw [hW4] at b3 b4 b5 hE hsz ⊢
  clear hW4
  have hA4 := HA.out.below hE
  refine (above_asked_to Bp Br p q lv p.1 f W4 hA4 o1 o2 HF.out).mono ?_
  rintro e W5 ⟨rfl, hb5⟩
  have c3 := b3.below hb5 b3.lt
  have c4 := b4.below hb5 b4.lt
  have c5 := b5.below hb5 b5.lt
  have hA5 := hA4.below hb5
  have hE5 := below_then hE hb5
  have hz5 : w.heap.size + 1 + 1 + 1 < W5.heap.size := by have := hb5.size; omega
  clear b3 b4 b5 hA4 hE hb5 hsz
  have d3 := c3.alloc (.cells #[.bool f] 4)
  have d4 := c4.alloc (.cells #[.bool f] 4)
  have d5 := c5.alloc (.cells #[.bool f] 4)
  have d7 := Blk.new W5 4 #[.bool f]
  have hA6 := hA5.below ((Below.refl _ _).alloc (Nat.le_refl _) (.cells #[.bool f] 4))
  have hE6 := below_then hE5 ((Below.refl _ _).alloc (Nat.le_refl _) (.cells #[.bool f] 4))
  have x3 := c3.cell 0
  have x5 := c5.cell 0
  simp at x3 x5
  have C3 := Lib.hid d3; have C4 := Lib.hid d4; have C5 := Lib.hid d5; have C7 := Lib.hid d7; have A6 := Lib.hid hA6; have E6 := Lib.hid hE6
  clear c3 c4 c5 d3 d4 d5 d7 hA5 hA6 hE5 hE6
  go_wp2_with fail
  obtain ⟨W6, hW6⟩ : ∃ W6, W5.alloc (.cells #[.bool f] 4) = W6 := ⟨_, rfl⟩
  rw [hW6] at C3 C4 C5 C7 A6 E6 ⊢
  clear hW6 x3 x5
  have e3 := C3.out.cell 0
  have e5 := C5.out.cell 0
  have e7 := C7.out.cell 0
  have l3 := C3.out.lt
  have l5 := C5.out.lt
  have l7 := C7.out.lt
  simp at e3 e5 e7
  have hd3 : w.heap.size + 1 < W6.drew.heap.size := l3
  have hd5 : w.heap.size + 1 + 1 + 1 < W6.drew.heap.size := l5
  have hd7 : W5.heap.size < W6.drew.heap.size := l7
  go_region_held3 (fun w' => w'.cell? ⟨w.heap.size + 1, 0, none⟩ = some (aboveFn Bp Br) ∧ w'.cell? ⟨W5.heap.size, 0, none⟩ = some (.bool f))
    (first | (go_keep; done) | exact ⟨((bcell hb7).1 _ _ hd3).trans (‹_ ∧ _›).1, ((bcell hb7).1 _ _ hd7).trans (‹_ ∧ _›).2⟩)
    (first | (go_at_call 110; refine (above_asked_to Bp Br p q lv q.1 s W6.drew A6.out.drew o3 o4 HS.out).mono ?_; rintro e W7 ⟨rfl, hb7⟩))
  have D3 := C3.out.drew.below hb7 hd3
  have D4 := C4.out.drew.below hb7 (show w.heap.size + 1 + 1 < W6.drew.heap.size from C4.out.lt)
  have D5 := C5.out.drew.below hb7 hd5
  have D7 := C7.out.drew.below hb7 hd7
  have A7 := A6.out.drew.below hb7
  have E7 := below_then E6.out (below_d hb7)
  have y5 := D5.cell 0
  have y7 := D7.cell 0
  have r0 := D4.cell 0
  have r1 := D4.cell 1
  have f0 := D4.frozen 0
  have f1 := D4.frozen 1
  simp at y5 y7 r0 r1
  have m5 := D5.lt
  have m7 := D7.lt
  have HT := Lib.hid (show aboveTurn W7 (w.heap.size + 1) (w.heap.size + 1 + 1 + 1) W5.heap.size Bp Br p q lv p.1 f from ⟨D3, D5, D7, A7⟩)
  have H4 := Lib.hid D4
  have H7 := Lib.hid E7
  clear C3 C4 C5 C7 A6 E6 D3 D4 D5 D7 A7 E7 hb7 hd3 hd5 hd7 e3 e5 e7 l3 l5 l7
  have w1 : IntKind.i64.wrap (q.1 - p.1) = q.1 - p.1 := IntWalk.i64_in _ ⟨by omega, by omega⟩
  have hbr := bs_range (fun i => !(aboveSo p q lv (p.1 + i) == f)) (q.1 - p.1).toNat 0 (q.1 - p.1) (by omega)
  have hsize : w.heap.size ≤ W7.heap.size := by omega
  cases f <;> cases s
  · have hr : R = (q.1 + 1, q.1) := by rw [← HR.out]; unfold stretchS; rw [HF.out, HS.out]; simp
    have HRR := Lib.hid hr; clear HR HF HS hr hbr HT
    go_wp2
    refine bodyPost_ret (v := rv (q.1 + 1) q.1) (by simp [results, Try.results104, go_sem, r0, r1]) rfl ⟨by rw [HRR.out], ?_⟩
    exact (H7.out.setCell (p := ⟨w.heap.size + 1 + 1, 0, none⟩) (by simp; omega) _).setCell (p := ⟨w.heap.size + 1 + 1, 1, none⟩) (by simp; omega) _
  · have hr : R = (p.1 + bs (fun i => !(aboveSo p q lv (p.1 + i) == false)) (q.1 - p.1).toNat 0 (q.1 - p.1), q.1) := by rw [← HR.out]; unfold stretchS; rw [HF.out, HS.out]; simp
    have HRR := Lib.hid hr; clear HR HF HS hr
    have HS8 := Lib.hid (above_search_int (w.heap.size + 1) (w.heap.size + 1 + 1 + 1) W5.heap.size Bp Br p q lv p.1 (q.1 - p.1) false W7.drew HT.out o1 (by omega) (by omega))
    generalize hB : bs (fun i => !(aboveSo p q lv (p.1 + i) == false)) (q.1 - p.1).toNat 0 (q.1 - p.1) = T at *
    have w2 : IntKind.i64.wrap (p.1 + T) = p.1 + T := IntWalk.i64_in _ ⟨by omega, by omega⟩
    clear hB HT
    go_wp2_with fail
    go_region_held3 (fun w' => w'.cell? ⟨w.heap.size + 1 + 1 + 1, 0, none⟩ = some (.int .i64 p.1) ∧ w'.cell? ⟨W5.heap.size, 0, none⟩ = some (.bool false))
      (first | (go_keep; done) | exact ⟨((bcell hb8).1 _ _ (show w.heap.size + 1 + 1 + 1 < W7.drew.heap.size from m5)).trans (‹_ ∧ _›).1, ((bcell hb8).1 _ _ (show W5.heap.size < W7.drew.heap.size from m7)).trans (‹_ ∧ _›).2⟩)
      (first | (go_at_call 127; refine (HS8.out).mono ?_; rintro e W8 ⟨rfl, hb8⟩))
    have J4 := H4.out.drew.below hb8 (show w.heap.size + 1 + 1 < W7.drew.heap.size from H4.out.lt)
    have z7 := ((bcell hb8).1 W5.heap.size 0 (show W5.heap.size < W7.drew.heap.size from m7)).trans y7
    have z5 := ((bcell hb8).1 (w.heap.size + 1 + 1 + 1) 0 (show w.heap.size + 1 + 1 + 1 < W7.drew.heap.size from m5)).trans y5
    have q0 := J4.cell 0
    have q1 := J4.cell 1
    have g0 := J4.frozen 0
    have g1 := J4.frozen 1
    simp at q0 q1
    have H8 := Lib.hid (below_then H7.out (below_d hb8))
    clear hb8 J4 y5 y7 r0 r1 f0 f1
    go_wp2
    refine bodyPost_ret (v := rv (p.1 + T) q.1) (by simp [results, Try.results104, go_sem, q0, q1]) rfl ⟨by rw [HRR.out], ?_⟩
    exact (H8.out.setCell (p := ⟨w.heap.size + 1 + 1, 0, none⟩) (by simp; omega) _).setCell (p := ⟨w.heap.size + 1 + 1, 1, none⟩) (by simp; omega) _
  · have hr : R = (p.1, p.1 + bs (fun i => !(aboveSo p q lv (p.1 + i) == true)) (q.1 - p.1).toNat 0 (q.1 - p.1) - 1) := by rw [← HR.out]; unfold stretchS; rw [HF.out, HS.out]; simp
    have HRR := Lib.hid hr; clear HR HF HS hr
    have HS8 := Lib.hid (above_search_int (w.heap.size + 1) (w.heap.size + 1 + 1 + 1) W5.heap.size Bp Br p q lv p.1 (q.1 - p.1) true W7.drew HT.out o1 (by omega) (by omega))
    generalize hB : bs (fun i => !(aboveSo p q lv (p.1 + i) == true)) (q.1 - p.1).toNat 0 (q.1 - p.1) = T at *
    have w2 : IntKind.i64.wrap (p.1 + T) = p.1 + T := IntWalk.i64_in _ ⟨by omega, by omega⟩
    clear hB HT
    go_wp2_with fail
    go_region_held3 (fun w' => w'.cell? ⟨w.heap.size + 1 + 1 + 1, 0, none⟩ = some (.int .i64 p.1) ∧ w'.cell? ⟨W5.heap.size, 0, none⟩ = some (.bool true))
      (first | (go_keep; done) | exact ⟨((bcell hb8).1 _ _ (show w.heap.size + 1 + 1 + 1 < W7.drew.heap.size from m5)).trans (‹_ ∧ _›).1, ((bcell hb8).1 _ _ (show W5.heap.size < W7.drew.heap.size from m7)).trans (‹_ ∧ _›).2⟩)
      (first | (go_at_call 127; refine (HS8.out).mono ?_; rintro e W8 ⟨rfl, hb8⟩))
    have J4 := H4.out.drew.below hb8 (show w.heap.size + 1 + 1 < W7.drew.heap.size from H4.out.lt)
    have z7 := ((bcell hb8).1 W5.heap.size 0 (show W5.heap.size < W7.drew.heap.size from m7)).trans y7
    have z5 := ((bcell hb8).1 (w.heap.size + 1 + 1 + 1) 0 (show w.heap.size + 1 + 1 + 1 < W7.drew.heap.size from m5)).trans y5
    have q0 := J4.cell 0
    have q1 := J4.cell 1
    have g0 := J4.frozen 0
    have g1 := J4.frozen 1
    simp at q0 q1
    have H8 := Lib.hid (below_then H7.out (below_d hb8))
    clear hb8 J4 y5 y7 r0 r1 f0 f1
    go_wp2
    refine bodyPost_ret (v := rv p.1 (p.1 + T - 1)) (by simp [results, Try.results104, go_sem, q0, q1]) rfl ⟨by rw [HRR.out], ?_⟩
    exact (H8.out.setCell (p := ⟨w.heap.size + 1 + 1, 0, none⟩) (by simp; omega) _).setCell (p := ⟨w.heap.size + 1 + 1, 1, none⟩) (by simp; omega) _
  · have hr : R = (p.1, q.1) := by rw [← HR.out]; unfold stretchS; rw [HF.out, HS.out]; simp
    have HRR := Lib.hid hr; clear HR HF HS hr hbr HT
    go_wp2
    refine bodyPost_ret (v := rv p.1 q.1) (by simp [results, Try.results104, go_sem, r0, r1]) rfl ⟨by rw [HRR.out], ?_⟩
    exact (H7.out.setCell (p := ⟨w.heap.size + 1 + 1, 0, none⟩) (by simp; omega) _).setCell (p := ⟨w.heap.size + 1 + 1, 1, none⟩) (by simp; omega) _

set_option maxRecDepth 100000 in
set_option maxHeartbeats 2000000 in
/-- the closure that Above hands to collect -/
theorem abovePiece (Br : Nat) (p q : P3) (lv : Int) (w : World) (h : Blk w Br 3 #[.int .i64 lv]) (hp : Okp p) (hq : Okp q) (hab : p.1 ≤ q.1) :
    Calls Try.prog 109 #[pv p q, .pointer (some ⟨Br, 0, none⟩)] w fun e w' => e = .returned (rv (aboveS lv p q).1 (aboveS lv p q).2) ∧ Below w.heap.size w w' := by
  have bp := (Blk.new w 111 (pCells p q)).alloc (.cells #[.int .i64 0, .int .i64 0] 23)
  have br := (Blk.new (w.alloc (.cells (pCells p q) 111)) 23 #[.int .i64 0, .int .i64 0])
  have bb := (h.alloc (.cells (pCells p q) 111)).alloc (.cells #[.int .i64 0, .int .i64 0] 23)
  have hE : Below w.heap.size w ((w.alloc (.cells (pCells p q) 111)).alloc (.cells #[.int .i64 0, .int .i64 0] 23)) := below_a2 (Below.refl _ _)
  simp only [World.size_alloc] at br
  have HP := Lib.hid bp; have HR := Lib.hid br; have HB := Lib.hid bb; have HE := Lib.hid hE
  have HO := Lib.hid (And.intro hp (And.intro hq hab))
  clear bp br bb hE h hp hq
  generalize hS1 : aboveS lv p q = s1
  have H1 := Lib.hid hS1
  clear hS1
  go_enter Try.func109, Try.ntmps109
  go_wp2_with fail
  have hz : w.heap.size + 2 = ((w.alloc (.cells (pCells p q) 111)).alloc (.cells #[.int .i64 0, .int .i64 0] 23)).heap.size := by simp
  obtain ⟨W1, hW1⟩ : ∃ W1, ((w.alloc (.cells (pCells p q) 111)).alloc (.cells #[.int .i64 0, .int .i64 0] 23)) = W1 := ⟨_, rfl⟩
  rw [hW1] at HP HR HB HE hz ⊢
  clear hW1
  have hA1 : AskedA W1 w.heap.size Br p q lv := ⟨HP.out, HB.out, HO.out.1, HO.out.2.1⟩
  have C1 := above_stretch w.heap.size Br p q lv W1 hA1 HO.out.2.2
  rw [show stretchS (aboveSo p q lv) p.1 q.1 = s1 from H1.out] at C1
  refine C1.mono ?_
  rintro e W2 ⟨rfl, hb2⟩
  have r2 := HR.out.below hb2 HR.out.lt
  have hz2 : w.heap.size + 1 < W2.heap.size := by have := hb2.size; omega
  have q0 := r2.cell 0
  have q1 := r2.cell 1
  have f0 := r2.frozen 0
  have f1 := r2.frozen 1
  simp at q0 q1
  have HE2 := Lib.hid (below_then HE.out hb2)
  clear hb2 C1 hA1 r2
  go_wp2
  refine bodyPost_ret (v := rv s1.1 s1.2) (by simp [results, Try.results109, go_sem, q0, q1]) rfl ⟨rfl, ?_⟩
  exact ((HE2.out.setCell (p := ⟨w.heap.size + 1, 0, none⟩) (by simp) _).setCell (p := ⟨w.heap.size + 1, 1, none⟩) (by simp) _)

section
open Go.Shelf
attribute [local go_sem] Oper.semAt_some

/-- The closure of Above as a value. -/
@[reducible] def abovePFn (Br : Nat) : Value := .func (.func 109) #[] #[.pointer (some ⟨Br, 0, none⟩)]

set_option maxRecDepth 100000 in
set_option maxHeartbeats 4000000 in
theorem collect_above (b0 o n c Br : Nat) (ps : List P3) (xs : List Pr) (lv : Int) (w : World) (hn : n = ps.length) (h2 : 1 ≤ n) (hb : b0 < w.heap.size) (ht : tabOk ps = true) (hxs : xs.map (·.1) = pcs ps) (hc : PtsAt w b0 o ps)
    (hr : Blk w Br 3 #[.int .i64 lv]) :
    Calls Try.prog 102 #[tv (some ⟨b0, o, none⟩) n c, abovePFn Br] w fun e w' => GivesRuns w (runsF (aboveS lv) xs) e w' := by
  have h40 := (tabOk_len ht).2
  have hml : n ≤ maxLen := by unfold maxLen; omega
  have hn40 : n ≤ 40 := by omega
  have hbr := hr.lt
  have HN := Lib.hid hn; clear hn
  have HT := Lib.hid ht; clear ht
  have HX := Lib.hid hxs; clear hxs
  refine (callsIn_wide (n := 6)).1 ?_
  refine callsIn_of_wp_marks Try.func102 rfl trivial ?_ rfl
  simp only [Try.ntmps102, List.size_toArray, List.length_cons, List.length_nil, Nat.reduceAdd, Nat.reduceSub, Array.replicate_succ, Array.replicate_zero, List.push_toArray, List.append_toArray, List.nil_append, List.cons_append]
  gi_wp2_with (refine ⟨trivial, ?_⟩; gi_at_call 111; refine (callsIn_wide.2 (pieces_any _ _ _ _)).mono ?_; rintro e w' ⟨rfl, rfl⟩)
  have bF := (((Blk.new (w.alloc (.cells #[.slice (some ⟨b0, o, none⟩) n c] 43)) 114 #[abovePFn Br]).alloc (.cells #[.slice none 0 0] 137)).alloc (.cells #[.pointer (some ⟨w.heap.size + 1 + 1, 0, none⟩)] 135)).alloc (.cells #[.slice (some ⟨b0, o, none⟩) n c] 43)
  have bG := ((Blk.new ((w.alloc (.cells #[.slice (some ⟨b0, o, none⟩) n c] 43)).alloc (.cells #[abovePFn Br] 114)) 137 #[.slice none 0 0]).alloc (.cells #[.pointer (some ⟨w.heap.size + 1 + 1, 0, none⟩)] 135)).alloc (.cells #[.slice (some ⟨b0, o, none⟩) n c] 43)
  have bL := (Blk.new (((w.alloc (.cells #[.slice (some ⟨b0, o, none⟩) n c] 43)).alloc (.cells #[abovePFn Br] 114)).alloc (.cells #[.slice none 0 0] 137)) 135 #[.pointer (some ⟨w.heap.size + 1 + 1, 0, none⟩)]).alloc (.cells #[.slice (some ⟨b0, o, none⟩) n c] 43)
  have bT := Blk.new ((((w.alloc (.cells #[.slice (some ⟨b0, o, none⟩) n c] 43)).alloc (.cells #[abovePFn Br] 114)).alloc (.cells #[.slice none 0 0] 137)).alloc (.cells #[.pointer (some ⟨w.heap.size + 1 + 1, 0, none⟩)] 135)) 43 #[.slice (some ⟨b0, o, none⟩) n c]
  simp only [World.size_alloc] at bF bG bL bT
  have hE : Below w.heap.size w (((((w.alloc (.cells #[.slice (some ⟨b0, o, none⟩) n c] 43)).alloc (.cells #[abovePFn Br] 114)).alloc (.cells #[.slice none 0 0] 137)).alloc (.cells #[.pointer (some ⟨w.heap.size + 1 + 1, 0, none⟩)] 135)).alloc (.cells #[.slice (some ⟨b0, o, none⟩) n c] 43)) := below_a3 (below_a2 (Below.refl _ _))
  have hsz : (((((w.alloc (.cells #[.slice (some ⟨b0, o, none⟩) n c] 43)).alloc (.cells #[abovePFn Br] 114)).alloc (.cells #[.slice none 0 0] 137)).alloc (.cells #[.pointer (some ⟨w.heap.size + 1 + 1, 0, none⟩)] 135)).alloc (.cells #[.slice (some ⟨b0, o, none⟩) n c] 43)).heap.size = w.heap.size + 5 := by simp
  obtain ⟨W0, hW0⟩ : ∃ W0, (((((w.alloc (.cells #[.slice (some ⟨b0, o, none⟩) n c] 43)).alloc (.cells #[abovePFn Br] 114)).alloc (.cells #[.slice none 0 0] 137)).alloc (.cells #[.pointer (some ⟨w.heap.size + 1 + 1, 0, none⟩)] 135)).alloc (.cells #[.slice (some ⟨b0, o, none⟩) n c] 43)) = W0 := ⟨_, rfl⟩
  rw [hW0] at bF bG bL bT hE hsz ⊢
  clear hW0
  have hc0 := hc.below hE hb
  have hr0 := hr.below hE hbr
  have HE := Lib.hid hE
  clear hE hc hr
  refine wpIn_rangeFunc_ownH rfl (by omega) (gf := 132) (lb := #[.pointer (some ⟨w.heap.size + 1 + 1 + 1 + 1, 0, none⟩)]) rfl trivial (enters_of Try.func132 (by kernel_rfl) rfl)
    (rise_stops xs (6 - 1) (by omega) (w.heap.size + 1 + 1 + 1 + 1) w.heap.size b0 o n c ps HN.out h2 hn40 HX.out hb W0 (by omega) (by omega) (bT.cell 0) hc0) belowK_t (belowK_b (by omega)) (Below.refl _ _) (fun _ => rfl)
    (fun pre W => (Blk W (w.heap.size + 1) 114 #[abovePFn Br] ∧ Blk W (w.heap.size + 1 + 1 + 1) 135 #[.pointer (some ⟨w.heap.size + 1 + 1, 0, none⟩)] ∧ Blk W Br 3 #[.int .i64 lv] ∧ RunsN (w.heap.size + 1 + 1) W0.heap.size W (runsF (aboveS lv) pre)) ∧ Below w.heap.size W0 W)
    (fun _ _ _ => False)
    (OwnFrom.and (Own.from (fun s X Y row hs hg hr => ⟨blk_own (β := Unit) _ _ (fun _ => _) () X Y row hs.1 hg hr, blk_own (β := Unit) _ _ (fun _ => _) () X Y row hs.2.1 hg hr, blk_own (β := Unit) _ _ (fun _ => _) () X Y row hs.2.2.1 hg hr, hs.2.2.2.grown hg hr⟩) _) (ownFrom_below (by omega) (by omega)))
    (fun _ _ _ _ _ hs _ _ => hs)
    ⟨⟨bF, bL, hr0, .inl ⟨rfl, bG⟩⟩, Below.refl _ _⟩
    (fun y a' W => ∃ Bx, w.heap.size + 1 + 1 + 1 < Bx ∧ Blk W Bx 111 #[.int .i64 y.1.1.1, .int .i64 y.1.1.2.1, .int .i64 y.1.1.2.2, .int .i64 y.1.2.1, .int .i64 y.1.2.2.1, .int .i64 y.1.2.2.2] ∧ a' = { tmps := #[tv (some ⟨b0, o, none⟩) n c, abovePFn Br, .pointer (some ⟨w.heap.size, 0, none⟩), .pointer (some ⟨w.heap.size + 1, 0, none⟩), .slice none 0 0, .pointer (some ⟨w.heap.size + 1 + 1 + 1, 0, none⟩), .pointer (some ⟨Bx, 0, none⟩), undef, .agg #[.slice none 0 0], .pointer (some ⟨w.heap.size + 1 + 1, 0, none⟩), .agg #[.slice (some ⟨b0, o, none⟩) n c], .func (.func 132) #[] #[.pointer (some ⟨w.heap.size + 1 + 1 + 1 + 1, 0, none⟩)], pv y.1.1 y.1.2, undef, undef, undef, undef, undef, undef, undef, undef, undef, undef, undef, undef, undef, undef, undef], defers := [] })
    (fun y a' _ X Y row hs hg hr => by
      obtain ⟨Bx, h1, h2, h3⟩ := hs
      exact ⟨Bx, h1, blk_own (β := Unit) _ _ (fun _ => _) () X Y row h2 hg (fun r e => (hr r e).2), h3⟩)
    ?assign ?body ?done ?stop
  case assign =>
    rintro l pre y W K ⟨⟨i1, i2, i3, i4⟩, hB1⟩ hK
    gi_wp2
    have hBs := hB1.size
    exact hK _ _ ((KeepsOthers.alloc _ _).from _) ((Below.refl _ W).alloc (by omega) _) ⟨⟨i1.alloc _, i2.alloc _, i3.alloc _, i4.alloc _⟩, hB1.alloc (by omega) _⟩ ⟨W.heap.size, by omega, Blk.new W 111 _, rfl⟩
  case body =>
    rintro l pre y a' W hl ⟨r, hr⟩ ⟨⟨i1, i2, i3, i4⟩, hB1⟩ ⟨Bx, hBx, bP, rfl⟩ hlt
    have x1 := i1.cell 0
    have x2 := i2.cell 0
    have p0 := bP.cell 0
    have p1 := bP.cell 1
    have p2 := bP.cell 2
    have p3 := bP.cell 3
    have p4 := bP.cell 4
    have p5 := bP.cell 5
    simp at x1 x2 p0 p1 p2 p3 p4 p5
    have hBs := hB1.size
    have J1 := Lib.hid i1; have J2 := Lib.hid i2; have J3 := Lib.hid i3; have J4 := Lib.hid i4; have JB := Lib.hid hB1
    clear i1 i2 i3 i4 hB1 bP
    have hy3 := y.2.2.2
    gi_wp2_with fail
    refine ⟨trivial, ?_⟩
    refine (CallsIn.inRound l (callsIn_wide.2 (abovePiece Br y.1.1 y.1.2 lv W J3.out y.2.1 y.2.2.1 (by omega)))).mono ?_
    rintro e W2 ⟨rfl, hb2⟩
    have hs2 := hb2.size
    generalize hR : aboveS lv y.1.1 y.1.2 = R
    obtain ⟨ra, rb⟩ := R
    dsimp only
    have HR := Lib.hid hR; clear hR
    have hOb : Below W.heap.size W (W2.alloc (.cells #[.int .i64 ra, .int .i64 rb] 23)) := below_then hb2 ((Below.refl _ _).alloc (Nat.le_refl _) _)
    have k1 := (J1.out.below hb2 J1.out.lt).alloc (.cells #[.int .i64 ra, .int .i64 rb] 23)
    have k2 := (J2.out.below hb2 J2.out.lt).alloc (.cells #[.int .i64 ra, .int .i64 rb] 23)
    have k3 := (J3.out.below hb2 J3.out.lt).alloc (.cells #[.int .i64 ra, .int .i64 rb] 23)
    have k4 := (J4.out.below hb2).alloc (.cells #[.int .i64 ra, .int .i64 rb] 23)
    have kR := Blk.new W2 23 #[.int .i64 ra, .int .i64 rb]
    have kB := below_then' JB.out hb2 ra rb (by omega)
    have kK := keeps_below W0.heap.size hOb
    have kN := hOb.mono (show w.heap.size ≤ W.heap.size by omega)
    have z1 := (J2.out.below hb2 J2.out.lt).cell 0
    simp at z1
    have L1 := Lib.hid k1; have L2 := Lib.hid k2; have L3 := Lib.hid k3; have L4 := Lib.hid k4; have LR := Lib.hid kR; have LB := Lib.hid kB; have LK := Lib.hid kK; have LN := Lib.hid kN
    clear x1 x2 p0 p1 p2 p3 p4 p5 k1 k2 k3 k4 kR kB kK kN hb2 hOb
    have hza : w.heap.size + 1 + 1 + 1 < W2.heap.size := by omega
    by_cases hle : ra ≤ rb
    · gi_wp2_with fail
      refine ⟨trivial, ?_⟩
      have hpl : pre.length ≤ 1000000 := by have h1 := HN.out; have h2' := congrArg List.length HX.out; have h3' := pcs_len ps; simp at h2'; omega
      refine (CallsIn.inRound l (callsIn_wide.2 (runsAdd_any (w.heap.size + 1 + 1) W0.heap.size (runsF (aboveS lv) pre) ra rb (W2.alloc (.cells #[.int .i64 ra, .int .i64 rb] 23)) L4.out (by simp; omega) (Nat.le_trans (runsF_len _ _) hpl)))).mono ?_
      rintro e W3 ⟨rfl, hA3, hM3, hK3⟩
      have m1 := L1.out.most hM3 (by omega) (by omega)
      have m2 := L2.out.most hM3 (by omega) (by omega)
      have m3 := L3.out.most hM3 (by omega) (by omega)
      have mN := hM3.below (n := w.heap.size) (by omega) (by omega)
      have H3 := Lib.hid hA3; have HK3 := Lib.hid hK3; have M1 := Lib.hid m1; have M2 := Lib.hid m2; have M3 := Lib.hid m3; have MN := Lib.hid mN
      clear hA3 hM3 hK3 m1 m2 m3 mN
      gi_wp2
      have q1 : KeepsFrom W0.heap.size W W3 := LK.out.trans (HK3.out.from _)
      have q2 : Below w.heap.size W W3 := LN.out.trans MN.out
      have q3 : Below w.heap.size W0 W3 := LB.out.trans MN.out
      refine ⟨q1, q2, ⟨M1.out, M2.out, M3.out, ?_⟩, q3⟩
      rw [runsF_snoc]; unfold runStep; rw [HR.out, if_pos hle]; exact .inr ⟨addRun_ne _ _, H3.out⟩
    · gi_wp2
      rw [← hsz]
      refine ⟨LK.out, LN.out, ⟨L1.out, L2.out, L3.out, ?_⟩, LB.out⟩
      rw [runsF_snoc]; unfold runStep; rw [HR.out, if_neg (show ¬ ra ≤ rb by omega)]; exact L4.out
  case done =>
    rintro D ys W hD rfl ⟨⟨i1, i2, i3, i4⟩, hB1⟩ hK
    have x2 := i2.cell 0
    simp at x2
    have hBs := hB1.size
    obtain ⟨v, hbv, hov⟩ : ∃ v, Blk W (w.heap.size + 1 + 1) 137 #[v] ∧ OwnRuns W0.heap.size W v (runsF (aboveS lv) ys) := by
      rcases i4 with ⟨h1, h2⟩ | ⟨_, v, h1, h2⟩
      · exact ⟨_, h2, by rw [h1]; exact World.ownsRow_nil _ _ _ _⟩
      · exact ⟨v, h1, h2⟩
    have x3 := hbv.cell 0
    simp at x3
    have JB := Lib.hid hB1; have JV := Lib.hid hov
    clear i1 i2 i3 i4 hB1 hov
    gi_wp2
    refine ⟨by simp, .inl ⟨_, _, rfl, run_takeDeferred hK, ?_⟩⟩
    refine ⟨v, ?_, v, rfl, (JV.out.grown (grownBy_putObj' W D (.deferred none)) (fun r e => by injection e with e; subst e; exact ⟨_, hK, rfl⟩)).mono (by omega), ?_⟩
    · simp [results, Try.f102, go_sem]
    · exact (HE.out.trans JB.out).trans (belowK_b (w := W0) (by omega) _ D _ _ (by omega) hK rfl rfl)
  case stop =>
    rintro D cd pre W _ _ h _
    exact h.elim
end
end Go.Proofs.Ythhcejcpopgkiaa
