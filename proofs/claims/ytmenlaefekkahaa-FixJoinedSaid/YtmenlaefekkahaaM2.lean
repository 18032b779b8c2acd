/- The contracts of Rising and Falling (fix and the specification): both give the same. Their condition: the table's points lie in memory. -/
import Derived.Test.YtmenlaefekkahaaL1
import Derived.Test.YtmenlaefekkahaaM1
import Derived.BigQuiet
import Derived.Deep.RegionHeld3
set_option linter.unusedVariables false
set_option linter.unusedSimpArgs false
set_option linter.constructorNameAsVariable false
namespace Go.Proofs.Ytmenlaefekkahaa
open Go.RowKit

/-- Whether so holds of each two neighbours. -/
def pairsOk (so : P3 → P3 → Bool) : List P3 → Bool
  | p :: q :: r => so p q && pairsOk so (q :: r)
  | _ => true
theorem pairsOk_at {so : P3 → P3 → Bool} {ps : List P3} {k : Nat} {p q : P3} (hp : ps[k]? = some p) (hq : ps[k + 1]? = some q) : pairsOk so (ps.drop k) = (so p q && pairsOk so (ps.drop (k + 1))) := by
  have h1 : k + 1 < ps.length := (List.getElem?_eq_some_iff.1 hq).1
  have e1 : ps.drop k = p :: ps.drop (k + 1) := by
    rw [List.drop_eq_getElem_cons (show k < ps.length by omega)]
    rw [List.getElem?_eq_getElem (by omega)] at hp; injection hp with hp; rw [hp]
  have e2 : ps.drop (k + 1) = q :: ps.drop (k + 1 + 1) := by
    rw [List.drop_eq_getElem_cons h1]
    rw [List.getElem?_eq_getElem h1] at hq; injection hq with hq; rw [hq]
  rw [e1, e2]; rfl
theorem pairsOk_end {so : P3 → P3 → Bool} {ps : List P3} {k : Nat} (h : ps.length ≤ k + 1) : pairsOk so (ps.drop k) = true := by
  have hl : (ps.drop k).length ≤ 1 := by rw [List.length_drop]; omega
  match ps.drop k, hl with
  | [], _ => rfl
  | [p], _ => rfl
abbrev ptv (p : P3) : Value := .agg #[.int .i64 p.1, .int .i64 p.2.1, .int .i64 p.2.2]
theorem keep7 {W2 w0 w1 : World} {T x0 x1 x2 x3 x4 x5 : Value} {A b o1 o2 : Nat} (hb : Below w0.heap.size w0 w1)
    (h : w0.cell? ⟨A, 0, none⟩ = some T ∧ w0.cell? ⟨b, o1, none⟩ = some x0 ∧ w0.cell? ⟨b, o1 + 1, none⟩ = some x1 ∧ w0.cell? ⟨b, o1 + 2, none⟩ = some x2 ∧ w0.cell? ⟨b, o2, none⟩ = some x3 ∧ w0.cell? ⟨b, o2 + 1, none⟩ = some x4 ∧ w0.cell? ⟨b, o2 + 2, none⟩ = some x5 ∧ Below W2.heap.size W2 w0) (h1 : A < W2.heap.size) (h2 : b < W2.heap.size) :
    w1.cell? ⟨A, 0, none⟩ = some T ∧ w1.cell? ⟨b, o1, none⟩ = some x0 ∧ w1.cell? ⟨b, o1 + 1, none⟩ = some x1 ∧ w1.cell? ⟨b, o1 + 2, none⟩ = some x2 ∧ w1.cell? ⟨b, o2, none⟩ = some x3 ∧ w1.cell? ⟨b, o2 + 1, none⟩ = some x4 ∧ w1.cell? ⟨b, o2 + 2, none⟩ = some x5 ∧ Below W2.heap.size W2 w1 := by
  obtain ⟨q0, q1, q2, q3, q4, q5, q6, q7⟩ := h
  have hl := Nat.lt_of_lt_of_le h1 q7.size
  have hm := Nat.lt_of_lt_of_le h2 q7.size
  obtain ⟨p, _⟩ := bcell hb
  exact ⟨(p _ _ hl).trans q0, (p _ _ hm).trans q1, (p _ _ hm).trans q2, (p _ _ hm).trans q3, (p _ _ hm).trans q4, (p _ _ hm).trans q5, (p _ _ hm).trans q6, below_then q7 hb⟩

/-- What Rising asks of two neighbours. -/
def risingSo (p q : P3) : Bool := decide (p.2.2 ≤ q.2.1)
def risingS (ps : List P3) : Bool := tabOk ps && pairsOk risingSo ps
theorem rising_ask (p q : P3) (w : World) : Calls Try.prog 99 #[ptv p, ptv q] w fun e w' => e = .returned (.bool (risingSo p q)) ∧ Below w.heap.size w w' := by
  unfold risingSo
  go_enter Try.func99, Try.ntmps99
  go_wp2
  go_ret
  exact ⟨rfl, below_a2 (Below.refl _ _)⟩
theorem rising_ask_to (p q : P3) (t : Bool) (w : World) (h : risingSo p q = t) : Calls Try.prog 99 #[ptv p, ptv q] w fun e w' => e = .returned (.bool t) ∧ Below w.heap.size w w' := by
  subst h; exact rising_ask p q w

set_option maxRecDepth 100000 in
set_option maxHeartbeats 4000000 in
theorem rising_each (A : Option Addr) (n c : Nat) (ps : List P3) (w : World) (hn : n = ps.length) (hm : n ≤ maxLen) (hp : Pts w A ps) :
    Calls Try.prog 98 #[tv A n c, .func (.func 99) #[] #[]] w fun e w' => e = .returned (.bool (risingS ps)) ∧ Below w.heap.size w w' := by
  have hE : Below w.heap.size w (w.alloc (.cells #[.slice A n c] 43)) := below_alloc1 _ _
  have bT := Blk.new w 43 #[.slice A n c]
  have HP := Lib.hid (hp.below hE); have HE := Lib.hid hE; have HT := Lib.hid bT
  clear hE bT
  by_cases ht : tabOk ps = true
  · have hl := (tabOk_len ht).1
    have h40 := (tabOk_len ht).2
    obtain ⟨b, o, rfl, hb, hc⟩ := hp.block hl
    have HC := Lib.hid hc; have HN := Lib.hid hn
    have hn40 : n ≤ 40 := by omega
    have CT : Hid (∀ W, Pts W (some ⟨b, o, none⟩) ps → Calls Try.prog 40 #[tv (some ⟨b, o, none⟩) n c] W fun e w' => e = .returned (.int .i64 0) ∧ Below W.heap.size W w') := Lib.hid fun W hW => by
      have h := checkTable_any _ n c ps W hn hm hW
      rw [if_pos ht] at h; exact h
    have hv : risingS ps = pairsOk risingSo ps := by unfold risingS; rw [ht]; rfl
    rw [hv]
    clear hp ht hc hn hv
    generalize hr : pairsOk risingSo ps = r
    have HR := Lib.hid hr; clear hr
    go_enter Try.func98, Try.ntmps98
    go_wp2_with fail
    refine (CT.out _ HP.out).mono ?_
    rintro e w1 ⟨rfl, hb1⟩
    have HT1 := Lib.hid (blkOn HT.out hb1); have HE1 := Lib.hid (below_then HE.out hb1)
    clear hb1 HP HE HT CT
    go_wp2_with fail
    go_loopw [5] (fun i wr => ∃ k : Nat, k + 1 ≤ n ∧ i = .int .i64 ((k : Int) + 1) ∧ Below w1.heap.size w1 wr ∧ Hid (pairsOk risingSo (ps.drop k) = r)) (fun i _ => n - (intOf i).toNat)
    case atStart => exact ⟨0, by have := HN.out; omega, rfl, Below.refl _ _, HR.out⟩
    case round =>
      obtain ⟨k, hk, rfl, hB, HK⟩ := hrel
      have hT := blkOn HT1.out hB
      have v0 := hT.cell 0
      have lA := hT.lt
      simp at v0
      have hbw : b < wr.heap.size := Nat.lt_of_lt_of_le (Nat.lt_of_lt_of_le hb HE1.out.size) hB.size
      by_cases hlt : k + 1 < n
      · obtain ⟨p, hp⟩ : ∃ p, ps[k]? = some p := ⟨_, List.getElem?_eq_getElem (by have := HN.out; omega)⟩
        obtain ⟨q, hq⟩ : ∃ q, ps[k + 1]? = some q := ⟨_, List.getElem?_eq_getElem (by have := HN.out; omega)⟩
        have hc' := (HC.out.below HE1.out hb).below hB (Nat.lt_of_lt_of_le hb HE1.out.size)
        obtain ⟨c0, c1, c2⟩ := hc' k p hp
        obtain ⟨d0, d1, d2⟩ := hc' (k + 1) q hq
        have HA := Lib.hid (pairsOk_at (so := risingSo) hp hq)
        have HB := Lib.hid hB
        clear hp hq hc' hB hT
        have s1 : IntKind.i64.wrap ((k : Int) + 1 - 1) = (k : Int) := by rw [IntWalk.i64_in _ ⟨by omega, by omega⟩]; omega
        have s2 : (0 : Int) ≤ (k : Int) := by omega
        have s7 : IntKind.i64.wrap (k : Int) = (k : Int) := IntWalk.i64_in _ ⟨by omega, by omega⟩
        have s3 : (k : Int) < (n : Int) := by omega
        have s4 : (k : Int) + 1 < (n : Int) := by omega
        have s5 : (0 : Int) ≤ (k : Int) + 1 := by omega
        have s6 : ((k : Int) + 1).toNat = k + 1 := by omega
        cases hso : risingSo p q
        · have hf : r = false := by rw [← HK.out, HA.out, hso]; rfl
          have HSO := Lib.hid hso
          subst hf
          clear HK HA HR hso
          go_wp2_with fail
          go_region_held3 (fun w' => w'.cell? ⟨w.heap.size, 0, none⟩ = some (.slice (some ⟨b, o, none⟩) n c) ∧ w'.cell? ⟨b, o + k * 3, none⟩ = some (.int .i64 p.1) ∧ w'.cell? ⟨b, o + k * 3 + 1, none⟩ = some (.int .i64 p.2.1) ∧ w'.cell? ⟨b, o + k * 3 + 2, none⟩ = some (.int .i64 p.2.2) ∧ w'.cell? ⟨b, o + (k + 1) * 3, none⟩ = some (.int .i64 q.1) ∧ w'.cell? ⟨b, o + (k + 1) * 3 + 1, none⟩ = some (.int .i64 q.2.1) ∧ w'.cell? ⟨b, o + (k + 1) * 3 + 2, none⟩ = some (.int .i64 q.2.2) ∧ Below wr.heap.size wr w')
            (first | exact ⟨v0, c0, c1, c2, d0, d1, d2, (Below.refl _ _).drew⟩ | exact keep7 (by assumption) (by assumption) lA hbw)
            (first
              | (go_at_call 99; refine (rising_ask_to p q false _ HSO.out).mono ?_; rintro e w5 ⟨rfl, hb5⟩; have T5 := keep7 (W2 := wr) (A := w.heap.size) (b := b) (o1 := o + k * 3) (o2 := o + (k + 1) * 3) hb5 (by assumption) lA hbw)
              | fail)
          all_goals go_wp2
          all_goals go_ret
          all_goals exact ⟨rfl, below_then (below_then HE1.out HB.out) T5.2.2.2.2.2.2.2⟩
        · have hP : pairsOk risingSo (ps.drop (k + 1)) = r := by rw [← HK.out, HA.out, hso]; rfl
          have HSO := Lib.hid hso; have HP2 := Lib.hid hP
          clear HK HA HR hso hP
          go_wp2_with fail
          go_region_held3 (fun w' => w'.cell? ⟨w.heap.size, 0, none⟩ = some (.slice (some ⟨b, o, none⟩) n c) ∧ w'.cell? ⟨b, o + k * 3, none⟩ = some (.int .i64 p.1) ∧ w'.cell? ⟨b, o + k * 3 + 1, none⟩ = some (.int .i64 p.2.1) ∧ w'.cell? ⟨b, o + k * 3 + 2, none⟩ = some (.int .i64 p.2.2) ∧ w'.cell? ⟨b, o + (k + 1) * 3, none⟩ = some (.int .i64 q.1) ∧ w'.cell? ⟨b, o + (k + 1) * 3 + 1, none⟩ = some (.int .i64 q.2.1) ∧ w'.cell? ⟨b, o + (k + 1) * 3 + 2, none⟩ = some (.int .i64 q.2.2) ∧ Below wr.heap.size wr w')
            (first | exact ⟨v0, c0, c1, c2, d0, d1, d2, (Below.refl _ _).drew⟩ | exact keep7 (by assumption) (by assumption) lA hbw)
            (first
              | (go_at_call 99; refine (rising_ask_to p q true _ HSO.out).mono ?_; rintro e w5 ⟨rfl, hb5⟩; have T5 := keep7 (W2 := wr) (A := w.heap.size) (b := b) (o1 := o + k * 3) (o2 := o + (k + 1) * 3) hb5 (by assumption) lA hbw)
              | fail)
          all_goals go_wp2
          all_goals go_roundw
          case rel => exact ⟨k + 1, by omega, by go_num, below_then HB.out T5.2.2.2.2.2.2.2, HP2⟩
          case measure => simp [intOf]; omega
      · have hf : r = true := by rw [← HK.out, pairsOk_end (by have := HN.out; omega)]
        have s4 : ¬ (k : Int) + 1 < (n : Int) := by omega
        subst hf
        clear HK HR
        go_wp2
        go_ret
        exact ⟨rfl, below_then HE1.out hB⟩
  · have hf : risingS ps = false := by unfold risingS; simp [ht]
    have CT : Hid (∀ W, Pts W A ps → Calls Try.prog 40 #[tv A n c] W fun e w' => e = .returned (.int .i64 11) ∧ Below W.heap.size W w') := Lib.hid fun W hW => by
      have h := checkTable_any _ n c ps W hn hm hW
      rw [if_neg ht] at h; exact h
    rw [hf]
    clear hp ht hn hf
    go_enter Try.func98, Try.ntmps98
    go_wp2_with fail
    refine (CT.out _ HP.out).mono ?_
    rintro e w1 ⟨rfl, hb1⟩
    have HE1 := Lib.hid (below_then HE.out hb1)
    clear hb1
    go_wp2
    go_ret
    exact ⟨rfl, HE1.out⟩
theorem rising_any (A : Option Addr) (n c : Nat) (ps : List P3) (w : World) (hn : n = ps.length) (hm : n ≤ maxLen) (hp : Pts w A ps) :
    Calls Try.prog 44 #[tv A n c] w fun e w' => e = .returned (.bool (risingS ps)) ∧ Below w.heap.size w w' := by
  have hE : Below w.heap.size w (w.alloc (.cells #[.slice A n c] 43)) := below_alloc1 _ _
  have CE := Lib.hid (rising_each A n c ps _ hn hm (hp.below hE))
  have HE := Lib.hid hE
  generalize risingS ps = r at *
  clear hn hp hE
  go_enter Try.func44, Try.ntmps44
  go_wp2_with fail
  refine (CE.out).mono ?_
  rintro e w1 ⟨rfl, hb1⟩
  have HE1 := Lib.hid (below_then HE.out hb1)
  clear hb1
  go_wp2
  go_ret
  exact ⟨rfl, HE1.out⟩

set_option maxRecDepth 100000 in
set_option maxHeartbeats 4000000 in
theorem rrising_any (A : Option Addr) (n c : Nat) (ps : List P3) (w : World) (hn : n = ps.length) (hm : n ≤ maxLen) (hp : Pts w A ps) :
    Calls Try.prog 45 #[tv A n c] w fun e w' => e = .returned (.bool (risingS ps)) ∧ Below w.heap.size w w' := by
  have hE : Below w.heap.size w (w.alloc (.cells #[.slice A n c] 43)) := below_alloc1 _ _
  have bT := Blk.new w 43 #[.slice A n c]
  have HP := Lib.hid (hp.below hE); have HE := Lib.hid hE; have HT := Lib.hid bT
  clear hE bT
  by_cases ht : tabOk ps = true
  · have hl := (tabOk_len ht).1
    have h40 := (tabOk_len ht).2
    obtain ⟨b, o, rfl, hb, hc⟩ := hp.block hl
    have HC := Lib.hid hc; have HN := Lib.hid hn
    have hn40 : n ≤ 40 := by omega
    have CT : Hid (∀ W, Pts W (some ⟨b, o, none⟩) ps → Calls Try.prog 63 #[tv (some ⟨b, o, none⟩) n c] W fun e w' => e = .returned (.bool true) ∧ Below W.heap.size W w') := Lib.hid fun W hW => by
      have h := validTable_any _ n c ps W hn hm hW
      rw [ht] at h; exact h
    have hv : risingS ps = pairsOk risingSo ps := by unfold risingS; rw [ht]; rfl
    rw [hv]
    clear hp ht hc hn hv
    generalize hr : pairsOk risingSo ps = r
    have HR := Lib.hid hr; clear hr
    go_enter Try.func45, Try.ntmps45
    go_wp2_with fail
    refine (CT.out _ HP.out).mono ?_
    rintro e w1 ⟨rfl, hb1⟩
    have HT1 := Lib.hid (blkOn HT.out hb1); have HE1 := Lib.hid (below_then HE.out hb1)
    clear hb1 HP HE HT CT
    go_wp2_with fail
    go_loopw [3] (fun i wr => ∃ k : Nat, k + 1 ≤ n ∧ i = .int .i64 ((k : Int) + 1) ∧ Below w1.heap.size w1 wr ∧ Hid (pairsOk risingSo (ps.drop k) = r)) (fun i _ => n - (intOf i).toNat)
    case atStart => exact ⟨0, by have := HN.out; omega, rfl, Below.refl _ _, HR.out⟩
    case round =>
      obtain ⟨k, hk, rfl, hB, HK⟩ := hrel
      have hT := blkOn HT1.out hB
      have v0 := hT.cell 0
      have lA := hT.lt
      simp at v0
      by_cases hlt : k + 1 < n
      · obtain ⟨p, hp⟩ : ∃ p, ps[k]? = some p := ⟨_, List.getElem?_eq_getElem (by have := HN.out; omega)⟩
        obtain ⟨q, hq⟩ : ∃ q, ps[k + 1]? = some q := ⟨_, List.getElem?_eq_getElem (by have := HN.out; omega)⟩
        have hc' := (HC.out.below HE1.out hb).below hB (Nat.lt_of_lt_of_le hb HE1.out.size)
        obtain ⟨c0, c1, c2⟩ := hc' k p hp
        obtain ⟨d0, d1, d2⟩ := hc' (k + 1) q hq
        have HA := Lib.hid (pairsOk_at (so := risingSo) hp hq)
        have HB := Lib.hid hB
        clear hp hq hc' hB hT
        have s1 : IntKind.i64.wrap ((k : Int) + 1 - 1) = (k : Int) := by rw [IntWalk.i64_in _ ⟨by omega, by omega⟩]; omega
        have s2 : (0 : Int) ≤ (k : Int) := by omega
        have s7 : IntKind.i64.wrap (k : Int) = (k : Int) := IntWalk.i64_in _ ⟨by omega, by omega⟩
        have s3 : (k : Int) < (n : Int) := by omega
        have s4 : (k : Int) + 1 < (n : Int) := by omega
        have s5 : (0 : Int) ≤ (k : Int) + 1 := by omega
        have s6 : ((k : Int) + 1).toNat = k + 1 := by omega
        by_cases hso : p.2.2 ≤ q.2.1
        · have hP : pairsOk risingSo (ps.drop (k + 1)) = r := by rw [← HK.out, HA.out]; unfold risingSo; rw [decide_eq_true hso]; rfl
          have HP2 := Lib.hid hP
          have t1 : decide (q.2.1 < p.2.2) = false := decide_eq_false (by omega)
          have t2 : ¬ (q.2.1 < p.2.2) := by omega
          clear HK HA HR hso hP
          go_wp2_with fail
          go_quiet (fail)
          go_wp2
          go_roundw
          case rel => exact ⟨k + 1, by omega, by go_num, below_drewM HB.out _, HP2⟩
          case measure => simp [intOf]; omega
        · have hf : r = false := by rw [← HK.out, HA.out]; unfold risingSo; rw [decide_eq_false hso]; rfl
          have t1 : decide (q.2.1 < p.2.2) = true := decide_eq_true (by omega)
          have t2 : q.2.1 < p.2.2 := by omega
          subst hf
          clear HK HA HR hso
          go_wp2_with fail
          go_quiet (fail)
          go_wp2
          go_ret
          exact ⟨rfl, below_then HE1.out (below_drewM HB.out _)⟩
      · have hf : r = true := by rw [← HK.out, pairsOk_end (by have := HN.out; omega)]
        have s4 : ¬ (k : Int) + 1 < (n : Int) := by omega
        subst hf
        clear HK HR
        go_wp2
        go_ret
        exact ⟨rfl, below_then HE1.out hB⟩
  · have hf : risingS ps = false := by unfold risingS; simp [ht]
    have CT : Hid (∀ W, Pts W A ps → Calls Try.prog 63 #[tv A n c] W fun e w' => e = .returned (.bool false) ∧ Below W.heap.size W w') := Lib.hid fun W hW => by
      have h := validTable_any _ n c ps W hn hm hW
      rw [show tabOk ps = false by simpa using ht] at h; exact h
    rw [hf]
    clear hp ht hn hf
    go_enter Try.func45, Try.ntmps45
    go_wp2_with fail
    refine (CT.out _ HP.out).mono ?_
    rintro e w1 ⟨rfl, hb1⟩
    have HE1 := Lib.hid (below_then HE.out hb1)
    clear hb1
    go_wp2
    go_ret
    exact ⟨rfl, HE1.out⟩

/-- What Falling asks of two neighbours. -/
def fallingSo (p q : P3) : Bool := decide (q.2.2 ≤ p.2.1)
def fallingS (ps : List P3) : Bool := tabOk ps && pairsOk fallingSo ps
theorem falling_ask (p q : P3) (w : World) : Calls Try.prog 100 #[ptv p, ptv q] w fun e w' => e = .returned (.bool (fallingSo p q)) ∧ Below w.heap.size w w' := by
  unfold fallingSo
  go_enter Try.func100, Try.ntmps100
  go_wp2
  go_ret
  exact ⟨rfl, below_a2 (Below.refl _ _)⟩
theorem falling_ask_to (p q : P3) (t : Bool) (w : World) (h : fallingSo p q = t) : Calls Try.prog 100 #[ptv p, ptv q] w fun e w' => e = .returned (.bool t) ∧ Below w.heap.size w w' := by
  subst h; exact falling_ask p q w

set_option maxRecDepth 100000 in
set_option maxHeartbeats 4000000 in
theorem falling_each (A : Option Addr) (n c : Nat) (ps : List P3) (w : World) (hn : n = ps.length) (hm : n ≤ maxLen) (hp : Pts w A ps) :
    Calls Try.prog 98 #[tv A n c, .func (.func 100) #[] #[]] w fun e w' => e = .returned (.bool (fallingS ps)) ∧ Below w.heap.size w w' := by
  have hE : Below w.heap.size w (w.alloc (.cells #[.slice A n c] 43)) := below_alloc1 _ _
  have bT := Blk.new w 43 #[.slice A n c]
  have HP := Lib.hid (hp.below hE); have HE := Lib.hid hE; have HT := Lib.hid bT
  clear hE bT
  by_cases ht : tabOk ps = true
  · have hl := (tabOk_len ht).1
    have h40 := (tabOk_len ht).2
    obtain ⟨b, o, rfl, hb, hc⟩ := hp.block hl
    have HC := Lib.hid hc; have HN := Lib.hid hn
    have hn40 : n ≤ 40 := by omega
    have CT : Hid (∀ W, Pts W (some ⟨b, o, none⟩) ps → Calls Try.prog 40 #[tv (some ⟨b, o, none⟩) n c] W fun e w' => e = .returned (.int .i64 0) ∧ Below W.heap.size W w') := Lib.hid fun W hW => by
      have h := checkTable_any _ n c ps W hn hm hW
      rw [if_pos ht] at h; exact h
    have hv : fallingS ps = pairsOk fallingSo ps := by unfold fallingS; rw [ht]; rfl
    rw [hv]
    clear hp ht hc hn hv
    generalize hr : pairsOk fallingSo ps = r
    have HR := Lib.hid hr; clear hr
    go_enter Try.func98, Try.ntmps98
    go_wp2_with fail
    refine (CT.out _ HP.out).mono ?_
    rintro e w1 ⟨rfl, hb1⟩
    have HT1 := Lib.hid (blkOn HT.out hb1); have HE1 := Lib.hid (below_then HE.out hb1)
    clear hb1 HP HE HT CT
    go_wp2_with fail
    go_loopw [5] (fun i wr => ∃ k : Nat, k + 1 ≤ n ∧ i = .int .i64 ((k : Int) + 1) ∧ Below w1.heap.size w1 wr ∧ Hid (pairsOk fallingSo (ps.drop k) = r)) (fun i _ => n - (intOf i).toNat)
    case atStart => exact ⟨0, by have := HN.out; omega, rfl, Below.refl _ _, HR.out⟩
    case round =>
      obtain ⟨k, hk, rfl, hB, HK⟩ := hrel
      have hT := blkOn HT1.out hB
      have v0 := hT.cell 0
      have lA := hT.lt
      simp at v0
      have hbw : b < wr.heap.size := Nat.lt_of_lt_of_le (Nat.lt_of_lt_of_le hb HE1.out.size) hB.size
      by_cases hlt : k + 1 < n
      · obtain ⟨p, hp⟩ : ∃ p, ps[k]? = some p := ⟨_, List.getElem?_eq_getElem (by have := HN.out; omega)⟩
        obtain ⟨q, hq⟩ : ∃ q, ps[k + 1]? = some q := ⟨_, List.getElem?_eq_getElem (by have := HN.out; omega)⟩
        have hc' := (HC.out.below HE1.out hb).below hB (Nat.lt_of_lt_of_le hb HE1.out.size)
        obtain ⟨c0, c1, c2⟩ := hc' k p hp
        obtain ⟨d0, d1, d2⟩ := hc' (k + 1) q hq
        have HA := Lib.hid (pairsOk_at (so := fallingSo) hp hq)
        have HB := Lib.hid hB
        clear hp hq hc' hB hT
        have s1 : IntKind.i64.wrap ((k : Int) + 1 - 1) = (k : Int) := by rw [IntWalk.i64_in _ ⟨by omega, by omega⟩]; omega
        have s2 : (0 : Int) ≤ (k : Int) := by omega
        have s7 : IntKind.i64.wrap (k : Int) = (k : Int) := IntWalk.i64_in _ ⟨by omega, by omega⟩
        have s3 : (k : Int) < (n : Int) := by omega
        have s4 : (k : Int) + 1 < (n : Int) := by omega
        have s5 : (0 : Int) ≤ (k : Int) + 1 := by omega
        have s6 : ((k : Int) + 1).toNat = k + 1 := by omega
        cases hso : fallingSo p q
        · have hf : r = false := by rw [← HK.out, HA.out, hso]; rfl
          have HSO := Lib.hid hso
          subst hf
          clear HK HA HR hso
          go_wp2_with fail
          go_region_held3 (fun w' => w'.cell? ⟨w.heap.size, 0, none⟩ = some (.slice (some ⟨b, o, none⟩) n c) ∧ w'.cell? ⟨b, o + k * 3, none⟩ = some (.int .i64 p.1) ∧ w'.cell? ⟨b, o + k * 3 + 1, none⟩ = some (.int .i64 p.2.1) ∧ w'.cell? ⟨b, o + k * 3 + 2, none⟩ = some (.int .i64 p.2.2) ∧ w'.cell? ⟨b, o + (k + 1) * 3, none⟩ = some (.int .i64 q.1) ∧ w'.cell? ⟨b, o + (k + 1) * 3 + 1, none⟩ = some (.int .i64 q.2.1) ∧ w'.cell? ⟨b, o + (k + 1) * 3 + 2, none⟩ = some (.int .i64 q.2.2) ∧ Below wr.heap.size wr w')
            (first | exact ⟨v0, c0, c1, c2, d0, d1, d2, (Below.refl _ _).drew⟩ | exact keep7 (by assumption) (by assumption) lA hbw)
            (first
              | (go_at_call 100; refine (falling_ask_to p q false _ HSO.out).mono ?_; rintro e w5 ⟨rfl, hb5⟩; have T5 := keep7 (W2 := wr) (A := w.heap.size) (b := b) (o1 := o + k * 3) (o2 := o + (k + 1) * 3) hb5 (by assumption) lA hbw)
              | fail)
          all_goals go_wp2
          all_goals go_ret
          all_goals exact ⟨rfl, below_then (below_then HE1.out HB.out) T5.2.2.2.2.2.2.2⟩
        · have hP : pairsOk fallingSo (ps.drop (k + 1)) = r := by rw [← HK.out, HA.out, hso]; rfl
          have HSO := Lib.hid hso; have HP2 := Lib.hid hP
          clear HK HA HR hso hP
          go_wp2_with fail
          go_region_held3 (fun w' => w'.cell? ⟨w.heap.size, 0, none⟩ = some (.slice (some ⟨b, o, none⟩) n c) ∧ w'.cell? ⟨b, o + k * 3, none⟩ = some (.int .i64 p.1) ∧ w'.cell? ⟨b, o + k * 3 + 1, none⟩ = some (.int .i64 p.2.1) ∧ w'.cell? ⟨b, o + k * 3 + 2, none⟩ = some (.int .i64 p.2.2) ∧ w'.cell? ⟨b, o + (k + 1) * 3, none⟩ = some (.int .i64 q.1) ∧ w'.cell? ⟨b, o + (k + 1) * 3 + 1, none⟩ = some (.int .i64 q.2.1) ∧ w'.cell? ⟨b, o + (k + 1) * 3 + 2, none⟩ = some (.int .i64 q.2.2) ∧ Below wr.heap.size wr w')
            (first | exact ⟨v0, c0, c1, c2, d0, d1, d2, (Below.refl _ _).drew⟩ | exact keep7 (by assumption) (by assumption) lA hbw)
            (first
              | (go_at_call 100; refine (falling_ask_to p q true _ HSO.out).mono ?_; rintro e w5 ⟨rfl, hb5⟩; have T5 := keep7 (W2 := wr) (A := w.heap.size) (b := b) (o1 := o + k * 3) (o2 := o + (k + 1) * 3) hb5 (by assumption) lA hbw)
              | fail)
          all_goals go_wp2
          all_goals go_roundw
          case rel => exact ⟨k + 1, by omega, by go_num, below_then HB.out T5.2.2.2.2.2.2.2, HP2⟩
          case measure => simp [intOf]; omega
      · have hf : r = true := by rw [← HK.out, pairsOk_end (by have := HN.out; omega)]
        have s4 : ¬ (k : Int) + 1 < (n : Int) := by omega
        subst hf
        clear HK HR
        go_wp2
        go_ret
        exact ⟨rfl, below_then HE1.out hB⟩
  · have hf : fallingS ps = false := by unfold fallingS; simp [ht]
    have CT : Hid (∀ W, Pts W A ps → Calls Try.prog 40 #[tv A n c] W fun e w' => e = .returned (.int .i64 11) ∧ Below W.heap.size W w') := Lib.hid fun W hW => by
      have h := checkTable_any _ n c ps W hn hm hW
      rw [if_neg ht] at h; exact h
    rw [hf]
    clear hp ht hn hf
    go_enter Try.func98, Try.ntmps98
    go_wp2_with fail
    refine (CT.out _ HP.out).mono ?_
    rintro e w1 ⟨rfl, hb1⟩
    have HE1 := Lib.hid (below_then HE.out hb1)
    clear hb1
    go_wp2
    go_ret
    exact ⟨rfl, HE1.out⟩
theorem falling_any (A : Option Addr) (n c : Nat) (ps : List P3) (w : World) (hn : n = ps.length) (hm : n ≤ maxLen) (hp : Pts w A ps) :
    Calls Try.prog 46 #[tv A n c] w fun e w' => e = .returned (.bool (fallingS ps)) ∧ Below w.heap.size w w' := by
  have hE : Below w.heap.size w (w.alloc (.cells #[.slice A n c] 43)) := below_alloc1 _ _
  have CE := Lib.hid (falling_each A n c ps _ hn hm (hp.below hE))
  have HE := Lib.hid hE
  generalize fallingS ps = r at *
  clear hn hp hE
  go_enter Try.func46, Try.ntmps46
  go_wp2_with fail
  refine (CE.out).mono ?_
  rintro e w1 ⟨rfl, hb1⟩
  have HE1 := Lib.hid (below_then HE.out hb1)
  clear hb1
  go_wp2
  go_ret
  exact ⟨rfl, HE1.out⟩

set_option maxRecDepth 100000 in
set_option maxHeartbeats 4000000 in
theorem rfalling_any (A : Option Addr) (n c : Nat) (ps : List P3) (w : World) (hn : n = ps.length) (hm : n ≤ maxLen) (hp : Pts w A ps) :
    Calls Try.prog 47 #[tv A n c] w fun e w' => e = .returned (.bool (fallingS ps)) ∧ Below w.heap.size w w' := by
  have hE : Below w.heap.size w (w.alloc (.cells #[.slice A n c] 43)) := below_alloc1 _ _
  have bT := Blk.new w 43 #[.slice A n c]
  have HP := Lib.hid (hp.below hE); have HE := Lib.hid hE; have HT := Lib.hid bT
  clear hE bT
  by_cases ht : tabOk ps = true
  · have hl := (tabOk_len ht).1
    have h40 := (tabOk_len ht).2
    obtain ⟨b, o, rfl, hb, hc⟩ := hp.block hl
    have HC := Lib.hid hc; have HN := Lib.hid hn
    have hn40 : n ≤ 40 := by omega
    have CT : Hid (∀ W, Pts W (some ⟨b, o, none⟩) ps → Calls Try.prog 63 #[tv (some ⟨b, o, none⟩) n c] W fun e w' => e = .returned (.bool true) ∧ Below W.heap.size W w') := Lib.hid fun W hW => by
      have h := validTable_any _ n c ps W hn hm hW
      rw [ht] at h; exact h
    have hv : fallingS ps = pairsOk fallingSo ps := by unfold fallingS; rw [ht]; rfl
    rw [hv]
    clear hp ht hc hn hv
    generalize hr : pairsOk fallingSo ps = r
    have HR := Lib.hid hr; clear hr
    go_enter Try.func47, Try.ntmps47
    go_wp2_with fail
    refine (CT.out _ HP.out).mono ?_
    rintro e w1 ⟨rfl, hb1⟩
    have HT1 := Lib.hid (blkOn HT.out hb1); have HE1 := Lib.hid (below_then HE.out hb1)
    clear hb1 HP HE HT CT
    go_wp2_with fail
    go_loopw [3] (fun i wr => ∃ k : Nat, k + 1 ≤ n ∧ i = .int .i64 ((k : Int) + 1) ∧ Below w1.heap.size w1 wr ∧ Hid (pairsOk fallingSo (ps.drop k) = r)) (fun i _ => n - (intOf i).toNat)
    case atStart => exact ⟨0, by have := HN.out; omega, rfl, Below.refl _ _, HR.out⟩
    case round =>
      obtain ⟨k, hk, rfl, hB, HK⟩ := hrel
      have hT := blkOn HT1.out hB
      have v0 := hT.cell 0
      have lA := hT.lt
      simp at v0
      by_cases hlt : k + 1 < n
      · obtain ⟨p, hp⟩ : ∃ p, ps[k]? = some p := ⟨_, List.getElem?_eq_getElem (by have := HN.out; omega)⟩
        obtain ⟨q, hq⟩ : ∃ q, ps[k + 1]? = some q := ⟨_, List.getElem?_eq_getElem (by have := HN.out; omega)⟩
        have hc' := (HC.out.below HE1.out hb).below hB (Nat.lt_of_lt_of_le hb HE1.out.size)
        obtain ⟨c0, c1, c2⟩ := hc' k p hp
        obtain ⟨d0, d1, d2⟩ := hc' (k + 1) q hq
        have HA := Lib.hid (pairsOk_at (so := fallingSo) hp hq)
        have HB := Lib.hid hB
        clear hp hq hc' hB hT
        have s1 : IntKind.i64.wrap ((k : Int) + 1 - 1) = (k : Int) := by rw [IntWalk.i64_in _ ⟨by omega, by omega⟩]; omega
        have s2 : (0 : Int) ≤ (k : Int) := by omega
        have s7 : IntKind.i64.wrap (k : Int) = (k : Int) := IntWalk.i64_in _ ⟨by omega, by omega⟩
        have s3 : (k : Int) < (n : Int) := by omega
        have s4 : (k : Int) + 1 < (n : Int) := by omega
        have s5 : (0 : Int) ≤ (k : Int) + 1 := by omega
        have s6 : ((k : Int) + 1).toNat = k + 1 := by omega
        by_cases hso : q.2.2 ≤ p.2.1
        · have hP : pairsOk fallingSo (ps.drop (k + 1)) = r := by rw [← HK.out, HA.out]; unfold fallingSo; rw [decide_eq_true hso]; rfl
          have HP2 := Lib.hid hP
          have t1 : decide (p.2.1 < q.2.2) = false := decide_eq_false (by omega)
          have t2 : ¬ (p.2.1 < q.2.2) := by omega
          clear HK HA HR hso hP
          go_wp2_with fail
          go_quiet (fail)
          go_wp2
          go_roundw
          case rel => exact ⟨k + 1, by omega, by go_num, below_drewM HB.out _, HP2⟩
          case measure => simp [intOf]; omega
        · have hf : r = false := by rw [← HK.out, HA.out]; unfold fallingSo; rw [decide_eq_false hso]; rfl
          have t1 : decide (p.2.1 < q.2.2) = true := decide_eq_true (by omega)
          have t2 : p.2.1 < q.2.2 := by omega
          subst hf
          clear HK HA HR hso
          go_wp2_with fail
          go_quiet (fail)
          go_wp2
          go_ret
          exact ⟨rfl, below_then HE1.out (below_drewM HB.out _)⟩
      · have hf : r = true := by rw [← HK.out, pairsOk_end (by have := HN.out; omega)]
        have s4 : ¬ (k : Int) + 1 < (n : Int) := by omega
        subst hf
        clear HK HR
        go_wp2
        go_ret
        exact ⟨rfl, below_then HE1.out hB⟩
  · have hf : fallingS ps = false := by unfold fallingS; simp [ht]
    have CT : Hid (∀ W, Pts W A ps → Calls Try.prog 63 #[tv A n c] W fun e w' => e = .returned (.bool false) ∧ Below W.heap.size W w') := Lib.hid fun W hW => by
      have h := validTable_any _ n c ps W hn hm hW
      rw [show tabOk ps = false by simpa using ht] at h; exact h
    rw [hf]
    clear hp ht hn hf
    go_enter Try.func47, Try.ntmps47
    go_wp2_with fail
    refine (CT.out _ HP.out).mono ?_
    rintro e w1 ⟨rfl, hb1⟩
    have HE1 := Lib.hid (below_then HE.out hb1)
    clear hb1
    go_wp2
    go_ret
    exact ⟨rfl, HE1.out⟩
end Go.Proofs.Ytmenlaefekkahaa
