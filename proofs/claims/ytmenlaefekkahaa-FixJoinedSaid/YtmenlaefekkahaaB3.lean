/- The contracts of checkPlaces and at of a piece (fix). Their conditions: the table's points lie in memory; the numbers of the piece are those of a valid table. -/
import Derived.Test.YtmenlaefekkahaaB2
set_option linter.unusedVariables false
set_option linter.unusedSimpArgs false
set_option linter.constructorNameAsVariable false
namespace Go.Proofs.Ytmenlaefekkahaa
open Go.RowKit
attribute [local go_sem ↓] eqlRange neqRange

/-- a piece as a value -/
abbrev pv (p q : P3) : Value := .agg #[.int .i64 p.1, .int .i64 p.2.1, .int .i64 p.2.2, .int .i64 q.1, .int .i64 q.2.1, .int .i64 q.2.2]

set_option maxRecDepth 100000 in
set_option maxHeartbeats 1000000 in
theorem pieceAt_core (x0 l0 h0 x1 l1 h1 x : Int) (w : World) (hx0 : 0 ≤ x0) (hx0' : x0 ≤ 1000000) (hx : 0 ≤ x) (hx1 : x ≤ 1000000) (gx : 0 ≤ x1) (hx1' : x1 ≤ 1000000)
    (a1 : -1000000000 ≤ l0) (a2 : l0 ≤ 1000000000) (b1 : -1000000000 ≤ h0) (b2 : h0 ≤ 1000000000) (c1 : -1000000000 ≤ l1) (c2 : l1 ≤ 1000000000) (d1 : -1000000000 ≤ h1) (d2 : h1 ≤ 1000000000) :
    Calls Try.prog 106 #[.agg #[.int .i64 x0, .int .i64 l0, .int .i64 h0, .int .i64 x1, .int .i64 l1, .int .i64 h1], .int .i64 x] w fun e w' =>
      e = .returned (rv (l0 + riseS (x - x0) (x1 - x0) (l1 - l0)) (h0 - riseS (x - x0) (x1 - x0) (h0 - h1))) ∧ Below w.heap.size w w' := by
  have k1 := riseS_bounds (x - x0) (x1 - x0) (l1 - l0) (by omega) (by omega) (by omega) (by omega)
  have k2 := riseS_bounds (x - x0) (x1 - x0) (h0 - h1) (by omega) (by omega) (by omega) (by omega)
  have g1 : -1000000 ≤ x - x0 := by omega
  have g2 : x - x0 ≤ 1000000 := by omega
  have g3 : x1 - x0 ≤ 1000000 := by omega
  have g4 : -2000000000 ≤ l1 - l0 := by omega
  have g5 : l1 - l0 ≤ 2000000000 := by omega
  have g6 : -2000000000 ≤ h0 - h1 := by omega
  have g7 : h0 - h1 ≤ 2000000000 := by omega
  have w1 : IntKind.i64.wrap (l1 - l0) = l1 - l0 := IntWalk.i64_in _ ⟨by omega, by omega⟩
  have w2 : IntKind.i64.wrap (h0 - h1) = h0 - h1 := IntWalk.i64_in _ ⟨by omega, by omega⟩
  have w3 : IntKind.i64.wrap (l0 + riseS (x - x0) (x1 - x0) (l1 - l0)) = l0 + riseS (x - x0) (x1 - x0) (l1 - l0) := IntWalk.i64_in _ ⟨by omega, by omega⟩
  have w4 : IntKind.i64.wrap (h0 - riseS (x - x0) (x1 - x0) (h0 - h1)) = h0 - riseS (x - x0) (x1 - x0) (h0 - h1) := IntWalk.i64_in _ ⟨by omega, by omega⟩
  clear k1 k2
  go_enter Try.func106, Try.ntmps106
  go_wp2_with fail
  go_region_held3 (fun w' => w'.cell? ⟨w.heap.size, 0, none⟩ = some (.int .i64 x0) ∧ w'.cell? ⟨w.heap.size, 1, none⟩ = some (.int .i64 l0) ∧ w'.cell? ⟨w.heap.size, 2, none⟩ = some (.int .i64 h0) ∧ w'.cell? ⟨w.heap.size, 3, none⟩ = some (.int .i64 x1) ∧ w'.cell? ⟨w.heap.size, 4, none⟩ = some (.int .i64 l1) ∧ w'.cell? ⟨w.heap.size, 5, none⟩ = some (.int .i64 h1))
    (first | (go_keep; done))
    (first | (go_at_call 129; refine (rise_any _ _ _ _ ?_ ?_ ?_ ?_ ?_).mono ?_; (assumption); (assumption); (assumption); (assumption); (assumption); rintro e w' ⟨rfl, rfl⟩))
  go_wp2
  refine bodyPost_ret (v := rv (l0 + riseS (x - x0) (x1 - x0) (l1 - l0)) (h0 - riseS (x - x0) (x1 - x0) (h0 - h1))) (by simp [results, Try.results106, go_sem]) rfl ⟨rfl, ?_⟩
  exact (((Below.refl _ _).alloc (Nat.le_refl _) _).alloc (by simp) _).drew

/-- the first and the last place of a table -/
def firstX (ps : List P3) : Int := (ps.head?.map (·.1)).getD 0
def lastX (ps : List P3) : Int := (ps.getLast?.map (·.1)).getD 0

theorem tabOk_len {ps : List P3} (h : tabOk ps = true) : 1 ≤ ps.length ∧ ps.length ≤ 40 := by
  unfold tabOk at h
  rw [Bool.and_eq_true] at h
  simpa using h.1

theorem domain_tab (A : Option Addr) (n c : Nat) (ps : List P3) (w : World) (hn : n = ps.length) (hp : Pts w A ps) (h : tabOk ps = true) :
    Calls Try.prog 118 #[tv A n c] w fun e w' => e = .returned (rv (firstX ps) (lastX ps)) ∧ Below w.heap.size w w' := by
  obtain ⟨h1, h2⟩ := tabOk_len h
  rcases hp with hp | ⟨b, o, rfl, hb, hc⟩
  · exfalso; rw [hp] at h1; simp at h1
  · obtain ⟨m, rfl⟩ : ∃ m, n = m + 1 := ⟨n - 1, by omega⟩
    have e0 : ps[0]? = some (ps[0]'(by omega)) := List.getElem?_eq_getElem (by omega)
    have em : ps[m]? = some (ps[m]'(by omega)) := List.getElem?_eq_getElem (by omega)
    have f0 : firstX ps = (ps[0]'(by omega)).1 := by unfold firstX; rw [List.head?_eq_getElem?, e0]; rfl
    have fm : lastX ps = (ps[m]'(by omega)).1 := by
      unfold lastX
      rw [List.getLast?_eq_getElem?, show ps.length - 1 = m by omega, em]; rfl
    rw [f0, fm]
    have g0 := (hc 0 _ e0).1
    have gm := (hc m _ em).1
    rw [Nat.zero_mul, Nat.add_zero] at g0
    exact domain_any b o m c _ _ w (by omega) hb g0 gm

/-- the error of places -/
def placesS (ps : List P3) (a b : Int) : Int := if tabOk ps = true then (if inB a b (firstX ps) (lastX ps) = true then 0 else 4) else 11

theorem checkTable_to (A : Option Addr) (n c : Nat) (ps : List P3) (t : Bool) (x : Int) (w : World) (hn : n = ps.length) (hm : n ≤ maxLen) (hp : Pts w A ps) (h : tabOk ps = t) (hx : (if t = true then 0 else 11) = x) :
    Calls Try.prog 40 #[tv A n c] w fun e w' => e = .returned (.int .i64 x) ∧ Below w.heap.size w w' := by
  subst h; subst hx; exact checkTable_any A n c ps w hn hm hp
theorem within_to (a b c d : Int) (t : Bool) (w : World) (h : inB a b c d = t) :
    Calls Try.prog 87 #[rv a b, rv c d] w fun e w' => e = .returned (.bool t) ∧ Below w.heap.size w w' := by
  subst h; exact within_any a b c d w

theorem checkPlaces_any (A : Option Addr) (n c : Nat) (ps : List P3) (a b : Int) (w : World) (hn : n = ps.length) (hm : n ≤ maxLen) (hp : Pts w A ps) :
    Calls Try.prog 90 #[tv A n c, .int .i64 a, .int .i64 b] w fun e w' => e = .returned (.int .i64 (placesS ps a b)) ∧ Below w.heap.size w w' := by
  have HN := Lib.hid hn; clear hn
  have hp1 : Pts (w.alloc (.cells #[.slice A n c] 43)) A ps := hp.below ((Below.refl _ _).alloc (Nat.le_refl _) _)
  have HP := Lib.hid hp1; clear hp1 hp
  unfold placesS
  cases ht : tabOk ps
  · have HT := Lib.hid ht; clear ht
    go_enter Try.func90, Try.ntmps90
    go_wp2_with fail
    refine (checkTable_to A n c ps _ _ _ HN.out hm HP.out HT.out rfl).mono ?_
    rintro e w1 ⟨rfl, hb⟩
    go_wp2
    go_ret
    exact ⟨rfl, below_a1 hb⟩
  · cases hi : inB a b (firstX ps) (lastX ps)
    all_goals
      have HT := Lib.hid ht; clear ht
      have HI := Lib.hid hi; clear hi
      go_enter Try.func90, Try.ntmps90
      go_wp2_with fail
      refine (checkTable_to A n c ps _ _ _ HN.out hm HP.out HT.out rfl).mono ?_
      rintro e w1 ⟨rfl, hb⟩
      obtain ⟨hc, hf⟩ := bcell hb
      go_wp2_with fail
      refine (domain_tab A n c ps _ HN.out (HP.out.below hb) HT.out).mono ?_
      rintro e w2 ⟨rfl, hb2⟩
      go_wp2_with fail
      refine (within_to _ _ _ _ _ _ HI.out).mono ?_
      rintro e w3 ⟨rfl, hb3⟩
      go_wp2
      go_ret
      exact ⟨rfl, below_then (below_then (below_a1 hb) hb2) hb3⟩
end Go.Proofs.Ytmenlaefekkahaa
