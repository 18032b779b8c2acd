/- The contract of the closure that combine hands to build (fix), with Add. Its conditions: both tables lie in memory, they are valid; the place is one of a table. -/
import Derived.Test.YtmenlaefekkahaaB7
set_option linter.unusedVariables false
set_option linter.unusedSimpArgs false
set_option linter.constructorNameAsVariable false
namespace Go.Proofs.Ytmenlaefekkahaa
open Go.RowKit

theorem at_to (b o n c : Nat) (ps : List P3) (x ra rb : Int) (w : World) (hn : n = ps.length) (h2 : 1 ≤ n) (hb : b < w.heap.size) (ht : tabOk ps = true) (hx : 0 ≤ x) (hx' : x ≤ 1000000) (hc : PtsAt w b o ps) (hr : atS ps x = (ra, rb)) :
    Calls Try.prog 91 #[tv (some ⟨b, o, none⟩) n c, .int .i64 x] w fun e w' => e = .returned (rv ra rb) ∧ Below w.heap.size w w' := by
  have h := at_memory b o n c ps x w hn h2 hb ht hx hx' hc
  rw [hr] at h; exact h
theorem keepJ {w0 w1 : World} {a b c : Value} {A B C : Nat} (hb : Below w0.heap.size w0 w1) (h : w0.cell? ⟨A, 0, none⟩ = some a ∧ w0.cell? ⟨B, 0, none⟩ = some b ∧ w0.cell? ⟨C, 0, none⟩ = some c) (h1 : A < w0.heap.size) (h2 : B < w0.heap.size) (h3 : C < w0.heap.size) :
    w1.cell? ⟨A, 0, none⟩ = some a ∧ w1.cell? ⟨B, 0, none⟩ = some b ∧ w1.cell? ⟨C, 0, none⟩ = some c :=
  ⟨((bcell hb).1 _ _ h1).trans h.1, ((bcell hb).1 _ _ h2).trans h.2.1, ((bcell hb).1 _ _ h3).trans h.2.2⟩

/-- The sum of two tables at a place. -/
def plusAt (ps qs : List P3) (x : Int) : Int × Int × Int := addS (atS ps x).1 (atS ps x).2 (atS qs x).1 (atS qs x).2
@[reducible] def addFn : Value := .func (.func 12) #[] #[]

/-- Two tables and what joins them, as the closure has them. -/
def Joined (w : World) (Bw Bt Bu b o n c b' o' n' c' : Nat) (ps qs : List P3) : Prop :=
  Blk w Bw 28 #[addFn] ∧ Blk w Bt 43 #[.slice (some ⟨b, o, none⟩) n c] ∧ Blk w Bu 43 #[.slice (some ⟨b', o', none⟩) n' c'] ∧
  PtsAt w b o ps ∧ PtsAt w b' o' qs ∧ b < w.heap.size ∧ b' < w.heap.size
theorem Joined.below {w w' : World} {Bw Bt Bu b o n c b' o' n' c' : Nat} {ps qs : List P3} (h : Joined w Bw Bt Bu b o n c b' o' n' c' ps qs) (hB : Below w.heap.size w w') : Joined w' Bw Bt Bu b o n c b' o' n' c' ps qs := by
  obtain ⟨h1, h2, h3, h4, h5, h6, h7⟩ := h
  have := hB.size
  exact ⟨h1.below hB h1.lt, h2.below hB h2.lt, h3.below hB h3.lt, h4.below hB h6, h5.below hB h7, by omega, by omega⟩

set_option maxRecDepth 100000 in
set_option maxHeartbeats 6000000 in
theorem plusAsk (Bw Bt Bu b o n c b' o' n' c' : Nat) (ps qs : List P3) (x : Int) (w : World) (h : Joined w Bw Bt Bu b o n c b' o' n' c' ps qs)
    (hn : n = ps.length) (h2 : 1 ≤ n) (ht : tabOk ps = true) (hn' : n' = qs.length) (h2' : 1 ≤ n') (ht' : tabOk qs = true) (hx : 0 ≤ x) (hx' : x ≤ 1000000) :
    Calls Try.prog 136 #[.int .i64 x, .pointer (some ⟨Bw, 0, none⟩), .pointer (some ⟨Bt, 0, none⟩), .pointer (some ⟨Bu, 0, none⟩)] w fun e w' => e = .returned (rt (plusAt ps qs x)) ∧ Below w.heap.size w w' := by
  obtain ⟨⟨ra, rb⟩, hr⟩ : ∃ r, atS ps x = r := ⟨_, rfl⟩
  obtain ⟨⟨sa, sb⟩, hs⟩ : ∃ r, atS qs x = r := ⟨_, rfl⟩
  have hv : plusAt ps qs x = addS ra rb sa sb := by unfold plusAt; rw [hr, hs]
  have HR := Lib.hid hr; have HS := Lib.hid hs; have HV := Lib.hid hv
  clear hr hs hv
  have n0 : Bw ≠ w.heap.size := by have := h.1.lt; omega
  have n1 : Bt ≠ w.heap.size := by have := h.2.1.lt; omega
  have n2 : Bu ≠ w.heap.size := by have := h.2.2.1.lt; omega
  have m0 := n0.symm
  have m1 := n1.symm
  have m2 := n2.symm
  have bR := Blk.new w 23 #[.int .i64 0, .int .i64 0]
  have hE : Below w.heap.size w (w.alloc (.cells #[.int .i64 0, .int .i64 0] 23)) := (Below.refl _ _).alloc (Nat.le_refl _) _
  have HJ := Lib.hid (h.below hE); have HE := Lib.hid hE; have HBR := Lib.hid bR; clear h hE bR
  have HN := Lib.hid (And.intro hn (And.intro ht (And.intro hn' ht'))); clear hn ht hn' ht'
  go_enter Try.func136, Try.ntmps136
  go_wp2_with fail
  obtain ⟨W1, hW1⟩ : ∃ W1, w.alloc (.cells #[.int .i64 0, .int .i64 0] 23) = W1 := ⟨_, rfl⟩
  rw [hW1] at HJ HE HBR ⊢
  clear hW1
  have z0 := HJ.out.1.cell 0
  have z1 := HJ.out.2.1.cell 0
  have z2 := HJ.out.2.2.1.cell 0
  simp at z0 z1 z2
  have l0 : Bw < W1.drew.heap.size := HJ.out.1.lt
  have l1 : Bt < W1.drew.heap.size := HJ.out.2.1.lt
  have l2 : Bu < W1.drew.heap.size := HJ.out.2.2.1.lt
  have lR : w.heap.size < W1.drew.heap.size := HBR.out.lt
  have f0 := HBR.out.drew.frozen 0
  have f1 := HBR.out.drew.frozen 1
  have HD := Lib.hid (HJ.out.below (below_d (Below.refl _ W1.drew)))
  have c0 : W1.drew.cell? ⟨w.heap.size, 0, none⟩ = some (.int .i64 0) := HBR.out.drew.cell 0
  have c1 : W1.drew.cell? ⟨w.heap.size, 1, none⟩ = some (.int .i64 0) := HBR.out.drew.cell 1
  have HC0 := Lib.hid c0; have HC1 := Lib.hid c1; clear c0 c1
  have C1 := Lib.hid (at_to b o n c ps x ra rb W1.drew HN.out.1 h2 HD.out.2.2.2.2.2.1 HN.out.2.1 hx hx' HD.out.2.2.2.1 HR.out)
  go_region_held3 (fun w' => w'.cell? ⟨Bw, 0, none⟩ = some addFn ∧ w'.cell? ⟨Bt, 0, none⟩ = some (.slice (some ⟨b, o, none⟩) n c) ∧ w'.cell? ⟨Bu, 0, none⟩ = some (.slice (some ⟨b', o', none⟩) n' c'))
    (first | (go_keep; done) | (clear HD HJ HE HBR HN HR HS HV; first | exact keepJ hb3 (by assumption) (Nat.lt_of_lt_of_le l0 (Nat.le_trans hb1.size hb2.size)) (Nat.lt_of_lt_of_le l1 (Nat.le_trans hb1.size hb2.size)) (Nat.lt_of_lt_of_le l2 (Nat.le_trans hb1.size hb2.size)) | exact keepJ hb2 (by assumption) (Nat.lt_of_lt_of_le l0 hb1.size) (Nat.lt_of_lt_of_le l1 hb1.size) (Nat.lt_of_lt_of_le l2 hb1.size) | exact keepJ hb1 (by assumption) l0 l1 l2))
    (first
      | (go_at_call 91; with_reducible refine (C1.out).mono ?_; rintro e w1 ⟨rfl, hb1⟩)
      | (go_at_call 91; have C2 := (at_to b' o' n' c' qs x sa sb w1 HN.out.2.2.1 h2' (Nat.lt_of_lt_of_le HD.out.2.2.2.2.2.2 hb1.size) HN.out.2.2.2 hx hx' (HD.out.2.2.2.2.1.below hb1 HD.out.2.2.2.2.2.2) HS.out); with_reducible refine C2.mono ?_; rintro e w2 ⟨rfl, hb2⟩)
      | (go_at_call 12; have C3 := add_any ra rb sa sb w2; with_reducible refine C3.mono ?_; rintro e w3 ⟨rfl, hb3⟩; have lR1 := Nat.lt_of_lt_of_le lR hb1.size; have lR2 := Nat.lt_of_lt_of_le lR1 hb2.size; have F0 : w3.frozen? ⟨w.heap.size, 0, none⟩ = false := ((bcell hb3).2 w.heap.size 0 lR2).trans (((bcell hb2).2 w.heap.size 0 lR1).trans (((bcell hb1).2 w.heap.size 0 lR).trans f0)); have F1 : w3.frozen? ⟨w.heap.size, 1, none⟩ = false := ((bcell hb3).2 w.heap.size 1 lR2).trans (((bcell hb2).2 w.heap.size 1 lR1).trans (((bcell hb1).2 w.heap.size 1 lR).trans f1)); have lR3 := Nat.lt_of_lt_of_le lR2 hb3.size; have D0 : w3.cell? ⟨w.heap.size, 0, none⟩ = some (.int .i64 0) := ((bcell hb3).1 w.heap.size 0 lR2).trans (((bcell hb2).1 w.heap.size 0 lR1).trans (((bcell hb1).1 w.heap.size 0 lR).trans HC0.out)); have D1 : w3.cell? ⟨w.heap.size, 1, none⟩ = some (.int .i64 0) := ((bcell hb3).1 w.heap.size 1 lR2).trans (((bcell hb2).1 w.heap.size 1 lR1).trans (((bcell hb1).1 w.heap.size 1 lR).trans HC1.out))))
  all_goals
    go_wp2
    refine bodyPost_ret (v := rt (addS ra rb sa sb)) (by simp [results, Try.results136, go_sem, D0, D1]) rfl ⟨by rw [HV.out], ?_⟩
    have hB3 := below_then (below_then (below_then HE.out (below_d hb1)) hb2) hb3
    exact ((hB3.setCell (p := ⟨w.heap.size, 0, none⟩) (by simp) _).setCell (p := ⟨w.heap.size, 1, none⟩) (by simp) _)
end Go.Proofs.Ytmenlaefekkahaa
