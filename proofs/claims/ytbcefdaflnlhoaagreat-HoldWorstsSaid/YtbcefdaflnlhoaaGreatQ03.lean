/- The contract of the specification's Mul. No conditions but that the numbers are those of ints. -/
import Derived.Test.YtbcefdaflnlhoaaGreatQ02
import Derived.Test.YtbcefdaflnlhoaaGreatQ00
set_option linter.unusedVariables false
set_option linter.unusedSimpArgs false
set_option linter.constructorNameAsVariable false
namespace Go.Proofs.YtbcefdaflnlhoaaGreat

section
open Go.RowKit

theorem at_to (b o n c : Nat) (ps : List P3) (x ra rb : Int) (w : World) (hn : n = ps.length) (h2 : 1 ≤ n) (hb : b < w.heap.size) (ht : tabOk ps = true) (hx : 0 ≤ x) (hx' : x ≤ 1000000) (hc : PtsAt w b o ps) (hr : atS ps x = (ra, rb)) :
    Calls Tryz.prog 169 #[tv (some ⟨b, o, none⟩) n c, .int .i64 x] w fun e w' => e = .returned (rv ra rb) ∧ Below w.heap.size w w' := by
  have h := at_memory b o n c ps x w hn h2 hb ht hx hx' hc
  rw [hr] at h; exact h
@[reducible] def addFn : Value := .func (.func 136) #[] #[]

/-- Two tables and what joins them, as the closure has them. -/
def Joined (w : World) (Bw Bt Bu b o n c b' o' n' c' : Nat) (ps qs : List P3) : Prop :=
  Blk w Bw 106 #[addFn] ∧ Blk w Bt 26 #[.slice (some ⟨b, o, none⟩) n c] ∧ Blk w Bu 26 #[.slice (some ⟨b', o', none⟩) n' c'] ∧
  PtsAt w b o ps ∧ PtsAt w b' o' qs ∧ b < w.heap.size ∧ b' < w.heap.size
theorem Joined.below {w w' : World} {Bw Bt Bu b o n c b' o' n' c' : Nat} {ps qs : List P3} (h : Joined w Bw Bt Bu b o n c b' o' n' c' ps qs) (hB : Below w.heap.size w w') : Joined w' Bw Bt Bu b o n c b' o' n' c' ps qs := by
  obtain ⟨h1, h2, h3, h4, h5, h6, h7⟩ := h
  have := hB.size
  exact ⟨h1.below hB h1.lt, h2.below hB h2.lt, h3.below hB h3.lt, h4.below hB h6, h5.below hB h7, by omega, by omega⟩
end

section
open Go.RowKit
attribute [local go_sem ↓] eqlRange neqRange
@[go_sem] theorem fieldLo (a b : Int) (w : World) : (Instr.field 23 (.agg #[.int .i64 a, .int .i64 b]) 0).run Tryz.prog w = .ok (.int .i64 a) w := by kernel_rfl
@[go_sem] theorem fieldHi (a b : Int) (w : World) : (Instr.field 23 (.agg #[.int .i64 a, .int .i64 b]) 1).run Tryz.prog w = .ok (.int .i64 b) w := by kernel_rfl

/-- a piece's cells -/
abbrev pCells (p q : P3) : Array Value := #[.int .i64 p.1, .int .i64 p.2.1, .int .i64 p.2.2, .int .i64 q.1, .int .i64 q.2.1, .int .i64 q.2.2]
/-- What such a closure reads. -/
def SixTwo (Bp Br : Nat) (p q : P3) (lo hi : Int) (w : World) : Prop :=
  w.cell? ⟨Bp, 0, none⟩ = some (.int .i64 p.1) ∧ w.cell? ⟨Bp, 1, none⟩ = some (.int .i64 p.2.1) ∧ w.cell? ⟨Bp, 2, none⟩ = some (.int .i64 p.2.2) ∧ w.cell? ⟨Bp, 3, none⟩ = some (.int .i64 q.1) ∧ w.cell? ⟨Bp, 4, none⟩ = some (.int .i64 q.2.1) ∧ w.cell? ⟨Bp, 5, none⟩ = some (.int .i64 q.2.2) ∧
  w.cell? ⟨Br, 0, none⟩ = some (.int .i64 lo) ∧ w.cell? ⟨Br, 1, none⟩ = some (.int .i64 hi)
theorem SixTwo.of {Bp Br : Nat} {p q : P3} {lo hi : Int} {w : World} (h : Blk w Bp 140 (pCells p q)) (h' : Blk w Br 23 #[.int .i64 lo, .int .i64 hi]) : SixTwo Bp Br p q lo hi w :=
  ⟨h.cell 0, h.cell 1, h.cell 2, h.cell 3, h.cell 4, h.cell 5, h'.cell 0, h'.cell 1⟩
theorem SixTwo.below {Bp Br : Nat} {p q : P3} {lo hi : Int} {w w' : World} (h : SixTwo Bp Br p q lo hi w) (hB : Below w.heap.size w w') (h1 : Bp < w.heap.size) (h2 : Br < w.heap.size) : SixTwo Bp Br p q lo hi w' := by
  have k := (bcell hB).1
  obtain ⟨a0, a1, a2, a3, a4, a5, b0, b1⟩ := h
  exact ⟨(k _ _ h1).trans a0, (k _ _ h1).trans a1, (k _ _ h1).trans a2, (k _ _ h1).trans a3, (k _ _ h1).trans a4, (k _ _ h1).trans a5, (k _ _ h2).trans b0, (k _ _ h2).trans b1⟩

set_option maxRecDepth 100000 in
set_option maxHeartbeats 1000000 in
theorem lowAsk (Bp Br : Nat) (p q : P3) (lo hi x : Int) (w : World) (h : Blk w Bp 140 (pCells p q)) (h' : Blk w Br 23 #[.int .i64 lo, .int .i64 hi]) (hp : Okp p) (hq : Okp q) (hx : 0 ≤ x) (hx' : x ≤ 1000000) :
    Calls Tryz.prog 124 #[.int .i64 x, .pointer (some ⟨Bp, 0, none⟩), .pointer (some ⟨Br, 0, none⟩)] w fun e w' => e = .returned (.bool (decide ((pAt p q x).1 ≤ hi))) ∧ Below w.heap.size w w' := by
  have hS := SixTwo.of h h'
  have h1 := h.lt
  have h2 := h'.lt
  have hd1 : Bp < w.drew.heap.size := h1
  have hd2 : Br < w.drew.heap.size := h2
  have HS := Lib.hid hS
  obtain ⟨a0, a1, a2, a3, a4, a5, b0, b1⟩ := hS
  have HP := Lib.hid hp; have HQ := Lib.hid hq
  clear h h' hp hq
  go_enter Tryz.func124, Tryz.ntmps124
  go_wp2_with fail
  go_region_held3 (fun w' => w'.cell? ⟨Bp, 0, none⟩ = some (.int .i64 p.1) ∧ w'.cell? ⟨Bp, 1, none⟩ = some (.int .i64 p.2.1) ∧ w'.cell? ⟨Bp, 2, none⟩ = some (.int .i64 p.2.2) ∧ w'.cell? ⟨Bp, 3, none⟩ = some (.int .i64 q.1) ∧ w'.cell? ⟨Bp, 4, none⟩ = some (.int .i64 q.2.1) ∧ w'.cell? ⟨Bp, 5, none⟩ = some (.int .i64 q.2.2) ∧
  w'.cell? ⟨Br, 0, none⟩ = some (.int .i64 lo) ∧ w'.cell? ⟨Br, 1, none⟩ = some (.int .i64 hi))
    (first | (go_keep; done) | exact SixTwo.below ‹_› hb hd1 hd2)
    (first | (go_at_call 125; refine (pieceAt_any p q x _ HP.out HQ.out hx hx').mono ?_; rintro e w1 ⟨rfl, hb⟩))
  go_wp2
  go_ret
  exact ⟨rfl, below_d hb⟩

set_option maxRecDepth 100000 in
set_option maxHeartbeats 1000000 in
theorem highAsk (Bp Br : Nat) (p q : P3) (lo hi x : Int) (w : World) (h : Blk w Bp 140 (pCells p q)) (h' : Blk w Br 23 #[.int .i64 lo, .int .i64 hi]) (hp : Okp p) (hq : Okp q) (hx : 0 ≤ x) (hx' : x ≤ 1000000) :
    Calls Tryz.prog 126 #[.int .i64 x, .pointer (some ⟨Bp, 0, none⟩), .pointer (some ⟨Br, 0, none⟩)] w fun e w' => e = .returned (.bool (decide (lo ≤ (pAt p q x).2))) ∧ Below w.heap.size w w' := by
  have hS := SixTwo.of h h'
  have h1 := h.lt
  have h2 := h'.lt
  have hd1 : Bp < w.drew.heap.size := h1
  have hd2 : Br < w.drew.heap.size := h2
  have HS := Lib.hid hS
  obtain ⟨a0, a1, a2, a3, a4, a5, b0, b1⟩ := hS
  have HP := Lib.hid hp; have HQ := Lib.hid hq
  clear h h' hp hq
  go_enter Tryz.func126, Tryz.ntmps126
  go_wp2_with fail
  go_region_held3 (fun w' => w'.cell? ⟨Bp, 0, none⟩ = some (.int .i64 p.1) ∧ w'.cell? ⟨Bp, 1, none⟩ = some (.int .i64 p.2.1) ∧ w'.cell? ⟨Bp, 2, none⟩ = some (.int .i64 p.2.2) ∧ w'.cell? ⟨Bp, 3, none⟩ = some (.int .i64 q.1) ∧ w'.cell? ⟨Bp, 4, none⟩ = some (.int .i64 q.2.1) ∧ w'.cell? ⟨Bp, 5, none⟩ = some (.int .i64 q.2.2) ∧
  w'.cell? ⟨Br, 0, none⟩ = some (.int .i64 lo) ∧ w'.cell? ⟨Br, 1, none⟩ = some (.int .i64 hi))
    (first | (go_keep; done) | exact SixTwo.below ‹_› hb hd1 hd2)
    (first | (go_at_call 125; refine (pieceAt_any p q x _ HP.out HQ.out hx hx').mono ?_; rintro e w1 ⟨rfl, hb⟩))
  go_wp2
  go_ret
  exact ⟨rfl, below_d hb⟩
end

section
open Go.RowKit
attribute [local go_sem ↓] eqlRange neqRange
/-- The least range that has all products. -/
def mulS (a b c d : Int) : Int × Int × Int :=
  twoS a b c d (bigS (min (min (min (a * c) (a * d)) (b * c)) (b * d)) (max (max (max (a * c) (a * d)) (b * c)) (b * d)))

theorem idx0 (x y : Int) (w : World) : (Instr.index 152 (.agg #[.int .i64 x, .int .i64 y]) (.int .i64 0)).run Tryz.prog w = .ok (.int .i64 x) w := by kernel_rfl
theorem idx1 (x y : Int) (w : World) : (Instr.index 152 (.agg #[.int .i64 x, .int .i64 y]) (.int .i64 1)).run Tryz.prog w = .ok (.int .i64 y) w := by kernel_rfl

/-- What Mul reads again behind each product. -/
theorem mul_cells {w w1 v0 v : World} {a b c d : Int} (hl : Below w1.heap.size w1 v0) (ho : Only w1.heap.size v0 v) (hb : Below (((w.alloc (.cells #[.int .i64 a, .int .i64 b] 23)).alloc (.cells #[.int .i64 c, .int .i64 d] 23)).alloc (.cells #[.int .i64 0, .int .i64 0] 23)).heap.size
      (((w.alloc (.cells #[.int .i64 a, .int .i64 b] 23)).alloc (.cells #[.int .i64 c, .int .i64 d] 23)).alloc (.cells #[.int .i64 0, .int .i64 0] 23)) w1) (hz : w.heap.size + 1 + 1 < w1.heap.size) :
    (v.cell? ⟨w.heap.size + 1, 0, none⟩ = some (.int .i64 c) ∧ v.cell? ⟨w.heap.size + 1, 1, none⟩ = some (.int .i64 d) ∧ v.cell? ⟨w.heap.size + 1 + 1, 0, none⟩ = some (.int .i64 0) ∧ v.cell? ⟨w.heap.size + 1 + 1, 1, none⟩ = some (.int .i64 0)) ∧
    (v.frozen? ⟨w.heap.size + 1 + 1, 0, none⟩ = false ∧ v.frozen? ⟨w.heap.size + 1 + 1, 1, none⟩ = false) := by
  have hs := hl.size
  obtain ⟨p, q⟩ := ho.cells
  obtain ⟨p1, q1⟩ := bcell hb
  have p2 : ∀ b o, b < w1.heap.size → v0.cell? ⟨b, o, none⟩ = w1.cell? ⟨b, o, none⟩ := fun b o h => hl.cell (p := ⟨b, o, none⟩) h
  have q2 : ∀ b o, b < w1.heap.size → v0.frozen? ⟨b, o, none⟩ = w1.frozen? ⟨b, o, none⟩ := fun b o h => hl.frozen (p := ⟨b, o, none⟩) h
  refine ⟨⟨?_, ?_, ?_, ?_⟩, ?_, ?_⟩
  · rw [p _ _ (by omega) (by omega), p2 _ _ (by omega), p1 _ _ (by simp <;> omega)]; simp [go_sem]
  · rw [p _ _ (by omega) (by omega), p2 _ _ (by omega), p1 _ _ (by simp <;> omega)]; simp [go_sem]
  · rw [p _ _ (by omega) (by omega), p2 _ _ (by omega), p1 _ _ (by simp)]; simp [go_sem]
  · rw [p _ _ (by omega) (by omega), p2 _ _ (by omega), p1 _ _ (by simp)]; simp [go_sem]
  · rw [q _ _ (by omega) (by omega), q2 _ _ (by omega), q1 _ _ (by simp)] <;> simp [go_sem]
  · rw [q _ _ (by omega) (by omega), q2 _ _ (by omega), q1 _ _ (by simp)] <;> simp [go_sem]

theorem mul_yes (a b c d : Int) (w : World) (h : (vR a b && vR c d) = true) (h1 : prodOk a c) (h2 : prodOk a d) (h3 : prodOk b c) (h4 : prodOk b d) :
    Calls Tryz.prog 91 #[rv a b, rv c d] w fun e w' => e = .returned (rt (bigS (min (min (min (a * c) (a * d)) (b * c)) (b * d)) (max (max (max (a * c) (a * d)) (b * c)) (b * d)))) ∧ Below w.heap.size w w' := by
  obtain ⟨⟨a1, a2, a3⟩, ⟨c1, c2, c3⟩⟩ := both_iff h
  have H := Lib.hid h; clear h
  have H1 := Lib.hid h1; clear h1
  have H2 := Lib.hid h2; clear h2
  have H3 := Lib.hid h3; clear h3
  have H4 := Lib.hid h4; clear h4
  have i0 := idx0 a b
  have i1 := idx1 a b
  have j0 := idx0 c d
  have j1 := idx1 c d
  go_enter Tryz.func91, Tryz.ntmps91
  go_wp2_with fail
  refine (bothValid_to a b c d _ _ H.out).mono ?_
  rintro e w1 ⟨rfl, hb⟩
  obtain ⟨hc, hf⟩ := bcell hb
  have hz0 : w.heap.size + 1 + 1 < w1.heap.size := by have := hb.size; simp at this; omega
  have hza : w.heap.size < w1.heap.size := by omega
  have hzb : w.heap.size + 1 < w1.heap.size := by omega
  go_wp2_with fail
  have hB1 := Blk.new w1 151 (growCells 0 0 false)
  have ho1 := Only.refl w1.heap.size (w1.alloc (.cells (growCells 0 0 false) 151))
  have hl1 := below_a1 (Below.refl _ (w1.alloc (.cells (growCells 0 0 false) 151)))
  have HB1 := Lib.hid hB1; clear hB1
  have HO1 := Lib.hid ho1; clear ho1
  have HL1 := Lib.hid hl1; clear hl1
  refine wp_loop_rounds 3 ?_
  rw [rounds_succ]
  go_wp2_with fail
  refine wp_loop_rounds 3 ?_
  rw [rounds_succ]
  go_wp2_with fail
  refine (product_yes a c _ (by omega) (by omega) (by omega) (by omega) H1.out).mono ?_
  rintro e w' ⟨rfl, rfl⟩
  go_wp2_with fail
  refine (take_first _ _ _ _ _ _ HB1.out).mono ?_
  rintro e v2 ⟨rfl, hB2, ho⟩
  obtain ⟨⟨ga2, gb2, gc2, gd2⟩, fa2, fb2⟩ := mul_cells HL1.out (HO1.out.trans ho) hb hz0
  have gq2 : w1.heap.size < v2.heap.size := hB2.lt
  have gz2 : w.heap.size + 1 + 1 < v2.heap.size := by omega
  have HB2 := Lib.hid hB2; clear hB2
  have HO2 := Lib.hid (HO1.out.trans ho); clear ho
  go_wp2_with fail
  rw [rounds_succ]
  go_wp2_with fail
  refine (product_yes a d _ (by omega) (by omega) (by omega) (by omega) H2.out).mono ?_
  rintro e w' ⟨rfl, rfl⟩
  go_wp2_with fail
  refine (take_more _ _ _ _ _ _ HB2.out).mono ?_
  rintro e v3 ⟨rfl, hB3, ho⟩
  clear ga2 gb2 gc2 gd2 fa2 fb2 gz2 gq2
  obtain ⟨⟨ga3, gb3, gc3, gd3⟩, fa3, fb3⟩ := mul_cells HL1.out (HO2.out.trans ho) hb hz0
  have gq3 : w1.heap.size < v3.heap.size := hB3.lt
  have gz3 : w.heap.size + 1 + 1 < v3.heap.size := by omega
  have HB3 := Lib.hid hB3; clear hB3
  have HO3 := Lib.hid (HO2.out.trans ho); clear ho
  go_wp2_with fail
  rw [rounds_succ]
  go_wp2_with fail
  rw [rounds_succ]
  go_wp2_with fail
  refine wp_loop_rounds 3 ?_
  rw [rounds_succ]
  go_wp2_with fail
  refine (product_yes b c _ (by omega) (by omega) (by omega) (by omega) H3.out).mono ?_
  rintro e w' ⟨rfl, rfl⟩
  go_wp2_with fail
  refine (take_more _ _ _ _ _ _ HB3.out).mono ?_
  rintro e v4 ⟨rfl, hB4, ho⟩
  clear ga3 gb3 gc3 gd3 fa3 fb3 gz3 gq3
  obtain ⟨⟨ga4, gb4, gc4, gd4⟩, fa4, fb4⟩ := mul_cells HL1.out (HO3.out.trans ho) hb hz0
  have gq4 : w1.heap.size < v4.heap.size := hB4.lt
  have gz4 : w.heap.size + 1 + 1 < v4.heap.size := by omega
  have HB4 := Lib.hid hB4; clear hB4
  have HO4 := Lib.hid (HO3.out.trans ho); clear ho
  go_wp2_with fail
  rw [rounds_succ]
  go_wp2_with fail
  refine (product_yes b d _ (by omega) (by omega) (by omega) (by omega) H4.out).mono ?_
  rintro e w' ⟨rfl, rfl⟩
  go_wp2_with fail
  refine (take_more _ _ _ _ _ _ HB4.out).mono ?_
  rintro e v5 ⟨rfl, hB5, ho⟩
  clear ga4 gb4 gc4 gd4 fa4 fb4 gz4 gq4
  obtain ⟨⟨ga5, gb5, gc5, gd5⟩, fa5, fb5⟩ := mul_cells HL1.out (HO4.out.trans ho) hb hz0
  have gq5 : w1.heap.size < v5.heap.size := hB5.lt
  have gz5 : w.heap.size + 1 + 1 < v5.heap.size := by omega
  have HB5 := Lib.hid hB5; clear hB5
  have HO5 := Lib.hid (HO4.out.trans ho); clear ho
  go_wp2_with fail
  rw [rounds_succ]
  go_wp2_with fail
  rw [rounds_succ]
  have k0 := HB5.out.cell 0
  have k1 := HB5.out.cell 1
  simp at k0 k1
  go_wp2_with fail
  refine (unlessBig_any _ _ _).mono ?_
  rintro e v6 ⟨rfl, hb6⟩
  obtain ⟨hc6, hf6⟩ := bcell hb6
  have hb5 : Below w.heap.size w v5 := (HO5.out.below (below_then (below_a3 hb) HL1.out) (by omega))
  go_wp2
  exact bodyPost_ret (v := rt (bigS (min (min (min (a * c) (a * d)) (b * c)) (b * d)) (max (max (max (a * c) (a * d)) (b * c)) (b * d)))) (by simp [results, Tryz.results91, go_sem, hc6, gz5, gc5, gd5]) rfl ⟨rfl, ((below_then hb5 hb6).setCell (by simp; omega) _).setCell (by simp; omega) _⟩

theorem mul_no1 (a b c d : Int) (w : World) (h : (vR a b && vR c d) = true) (h1 : ¬ prodOk a c) :
    Calls Tryz.prog 91 #[rv a b, rv c d] w fun e w' => e = .returned (rt (0, 0, 5)) ∧ Below w.heap.size w w' := by
  obtain ⟨⟨a1, a2, a3⟩, ⟨c1, c2, c3⟩⟩ := both_iff h
  have H := Lib.hid h; clear h
  have H1 := Lib.hid h1; clear h1
  have i0 := idx0 a b
  have i1 := idx1 a b
  have j0 := idx0 c d
  have j1 := idx1 c d
  go_enter Tryz.func91, Tryz.ntmps91
  go_wp2_with fail
  refine (bothValid_to a b c d _ _ H.out).mono ?_
  rintro e w1 ⟨rfl, hb⟩
  obtain ⟨hc, hf⟩ := bcell hb
  have hz0 : w.heap.size + 1 + 1 < w1.heap.size := by have := hb.size; simp at this; omega
  have hza : w.heap.size < w1.heap.size := by omega
  have hzb : w.heap.size + 1 < w1.heap.size := by omega
  go_wp2_with fail
  have hB1 := Blk.new w1 151 (growCells 0 0 false)
  have ho1 := Only.refl w1.heap.size (w1.alloc (.cells (growCells 0 0 false) 151))
  have hl1 := below_a1 (Below.refl _ (w1.alloc (.cells (growCells 0 0 false) 151)))
  have HB1 := Lib.hid hB1; clear hB1
  have HO1 := Lib.hid ho1; clear ho1
  have HL1 := Lib.hid hl1; clear hl1
  refine wp_loop_rounds 3 ?_
  rw [rounds_succ]
  go_wp2_with fail
  refine wp_loop_rounds 3 ?_
  rw [rounds_succ]
  go_wp2_with fail
  refine (product_no a c _ (by omega) (by omega) (by omega) (by omega) H1.out).mono ?_
  rintro e w' ⟨rfl, rfl⟩
  go_wp2
  exact bodyPost_ret (v := rt (0, 0, 5)) (by simp [results, Tryz.results91, go_sem, hc, hz0]) rfl ⟨rfl, ((((below_a3 hb)).setCell (by simp; omega) _).setCell (by simp; omega) _).alloc (by simp; omega) _⟩

theorem mul_no2 (a b c d : Int) (w : World) (h : (vR a b && vR c d) = true) (h1 : prodOk a c) (h2 : ¬ prodOk a d) :
    Calls Tryz.prog 91 #[rv a b, rv c d] w fun e w' => e = .returned (rt (0, 0, 5)) ∧ Below w.heap.size w w' := by
  obtain ⟨⟨a1, a2, a3⟩, ⟨c1, c2, c3⟩⟩ := both_iff h
  have H := Lib.hid h; clear h
  have H1 := Lib.hid h1; clear h1
  have H2 := Lib.hid h2; clear h2
  have i0 := idx0 a b
  have i1 := idx1 a b
  have j0 := idx0 c d
  have j1 := idx1 c d
  go_enter Tryz.func91, Tryz.ntmps91
  go_wp2_with fail
  refine (bothValid_to a b c d _ _ H.out).mono ?_
  rintro e w1 ⟨rfl, hb⟩
  obtain ⟨hc, hf⟩ := bcell hb
  have hz0 : w.heap.size + 1 + 1 < w1.heap.size := by have := hb.size; simp at this; omega
  have hza : w.heap.size < w1.heap.size := by omega
  have hzb : w.heap.size + 1 < w1.heap.size := by omega
  go_wp2_with fail
  have hB1 := Blk.new w1 151 (growCells 0 0 false)
  have ho1 := Only.refl w1.heap.size (w1.alloc (.cells (growCells 0 0 false) 151))
  have hl1 := below_a1 (Below.refl _ (w1.alloc (.cells (growCells 0 0 false) 151)))
  have HB1 := Lib.hid hB1; clear hB1
  have HO1 := Lib.hid ho1; clear ho1
  have HL1 := Lib.hid hl1; clear hl1
  refine wp_loop_rounds 3 ?_
  rw [rounds_succ]
  go_wp2_with fail
  refine wp_loop_rounds 3 ?_
  rw [rounds_succ]
  go_wp2_with fail
  refine (product_yes a c _ (by omega) (by omega) (by omega) (by omega) H1.out).mono ?_
  rintro e w' ⟨rfl, rfl⟩
  go_wp2_with fail
  refine (take_first _ _ _ _ _ _ HB1.out).mono ?_
  rintro e v2 ⟨rfl, hB2, ho⟩
  obtain ⟨⟨ga2, gb2, gc2, gd2⟩, fa2, fb2⟩ := mul_cells HL1.out (HO1.out.trans ho) hb hz0
  have gq2 : w1.heap.size < v2.heap.size := hB2.lt
  have gz2 : w.heap.size + 1 + 1 < v2.heap.size := by omega
  have HB2 := Lib.hid hB2; clear hB2
  have HO2 := Lib.hid (HO1.out.trans ho); clear ho
  go_wp2_with fail
  rw [rounds_succ]
  go_wp2_with fail
  refine (product_no a d _ (by omega) (by omega) (by omega) (by omega) H2.out).mono ?_
  rintro e w' ⟨rfl, rfl⟩
  go_wp2
  have hb5 : Below w.heap.size w v2 := (HO2.out.below (below_then (below_a3 hb) HL1.out) (by omega))
  exact bodyPost_ret (v := rt (0, 0, 5)) (by simp [results, Tryz.results91, go_sem, gz2, gc2, gd2]) rfl ⟨rfl, (hb5.setCell (by simp; omega) _).setCell (by simp; omega) _⟩

theorem mul_no3 (a b c d : Int) (w : World) (h : (vR a b && vR c d) = true) (h1 : prodOk a c) (h2 : prodOk a d) (h3 : ¬ prodOk b c) :
    Calls Tryz.prog 91 #[rv a b, rv c d] w fun e w' => e = .returned (rt (0, 0, 5)) ∧ Below w.heap.size w w' := by
  obtain ⟨⟨a1, a2, a3⟩, ⟨c1, c2, c3⟩⟩ := both_iff h
  have H := Lib.hid h; clear h
  have H1 := Lib.hid h1; clear h1
  have H2 := Lib.hid h2; clear h2
  have H3 := Lib.hid h3; clear h3
  have i0 := idx0 a b
  have i1 := idx1 a b
  have j0 := idx0 c d
  have j1 := idx1 c d
  go_enter Tryz.func91, Tryz.ntmps91
  go_wp2_with fail
  refine (bothValid_to a b c d _ _ H.out).mono ?_
  rintro e w1 ⟨rfl, hb⟩
  obtain ⟨hc, hf⟩ := bcell hb
  have hz0 : w.heap.size + 1 + 1 < w1.heap.size := by have := hb.size; simp at this; omega
  have hza : w.heap.size < w1.heap.size := by omega
  have hzb : w.heap.size + 1 < w1.heap.size := by omega
  go_wp2_with fail
  have hB1 := Blk.new w1 151 (growCells 0 0 false)
  have ho1 := Only.refl w1.heap.size (w1.alloc (.cells (growCells 0 0 false) 151))
  have hl1 := below_a1 (Below.refl _ (w1.alloc (.cells (growCells 0 0 false) 151)))
  have HB1 := Lib.hid hB1; clear hB1
  have HO1 := Lib.hid ho1; clear ho1
  have HL1 := Lib.hid hl1; clear hl1
  refine wp_loop_rounds 3 ?_
  rw [rounds_succ]
  go_wp2_with fail
  refine wp_loop_rounds 3 ?_
  rw [rounds_succ]
  go_wp2_with fail
  refine (product_yes a c _ (by omega) (by omega) (by omega) (by omega) H1.out).mono ?_
  rintro e w' ⟨rfl, rfl⟩
  go_wp2_with fail
  refine (take_first _ _ _ _ _ _ HB1.out).mono ?_
  rintro e v2 ⟨rfl, hB2, ho⟩
  obtain ⟨⟨ga2, gb2, gc2, gd2⟩, fa2, fb2⟩ := mul_cells HL1.out (HO1.out.trans ho) hb hz0
  have gq2 : w1.heap.size < v2.heap.size := hB2.lt
  have gz2 : w.heap.size + 1 + 1 < v2.heap.size := by omega
  have HB2 := Lib.hid hB2; clear hB2
  have HO2 := Lib.hid (HO1.out.trans ho); clear ho
  go_wp2_with fail
  rw [rounds_succ]
  go_wp2_with fail
  refine (product_yes a d _ (by omega) (by omega) (by omega) (by omega) H2.out).mono ?_
  rintro e w' ⟨rfl, rfl⟩
  go_wp2_with fail
  refine (take_more _ _ _ _ _ _ HB2.out).mono ?_
  rintro e v3 ⟨rfl, hB3, ho⟩
  clear ga2 gb2 gc2 gd2 fa2 fb2 gz2 gq2
  obtain ⟨⟨ga3, gb3, gc3, gd3⟩, fa3, fb3⟩ := mul_cells HL1.out (HO2.out.trans ho) hb hz0
  have gq3 : w1.heap.size < v3.heap.size := hB3.lt
  have gz3 : w.heap.size + 1 + 1 < v3.heap.size := by omega
  have HB3 := Lib.hid hB3; clear hB3
  have HO3 := Lib.hid (HO2.out.trans ho); clear ho
  go_wp2_with fail
  rw [rounds_succ]
  go_wp2_with fail
  rw [rounds_succ]
  go_wp2_with fail
  refine wp_loop_rounds 3 ?_
  rw [rounds_succ]
  go_wp2_with fail
  refine (product_no b c _ (by omega) (by omega) (by omega) (by omega) H3.out).mono ?_
  rintro e w' ⟨rfl, rfl⟩
  go_wp2
  have hb5 : Below w.heap.size w v3 := (HO3.out.below (below_then (below_a3 hb) HL1.out) (by omega))
  exact bodyPost_ret (v := rt (0, 0, 5)) (by simp [results, Tryz.results91, go_sem, gz3, gc3, gd3]) rfl ⟨rfl, (hb5.setCell (by simp; omega) _).setCell (by simp; omega) _⟩

theorem mul_no4 (a b c d : Int) (w : World) (h : (vR a b && vR c d) = true) (h1 : prodOk a c) (h2 : prodOk a d) (h3 : prodOk b c) (h4 : ¬ prodOk b d) :
    Calls Tryz.prog 91 #[rv a b, rv c d] w fun e w' => e = .returned (rt (0, 0, 5)) ∧ Below w.heap.size w w' := by
  obtain ⟨⟨a1, a2, a3⟩, ⟨c1, c2, c3⟩⟩ := both_iff h
  have H := Lib.hid h; clear h
  have H1 := Lib.hid h1; clear h1
  have H2 := Lib.hid h2; clear h2
  have H3 := Lib.hid h3; clear h3
  have H4 := Lib.hid h4; clear h4
  have i0 := idx0 a b
  have i1 := idx1 a b
  have j0 := idx0 c d
  have j1 := idx1 c d
  go_enter Tryz.func91, Tryz.ntmps91
  go_wp2_with fail
  refine (bothValid_to a b c d _ _ H.out).mono ?_
  rintro e w1 ⟨rfl, hb⟩
  obtain ⟨hc, hf⟩ := bcell hb
  have hz0 : w.heap.size + 1 + 1 < w1.heap.size := by have := hb.size; simp at this; omega
  have hza : w.heap.size < w1.heap.size := by omega
  have hzb : w.heap.size + 1 < w1.heap.size := by omega
  go_wp2_with fail
  have hB1 := Blk.new w1 151 (growCells 0 0 false)
  have ho1 := Only.refl w1.heap.size (w1.alloc (.cells (growCells 0 0 false) 151))
  have hl1 := below_a1 (Below.refl _ (w1.alloc (.cells (growCells 0 0 false) 151)))
  have HB1 := Lib.hid hB1; clear hB1
  have HO1 := Lib.hid ho1; clear ho1
  have HL1 := Lib.hid hl1; clear hl1
  refine wp_loop_rounds 3 ?_
  rw [rounds_succ]
  go_wp2_with fail
  refine wp_loop_rounds 3 ?_
  rw [rounds_succ]
  go_wp2_with fail
  refine (product_yes a c _ (by omega) (by omega) (by omega) (by omega) H1.out).mono ?_
  rintro e w' ⟨rfl, rfl⟩
  go_wp2_with fail
  refine (take_first _ _ _ _ _ _ HB1.out).mono ?_
  rintro e v2 ⟨rfl, hB2, ho⟩
  obtain ⟨⟨ga2, gb2, gc2, gd2⟩, fa2, fb2⟩ := mul_cells HL1.out (HO1.out.trans ho) hb hz0
  have gq2 : w1.heap.size < v2.heap.size := hB2.lt
  have gz2 : w.heap.size + 1 + 1 < v2.heap.size := by omega
  have HB2 := Lib.hid hB2; clear hB2
  have HO2 := Lib.hid (HO1.out.trans ho); clear ho
  go_wp2_with fail
  rw [rounds_succ]
  go_wp2_with fail
  refine (product_yes a d _ (by omega) (by omega) (by omega) (by omega) H2.out).mono ?_
  rintro e w' ⟨rfl, rfl⟩
  go_wp2_with fail
  refine (take_more _ _ _ _ _ _ HB2.out).mono ?_
  rintro e v3 ⟨rfl, hB3, ho⟩
  clear ga2 gb2 gc2 gd2 fa2 fb2 gz2 gq2
  obtain ⟨⟨ga3, gb3, gc3, gd3⟩, fa3, fb3⟩ := mul_cells HL1.out (HO2.out.trans ho) hb hz0
  have gq3 : w1.heap.size < v3.heap.size := hB3.lt
  have gz3 : w.heap.size + 1 + 1 < v3.heap.size := by omega
  have HB3 := Lib.hid hB3; clear hB3
  have HO3 := Lib.hid (HO2.out.trans ho); clear ho
  go_wp2_with fail
  rw [rounds_succ]
  go_wp2_with fail
  rw [rounds_succ]
  go_wp2_with fail
  refine wp_loop_rounds 3 ?_
  rw [rounds_succ]
  go_wp2_with fail
  refine (product_yes b c _ (by omega) (by omega) (by omega) (by omega) H3.out).mono ?_
  rintro e w' ⟨rfl, rfl⟩
  go_wp2_with fail
  refine (take_more _ _ _ _ _ _ HB3.out).mono ?_
  rintro e v4 ⟨rfl, hB4, ho⟩
  clear ga3 gb3 gc3 gd3 fa3 fb3 gz3 gq3
  obtain ⟨⟨ga4, gb4, gc4, gd4⟩, fa4, fb4⟩ := mul_cells HL1.out (HO3.out.trans ho) hb hz0
  have gq4 : w1.heap.size < v4.heap.size := hB4.lt
  have gz4 : w.heap.size + 1 + 1 < v4.heap.size := by omega
  have HB4 := Lib.hid hB4; clear hB4
  have HO4 := Lib.hid (HO3.out.trans ho); clear ho
  go_wp2_with fail
  rw [rounds_succ]
  go_wp2_with fail
  refine (product_no b d _ (by omega) (by omega) (by omega) (by omega) H4.out).mono ?_
  rintro e w' ⟨rfl, rfl⟩
  go_wp2
  have hb5 : Below w.heap.size w v4 := (HO4.out.below (below_then (below_a3 hb) HL1.out) (by omega))
  exact bodyPost_ret (v := rt (0, 0, 5)) (by simp [results, Tryz.results91, go_sem, gz4, gc4, gd4]) rfl ⟨rfl, (hb5.setCell (by simp; omega) _).setCell (by simp; omega) _⟩

theorem mul_invalid (a b c d : Int) (w : World) (h : (vR a b && vR c d) = false) :
    Calls Tryz.prog 91 #[rv a b, rv c d] w fun e w' => e = .returned (rt (0, 0, 10)) ∧ Below w.heap.size w w' := by
  have H := Lib.hid h; clear h
  go_enter Tryz.func91, Tryz.ntmps91
  go_wp2_with fail
  refine (bothValid_to a b c d _ _ H.out).mono ?_
  rintro e w1 ⟨rfl, hb⟩
  obtain ⟨hc, hf⟩ := bcell hb
  go_wp2
  exact bodyPost_ret (v := rt (0, 0, 10)) (by simp [results, Tryz.results91, go_sem, hc]) rfl ⟨rfl, ((below_a3 hb).setCell (by simp; omega) _).setCell (by simp; omega) _⟩

theorem bigS_no (lo hi : Int) (h : ¬ (lo ≤ hi ∧ -1000000000000000 ≤ lo ∧ hi ≤ 1000000000000000)) : bigS lo hi = (0, 0, 5) := by
  unfold bigS; rw [vR_no lo hi h]; rfl
theorem far_of_notOk {a b : Int} (h : ¬ prodOk a b) : a * b < -2000000000000000 ∨ 2000000000000000 < a * b := by
  have h1 : ¬ absI (a * b) ≤ 2000000000000000 := fun k => h ((prodOk_iff _ _).2 k)
  unfold absI at h1; split at h1 <;> omega

theorem mul_any (a b c d : Int) (w : World) :
    Calls Tryz.prog 91 #[rv a b, rv c d] w fun e w' => e = .returned (rt (mulS a b c d)) ∧ Below w.heap.size w w' := by
  unfold mulS
  cases h : (vR a b && vR c d)
  · rw [twoS_no h]; exact mul_invalid a b c d w h
  · rw [twoS_yes h]
    by_cases h1 : prodOk a c
    · by_cases h2 : prodOk a d
      · by_cases h3 : prodOk b c
        · by_cases h4 : prodOk b d
          · exact mul_yes a b c d w h h1 h2 h3 h4
          · rw [bigS_no _ _ (by have := far_of_notOk h4; omega)]; exact mul_no4 a b c d w h h1 h2 h3 h4
        · rw [bigS_no _ _ (by have := far_of_notOk h3; omega)]; exact mul_no3 a b c d w h h1 h2 h3
      · rw [bigS_no _ _ (by have := far_of_notOk h2; omega)]; exact mul_no2 a b c d w h h1 h2
    · rw [bigS_no _ _ (by have := far_of_notOk h1; omega)]; exact mul_no1 a b c d w h h1
end

section
open Go.RowKit
attribute [local go_sem ↓] eqlRange neqRange
theorem run_minI {P : Program} (ts : Array TypeId) (t : TypeId) (x y : Int) (w : World) : (Builtin.min_ ts t #[.int .i64 x, .int .i64 y]).run P w = .ok (.int .i64 (min x y)) w := by
  rw [run_min_int2]
  have e : (if y < x then y else x) = min x y := by split <;> omega
  rw [e]
theorem run_maxI {P : Program} (ts : Array TypeId) (t : TypeId) (x y : Int) (w : World) : (Builtin.max_ ts t #[.int .i64 x, .int .i64 y]).run P w = .ok (.int .i64 (max x y)) w := by
  rw [run_max_int2]
  have e : (if x < y then y else x) = max x y := by split <;> omega
  rw [e]
attribute [local go_sem ↓] run_minI run_maxI
end

end Go.Proofs.YtbcefdaflnlhoaaGreat
