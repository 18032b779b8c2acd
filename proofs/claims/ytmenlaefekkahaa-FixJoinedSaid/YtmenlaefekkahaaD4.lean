/- The contract of the closure that Where hands to collect (fix). Its conditions: the range lies in memory; the numbers are those of a valid table, and the piece's places do not fall. -/
import Derived.Test.YtmenlaefekkahaaD3
set_option linter.unusedVariables false
set_option linter.unusedSimpArgs false
set_option linter.constructorNameAsVariable false
namespace Go.Proofs.Ytmenlaefekkahaa
open Go.RowKit

/-- The places of a piece at which a value may lie in a range. -/
def whereS (lo hi : Int) (p q : P3) : Int × Int :=
  (max (stretchS (lowSo p q lo hi) p.1 q.1).1 (stretchS (highSo p q lo hi) p.1 q.1).1, min (stretchS (lowSo p q lo hi) p.1 q.1).2 (stretchS (highSo p q lo hi) p.1 q.1).2)

set_option maxRecDepth 100000 in
set_option maxHeartbeats 2000000 in
theorem whereAsk (Br : Nat) (p q : P3) (lo hi : Int) (w : World) (h : Blk w Br 23 #[.int .i64 lo, .int .i64 hi]) (hp : Okp p) (hq : Okp q) (hab : p.1 ≤ q.1) :
    Calls Try.prog 103 #[pv p q, .pointer (some ⟨Br, 0, none⟩)] w fun e w' => e = .returned (rv (whereS lo hi p q).1 (whereS lo hi p q).2) ∧ Below w.heap.size w w' := by
  have hbr := h.lt
  have bp := (Blk.new w 111 (pCells p q)).alloc (.cells #[.int .i64 0, .int .i64 0] 23)
  have br := (Blk.new (w.alloc (.cells (pCells p q) 111)) 23 #[.int .i64 0, .int .i64 0])
  have bb := (h.alloc (.cells (pCells p q) 111)).alloc (.cells #[.int .i64 0, .int .i64 0] 23)
  have hE : Below w.heap.size w ((w.alloc (.cells (pCells p q) 111)).alloc (.cells #[.int .i64 0, .int .i64 0] 23)) := below_a2 (Below.refl _ _)
  simp only [World.size_alloc] at br
  have HP := Lib.hid bp; have HR := Lib.hid br; have HB := Lib.hid bb; have HE := Lib.hid hE
  have HO := Lib.hid (And.intro hp (And.intro hq hab))
  clear bp br bb hE h hp hq
  generalize hS1 : stretchS (lowSo p q lo hi) p.1 q.1 = s1
  generalize hS2 : stretchS (highSo p q lo hi) p.1 q.1 = s2
  have hW : whereS lo hi p q = (max s1.1 s2.1, min s1.2 s2.2) := by unfold whereS; rw [hS1, hS2]
  have HW := Lib.hid hW; have H1 := Lib.hid hS1; have H2 := Lib.hid hS2
  clear hW hS1 hS2
  go_enter Try.func103, Try.ntmps103
  go_wp2_with fail
  have hz : w.heap.size + 2 = ((w.alloc (.cells (pCells p q) 111)).alloc (.cells #[.int .i64 0, .int .i64 0] 23)).heap.size := by simp
  obtain ⟨W1, hW1⟩ : ∃ W1, ((w.alloc (.cells (pCells p q) 111)).alloc (.cells #[.int .i64 0, .int .i64 0] 23)) = W1 := ⟨_, rfl⟩
  rw [hW1] at HP HR HB HE hz ⊢
  clear hW1
  have hA1 : Asked W1 w.heap.size Br p q lo hi := ⟨HP.out, HB.out, HO.out.1, HO.out.2.1⟩
  have C1 := low_stretch w.heap.size Br p q lo hi W1 hA1 HO.out.2.2
  rw [H1.out] at C1
  refine C1.mono ?_
  rintro e W2 ⟨rfl, hb2⟩
  have p2 := HP.out.below hb2 HP.out.lt
  have r2 := HR.out.below hb2 HR.out.lt
  have b2 := HB.out.below hb2 HB.out.lt
  have e2 := below_then HE.out hb2
  have hz2 : w.heap.size + 1 < W2.heap.size := by have := hb2.size; omega
  have x0 := p2.cell 0
  have x1 := p2.cell 1
  have x2 := p2.cell 2
  have x3 := p2.cell 3
  have x4 := p2.cell 4
  have x5 := p2.cell 5
  simp at x0 x1 x2 x3 x4 x5
  have p3 := p2.alloc (.cells #[.int .i64 s1.1, .int .i64 s1.2] 23)
  have r3 := r2.alloc (.cells #[.int .i64 s1.1, .int .i64 s1.2] 23)
  have b3 := b2.alloc (.cells #[.int .i64 s1.1, .int .i64 s1.2] 23)
  have s3 := Blk.new W2 23 #[.int .i64 s1.1, .int .i64 s1.2]
  have e3 := below_then e2 ((Below.refl _ _).alloc (Nat.le_refl _) (.cells #[.int .i64 s1.1, .int .i64 s1.2] 23))
  have P3 := Lib.hid p3; have R3 := Lib.hid r3; have B3 := Lib.hid b3; have S3 := Lib.hid s3; have E3 := Lib.hid e3
  clear C1 hA1 p2 r2 b2 e2 p3 r3 b3 s3 e3 hb2
  have hza : w.heap.size < W2.heap.size := by omega
  go_wp2_with fail
  obtain ⟨W3, hW3⟩ : ∃ W3, W2.alloc (.cells #[.int .i64 s1.1, .int .i64 s1.2] 23) = W3 := ⟨_, rfl⟩
  rw [hW3] at P3 R3 B3 S3 E3 ⊢
  have hz3 : W2.heap.size < W3.heap.size := S3.out.lt
  clear hW3 x0 x1 x2 x3 x4 x5
  have hA3 : Asked W3 w.heap.size Br p q lo hi := ⟨P3.out, B3.out, HO.out.1, HO.out.2.1⟩
  have C3 := high_stretch w.heap.size Br p q lo hi W3 hA3 HO.out.2.2
  rw [H2.out] at C3
  refine C3.mono ?_
  rintro e W4 ⟨rfl, hb4⟩
  have r4 := R3.out.below hb4 R3.out.lt
  have s4 := S3.out.below hb4 S3.out.lt
  have e4 := below_then E3.out hb4
  have y0 := s4.cell 0
  have y1 := s4.cell 1
  have q0 := r4.cell 0
  have q1 := r4.cell 1
  have f0 := r4.frozen 0
  have f1 := r4.frozen 1
  simp at y0 y1 q0 q1
  have hz4 : W2.heap.size < W4.heap.size := by have := hb4.size; omega
  have hz5 : w.heap.size + 1 < W4.heap.size := by omega
  have E4 := Lib.hid e4
  clear C3 hA3 hb4 e4
  go_wp2_with fail
  refine (common_any _ _ _ _ _).mono ?_
  rintro e W5 ⟨rfl, hb5⟩
  obtain ⟨hc5, hf5⟩ := bcell hb5
  have hz6 : w.heap.size + 1 < W4.heap.size + 1 := by omega
  have hs5 : w.heap.size ≤ W5.heap.size := by have := hb5.size; simp at this; omega
  go_wp2
  refine bodyPost_ret (v := rv (max s1.1 s2.1) (min s1.2 s2.2)) (by simp [results, Try.results103, go_sem, hc5, hz6, hz5, q0, q1]) rfl ⟨by rw [HW.out], ?_⟩
  exact (((below_then E4.out (below_a1 hb5)).setCell (p := ⟨w.heap.size + 1, 0, none⟩) (by simp) _).setCell (p := ⟨w.heap.size + 1, 1, none⟩) (by simp) _)
end Go.Proofs.Ytmenlaefekkahaa
