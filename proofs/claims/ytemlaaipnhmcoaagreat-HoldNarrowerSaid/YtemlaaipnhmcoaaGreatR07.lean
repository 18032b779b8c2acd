/- The contract of the closure that Where hands to collect (fix). Its conditions: the range lies in memory; the numbers are those of a valid table, and the piece's places do not fall. -/
import Derived.RegionTactic
import Derived.Laws.Small
import Derived.Test.YtemlaaipnhmcoaaGreatR06
set_option linter.unusedVariables false
set_option linter.unusedSimpArgs false
set_option linter.constructorNameAsVariable false
namespace Go.Proofs.YtemlaaipnhmcoaaGreat

section
open Go.RowKit

def stretchS (so : Int → Bool) (a b : Int) : Int × Int :=
  if so a = so b then (if so a = true then (a, b) else (b + 1, b))
  else (if so a = true then (a, a + bs (fun i => !(so (a + i) == so a)) (b - a).toNat 0 (b - a) - 1) else (a + bs (fun i => !(so (a + i) == so a)) (b - a).toNat 0 (b - a), b))
theorem bs_range (f : Int → Bool) : ∀ (k : Nat) (i j : Int), i ≤ j → i ≤ bs f k i j ∧ bs f k i j ≤ j
  | 0, i, j, h => ⟨Int.le_refl _, h⟩
  | k + 1, i, j, h => by
    by_cases hlt : i < j
    · cases hf : f ((i + j) / 2)
      · rw [bs_no f k i j hlt hf]
        have := bs_range f k ((i + j) / 2 + 1) j (by omega)
        omega
      · rw [bs_yes f k i j hlt hf]
        have := bs_range f k i ((i + j) / 2) (by omega)
        omega
    · rw [bs_done f (k + 1) i j hlt]; omega

theorem low_asked_to (Bp Br : Nat) (p q : P3) (lo hi x : Int) (t : Bool) (w : World) (h : Asked w Bp Br p q lo hi) (hx : 0 ≤ x) (hx' : x ≤ 1000000) (ht : lowSo p q lo hi x = t) :
    Calls Tryz.prog 168 #[.int .i64 x, .pointer (some ⟨Bp, 0, none⟩), .pointer (some ⟨Br, 0, none⟩)] w fun e w' => e = .returned (.bool t) ∧ Below w.heap.size w w' := by
  subst ht; exact low_asked Bp Br p q lo hi x w h hx hx'

theorem low_search_int (B3 B5 B7 Bp Br : Nat) (p q : P3) (lo hi a d : Int) (first : Bool) (w : World) (h : lowTurn w B3 B5 B7 Bp Br p q lo hi a first) (ha : 0 ≤ a) (hd : 0 ≤ d) (had : a + d ≤ 1000000) :
    Calls Tryz.prog 200 #[.int .i64 d, lowTurnFn B3 B5 B7] w fun e w' => e = .returned (.int .i64 (bs (fun i => !(lowSo p q lo hi (a + i) == first)) d.toNat 0 d)) ∧ Below w.heap.size w w' := by
  obtain ⟨n, rfl⟩ := Int.eq_ofNat_of_zero_le hd
  exact low_search B3 B5 B7 Bp Br p q lo hi a n first w h ha had

set_option maxRecDepth 100000 in
set_option maxHeartbeats 2000000 in
theorem low_stretch (Bp Br : Nat) (p q : P3) (lo hi : Int) (w : World) (h : Asked w Bp Br p q lo hi) (hab : p.1 ≤ q.1) :
  Calls Tryz.prog 167 #[pv p q, lowFn Bp Br] w fun e w' => e = .returned (rv (stretchS (lowSo p q lo hi) p.1 q.1).1 (stretchS (lowSo p q lo hi) p.1 q.1).2) ∧ Below w.heap.size w w' := by
 obtain ⟨o1, o2, _, _, _, _⟩ := h.2.2.1
 obtain ⟨o3, o4, _, _, _, _⟩ := h.2.2.2
 have HA := Lib.hid h; clear h
 generalize hf : lowSo p q lo hi p.1 = f
 generalize hs : lowSo p q lo hi q.1 = s
 generalize hR : stretchS (lowSo p q lo hi) p.1 q.1 = R
 have HF := Lib.hid hf; have HS := Lib.hid hs; have HR := Lib.hid hR; clear hf hs hR
 go_enter Tryz.func167, Tryz.ntmps167
 go_wp2_with fail
 go_region
 go_wp2_with fail
 have b3 := ((Blk.new (w.alloc (.cells (pCells p q) 172)) 72 #[lowFn Bp Br]).alloc (.cells #[.int .i64 0, .int .i64 0] 30)).alloc (.cells #[.int .i64 p.1] 3)
 have b4 := (Blk.new ((w.alloc (.cells (pCells p q) 172)).alloc (.cells #[lowFn Bp Br] 72)) 30 #[.int .i64 0, .int .i64 0]).alloc (.cells #[.int .i64 p.1] 3)
 have b5 := Blk.new (((w.alloc (.cells (pCells p q) 172)).alloc (.cells #[lowFn Bp Br] 72)).alloc (.cells #[.int .i64 0, .int .i64 0] 30)) 3 #[.int .i64 p.1]
 have hE : Below w.heap.size w ((((w.alloc (.cells (pCells p q) 172)).alloc (.cells #[lowFn Bp Br] 72)).alloc (.cells #[.int .i64 0, .int .i64 0] 30)).alloc (.cells #[.int .i64 p.1] 3)) := below_a2 (below_a2 (Below.refl _ _))
 have hsz : ((((w.alloc (.cells (pCells p q) 172)).alloc (.cells #[lowFn Bp Br] 72)).alloc (.cells #[.int .i64 0, .int .i64 0] 30)).alloc (.cells #[.int .i64 p.1] 3)).drew.heap.size = w.heap.size + 4 := by show _ = _; simp [World.drew]
 have b3 := b3.drew
 have b4 := b4.drew
 have b5 := b5.drew
 have hE := hE.drew
 simp only [World.size_alloc] at b3 b4 b5
 obtain ⟨W4, hW4⟩ : ∃ W4, ((((w.alloc (.cells (pCells p q) 172)).alloc (.cells #[lowFn Bp Br] 72)).alloc (.cells #[.int .i64 0, .int .i64 0] 30)).alloc (.cells #[.int .i64 p.1] 3)).drew = W4 := ⟨_, rfl⟩
 rw [hW4] at b3 b4 b5 hE hsz ⊢
 clear hW4
 have hA4 := HA.out.below hE
 refine (low_asked_to Bp Br p q lo hi p.1 f W4 hA4 o1 o2 HF.out).mono ?_
 rintro e W5 ⟨rfl, hb5⟩
 have c3 := b3.below hb5 b3.lt
 have c4 := b4.below hb5 b4.lt
 have c5 := b5.below hb5 b5.lt
 have hA5 := hA4.below hb5
 have hE5 := below_then hE hb5
 have hz5 : w.heap.size + 1 + 1 + 1 < W5.heap.size := by have := hb5.size; omega
 clear b3 b4 b5 hA4 hE hb5 hsz
 have d3 := c3.alloc (.cells #[.bool f] 4)
 have d4 := c4.alloc (.cells #[.bool f] 4)
 have d5 := c5.alloc (.cells #[.bool f] 4)
 have d7 := Blk.new W5 4 #[.bool f]
 have hA6 := hA5.below ((Below.refl _ _).alloc (Nat.le_refl _) (.cells #[.bool f] 4))
 have hE6 := below_then hE5 ((Below.refl _ _).alloc (Nat.le_refl _) (.cells #[.bool f] 4))
 have x3 := c3.cell 0
 have x5 := c5.cell 0
 simp at x3 x5
 have C3 := Lib.hid d3; have C4 := Lib.hid d4; have C5 := Lib.hid d5; have C7 := Lib.hid d7; have A6 := Lib.hid hA6; have E6 := Lib.hid hE6
 clear c3 c4 c5 d3 d4 d5 d7 hA5 hA6 hE5 hE6
 go_wp2_with fail
 obtain ⟨W6, hW6⟩ : ∃ W6, W5.alloc (.cells #[.bool f] 4) = W6 := ⟨_, rfl⟩
 rw [hW6] at C3 C4 C5 C7 A6 E6 ⊢
 clear hW6 x3 x5
 have e3 := C3.out.cell 0
 have e5 := C5.out.cell 0
 have e7 := C7.out.cell 0
 have l3 := C3.out.lt
 have l5 := C5.out.lt
 have l7 := C7.out.lt
 simp at e3 e5 e7
 have hd3 : w.heap.size + 1 < W6.drew.heap.size := l3
 have hd5 : w.heap.size + 1 + 1 + 1 < W6.drew.heap.size := l5
 have hd7 : W5.heap.size < W6.drew.heap.size := l7
 go_region_held3 (fun w' => w'.cell? ⟨w.heap.size + 1, 0, none⟩ = some (lowFn Bp Br) ∧ w'.cell? ⟨W5.heap.size, 0, none⟩ = some (.bool f))
  (first | (go_keep; done) | exact ⟨((bcell hb7).1 _ _ hd3).trans (‹_ ∧ _›).1, ((bcell hb7).1 _ _ hd7).trans (‹_ ∧ _›).2⟩)
  (first | (go_at_call 168; refine (low_asked_to Bp Br p q lo hi q.1 s W6.drew A6.out.drew o3 o4 HS.out).mono ?_; rintro e W7 ⟨rfl, hb7⟩))
 have D3 := C3.out.drew.below hb7 hd3
 have D4 := C4.out.drew.below hb7 (show w.heap.size + 1 + 1 < W6.drew.heap.size from C4.out.lt)
 have D5 := C5.out.drew.below hb7 hd5
 have D7 := C7.out.drew.below hb7 hd7
 have A7 := A6.out.drew.below hb7
 have E7 := below_then E6.out (below_d hb7)
 have y5 := D5.cell 0
 have y7 := D7.cell 0
 have r0 := D4.cell 0
 have r1 := D4.cell 1
 have f0 := D4.frozen 0
 have f1 := D4.frozen 1
 simp at y5 y7 r0 r1
 have m5 := D5.lt
 have m7 := D7.lt
 have HT := Lib.hid (show lowTurn W7 (w.heap.size + 1) (w.heap.size + 1 + 1 + 1) W5.heap.size Bp Br p q lo hi p.1 f from ⟨D3, D5, D7, A7⟩)
 have H4 := Lib.hid D4
 have H7 := Lib.hid E7
 clear C3 C4 C5 C7 A6 E6 D3 D4 D5 D7 A7 E7 hb7 hd3 hd5 hd7 e3 e5 e7 l3 l5 l7
 have w1 : IntKind.i64.wrap (q.1 - p.1) = q.1 - p.1 := IntWalk.i64_in _ ⟨by omega, by omega⟩
 have hbr := bs_range (fun i => !(lowSo p q lo hi (p.1 + i) == f)) (q.1 - p.1).toNat 0 (q.1 - p.1) (by omega)
 have hsize : w.heap.size ≤ W7.heap.size := by omega
 cases f <;> cases s
 ·have hr : R = (q.1 + 1, q.1) := by rw [← HR.out]; unfold stretchS; rw [HF.out, HS.out]; simp
  have HRR := Lib.hid hr; clear HR HF HS hr hbr HT
  go_wp2
  refine bodyPost_ret (v := rv (q.1 + 1) q.1) (by simp [results, Tryz.results167, go_sem, r0, r1]) rfl ⟨by rw [HRR.out], ?_⟩
  exact (H7.out.setCell (p := ⟨w.heap.size + 1 + 1, 0, none⟩) (by simp; omega) _).setCell (p := ⟨w.heap.size + 1 + 1, 1, none⟩) (by simp; omega) _
 ·have hr : R = (p.1 + bs (fun i => !(lowSo p q lo hi (p.1 + i) == false)) (q.1 - p.1).toNat 0 (q.1 - p.1), q.1) := by rw [← HR.out]; unfold stretchS; rw [HF.out, HS.out]; simp
  have HRR := Lib.hid hr; clear HR HF HS hr
  have HS8 := Lib.hid (low_search_int (w.heap.size + 1) (w.heap.size + 1 + 1 + 1) W5.heap.size Bp Br p q lo hi p.1 (q.1 - p.1) false W7.drew HT.out o1 (by omega) (by omega))
  generalize hB : bs (fun i => !(lowSo p q lo hi (p.1 + i) == false)) (q.1 - p.1).toNat 0 (q.1 - p.1) = T at *
  have w2 : IntKind.i64.wrap (p.1 + T) = p.1 + T := IntWalk.i64_in _ ⟨by omega, by omega⟩
  clear hB HT
  go_wp2_with fail
  go_region_held3 (fun w' => w'.cell? ⟨w.heap.size + 1 + 1 + 1, 0, none⟩ = some (.int .i64 p.1) ∧ w'.cell? ⟨W5.heap.size, 0, none⟩ = some (.bool false))
   (first | (go_keep; done) | exact ⟨((bcell hb8).1 _ _ (show w.heap.size + 1 + 1 + 1 < W7.drew.heap.size from m5)).trans (‹_ ∧ _›).1, ((bcell hb8).1 _ _ (show W5.heap.size < W7.drew.heap.size from m7)).trans (‹_ ∧ _›).2⟩)
   (first | (go_at_call 200; refine (HS8.out).mono ?_; rintro e W8 ⟨rfl, hb8⟩))
  have J4 := H4.out.drew.below hb8 (show w.heap.size + 1 + 1 < W7.drew.heap.size from H4.out.lt)
  have z7 := ((bcell hb8).1 W5.heap.size 0 (show W5.heap.size < W7.drew.heap.size from m7)).trans y7
  have z5 := ((bcell hb8).1 (w.heap.size + 1 + 1 + 1) 0 (show w.heap.size + 1 + 1 + 1 < W7.drew.heap.size from m5)).trans y5
  have q0 := J4.cell 0
  have q1 := J4.cell 1
  have g0 := J4.frozen 0
  have g1 := J4.frozen 1
  simp at q0 q1
  have H8 := Lib.hid (below_then H7.out (below_d hb8))
  clear hb8 J4 y5 y7 r0 r1 f0 f1
  go_wp2
  refine bodyPost_ret (v := rv (p.1 + T) q.1) (by simp [results, Tryz.results167, go_sem, q0, q1]) rfl ⟨by rw [HRR.out], ?_⟩
  exact (H8.out.setCell (p := ⟨w.heap.size + 1 + 1, 0, none⟩) (by simp; omega) _).setCell (p := ⟨w.heap.size + 1 + 1, 1, none⟩) (by simp; omega) _
 ·have hr : R = (p.1, p.1 + bs (fun i => !(lowSo p q lo hi (p.1 + i) == true)) (q.1 - p.1).toNat 0 (q.1 - p.1) - 1) := by rw [← HR.out]; unfold stretchS; rw [HF.out, HS.out]; simp
  have HRR := Lib.hid hr; clear HR HF HS hr
  have HS8 := Lib.hid (low_search_int (w.heap.size + 1) (w.heap.size + 1 + 1 + 1) W5.heap.size Bp Br p q lo hi p.1 (q.1 - p.1) true W7.drew HT.out o1 (by omega) (by omega))
  generalize hB : bs (fun i => !(lowSo p q lo hi (p.1 + i) == true)) (q.1 - p.1).toNat 0 (q.1 - p.1) = T at *
  have w2 : IntKind.i64.wrap (p.1 + T) = p.1 + T := IntWalk.i64_in _ ⟨by omega, by omega⟩
  clear hB HT
  go_wp2_with fail
  go_region_held3 (fun w' => w'.cell? ⟨w.heap.size + 1 + 1 + 1, 0, none⟩ = some (.int .i64 p.1) ∧ w'.cell? ⟨W5.heap.size, 0, none⟩ = some (.bool true))
   (first | (go_keep; done) | exact ⟨((bcell hb8).1 _ _ (show w.heap.size + 1 + 1 + 1 < W7.drew.heap.size from m5)).trans (‹_ ∧ _›).1, ((bcell hb8).1 _ _ (show W5.heap.size < W7.drew.heap.size from m7)).trans (‹_ ∧ _›).2⟩)
   (first | (go_at_call 200; refine (HS8.out).mono ?_; rintro e W8 ⟨rfl, hb8⟩))
  have J4 := H4.out.drew.below hb8 (show w.heap.size + 1 + 1 < W7.drew.heap.size from H4.out.lt)
  have z7 := ((bcell hb8).1 W5.heap.size 0 (show W5.heap.size < W7.drew.heap.size from m7)).trans y7
  have z5 := ((bcell hb8).1 (w.heap.size + 1 + 1 + 1) 0 (show w.heap.size + 1 + 1 + 1 < W7.drew.heap.size from m5)).trans y5
  have q0 := J4.cell 0
  have q1 := J4.cell 1
  have g0 := J4.frozen 0
  have g1 := J4.frozen 1
  simp at q0 q1
  have H8 := Lib.hid (below_then H7.out (below_d hb8))
  clear hb8 J4 y5 y7 r0 r1 f0 f1
  go_wp2
  refine bodyPost_ret (v := rv p.1 (p.1 + T - 1)) (by simp [results, Tryz.results167, go_sem, q0, q1]) rfl ⟨by rw [HRR.out], ?_⟩
  exact (H8.out.setCell (p := ⟨w.heap.size + 1 + 1, 0, none⟩) (by simp; omega) _).setCell (p := ⟨w.heap.size + 1 + 1, 1, none⟩) (by simp; omega) _
 ·have hr : R = (p.1, q.1) := by rw [← HR.out]; unfold stretchS; rw [HF.out, HS.out]; simp
  have HRR := Lib.hid hr; clear HR HF HS hr hbr HT
  go_wp2
  refine bodyPost_ret (v := rv p.1 q.1) (by simp [results, Tryz.results167, go_sem, r0, r1]) rfl ⟨by rw [HRR.out], ?_⟩
  exact (H7.out.setCell (p := ⟨w.heap.size + 1 + 1, 0, none⟩) (by simp; omega) _).setCell (p := ⟨w.heap.size + 1 + 1, 1, none⟩) (by simp; omega) _

theorem high_asked_to (Bp Br : Nat) (p q : P3) (lo hi x : Int) (t : Bool) (w : World) (h : Asked w Bp Br p q lo hi) (hx : 0 ≤ x) (hx' : x ≤ 1000000) (ht : highSo p q lo hi x = t) :
    Calls Tryz.prog 170 #[.int .i64 x, .pointer (some ⟨Bp, 0, none⟩), .pointer (some ⟨Br, 0, none⟩)] w fun e w' => e = .returned (.bool t) ∧ Below w.heap.size w w' := by
  subst ht; exact high_asked Bp Br p q lo hi x w h hx hx'

theorem high_search_int (B3 B5 B7 Bp Br : Nat) (p q : P3) (lo hi a d : Int) (first : Bool) (w : World) (h : highTurn w B3 B5 B7 Bp Br p q lo hi a first) (ha : 0 ≤ a) (hd : 0 ≤ d) (had : a + d ≤ 1000000) :
    Calls Tryz.prog 200 #[.int .i64 d, highTurnFn B3 B5 B7] w fun e w' => e = .returned (.int .i64 (bs (fun i => !(highSo p q lo hi (a + i) == first)) d.toNat 0 d)) ∧ Below w.heap.size w w' := by
  obtain ⟨n, rfl⟩ := Int.eq_ofNat_of_zero_le hd
  exact high_search B3 B5 B7 Bp Br p q lo hi a n first w h ha had

set_option maxRecDepth 100000 in
set_option maxHeartbeats 2000000 in
theorem high_stretch (Bp Br : Nat) (p q : P3) (lo hi : Int) (w : World) (h : Asked w Bp Br p q lo hi) (hab : p.1 ≤ q.1) :
  Calls Tryz.prog 167 #[pv p q, highFn Bp Br] w fun e w' => e = .returned (rv (stretchS (highSo p q lo hi) p.1 q.1).1 (stretchS (highSo p q lo hi) p.1 q.1).2) ∧ Below w.heap.size w w' := by
 obtain ⟨o1, o2, _, _, _, _⟩ := h.2.2.1
 obtain ⟨o3, o4, _, _, _, _⟩ := h.2.2.2
 have HA := Lib.hid h; clear h
 generalize hf : highSo p q lo hi p.1 = f
 generalize hs : highSo p q lo hi q.1 = s
 generalize hR : stretchS (highSo p q lo hi) p.1 q.1 = R
 have HF := Lib.hid hf; have HS := Lib.hid hs; have HR := Lib.hid hR; clear hf hs hR
 go_enter Tryz.func167, Tryz.ntmps167
 go_wp2_with fail
 go_region
 go_wp2_with fail
 have b3 := ((Blk.new (w.alloc (.cells (pCells p q) 172)) 72 #[highFn Bp Br]).alloc (.cells #[.int .i64 0, .int .i64 0] 30)).alloc (.cells #[.int .i64 p.1] 3)
 have b4 := (Blk.new ((w.alloc (.cells (pCells p q) 172)).alloc (.cells #[highFn Bp Br] 72)) 30 #[.int .i64 0, .int .i64 0]).alloc (.cells #[.int .i64 p.1] 3)
 have b5 := Blk.new (((w.alloc (.cells (pCells p q) 172)).alloc (.cells #[highFn Bp Br] 72)).alloc (.cells #[.int .i64 0, .int .i64 0] 30)) 3 #[.int .i64 p.1]
 have hE : Below w.heap.size w ((((w.alloc (.cells (pCells p q) 172)).alloc (.cells #[highFn Bp Br] 72)).alloc (.cells #[.int .i64 0, .int .i64 0] 30)).alloc (.cells #[.int .i64 p.1] 3)) := below_a2 (below_a2 (Below.refl _ _))
 have hsz : ((((w.alloc (.cells (pCells p q) 172)).alloc (.cells #[highFn Bp Br] 72)).alloc (.cells #[.int .i64 0, .int .i64 0] 30)).alloc (.cells #[.int .i64 p.1] 3)).drew.heap.size = w.heap.size + 4 := by show _ = _; simp [World.drew]
 have b3 := b3.drew
 have b4 := b4.drew
 have b5 := b5.drew
 have hE := hE.drew
 simp only [World.size_alloc] at b3 b4 b5
 obtain ⟨W4, hW4⟩ : ∃ W4, ((((w.alloc (.cells (pCells p q) 172)).alloc (.cells #[highFn Bp Br] 72)).alloc (.cells #[.int .i64 0, .int .i64 0] 30)).alloc (.cells #[.int .i64 p.1] 3)).drew = W4 := ⟨_, rfl⟩
 rw [hW4] at b3 b4 b5 hE hsz ⊢
 clear hW4
 have hA4 := HA.out.below hE
 refine (high_asked_to Bp Br p q lo hi p.1 f W4 hA4 o1 o2 HF.out).mono ?_
 rintro e W5 ⟨rfl, hb5⟩
 have c3 := b3.below hb5 b3.lt
 have c4 := b4.below hb5 b4.lt
 have c5 := b5.below hb5 b5.lt
 have hA5 := hA4.below hb5
 have hE5 := below_then hE hb5
 have hz5 : w.heap.size + 1 + 1 + 1 < W5.heap.size := by have := hb5.size; omega
 clear b3 b4 b5 hA4 hE hb5 hsz
 have d3 := c3.alloc (.cells #[.bool f] 4)
 have d4 := c4.alloc (.cells #[.bool f] 4)
 have d5 := c5.alloc (.cells #[.bool f] 4)
 have d7 := Blk.new W5 4 #[.bool f]
 have hA6 := hA5.below ((Below.refl _ _).alloc (Nat.le_refl _) (.cells #[.bool f] 4))
 have hE6 := below_then hE5 ((Below.refl _ _).alloc (Nat.le_refl _) (.cells #[.bool f] 4))
 have x3 := c3.cell 0
 have x5 := c5.cell 0
 simp at x3 x5
 have C3 := Lib.hid d3; have C4 := Lib.hid d4; have C5 := Lib.hid d5; have C7 := Lib.hid d7; have A6 := Lib.hid hA6; have E6 := Lib.hid hE6
 clear c3 c4 c5 d3 d4 d5 d7 hA5 hA6 hE5 hE6
 go_wp2_with fail
 obtain ⟨W6, hW6⟩ : ∃ W6, W5.alloc (.cells #[.bool f] 4) = W6 := ⟨_, rfl⟩
 rw [hW6] at C3 C4 C5 C7 A6 E6 ⊢
 clear hW6 x3 x5
 have e3 := C3.out.cell 0
 have e5 := C5.out.cell 0
 have e7 := C7.out.cell 0
 have l3 := C3.out.lt
 have l5 := C5.out.lt
 have l7 := C7.out.lt
 simp at e3 e5 e7
 have hd3 : w.heap.size + 1 < W6.drew.heap.size := l3
 have hd5 : w.heap.size + 1 + 1 + 1 < W6.drew.heap.size := l5
 have hd7 : W5.heap.size < W6.drew.heap.size := l7
 go_region_held3 (fun w' => w'.cell? ⟨w.heap.size + 1, 0, none⟩ = some (highFn Bp Br) ∧ w'.cell? ⟨W5.heap.size, 0, none⟩ = some (.bool f))
  (first | (go_keep; done) | exact ⟨((bcell hb7).1 _ _ hd3).trans (‹_ ∧ _›).1, ((bcell hb7).1 _ _ hd7).trans (‹_ ∧ _›).2⟩)
  (first | (go_at_call 170; refine (high_asked_to Bp Br p q lo hi q.1 s W6.drew A6.out.drew o3 o4 HS.out).mono ?_; rintro e W7 ⟨rfl, hb7⟩))
 have D3 := C3.out.drew.below hb7 hd3
 have D4 := C4.out.drew.below hb7 (show w.heap.size + 1 + 1 < W6.drew.heap.size from C4.out.lt)
 have D5 := C5.out.drew.below hb7 hd5
 have D7 := C7.out.drew.below hb7 hd7
 have A7 := A6.out.drew.below hb7
 have E7 := below_then E6.out (below_d hb7)
 have y5 := D5.cell 0
 have y7 := D7.cell 0
 have r0 := D4.cell 0
 have r1 := D4.cell 1
 have f0 := D4.frozen 0
 have f1 := D4.frozen 1
 simp at y5 y7 r0 r1
 have m5 := D5.lt
 have m7 := D7.lt
 have HT := Lib.hid (show highTurn W7 (w.heap.size + 1) (w.heap.size + 1 + 1 + 1) W5.heap.size Bp Br p q lo hi p.1 f from ⟨D3, D5, D7, A7⟩)
 have H4 := Lib.hid D4
 have H7 := Lib.hid E7
 clear C3 C4 C5 C7 A6 E6 D3 D4 D5 D7 A7 E7 hb7 hd3 hd5 hd7 e3 e5 e7 l3 l5 l7
 have w1 : IntKind.i64.wrap (q.1 - p.1) = q.1 - p.1 := IntWalk.i64_in _ ⟨by omega, by omega⟩
 have hbr := bs_range (fun i => !(highSo p q lo hi (p.1 + i) == f)) (q.1 - p.1).toNat 0 (q.1 - p.1) (by omega)
 have hsize : w.heap.size ≤ W7.heap.size := by omega
 cases f <;> cases s
 ·have hr : R = (q.1 + 1, q.1) := by rw [← HR.out]; unfold stretchS; rw [HF.out, HS.out]; simp
  have HRR := Lib.hid hr; clear HR HF HS hr hbr HT
  go_wp2
  refine bodyPost_ret (v := rv (q.1 + 1) q.1) (by simp [results, Tryz.results167, go_sem, r0, r1]) rfl ⟨by rw [HRR.out], ?_⟩
  exact (H7.out.setCell (p := ⟨w.heap.size + 1 + 1, 0, none⟩) (by simp; omega) _).setCell (p := ⟨w.heap.size + 1 + 1, 1, none⟩) (by simp; omega) _
 ·have hr : R = (p.1 + bs (fun i => !(highSo p q lo hi (p.1 + i) == false)) (q.1 - p.1).toNat 0 (q.1 - p.1), q.1) := by rw [← HR.out]; unfold stretchS; rw [HF.out, HS.out]; simp
  have HRR := Lib.hid hr; clear HR HF HS hr
  have HS8 := Lib.hid (high_search_int (w.heap.size + 1) (w.heap.size + 1 + 1 + 1) W5.heap.size Bp Br p q lo hi p.1 (q.1 - p.1) false W7.drew HT.out o1 (by omega) (by omega))
  generalize hB : bs (fun i => !(highSo p q lo hi (p.1 + i) == false)) (q.1 - p.1).toNat 0 (q.1 - p.1) = T at *
  have w2 : IntKind.i64.wrap (p.1 + T) = p.1 + T := IntWalk.i64_in _ ⟨by omega, by omega⟩
  clear hB HT
  go_wp2_with fail
  go_region_held3 (fun w' => w'.cell? ⟨w.heap.size + 1 + 1 + 1, 0, none⟩ = some (.int .i64 p.1) ∧ w'.cell? ⟨W5.heap.size, 0, none⟩ = some (.bool false))
   (first | (go_keep; done) | exact ⟨((bcell hb8).1 _ _ (show w.heap.size + 1 + 1 + 1 < W7.drew.heap.size from m5)).trans (‹_ ∧ _›).1, ((bcell hb8).1 _ _ (show W5.heap.size < W7.drew.heap.size from m7)).trans (‹_ ∧ _›).2⟩)
   (first | (go_at_call 200; refine (HS8.out).mono ?_; rintro e W8 ⟨rfl, hb8⟩))
  have J4 := H4.out.drew.below hb8 (show w.heap.size + 1 + 1 < W7.drew.heap.size from H4.out.lt)
  have z7 := ((bcell hb8).1 W5.heap.size 0 (show W5.heap.size < W7.drew.heap.size from m7)).trans y7
  have z5 := ((bcell hb8).1 (w.heap.size + 1 + 1 + 1) 0 (show w.heap.size + 1 + 1 + 1 < W7.drew.heap.size from m5)).trans y5
  have q0 := J4.cell 0
  have q1 := J4.cell 1
  have g0 := J4.frozen 0
  have g1 := J4.frozen 1
  simp at q0 q1
  have H8 := Lib.hid (below_then H7.out (below_d hb8))
  clear hb8 J4 y5 y7 r0 r1 f0 f1
  go_wp2
  refine bodyPost_ret (v := rv (p.1 + T) q.1) (by simp [results, Tryz.results167, go_sem, q0, q1]) rfl ⟨by rw [HRR.out], ?_⟩
  exact (H8.out.setCell (p := ⟨w.heap.size + 1 + 1, 0, none⟩) (by simp; omega) _).setCell (p := ⟨w.heap.size + 1 + 1, 1, none⟩) (by simp; omega) _
 ·have hr : R = (p.1, p.1 + bs (fun i => !(highSo p q lo hi (p.1 + i) == true)) (q.1 - p.1).toNat 0 (q.1 - p.1) - 1) := by rw [← HR.out]; unfold stretchS; rw [HF.out, HS.out]; simp
  have HRR := Lib.hid hr; clear HR HF HS hr
  have HS8 := Lib.hid (high_search_int (w.heap.size + 1) (w.heap.size + 1 + 1 + 1) W5.heap.size Bp Br p q lo hi p.1 (q.1 - p.1) true W7.drew HT.out o1 (by omega) (by omega))
  generalize hB : bs (fun i => !(highSo p q lo hi (p.1 + i) == true)) (q.1 - p.1).toNat 0 (q.1 - p.1) = T at *
  have w2 : IntKind.i64.wrap (p.1 + T) = p.1 + T := IntWalk.i64_in _ ⟨by omega, by omega⟩
  clear hB HT
  go_wp2_with fail
  go_region_held3 (fun w' => w'.cell? ⟨w.heap.size + 1 + 1 + 1, 0, none⟩ = some (.int .i64 p.1) ∧ w'.cell? ⟨W5.heap.size, 0, none⟩ = some (.bool true))
   (first | (go_keep; done) | exact ⟨((bcell hb8).1 _ _ (show w.heap.size + 1 + 1 + 1 < W7.drew.heap.size from m5)).trans (‹_ ∧ _›).1, ((bcell hb8).1 _ _ (show W5.heap.size < W7.drew.heap.size from m7)).trans (‹_ ∧ _›).2⟩)
   (first | (go_at_call 200; refine (HS8.out).mono ?_; rintro e W8 ⟨rfl, hb8⟩))
  have J4 := H4.out.drew.below hb8 (show w.heap.size + 1 + 1 < W7.drew.heap.size from H4.out.lt)
  have z7 := ((bcell hb8).1 W5.heap.size 0 (show W5.heap.size < W7.drew.heap.size from m7)).trans y7
  have z5 := ((bcell hb8).1 (w.heap.size + 1 + 1 + 1) 0 (show w.heap.size + 1 + 1 + 1 < W7.drew.heap.size from m5)).trans y5
  have q0 := J4.cell 0
  have q1 := J4.cell 1
  have g0 := J4.frozen 0
  have g1 := J4.frozen 1
  simp at q0 q1
  have H8 := Lib.hid (below_then H7.out (below_d hb8))
  clear hb8 J4 y5 y7 r0 r1 f0 f1
  go_wp2
  refine bodyPost_ret (v := rv p.1 (p.1 + T - 1)) (by simp [results, Tryz.results167, go_sem, q0, q1]) rfl ⟨by rw [HRR.out], ?_⟩
  exact (H8.out.setCell (p := ⟨w.heap.size + 1 + 1, 0, none⟩) (by simp; omega) _).setCell (p := ⟨w.heap.size + 1 + 1, 1, none⟩) (by simp; omega) _
 ·have hr : R = (p.1, q.1) := by rw [← HR.out]; unfold stretchS; rw [HF.out, HS.out]; simp
  have HRR := Lib.hid hr; clear HR HF HS hr hbr HT
  go_wp2
  refine bodyPost_ret (v := rv p.1 q.1) (by simp [results, Tryz.results167, go_sem, r0, r1]) rfl ⟨by rw [HRR.out], ?_⟩
  exact (H7.out.setCell (p := ⟨w.heap.size + 1 + 1, 0, none⟩) (by simp; omega) _).setCell (p := ⟨w.heap.size + 1 + 1, 1, none⟩) (by simp; omega) _
end

section
open Go.RowKit

def whereS (lo hi : Int) (p q : P3) : Int × Int :=
  (max (stretchS (lowSo p q lo hi) p.1 q.1).1 (stretchS (highSo p q lo hi) p.1 q.1).1, min (stretchS (lowSo p q lo hi) p.1 q.1).2 (stretchS (highSo p q lo hi) p.1 q.1).2)

set_option maxRecDepth 100000 in
set_option maxHeartbeats 2000000 in
theorem whereAsk (Br : Nat) (p q : P3) (lo hi : Int) (w : World) (h : Blk w Br 30 #[.int .i64 lo, .int .i64 hi]) (hp : Okp p) (hq : Okp q) (hab : p.1 ≤ q.1) :
  Calls Tryz.prog 166 #[pv p q, .pointer (some ⟨Br, 0, none⟩)] w fun e w' => e = .returned (rv (whereS lo hi p q).1 (whereS lo hi p q).2) ∧ Below w.heap.size w w' := by
 have hbr := h.lt
 have bp := (Blk.new w 172 (pCells p q)).alloc (.cells #[.int .i64 0, .int .i64 0] 30)
 have br := (Blk.new (w.alloc (.cells (pCells p q) 172)) 30 #[.int .i64 0, .int .i64 0])
 have bb := (h.alloc (.cells (pCells p q) 172)).alloc (.cells #[.int .i64 0, .int .i64 0] 30)
 have hE : Below w.heap.size w ((w.alloc (.cells (pCells p q) 172)).alloc (.cells #[.int .i64 0, .int .i64 0] 30)) := below_a2 (Below.refl _ _)
 simp only [World.size_alloc] at br
 have HP := Lib.hid bp; have HR := Lib.hid br; have HB := Lib.hid bb; have HE := Lib.hid hE
 have HO := Lib.hid (And.intro hp (And.intro hq hab))
 clear bp br bb hE h hp hq
 generalize hS1 : stretchS (lowSo p q lo hi) p.1 q.1 = s1
 generalize hS2 : stretchS (highSo p q lo hi) p.1 q.1 = s2
 have hW : whereS lo hi p q = (max s1.1 s2.1, min s1.2 s2.2) := by unfold whereS; rw [hS1, hS2]
 have HW := Lib.hid hW; have H1 := Lib.hid hS1; have H2 := Lib.hid hS2
 clear hW hS1 hS2
 go_enter Tryz.func166, Tryz.ntmps166
 go_wp2_with fail
 have hz : w.heap.size + 2 = ((w.alloc (.cells (pCells p q) 172)).alloc (.cells #[.int .i64 0, .int .i64 0] 30)).heap.size := by simp
 obtain ⟨W1, hW1⟩ : ∃ W1, ((w.alloc (.cells (pCells p q) 172)).alloc (.cells #[.int .i64 0, .int .i64 0] 30)) = W1 := ⟨_, rfl⟩
 rw [hW1] at HP HR HB HE hz ⊢
 clear hW1
 have hA1 : Asked W1 w.heap.size Br p q lo hi := ⟨HP.out, HB.out, HO.out.1, HO.out.2.1⟩
 have C1 := low_stretch w.heap.size Br p q lo hi W1 hA1 HO.out.2.2
 rw [H1.out] at C1
 refine C1.mono ?_
 rintro e W2 ⟨rfl, hb2⟩
 have p2 := HP.out.below hb2 HP.out.lt
 have r2 := HR.out.below hb2 HR.out.lt
 have b2 := HB.out.below hb2 HB.out.lt
 have e2 := below_then HE.out hb2
 have hz2 : w.heap.size + 1 < W2.heap.size := by have := hb2.size; omega
 have x0 := p2.cell 0
 have x1 := p2.cell 1
 have x2 := p2.cell 2
 have x3 := p2.cell 3
 have x4 := p2.cell 4
 have x5 := p2.cell 5
 simp at x0 x1 x2 x3 x4 x5
 have p3 := p2.alloc (.cells #[.int .i64 s1.1, .int .i64 s1.2] 30)
 have r3 := r2.alloc (.cells #[.int .i64 s1.1, .int .i64 s1.2] 30)
 have b3 := b2.alloc (.cells #[.int .i64 s1.1, .int .i64 s1.2] 30)
 have s3 := Blk.new W2 30 #[.int .i64 s1.1, .int .i64 s1.2]
 have e3 := below_then e2 ((Below.refl _ _).alloc (Nat.le_refl _) (.cells #[.int .i64 s1.1, .int .i64 s1.2] 30))
 have P3 := Lib.hid p3; have R3 := Lib.hid r3; have B3 := Lib.hid b3; have S3 := Lib.hid s3; have E3 := Lib.hid e3
 clear C1 hA1 p2 r2 b2 e2 p3 r3 b3 s3 e3 hb2
 have hza : w.heap.size < W2.heap.size := by omega
 go_wp2_with fail
 obtain ⟨W3, hW3⟩ : ∃ W3, W2.alloc (.cells #[.int .i64 s1.1, .int .i64 s1.2] 30) = W3 := ⟨_, rfl⟩
 rw [hW3] at P3 R3 B3 S3 E3 ⊢
 have hz3 : W2.heap.size < W3.heap.size := S3.out.lt
 clear hW3 x0 x1 x2 x3 x4 x5
 have hA3 : Asked W3 w.heap.size Br p q lo hi := ⟨P3.out, B3.out, HO.out.1, HO.out.2.1⟩
 have C3 := high_stretch w.heap.size Br p q lo hi W3 hA3 HO.out.2.2
 rw [H2.out] at C3
 refine C3.mono ?_
 rintro e W4 ⟨rfl, hb4⟩
 have r4 := R3.out.below hb4 R3.out.lt
 have s4 := S3.out.below hb4 S3.out.lt
 have e4 := below_then E3.out hb4
 have y0 := s4.cell 0
 have y1 := s4.cell 1
 have q0 := r4.cell 0
 have q1 := r4.cell 1
 have f0 := r4.frozen 0
 have f1 := r4.frozen 1
 simp at y0 y1 q0 q1
 have hz4 : W2.heap.size < W4.heap.size := by have := hb4.size; omega
 have hz5 : w.heap.size + 1 < W4.heap.size := by omega
 have E4 := Lib.hid e4
 clear C3 hA3 hb4 e4
 go_wp2_with fail
 refine (common_any _ _ _ _ _).mono ?_
 rintro e W5 ⟨rfl, hb5⟩
 obtain ⟨hc5, hf5⟩ := bcell hb5
 have hz6 : w.heap.size + 1 < W4.heap.size + 1 := by omega
 have hs5 : w.heap.size ≤ W5.heap.size := by have := hb5.size; simp at this; omega
 go_wp2
 refine bodyPost_ret (v := rv (max s1.1 s2.1) (min s1.2 s2.2)) (by simp [results, Tryz.results166, go_sem, hc5, hz6, hz5, q0, q1]) rfl ⟨by rw [HW.out], ?_⟩
 exact (((below_then E4.out (below_a1 hb5)).setCell (p := ⟨w.heap.size + 1, 0, none⟩) (by simp) _).setCell (p := ⟨w.heap.size + 1, 1, none⟩) (by simp) _)
end

end Go.Proofs.YtemlaaipnhmcoaaGreat
