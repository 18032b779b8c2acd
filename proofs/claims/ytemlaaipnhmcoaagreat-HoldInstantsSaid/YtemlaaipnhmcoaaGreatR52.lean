/- The contract of Between (hold). Its condition: the hold's tables lie in memory. -/
import Derived.Test.YtemlaaipnhmcoaaGreatR51
import Derived.Test.YtemlaaipnhmcoaaGreatR26
import Derived.Test.YtemlaaipnhmcoaaGreatQ98
set_option linter.unusedVariables false
set_option linter.unusedSimpArgs false
set_option linter.constructorNameAsVariable false
namespace Go.Proofs.YtemlaaipnhmcoaaGreat

section
open Go.RowKit
theorem fieldM4 (b0 b1 b2 b3 b4 b5 b6 b7 : Value) (w : World) : (Instr.field 123 (.agg #[b0, b1, b2, b3, b4, b5, b6, b7]) 4).run Tryz.prog w = .ok b4 w := by kernel_rfl
attribute [local go_sem ↓] fieldM4
theorem one_fill {a r : FillD} {k : Nat} (h : ([a] : List FillD)[k]? = some r) : k = 0 ∧ r = a := by
  cases k with
  | zero => simp at h; exact ⟨rfl, h.symm⟩
  | succ k => simp at h
theorem three_fills {a b c r : FillD} {k : Nat} (h : ([a, b, c] : List FillD)[k]? = some r) : (k = 0 ∧ r = a) ∨ (k = 1 ∧ r = b) ∨ (k = 2 ∧ r = c) := by
  match k with
  | 0 => simp at h; exact .inl ⟨rfl, h.symm⟩
  | 1 => simp at h; exact .inr (.inl ⟨rfl, h.symm⟩)
  | 2 => simp at h; exact .inr (.inr ⟨rfl, h.symm⟩)
  | k + 3 => simp at h

set_option maxRecDepth 100000 in
set_option maxHeartbeats 4000000 in
theorem hBetween_e1 (vol mom hei : List P3) (id al ah t0 t1 u0 u1 v0 v1 h0 h1 : Int) (A B C : Option Addr) (n c mm d l ee : Nat) (fh st x0 x1 d0 d1 gh gt y0 y1 k0 k1 : Int) (E1 : Int) (g1 : fillErr ⟨id, al, ah, vol, mom, hei, t0, t1, u0, u1, v0, v1, h0, h1⟩ ⟨fh, st, x0, x1, d0, d1⟩ = E1) (gE : ¬ E1 = 0) (w : World) (hi : HoldIn w ⟨id, al, ah, vol, mom, hei, t0, t1, u0, u1, v0, v1, h0, h1⟩ ⟨A, n, c, B, mm, d, C, l, ee⟩) :
  Calls Tryz.prog 31 #[.agg #[.int .i64 id, .int .i64 al, .int .i64 ah, .slice A n c, .slice B mm d, .slice C l ee, .int .i64 t0, .int .i64 t1, .int .i64 u0, .int .i64 u1, .int .i64 v0, .int .i64 v1, .int .i64 h0, .int .i64 h1], .agg #[.int .i64 fh, .int .i64 st, .int .i64 x0, .int .i64 x1, .int .i64 d0, .int .i64 d1], .agg #[.int .i64 gh, .int .i64 gt, .int .i64 y0, .int .i64 y1, .int .i64 k0, .int .i64 k1]] w fun e w' => e = .returned (.tuple #[.slice none 0 0, .int .i64 E1]) ∧ Below w.heap.size w w' := by
 have C1 : Hid (∀ W, Below w.heap.size w W → Calls Tryz.prog 53 #[.agg #[.int .i64 id, .int .i64 al, .int .i64 ah, .slice A n c, .slice B mm d, .slice C l ee, .int .i64 t0, .int .i64 t1, .int .i64 u0, .int .i64 u1, .int .i64 v0, .int .i64 v1, .int .i64 h0, .int .i64 h1], .agg #[.int .i64 fh, .int .i64 st, .int .i64 x0, .int .i64 x1, .int .i64 d0, .int .i64 d1]] W fun e w' => e = .returned (.int .i64 E1) ∧ Below W.heap.size W w') := Lib.hid fun W hW => int_to (checkFill_any ⟨id, al, ah, vol, mom, hei, t0, t1, u0, u1, v0, v1, h0, h1⟩ ⟨A, n, c, B, mm, d, C, l, ee⟩ ⟨fh, st, x0, x1, d0, d1⟩ W (hi.below hW)) g1
 clear g1 hi
 have HE := Lib.hid (show Below w.heap.size w (((w.alloc (.cells #[.int .i64 id, .int .i64 al, .int .i64 ah, .slice A n c, .slice B mm d, .slice C l ee, .int .i64 t0, .int .i64 t1, .int .i64 u0, .int .i64 u1, .int .i64 v0, .int .i64 v1, .int .i64 h0, .int .i64 h1] 35)).alloc (.cells #[.int .i64 fh, .int .i64 st, .int .i64 x0, .int .i64 x1, .int .i64 d0, .int .i64 d1] 55)).alloc (.cells #[.int .i64 gh, .int .i64 gt, .int .i64 y0, .int .i64 y1, .int .i64 k0, .int .i64 k1] 55)) from below_a3 (Below.refl _ _))
 have HK := Lib.hid (boxes3' w 35 55 55 #[.int .i64 id, .int .i64 al, .int .i64 ah, .slice A n c, .slice B mm d, .slice C l ee, .int .i64 t0, .int .i64 t1, .int .i64 u0, .int .i64 u1, .int .i64 v0, .int .i64 v1, .int .i64 h0, .int .i64 h1] #[.int .i64 fh, .int .i64 st, .int .i64 x0, .int .i64 x1, .int .i64 d0, .int .i64 d1] #[.int .i64 gh, .int .i64 gt, .int .i64 y0, .int .i64 y1, .int .i64 k0, .int .i64 k1])
 go_enter Tryz.func31, Tryz.ntmps31
 go_wp2_with fail
 obtain ⟨W0, hW0⟩ : ∃ W0, (((w.alloc (.cells #[.int .i64 id, .int .i64 al, .int .i64 ah, .slice A n c, .slice B mm d, .slice C l ee, .int .i64 t0, .int .i64 t1, .int .i64 u0, .int .i64 u1, .int .i64 v0, .int .i64 v1, .int .i64 h0, .int .i64 h1] 35)).alloc (.cells #[.int .i64 fh, .int .i64 st, .int .i64 x0, .int .i64 x1, .int .i64 d0, .int .i64 d1] 55)).alloc (.cells #[.int .i64 gh, .int .i64 gt, .int .i64 y0, .int .i64 y1, .int .i64 k0, .int .i64 k1] 55)) = W0 := ⟨_, rfl⟩
 rw [hW0] at HE HK ⊢
 clear hW0
 obtain ⟨G, hG⟩ : ∃ G, w.heap.size = G := ⟨_, rfl⟩
 rw [hG] at HK ⊢
 have HG := Lib.hid hG; clear hG
 refine (C1.out _ HE.out).mono ?_
 rintro e w1 ⟨rfl, hq⟩
 have HE1 := Lib.hid (below_then HE.out hq); have HK1 := Lib.hid (HK.out.on hq)
 clear hq HE HK C1
 go_wp2
 exact bodyPost_ret (v := .tuple #[.slice none 0 0, .int .i64 E1]) (by simp [results, Tryz.results31, go_sem]) rfl ⟨rfl, HE1.out⟩

set_option maxRecDepth 100000 in
set_option maxHeartbeats 4000000 in
theorem hBetween_e2 (vol mom hei : List P3) (id al ah t0 t1 u0 u1 v0 v1 h0 h1 : Int) (A B C : Option Addr) (n c mm d l ee : Nat) (fh st x0 x1 d0 d1 gh gt y0 y1 k0 k1 : Int) (E2 : Int) (g1 : fillErr ⟨id, al, ah, vol, mom, hei, t0, t1, u0, u1, v0, v1, h0, h1⟩ ⟨fh, st, x0, x1, d0, d1⟩ = 0) (g2 : fillErr ⟨id, al, ah, vol, mom, hei, t0, t1, u0, u1, v0, v1, h0, h1⟩ ⟨gh, gt, y0, y1, k0, k1⟩ = E2) (gE : ¬ E2 = 0) (w : World) (hi : HoldIn w ⟨id, al, ah, vol, mom, hei, t0, t1, u0, u1, v0, v1, h0, h1⟩ ⟨A, n, c, B, mm, d, C, l, ee⟩) :
  Calls Tryz.prog 31 #[.agg #[.int .i64 id, .int .i64 al, .int .i64 ah, .slice A n c, .slice B mm d, .slice C l ee, .int .i64 t0, .int .i64 t1, .int .i64 u0, .int .i64 u1, .int .i64 v0, .int .i64 v1, .int .i64 h0, .int .i64 h1], .agg #[.int .i64 fh, .int .i64 st, .int .i64 x0, .int .i64 x1, .int .i64 d0, .int .i64 d1], .agg #[.int .i64 gh, .int .i64 gt, .int .i64 y0, .int .i64 y1, .int .i64 k0, .int .i64 k1]] w fun e w' => e = .returned (.tuple #[.slice none 0 0, .int .i64 E2]) ∧ Below w.heap.size w w' := by
 have C1 : Hid (∀ W, Below w.heap.size w W → Calls Tryz.prog 53 #[.agg #[.int .i64 id, .int .i64 al, .int .i64 ah, .slice A n c, .slice B mm d, .slice C l ee, .int .i64 t0, .int .i64 t1, .int .i64 u0, .int .i64 u1, .int .i64 v0, .int .i64 v1, .int .i64 h0, .int .i64 h1], .agg #[.int .i64 fh, .int .i64 st, .int .i64 x0, .int .i64 x1, .int .i64 d0, .int .i64 d1]] W fun e w' => e = .returned (.int .i64 0) ∧ Below W.heap.size W w') := Lib.hid fun W hW => int_to (checkFill_any ⟨id, al, ah, vol, mom, hei, t0, t1, u0, u1, v0, v1, h0, h1⟩ ⟨A, n, c, B, mm, d, C, l, ee⟩ ⟨fh, st, x0, x1, d0, d1⟩ W (hi.below hW)) g1
 have C2 : Hid (∀ W, Below w.heap.size w W → Calls Tryz.prog 53 #[.agg #[.int .i64 id, .int .i64 al, .int .i64 ah, .slice A n c, .slice B mm d, .slice C l ee, .int .i64 t0, .int .i64 t1, .int .i64 u0, .int .i64 u1, .int .i64 v0, .int .i64 v1, .int .i64 h0, .int .i64 h1], .agg #[.int .i64 gh, .int .i64 gt, .int .i64 y0, .int .i64 y1, .int .i64 k0, .int .i64 k1]] W fun e w' => e = .returned (.int .i64 E2) ∧ Below W.heap.size W w') := Lib.hid fun W hW => int_to (checkFill_any ⟨id, al, ah, vol, mom, hei, t0, t1, u0, u1, v0, v1, h0, h1⟩ ⟨A, n, c, B, mm, d, C, l, ee⟩ ⟨gh, gt, y0, y1, k0, k1⟩ W (hi.below hW)) g2
 clear g1 g2 hi
 have HE := Lib.hid (show Below w.heap.size w (((w.alloc (.cells #[.int .i64 id, .int .i64 al, .int .i64 ah, .slice A n c, .slice B mm d, .slice C l ee, .int .i64 t0, .int .i64 t1, .int .i64 u0, .int .i64 u1, .int .i64 v0, .int .i64 v1, .int .i64 h0, .int .i64 h1] 35)).alloc (.cells #[.int .i64 fh, .int .i64 st, .int .i64 x0, .int .i64 x1, .int .i64 d0, .int .i64 d1] 55)).alloc (.cells #[.int .i64 gh, .int .i64 gt, .int .i64 y0, .int .i64 y1, .int .i64 k0, .int .i64 k1] 55)) from below_a3 (Below.refl _ _))
 have HK := Lib.hid (boxes3' w 35 55 55 #[.int .i64 id, .int .i64 al, .int .i64 ah, .slice A n c, .slice B mm d, .slice C l ee, .int .i64 t0, .int .i64 t1, .int .i64 u0, .int .i64 u1, .int .i64 v0, .int .i64 v1, .int .i64 h0, .int .i64 h1] #[.int .i64 fh, .int .i64 st, .int .i64 x0, .int .i64 x1, .int .i64 d0, .int .i64 d1] #[.int .i64 gh, .int .i64 gt, .int .i64 y0, .int .i64 y1, .int .i64 k0, .int .i64 k1])
 go_enter Tryz.func31, Tryz.ntmps31
 go_wp2_with fail
 obtain ⟨W0, hW0⟩ : ∃ W0, (((w.alloc (.cells #[.int .i64 id, .int .i64 al, .int .i64 ah, .slice A n c, .slice B mm d, .slice C l ee, .int .i64 t0, .int .i64 t1, .int .i64 u0, .int .i64 u1, .int .i64 v0, .int .i64 v1, .int .i64 h0, .int .i64 h1] 35)).alloc (.cells #[.int .i64 fh, .int .i64 st, .int .i64 x0, .int .i64 x1, .int .i64 d0, .int .i64 d1] 55)).alloc (.cells #[.int .i64 gh, .int .i64 gt, .int .i64 y0, .int .i64 y1, .int .i64 k0, .int .i64 k1] 55)) = W0 := ⟨_, rfl⟩
 rw [hW0] at HE HK ⊢
 clear hW0
 obtain ⟨G, hG⟩ : ∃ G, w.heap.size = G := ⟨_, rfl⟩
 rw [hG] at HK ⊢
 have HG := Lib.hid hG; clear hG
 refine (C1.out _ HE.out).mono ?_
 rintro e w1 ⟨rfl, hq⟩
 have HE1 := Lib.hid (below_then HE.out hq); have HK1 := Lib.hid (HK.out.on hq)
 clear hq HE HK C1
 have sa := HK1.out _ (.tail _ (.tail _ (.head _)))
 have sa0 := sa.cell 0
 have sa1 := sa.cell 1
 have sa2 := sa.cell 2
 have sa3 := sa.cell 3
 have sa4 := sa.cell 4
 have sa5 := sa.cell 5
 have sa6 := sa.cell 6
 have sa7 := sa.cell 7
 have sa8 := sa.cell 8
 have sa9 := sa.cell 9
 have sa10 := sa.cell 10
 have sa11 := sa.cell 11
 have sa12 := sa.cell 12
 have sa13 := sa.cell 13
 simp at sa0 sa1 sa2 sa3 sa4 sa5 sa6 sa7 sa8 sa9 sa10 sa11 sa12 sa13
 clear sa
 have sb := HK1.out _ (.head _)
 have sb0 := sb.cell 0
 have sb1 := sb.cell 1
 have sb2 := sb.cell 2
 have sb3 := sb.cell 3
 have sb4 := sb.cell 4
 have sb5 := sb.cell 5
 simp at sb0 sb1 sb2 sb3 sb4 sb5
 clear sb
 go_wp2_with fail
 refine (C2.out _ HE1.out).mono ?_
 rintro e w2 ⟨rfl, hq⟩
 have HE2 := Lib.hid (below_then HE1.out hq); have HK2 := Lib.hid (HK1.out.on hq)
 clear hq HE1 HK1 C2 sa0 sa1 sa2 sa3 sa4 sa5 sa6 sa7 sa8 sa9 sa10 sa11 sa12 sa13 sb0 sb1 sb2 sb3 sb4 sb5
 go_wp2
 exact bodyPost_ret (v := .tuple #[.slice none 0 0, .int .i64 E2]) (by simp [results, Tryz.results31, go_sem]) rfl ⟨rfl, HE2.out⟩

set_option maxRecDepth 100000 in
set_option maxHeartbeats 4000000 in
theorem hBetween_same (vol mom hei : List P3) (id al ah t0 t1 u0 u1 v0 v1 h0 h1 : Int) (A B C : Option Addr) (n c mm d l ee : Nat) (fh st x0 x1 d0 d1 gh gt y0 y1 k0 k1 : Int) (ha hb ma mb : Int) (g1 : fillErr ⟨id, al, ah, vol, mom, hei, t0, t1, u0, u1, v0, v1, h0, h1⟩ ⟨fh, st, x0, x1, d0, d1⟩ = 0) (g2 : fillErr ⟨id, al, ah, vol, mom, hei, t0, t1, u0, u1, v0, v1, h0, h1⟩ ⟨gh, gt, y0, y1, k0, k1⟩ = 0) (hh : hulS x0 x1 y0 y1 = (ha, hb)) (hm : mixS d0 d1 k0 k1 = (ma, mb)) (hs : st = gt) (w : World) (hi : HoldIn w ⟨id, al, ah, vol, mom, hei, t0, t1, u0, u1, v0, v1, h0, h1⟩ ⟨A, n, c, B, mm, d, C, l, ee⟩) :
  Calls Tryz.prog 31 #[.agg #[.int .i64 id, .int .i64 al, .int .i64 ah, .slice A n c, .slice B mm d, .slice C l ee, .int .i64 t0, .int .i64 t1, .int .i64 u0, .int .i64 u1, .int .i64 v0, .int .i64 v1, .int .i64 h0, .int .i64 h1], .agg #[.int .i64 fh, .int .i64 st, .int .i64 x0, .int .i64 x1, .int .i64 d0, .int .i64 d1], .agg #[.int .i64 gh, .int .i64 gt, .int .i64 y0, .int .i64 y1, .int .i64 k0, .int .i64 k1]] w fun e w' => ∃ v, e = .returned (.tuple #[v, .int .i64 0]) ∧ SlFills w' v [⟨id, st, ha, hb, ma, mb⟩] ∧ (v = .slice none 0 0 ↔ ([⟨id, st, ha, hb, ma, mb⟩] : List FillD) = []) ∧ Below w.heap.size w w' := by
 have C1 : Hid (∀ W, Below w.heap.size w W → Calls Tryz.prog 53 #[.agg #[.int .i64 id, .int .i64 al, .int .i64 ah, .slice A n c, .slice B mm d, .slice C l ee, .int .i64 t0, .int .i64 t1, .int .i64 u0, .int .i64 u1, .int .i64 v0, .int .i64 v1, .int .i64 h0, .int .i64 h1], .agg #[.int .i64 fh, .int .i64 st, .int .i64 x0, .int .i64 x1, .int .i64 d0, .int .i64 d1]] W fun e w' => e = .returned (.int .i64 0) ∧ Below W.heap.size W w') := Lib.hid fun W hW => int_to (checkFill_any ⟨id, al, ah, vol, mom, hei, t0, t1, u0, u1, v0, v1, h0, h1⟩ ⟨A, n, c, B, mm, d, C, l, ee⟩ ⟨fh, st, x0, x1, d0, d1⟩ W (hi.below hW)) g1
 have C2 : Hid (∀ W, Below w.heap.size w W → Calls Tryz.prog 53 #[.agg #[.int .i64 id, .int .i64 al, .int .i64 ah, .slice A n c, .slice B mm d, .slice C l ee, .int .i64 t0, .int .i64 t1, .int .i64 u0, .int .i64 u1, .int .i64 v0, .int .i64 v1, .int .i64 h0, .int .i64 h1], .agg #[.int .i64 gh, .int .i64 gt, .int .i64 y0, .int .i64 y1, .int .i64 k0, .int .i64 k1]] W fun e w' => e = .returned (.int .i64 0) ∧ Below W.heap.size W w') := Lib.hid fun W hW => int_to (checkFill_any ⟨id, al, ah, vol, mom, hei, t0, t1, u0, u1, v0, v1, h0, h1⟩ ⟨A, n, c, B, mm, d, C, l, ee⟩ ⟨gh, gt, y0, y1, k0, k1⟩ W (hi.below hW)) g2
 have C3 : Hid (∀ W, Calls Tryz.prog 81 #[rv x0 x1, rv y0 y1] W fun e w' => e = .returned (rv ha hb) ∧ Below W.heap.size W w') := Lib.hid fun W => by
  have := hhull_any x0 x1 y0 y1 W
  rw [hh] at this; exact this
 have C4 : Hid (∀ W, Calls Tryz.prog 79 #[rv d0 d1, rv k0 k1] W fun e w' => e = .returned (rv ma mb) ∧ Below W.heap.size W w') := Lib.hid fun W => by
  have := mix_any d0 d1 k0 k1 W
  rw [hm] at this; exact this
 have HSE := Lib.hid hs
 clear g1 g2 hh hm hi hs
 have HE := Lib.hid (show Below w.heap.size w (((w.alloc (.cells #[.int .i64 id, .int .i64 al, .int .i64 ah, .slice A n c, .slice B mm d, .slice C l ee, .int .i64 t0, .int .i64 t1, .int .i64 u0, .int .i64 u1, .int .i64 v0, .int .i64 v1, .int .i64 h0, .int .i64 h1] 35)).alloc (.cells #[.int .i64 fh, .int .i64 st, .int .i64 x0, .int .i64 x1, .int .i64 d0, .int .i64 d1] 55)).alloc (.cells #[.int .i64 gh, .int .i64 gt, .int .i64 y0, .int .i64 y1, .int .i64 k0, .int .i64 k1] 55)) from below_a3 (Below.refl _ _))
 have HK := Lib.hid (boxes3' w 35 55 55 #[.int .i64 id, .int .i64 al, .int .i64 ah, .slice A n c, .slice B mm d, .slice C l ee, .int .i64 t0, .int .i64 t1, .int .i64 u0, .int .i64 u1, .int .i64 v0, .int .i64 v1, .int .i64 h0, .int .i64 h1] #[.int .i64 fh, .int .i64 st, .int .i64 x0, .int .i64 x1, .int .i64 d0, .int .i64 d1] #[.int .i64 gh, .int .i64 gt, .int .i64 y0, .int .i64 y1, .int .i64 k0, .int .i64 k1])
 go_enter Tryz.func31, Tryz.ntmps31
 go_wp2_with fail
 obtain ⟨W0, hW0⟩ : ∃ W0, (((w.alloc (.cells #[.int .i64 id, .int .i64 al, .int .i64 ah, .slice A n c, .slice B mm d, .slice C l ee, .int .i64 t0, .int .i64 t1, .int .i64 u0, .int .i64 u1, .int .i64 v0, .int .i64 v1, .int .i64 h0, .int .i64 h1] 35)).alloc (.cells #[.int .i64 fh, .int .i64 st, .int .i64 x0, .int .i64 x1, .int .i64 d0, .int .i64 d1] 55)).alloc (.cells #[.int .i64 gh, .int .i64 gt, .int .i64 y0, .int .i64 y1, .int .i64 k0, .int .i64 k1] 55)) = W0 := ⟨_, rfl⟩
 rw [hW0] at HE HK ⊢
 clear hW0
 obtain ⟨G, hG⟩ : ∃ G, w.heap.size = G := ⟨_, rfl⟩
 rw [hG] at HK ⊢
 have HG := Lib.hid hG; clear hG
 refine (C1.out _ HE.out).mono ?_
 rintro e w1 ⟨rfl, hq⟩
 have HE1 := Lib.hid (below_then HE.out hq); have HK1 := Lib.hid (HK.out.on hq)
 clear hq HE HK C1
 have sa := HK1.out _ (.tail _ (.tail _ (.head _)))
 have sa0 := sa.cell 0
 have sa1 := sa.cell 1
 have sa2 := sa.cell 2
 have sa3 := sa.cell 3
 have sa4 := sa.cell 4
 have sa5 := sa.cell 5
 have sa6 := sa.cell 6
 have sa7 := sa.cell 7
 have sa8 := sa.cell 8
 have sa9 := sa.cell 9
 have sa10 := sa.cell 10
 have sa11 := sa.cell 11
 have sa12 := sa.cell 12
 have sa13 := sa.cell 13
 simp at sa0 sa1 sa2 sa3 sa4 sa5 sa6 sa7 sa8 sa9 sa10 sa11 sa12 sa13
 clear sa
 have sb := HK1.out _ (.head _)
 have sb0 := sb.cell 0
 have sb1 := sb.cell 1
 have sb2 := sb.cell 2
 have sb3 := sb.cell 3
 have sb4 := sb.cell 4
 have sb5 := sb.cell 5
 simp at sb0 sb1 sb2 sb3 sb4 sb5
 clear sb
 go_wp2_with fail
 refine (C2.out _ HE1.out).mono ?_
 rintro e w2 ⟨rfl, hq⟩
 have HE2 := Lib.hid (below_then HE1.out hq); have HK2 := Lib.hid (HK1.out.on hq)
 clear hq HE1 HK1 C2 sa0 sa1 sa2 sa3 sa4 sa5 sa6 sa7 sa8 sa9 sa10 sa11 sa12 sa13 sb0 sb1 sb2 sb3 sb4 sb5
 go_upto_region 7 with fail
 go_cut [10] (fun s10 wx => ∃ N, s10 = .pointer (some ⟨N, 0, none⟩) ∧ Boxes wx ((N, 55, #[.int .i64 id, .int .i64 st, .int .i64 ha, .int .i64 hb, .int .i64 ma, .int .i64 mb]) :: ([(G + 1 + 1, 55, #[.int .i64 gh, .int .i64 gt, .int .i64 y0, .int .i64 y1, .int .i64 k0, .int .i64 k1]), (G + 1, 55, #[.int .i64 fh, .int .i64 st, .int .i64 x0, .int .i64 x1, .int .i64 d0, .int .i64 d1]), (G, 35, #[.int .i64 id, .int .i64 al, .int .i64 ah, .slice A n c, .slice B mm d, .slice C l ee, .int .i64 t0, .int .i64 t1, .int .i64 u0, .int .i64 u1, .int .i64 v0, .int .i64 v1, .int .i64 h0, .int .i64 h1])] : List (Nat × TypeId × Array Value))) ∧ Below w.heap.size w wx ∧ w.heap.size ≤ N ∧ (∀ z ∈ ([(G + 1 + 1, 55, #[.int .i64 gh, .int .i64 gt, .int .i64 y0, .int .i64 y1, .int .i64 k0, .int .i64 k1]), (G + 1, 55, #[.int .i64 fh, .int .i64 st, .int .i64 x0, .int .i64 x1, .int .i64 d0, .int .i64 d1]), (G, 35, #[.int .i64 id, .int .i64 al, .int .i64 ah, .slice A n c, .slice B mm d, .slice C l ee, .int .i64 t0, .int .i64 t1, .int .i64 u0, .int .i64 u1, .int .i64 v0, .int .i64 v1, .int .i64 h0, .int .i64 h1])] : List (Nat × TypeId × Array Value)), z.1 ≠ N))
 case first =>
  have hS0 : Boxes w2.drew ([(G + 1 + 1, 55, #[.int .i64 gh, .int .i64 gt, .int .i64 y0, .int .i64 y1, .int .i64 k0, .int .i64 k1]), (G + 1, 55, #[.int .i64 fh, .int .i64 st, .int .i64 x0, .int .i64 x1, .int .i64 d0, .int .i64 d1]), (G, 35, #[.int .i64 id, .int .i64 al, .int .i64 ah, .slice A n c, .slice B mm d, .slice C l ee, .int .i64 t0, .int .i64 t1, .int .i64 u0, .int .i64 u1, .int .i64 v0, .int .i64 v1, .int .i64 h0, .int .i64 h1])] : List (Nat × TypeId × Array Value)) := HK2.out
  have HEd := Lib.hid HE2.out.drew
  have HKd := Lib.hid hS0
  refine wp_region_held_drew (S := fun w' => Boxes w' ([(G + 1 + 1, 55, #[.int .i64 gh, .int .i64 gt, .int .i64 y0, .int .i64 y1, .int .i64 k0, .int .i64 k1]), (G + 1, 55, #[.int .i64 fh, .int .i64 st, .int .i64 x0, .int .i64 x1, .int .i64 d0, .int .i64 d1]), (G, 35, #[.int .i64 id, .int .i64 al, .int .i64 ah, .slice A n c, .slice B mm d, .slice C l ee, .int .i64 t0, .int .i64 t1, .int .i64 u0, .int .i64 u1, .int .i64 v0, .int .i64 v1, .int .i64 h0, .int .i64 h1])] : List (Nat × TypeId × Array Value))) (by kernel_rfl) hS0 (fun hHeld => ?_)
  obtain ⟨W4, hW⟩ : ∃ W', w2.drew = W' := ⟨_, rfl⟩
  rw [hW] at HEd HKd hHeld ⊢
  clear hW hS0 HE2 HK2
  refine tK 23 (i := 0) (v := .pointer (some ⟨G, 0, none⟩)) rfl rfl (by kernel_rfl) ?_ hHeld ?_
  ·intro w hSw; clear hSw; go_simp; try with_reducible rfl
  simp only [uZ, uS]
  refine tK 24 (i := 1) (v := .int .i64 id) rfl rfl (by kernel_rfl) ?_ hHeld ?_
  ·intro w hSw; have hz := (hSw _ (.tail _ (.tail _ (.head _)))); have c0 := hz.cell 0; simp at c0; clear hz hSw; go_simp; try with_reducible rfl
  simp only [uZ, uS]
  refine tK 25 (i := 2) (v := .pointer (some ⟨G + 1, 1, none⟩)) rfl rfl (by kernel_rfl) ?_ hHeld ?_
  ·intro w hSw; clear hSw; go_simp; try with_reducible rfl
  simp only [uZ, uS]
  refine tK 26 (i := 3) (v := .int .i64 st) rfl rfl (by kernel_rfl) ?_ hHeld ?_
  ·intro w hSw; have hz := (hSw _ (.tail _ (.head _))); have c1 := hz.cell 1; simp at c1; clear hz hSw; go_simp; try with_reducible rfl
  simp only [uZ, uS]
  refine tK 27 (i := 4) (v := .pointer (some ⟨G + 1, 2, none⟩)) rfl rfl (by kernel_rfl) ?_ hHeld ?_
  ·intro w hSw; clear hSw; go_simp; try with_reducible rfl
  simp only [uZ, uS]
  refine tK 28 (i := 5) (v := rv x0 x1) rfl rfl (by kernel_rfl) ?_ hHeld ?_
  ·intro w hSw; have hz := (hSw _ (.tail _ (.head _))); have c2 := hz.cell 2; have c3 := hz.cell 3; simp at c2 c3; clear hz hSw; go_simp; try with_reducible rfl
  simp only [uZ, uS]
  refine tK 29 (i := 6) (v := .pointer (some ⟨G + 1 + 1, 2, none⟩)) rfl rfl (by kernel_rfl) ?_ hHeld ?_
  ·intro w hSw; clear hSw; go_simp; try with_reducible rfl
  simp only [uZ, uS]
  refine tK 30 (i := 7) (v := rv y0 y1) rfl rfl (by kernel_rfl) ?_ hHeld ?_
  ·intro w hSw; have hz := (hSw _ (.head _)); have c2 := hz.cell 2; have c3 := hz.cell 3; simp at c2 c3; clear hz hSw; go_simp; try with_reducible rfl
  simp only [uZ, uS]
  refine tK 32 (i := 9) (v := .pointer (some ⟨G + 1, 4, none⟩)) rfl rfl (by kernel_rfl) ?_ hHeld ?_
  ·intro w hSw; clear hSw; go_simp; try with_reducible rfl
  simp only [uZ, uS]
  refine tK 33 (i := 10) (v := rv d0 d1) rfl rfl (by kernel_rfl) ?_ hHeld ?_
  ·intro w hSw; have hz := (hSw _ (.tail _ (.head _))); have c4 := hz.cell 4; have c5 := hz.cell 5; simp at c4 c5; clear hz hSw; go_simp; try with_reducible rfl
  simp only [uZ, uS]
  refine tK 34 (i := 11) (v := .pointer (some ⟨G + 1 + 1, 4, none⟩)) rfl rfl (by kernel_rfl) ?_ hHeld ?_
  ·intro w hSw; clear hSw; go_simp; try with_reducible rfl
  simp only [uZ, uS]
  refine tK 35 (i := 12) (v := rv k0 k1) rfl rfl (by kernel_rfl) ?_ hHeld ?_
  ·intro w hSw; have hz := (hSw _ (.head _)); have c4 := hz.cell 4; have c5 := hz.cell 5; simp at c4 c5; clear hz hSw; go_simp; try with_reducible rfl
  simp only [uZ, uS]
  have HEq := HEd
  have HKq := HKd
  clear HEd HKd
  rename World => yq
  refine wpAnyH_ready (rs := [8, 15]) (by kernel_rfl) (by simp) ?_
  refine AllReadyH.cons rfl (fun K hK => ?_) (AllReadyH.cons rfl (fun K hK => ?_) AllReadyH.nil)
  all_goals
   go_simp
   first
   | (
    (with_reducible refine (C3.out _).mono ?_)
    rintro e yn ⟨rfl, hb⟩
    have HEr := Lib.hid (below_then HEq.out hb)
    have HKr := Lib.hid (HKq.out.on hb)
    have hS := hHeld.on hb
    clear hb
    refine hK.out _ _ hS (fun hHeld2 => ?_)
    try simp only [Act.put, uA, uZ, uS]
    clear hS hK K hHeld HEq HKq
    have hHeld := hHeld2
    clear hHeld2
    have HEq := HEr
    clear HEr
    have HKq := HKr
    clear HKr
    rename World => yq)
   | (
    (with_reducible refine (C4.out _).mono ?_)
    rintro e yn ⟨rfl, hb⟩
    have HEr := Lib.hid (below_then HEq.out hb)
    have HKr := Lib.hid (HKq.out.on hb)
    have hS := hHeld.on hb
    clear hb
    refine hK.out _ _ hS (fun hHeld2 => ?_)
    try simp only [Act.put, uA, uZ, uS]
    clear hS hK K hHeld HEq HKq
    have hHeld := hHeld2
    clear hHeld2
    have HEq := HEr
    clear HEr
    have HKq := HKr
    clear HKr
    refine tK 37 (i := 14) (v := .agg #[.int .i64 id, .int .i64 st, .int .i64 ha, .int .i64 hb, .int .i64 ma, .int .i64 mb]) rfl rfl (by kernel_rfl) ?_ hHeld ?_
    ·intro w hSw; clear hSw; go_simp; try with_reducible rfl
    simp only [uZ, uS]
    rename World => yq)
   | (
    have HEr := Lib.hid (below_then HEq.out (below_alloc1 yq (.cells #[.int .i64 0, .int .i64 0, .int .i64 0, .int .i64 0, .int .i64 0, .int .i64 0] 55)))
    have HKr := Lib.hid (HKq.out.new 55 #[.int .i64 0, .int .i64 0, .int .i64 0, .int .i64 0, .int .i64 0, .int .i64 0])
    have hS := hHeld.on (below_alloc1 yq (.cells #[.int .i64 0, .int .i64 0, .int .i64 0, .int .i64 0, .int .i64 0, .int .i64 0] 55))
    have HDA := Lib.hid (boxes_lt HKq.out)
    have HZA := Lib.hid HEq.out.size
    refine hK.out _ _ hS (fun hHeld2 => ?_)
    try simp only [Act.put, uA, uZ, uS]
    clear hS hK K hHeld HEq HKq
    have hHeld := hHeld2
    clear hHeld2
    have HEq := HEr
    clear HEr
    have HKq := HKr
    clear HKr
    obtain ⟨y2, hW⟩ : ∃ W', yq.alloc (.cells #[.int .i64 0, .int .i64 0, .int .i64 0, .int .i64 0, .int .i64 0, .int .i64 0] 55) = W' := ⟨_, rfl⟩
    rw [hW] at HEq HKq hHeld ⊢
    clear hW
    obtain ⟨NA, hN⟩ : ∃ N, yq.heap.size = N := ⟨_, rfl⟩
    rw [hN] at HKq HDA HZA ⊢
    clear hN
    rename World => yq)
  refine wpAnyH_ready (rs := [13, 15]) (by kernel_rfl) (by simp) ?_
  refine AllReadyH.cons rfl (fun K hK => ?_) (AllReadyH.cons rfl (fun K hK => ?_) AllReadyH.nil)
  rotate_left 2
  refine wpAnyH_ready (rs := [8]) (by kernel_rfl) (by simp) ?_
  refine AllReadyH.cons rfl (fun K hK => ?_) AllReadyH.nil
  rotate_left 1
  all_goals
   go_simp
   first
   | (
    (with_reducible refine (C3.out _).mono ?_)
    rintro e yn ⟨rfl, hb⟩
    have HEr := Lib.hid (below_then HEq.out hb)
    have HKr := Lib.hid (HKq.out.on hb)
    have hS := hHeld.on hb
    clear hb
    refine hK.out _ _ hS (fun hHeld2 => ?_)
    try simp only [Act.put, uA, uZ, uS]
    clear hS hK K hHeld HEq HKq
    have hHeld := hHeld2
    clear hHeld2
    have HEq := HEr
    clear HEr
    have HKq := HKr
    clear HKr
    rename World => yq)
   | (
    (with_reducible refine (C4.out _).mono ?_)
    rintro e yn ⟨rfl, hb⟩
    have HEr := Lib.hid (below_then HEq.out hb)
    have HKr := Lib.hid (HKq.out.on hb)
    have hS := hHeld.on hb
    clear hb
    refine hK.out _ _ hS (fun hHeld2 => ?_)
    try simp only [Act.put, uA, uZ, uS]
    clear hS hK K hHeld HEq HKq
    have hHeld := hHeld2
    clear hHeld2
    have HEq := HEr
    clear HEr
    have HKq := HKr
    clear HKr
    refine tK 37 (i := 14) (v := .agg #[.int .i64 id, .int .i64 st, .int .i64 ha, .int .i64 hb, .int .i64 ma, .int .i64 mb]) rfl rfl (by kernel_rfl) ?_ hHeld ?_
    ·intro w hSw; clear hSw; go_simp; try with_reducible rfl
    simp only [uZ, uS]
    rename World => yq)
   | (
    have HEr := Lib.hid (below_then HEq.out (below_alloc1 yq (.cells #[.int .i64 0, .int .i64 0, .int .i64 0, .int .i64 0, .int .i64 0, .int .i64 0] 55)))
    have HKr := Lib.hid (HKq.out.new 55 #[.int .i64 0, .int .i64 0, .int .i64 0, .int .i64 0, .int .i64 0, .int .i64 0])
    have hS := hHeld.on (below_alloc1 yq (.cells #[.int .i64 0, .int .i64 0, .int .i64 0, .int .i64 0, .int .i64 0, .int .i64 0] 55))
    have HDA := Lib.hid (boxes_lt HKq.out)
    have HZA := Lib.hid HEq.out.size
    refine hK.out _ _ hS (fun hHeld2 => ?_)
    try simp only [Act.put, uA, uZ, uS]
    clear hS hK K hHeld HEq HKq
    have hHeld := hHeld2
    clear hHeld2
    have HEq := HEr
    clear HEr
    have HKq := HKr
    clear HKr
    obtain ⟨y2, hW⟩ : ∃ W', yq.alloc (.cells #[.int .i64 0, .int .i64 0, .int .i64 0, .int .i64 0, .int .i64 0, .int .i64 0] 55) = W' := ⟨_, rfl⟩
    rw [hW] at HEq HKq hHeld ⊢
    clear hW
    obtain ⟨NA, hN⟩ : ∃ N, yq.heap.size = N := ⟨_, rfl⟩
    rw [hN] at HKq HDA HZA ⊢
    clear hN
    rename World => yq)
  refine wpAnyH_ready (rs := [15]) (by kernel_rfl) (by simp) ?_
  refine AllReadyH.cons rfl (fun K hK => ?_) AllReadyH.nil
  rotate_left 1
  refine wpAnyH_ready (rs := [13]) (by kernel_rfl) (by simp) ?_
  refine AllReadyH.cons rfl (fun K hK => ?_) AllReadyH.nil
  rotate_left 1
  refine wpAnyH_ready (rs := [13]) (by kernel_rfl) (by simp) ?_
  refine AllReadyH.cons rfl (fun K hK => ?_) AllReadyH.nil
  rotate_left 1
  all_goals
   go_simp
   first
   | (
    (with_reducible refine (C3.out _).mono ?_)
    rintro e yn ⟨rfl, hb⟩
    have HEr := Lib.hid (below_then HEq.out hb)
    have HKr := Lib.hid (HKq.out.on hb)
    have hS := hHeld.on hb
    clear hb
    refine hK.out _ _ hS (fun hHeld2 => ?_)
    try simp only [Act.put, uA, uZ, uS]
    clear hS hK K hHeld HEq HKq
    have hHeld := hHeld2
    clear hHeld2
    have HEq := HEr
    clear HEr
    have HKq := HKr
    clear HKr
    rename World => yq)
   | (
    (with_reducible refine (C4.out _).mono ?_)
    rintro e yn ⟨rfl, hb⟩
    have HEr := Lib.hid (below_then HEq.out hb)
    have HKr := Lib.hid (HKq.out.on hb)
    have hS := hHeld.on hb
    clear hb
    refine hK.out _ _ hS (fun hHeld2 => ?_)
    try simp only [Act.put, uA, uZ, uS]
    clear hS hK K hHeld HEq HKq
    have hHeld := hHeld2
    clear hHeld2
    have HEq := HEr
    clear HEr
    have HKq := HKr
    clear HKr
    refine tK 37 (i := 14) (v := .agg #[.int .i64 id, .int .i64 st, .int .i64 ha, .int .i64 hb, .int .i64 ma, .int .i64 mb]) rfl rfl (by kernel_rfl) ?_ hHeld ?_
    ·intro w hSw; clear hSw; go_simp; try with_reducible rfl
    simp only [uZ, uS]
    rename World => yq)
   | (
    have HEr := Lib.hid (below_then HEq.out (below_alloc1 yq (.cells #[.int .i64 0, .int .i64 0, .int .i64 0, .int .i64 0, .int .i64 0, .int .i64 0] 55)))
    have HKr := Lib.hid (HKq.out.new 55 #[.int .i64 0, .int .i64 0, .int .i64 0, .int .i64 0, .int .i64 0, .int .i64 0])
    have hS := hHeld.on (below_alloc1 yq (.cells #[.int .i64 0, .int .i64 0, .int .i64 0, .int .i64 0, .int .i64 0, .int .i64 0] 55))
    have HDA := Lib.hid (boxes_lt HKq.out)
    have HZA := Lib.hid HEq.out.size
    refine hK.out _ _ hS (fun hHeld2 => ?_)
    try simp only [Act.put, uA, uZ, uS]
    clear hS hK K hHeld HEq HKq
    have hHeld := hHeld2
    clear hHeld2
    have HEq := HEr
    clear HEr
    have HKq := HKr
    clear HKr
    obtain ⟨y2, hW⟩ : ∃ W', yq.alloc (.cells #[.int .i64 0, .int .i64 0, .int .i64 0, .int .i64 0, .int .i64 0, .int .i64 0] 55) = W' := ⟨_, rfl⟩
    rw [hW] at HEq HKq hHeld ⊢
    clear hW
    obtain ⟨NA, hN⟩ : ∃ N, yq.heap.size = N := ⟨_, rfl⟩
    rw [hN] at HKq HDA HZA ⊢
    clear hN
    rename World => yq)
  all_goals
   first
   | (
    refine wpAnyH_ready (rs := [16]) (by kernel_rfl) (by simp) ?_
    refine AllReadyH.cons rfl (fun K hK => ?_) AllReadyH.nil
    rw [if_pos (by kernel_rfl)]
    have ne1 : ∀ zz ∈ (([(G + 1 + 1, 55, #[.int .i64 gh, .int .i64 gt, .int .i64 y0, .int .i64 y1, .int .i64 k0, .int .i64 k1]), (G + 1, 55, #[.int .i64 fh, .int .i64 st, .int .i64 x0, .int .i64 x1, .int .i64 d0, .int .i64 d1]), (G, 35, #[.int .i64 id, .int .i64 al, .int .i64 ah, .slice A n c, .slice B mm d, .slice C l ee, .int .i64 t0, .int .i64 t1, .int .i64 u0, .int .i64 u1, .int .i64 v0, .int .i64 v1, .int .i64 h0, .int .i64 h1])] : List (Nat × TypeId × Array Value)) : List (Nat × TypeId × Array Value)), zz.1 ≠ NA := HDA.out
    have HK1 : Hid (Boxes (yq.setRow NA #[.int .i64 id, .int .i64 st, .int .i64 ha, .int .i64 hb, .int .i64 ma, .int .i64 mb]) ((NA, 55, #[.int .i64 id, .int .i64 st, .int .i64 ha, .int .i64 hb, .int .i64 ma, .int .i64 mb]) :: ([(G + 1 + 1, 55, #[.int .i64 gh, .int .i64 gt, .int .i64 y0, .int .i64 y1, .int .i64 k0, .int .i64 k1]), (G + 1, 55, #[.int .i64 fh, .int .i64 st, .int .i64 x0, .int .i64 x1, .int .i64 d0, .int .i64 d1]), (G, 35, #[.int .i64 id, .int .i64 al, .int .i64 ah, .slice A n c, .slice B mm d, .slice C l ee, .int .i64 t0, .int .i64 t1, .int .i64 u0, .int .i64 u1, .int .i64 v0, .int .i64 v1, .int .i64 h0, .int .i64 h1])] : List (Nat × TypeId × Array Value)))) := Lib.hid (Boxes.row HKq.out (.head _) (fun p hp => ⟨.tail _ hp, ne1 p hp⟩) #[.int .i64 id, .int .i64 st, .int .i64 ha, .int .i64 hb, .int .i64 ma, .int .i64 mb])
    have HE1 := Lib.hid (below_setRow HEq.out (show w.heap.size ≤ NA from HZA.out) #[.int .i64 id, .int .i64 st, .int .i64 ha, .int .i64 hb, .int .i64 ma, .int .i64 mb])
    have hS := hHeld.farRow (g := NA) (fun p hp => ne1 p (hp)) #[.int .i64 id, .int .i64 st, .int .i64 ha, .int .i64 hb, .int .i64 ma, .int .i64 mb]
    refine wp_store_row 55 (.tmp 10) (.tmp 37) rfl NA #[.int .i64 id, .int .i64 st, .int .i64 ha, .int .i64 hb, .int .i64 ma, .int .i64 mb] rfl rfl 55 _ (HKq.out _ (.head _)) (by kernel_rfl) rfl (by kernel_rfl) ?_
    obtain ⟨y1, hW⟩ : ∃ W', yq.setRow NA #[.int .i64 id, .int .i64 st, .int .i64 ha, .int .i64 hb, .int .i64 ma, .int .i64 mb] = W' := ⟨_, rfl⟩
    rw [hW] at HE1 HK1 hS ⊢
    refine hK.out _ _ hS (fun hHeld2 => ?_)
    try simp only [Act.put, uA, uZ, uS]
    clear hW hS hK K hHeld ne1 HEq HKq
    have hHeld := hHeld2
    clear hHeld2
    refine wpAnyH_done (by kernel_rfl) ?_ _
    go_wp2_with fail
    go_meet
    exact ⟨NA, rfl, HK1.out, HE1.out, HZA.out, HDA.out⟩)
 case rest =>
  obtain ⟨N, rfl, hB, hE, hz, hd⟩ := hcut
  have HE3 := Lib.hid hE
  have HK3 := Lib.hid hB
  have HZ := Lib.hid hz
  have HD := Lib.hid hd
  clear hB hE hz hd HE2 HK2 C3 C4
  have fa := HK3.out _ (.tail _ (.tail _ (.head _)))
  have fa1 := fa.cell 1
  simp at fa1
  clear fa
  have ga := HK3.out _ (.tail _ (.head _))
  have ga1 := ga.cell 1
  simp at ga1
  clear ga
  have wa := HK3.out _ (.head _)
  have wa0 := wa.cell 0
  have wa1 := wa.cell 1
  have wa2 := wa.cell 2
  have wa3 := wa.cell 3
  have wa4 := wa.cell 4
  have wa5 := wa.cell 5
  simp at wa0 wa1 wa2 wa3 wa4 wa5
  clear wa
  have b0 : (st == gt) = true := by simp [HSE.out]
  go_wp2
  refine bodyPost_ret (v := .tuple #[.slice (some ⟨wc.heap.size, 0, none⟩) 1 1, .int .i64 0]) (by simp [results, Tryz.results31, go_sem]) rfl ⟨_, rfl, .inr ⟨_, _, rfl, by simp, ?_⟩, by simp, ?_⟩
  ·intro k r hr
   obtain ⟨rfl, rfl⟩ := one_fill hr
   simp
  ·exact below_then HE3.out (below_alloc1 _ _)

set_option maxRecDepth 100000 in
set_option maxHeartbeats 4000000 in
theorem hBetween_two (vol mom hei : List P3) (id al ah t0 t1 u0 u1 v0 v1 h0 h1 : Int) (A B C : Option Addr) (n c mm d l ee : Nat) (fh st x0 x1 d0 d1 gh gt y0 y1 k0 k1 : Int) (ha hb ma mb : Int) (g1 : fillErr ⟨id, al, ah, vol, mom, hei, t0, t1, u0, u1, v0, v1, h0, h1⟩ ⟨fh, st, x0, x1, d0, d1⟩ = 0) (g2 : fillErr ⟨id, al, ah, vol, mom, hei, t0, t1, u0, u1, v0, v1, h0, h1⟩ ⟨gh, gt, y0, y1, k0, k1⟩ = 0) (hh : hulS x0 x1 y0 y1 = (ha, hb)) (hm : mixS d0 d1 k0 k1 = (ma, mb)) (ga gb su su' sv sv' : Int) (hs : ¬ st = gt) (q0 : 0 ≤ st) (q5 : st ≤ 5) (p0 : 0 ≤ gt) (p5 : gt ≤ 5) (ht : tabOk vol = true) (hsf : surS ⟨id, al, ah, vol, mom, hei, t0, t1, u0, u1, v0, v1, h0, h1⟩ ⟨fh, st, x0, x1, d0, d1⟩ = (su, su')) (hsg : surS ⟨id, al, ah, vol, mom, hei, t0, t1, u0, u1, v0, v1, h0, h1⟩ ⟨gh, gt, y0, y1, k0, k1⟩ = (sv, sv')) (hg : hulS su su' sv sv' = (ga, gb)) (w : World) (hi : HoldIn w ⟨id, al, ah, vol, mom, hei, t0, t1, u0, u1, v0, v1, h0, h1⟩ ⟨A, n, c, B, mm, d, C, l, ee⟩) :
  Calls Tryz.prog 31 #[.agg #[.int .i64 id, .int .i64 al, .int .i64 ah, .slice A n c, .slice B mm d, .slice C l ee, .int .i64 t0, .int .i64 t1, .int .i64 u0, .int .i64 u1, .int .i64 v0, .int .i64 v1, .int .i64 h0, .int .i64 h1], .agg #[.int .i64 fh, .int .i64 st, .int .i64 x0, .int .i64 x1, .int .i64 d0, .int .i64 d1], .agg #[.int .i64 gh, .int .i64 gt, .int .i64 y0, .int .i64 y1, .int .i64 k0, .int .i64 k1]] w fun e w' => ∃ v, e = .returned (.tuple #[v, .int .i64 0]) ∧ SlFills w' v [⟨fh, st, x0, x1, d0, d1⟩, ⟨id, 3, ga, gb, ma, mb⟩, ⟨gh, gt, y0, y1, k0, k1⟩] ∧ (v = .slice none 0 0 ↔ ([⟨fh, st, x0, x1, d0, d1⟩, ⟨id, 3, ga, gb, ma, mb⟩, ⟨gh, gt, y0, y1, k0, k1⟩] : List FillD) = []) ∧ Below w.heap.size w w' := by
 have C1 : Hid (∀ W, Below w.heap.size w W → Calls Tryz.prog 53 #[.agg #[.int .i64 id, .int .i64 al, .int .i64 ah, .slice A n c, .slice B mm d, .slice C l ee, .int .i64 t0, .int .i64 t1, .int .i64 u0, .int .i64 u1, .int .i64 v0, .int .i64 v1, .int .i64 h0, .int .i64 h1], .agg #[.int .i64 fh, .int .i64 st, .int .i64 x0, .int .i64 x1, .int .i64 d0, .int .i64 d1]] W fun e w' => e = .returned (.int .i64 0) ∧ Below W.heap.size W w') := Lib.hid fun W hW => int_to (checkFill_any ⟨id, al, ah, vol, mom, hei, t0, t1, u0, u1, v0, v1, h0, h1⟩ ⟨A, n, c, B, mm, d, C, l, ee⟩ ⟨fh, st, x0, x1, d0, d1⟩ W (hi.below hW)) g1
 have C2 : Hid (∀ W, Below w.heap.size w W → Calls Tryz.prog 53 #[.agg #[.int .i64 id, .int .i64 al, .int .i64 ah, .slice A n c, .slice B mm d, .slice C l ee, .int .i64 t0, .int .i64 t1, .int .i64 u0, .int .i64 u1, .int .i64 v0, .int .i64 v1, .int .i64 h0, .int .i64 h1], .agg #[.int .i64 gh, .int .i64 gt, .int .i64 y0, .int .i64 y1, .int .i64 k0, .int .i64 k1]] W fun e w' => e = .returned (.int .i64 0) ∧ Below W.heap.size W w') := Lib.hid fun W hW => int_to (checkFill_any ⟨id, al, ah, vol, mom, hei, t0, t1, u0, u1, v0, v1, h0, h1⟩ ⟨A, n, c, B, mm, d, C, l, ee⟩ ⟨gh, gt, y0, y1, k0, k1⟩ W (hi.below hW)) g2
 have C3 : Hid (∀ W, Calls Tryz.prog 81 #[rv x0 x1, rv y0 y1] W fun e w' => e = .returned (rv ha hb) ∧ Below W.heap.size W w') := Lib.hid fun W => by
  have := hhull_any x0 x1 y0 y1 W
  rw [hh] at this; exact this
 have C4 : Hid (∀ W, Calls Tryz.prog 79 #[rv d0 d1, rv k0 k1] W fun e w' => e = .returned (rv ma mb) ∧ Below W.heap.size W w') := Lib.hid fun W => by
  have := mix_any d0 d1 k0 k1 W
  rw [hm] at this; exact this
 have C7 : Hid (∀ W, Calls Tryz.prog 81 #[rv su su', rv sv sv'] W fun e w' => e = .returned (rv ga gb) ∧ Below W.heap.size W w') := Lib.hid fun W => by
  have := hhull_any su su' sv sv' W
  rw [hg] at this; exact this
 obtain ⟨j0, j1, j2, j3, kf, pe, de, se, hM, hk, hC⟩ := surf_kind vol mom hei id al ah t0 t1 u0 u1 v0 v1 h0 h1 A B C n c mm d l ee fh st x0 x1 d0 d1 w hi.1 ht q0 q5 su su' hsf
 obtain ⟨i0, i1, i2, i3, kg, qe, ce, re, hM2, hk2, hC2⟩ := surf_kind vol mom hei id al ah t0 t1 u0 u1 v0 v1 h0 h1 A B C n c mm d l ee gh gt y0 y1 k0 k1 w hi.1 ht p0 p5 sv sv' hsg
 have CM1 : Hid (∀ W, Calls Tryz.prog 75 #[.agg #[.int .i64 fh, .int .i64 st, .int .i64 x0, .int .i64 x1, .int .i64 d0, .int .i64 d1]] W fun e w' => e = .returned (.agg #[fnV j0, fnV j1, fnV j2, fnV j3, fnV kf, .int .i64 pe, .int .i64 de, .int .i64 se]) ∧ Below W.heap.size W w') := Lib.hid fun W => by
  have := meaningOf_any fh st x0 x1 d0 d1 W q0 q5
  rwa [hM] at this
 have CM2 : Hid (∀ W, Calls Tryz.prog 75 #[.agg #[.int .i64 gh, .int .i64 gt, .int .i64 y0, .int .i64 y1, .int .i64 k0, .int .i64 k1]] W fun e w' => e = .returned (.agg #[fnV i0, fnV i1, fnV i2, fnV i3, fnV kg, .int .i64 qe, .int .i64 ce, .int .i64 re]) ∧ Below W.heap.size W w') := Lib.hid fun W => by
  have := meaningOf_any gh gt y0 y1 k0 k1 W p0 p5
  rwa [hM2] at this
 have CS1 := Lib.hid hC
 have CS2 := Lib.hid hC2
 have HKF := Lib.hid hk
 have HKG := Lib.hid hk2
 clear g1 g2 hh hm hi hM hM2 hC hC2 hk hk2 hsf hsg hg ht q0 q5 p0 p5
 have HE := Lib.hid (show Below w.heap.size w (((w.alloc (.cells #[.int .i64 id, .int .i64 al, .int .i64 ah, .slice A n c, .slice B mm d, .slice C l ee, .int .i64 t0, .int .i64 t1, .int .i64 u0, .int .i64 u1, .int .i64 v0, .int .i64 v1, .int .i64 h0, .int .i64 h1] 35)).alloc (.cells #[.int .i64 fh, .int .i64 st, .int .i64 x0, .int .i64 x1, .int .i64 d0, .int .i64 d1] 55)).alloc (.cells #[.int .i64 gh, .int .i64 gt, .int .i64 y0, .int .i64 y1, .int .i64 k0, .int .i64 k1] 55)) from below_a3 (Below.refl _ _))
 have HK := Lib.hid (boxes3' w 35 55 55 #[.int .i64 id, .int .i64 al, .int .i64 ah, .slice A n c, .slice B mm d, .slice C l ee, .int .i64 t0, .int .i64 t1, .int .i64 u0, .int .i64 u1, .int .i64 v0, .int .i64 v1, .int .i64 h0, .int .i64 h1] #[.int .i64 fh, .int .i64 st, .int .i64 x0, .int .i64 x1, .int .i64 d0, .int .i64 d1] #[.int .i64 gh, .int .i64 gt, .int .i64 y0, .int .i64 y1, .int .i64 k0, .int .i64 k1])
 go_enter Tryz.func31, Tryz.ntmps31
 go_wp2_with fail
 obtain ⟨W0, hW0⟩ : ∃ W0, (((w.alloc (.cells #[.int .i64 id, .int .i64 al, .int .i64 ah, .slice A n c, .slice B mm d, .slice C l ee, .int .i64 t0, .int .i64 t1, .int .i64 u0, .int .i64 u1, .int .i64 v0, .int .i64 v1, .int .i64 h0, .int .i64 h1] 35)).alloc (.cells #[.int .i64 fh, .int .i64 st, .int .i64 x0, .int .i64 x1, .int .i64 d0, .int .i64 d1] 55)).alloc (.cells #[.int .i64 gh, .int .i64 gt, .int .i64 y0, .int .i64 y1, .int .i64 k0, .int .i64 k1] 55)) = W0 := ⟨_, rfl⟩
 rw [hW0] at HE HK ⊢
 clear hW0
 obtain ⟨G, hG⟩ : ∃ G, w.heap.size = G := ⟨_, rfl⟩
 rw [hG] at HK ⊢
 have HG := Lib.hid hG; clear hG
 refine (C1.out _ HE.out).mono ?_
 rintro e w1 ⟨rfl, hq⟩
 have HE1 := Lib.hid (below_then HE.out hq); have HK1 := Lib.hid (HK.out.on hq)
 clear hq HE HK C1
 have sa := HK1.out _ (.tail _ (.tail _ (.head _)))
 have sa0 := sa.cell 0
 have sa1 := sa.cell 1
 have sa2 := sa.cell 2
 have sa3 := sa.cell 3
 have sa4 := sa.cell 4
 have sa5 := sa.cell 5
 have sa6 := sa.cell 6
 have sa7 := sa.cell 7
 have sa8 := sa.cell 8
 have sa9 := sa.cell 9
 have sa10 := sa.cell 10
 have sa11 := sa.cell 11
 have sa12 := sa.cell 12
 have sa13 := sa.cell 13
 simp at sa0 sa1 sa2 sa3 sa4 sa5 sa6 sa7 sa8 sa9 sa10 sa11 sa12 sa13
 clear sa
 have sb := HK1.out _ (.head _)
 have sb0 := sb.cell 0
 have sb1 := sb.cell 1
 have sb2 := sb.cell 2
 have sb3 := sb.cell 3
 have sb4 := sb.cell 4
 have sb5 := sb.cell 5
 simp at sb0 sb1 sb2 sb3 sb4 sb5
 clear sb
 go_wp2_with fail
 refine (C2.out _ HE1.out).mono ?_
 rintro e w2 ⟨rfl, hq⟩
 have HE2 := Lib.hid (below_then HE1.out hq); have HK2 := Lib.hid (HK1.out.on hq)
 clear hq HE1 HK1 C2 sa0 sa1 sa2 sa3 sa4 sa5 sa6 sa7 sa8 sa9 sa10 sa11 sa12 sa13 sb0 sb1 sb2 sb3 sb4 sb5
 go_upto_region 7 with fail
 go_cut [10] (fun s10 wx => ∃ N, s10 = .pointer (some ⟨N, 0, none⟩) ∧ Boxes wx ((N, 55, #[.int .i64 id, .int .i64 st, .int .i64 ha, .int .i64 hb, .int .i64 ma, .int .i64 mb]) :: ([(G + 1 + 1, 55, #[.int .i64 gh, .int .i64 gt, .int .i64 y0, .int .i64 y1, .int .i64 k0, .int .i64 k1]), (G + 1, 55, #[.int .i64 fh, .int .i64 st, .int .i64 x0, .int .i64 x1, .int .i64 d0, .int .i64 d1]), (G, 35, #[.int .i64 id, .int .i64 al, .int .i64 ah, .slice A n c, .slice B mm d, .slice C l ee, .int .i64 t0, .int .i64 t1, .int .i64 u0, .int .i64 u1, .int .i64 v0, .int .i64 v1, .int .i64 h0, .int .i64 h1])] : List (Nat × TypeId × Array Value))) ∧ Below w.heap.size w wx ∧ w.heap.size ≤ N ∧ (∀ z ∈ ([(G + 1 + 1, 55, #[.int .i64 gh, .int .i64 gt, .int .i64 y0, .int .i64 y1, .int .i64 k0, .int .i64 k1]), (G + 1, 55, #[.int .i64 fh, .int .i64 st, .int .i64 x0, .int .i64 x1, .int .i64 d0, .int .i64 d1]), (G, 35, #[.int .i64 id, .int .i64 al, .int .i64 ah, .slice A n c, .slice B mm d, .slice C l ee, .int .i64 t0, .int .i64 t1, .int .i64 u0, .int .i64 u1, .int .i64 v0, .int .i64 v1, .int .i64 h0, .int .i64 h1])] : List (Nat × TypeId × Array Value)), z.1 ≠ N))
 case first =>
  have hS0 : Boxes w2.drew ([(G + 1 + 1, 55, #[.int .i64 gh, .int .i64 gt, .int .i64 y0, .int .i64 y1, .int .i64 k0, .int .i64 k1]), (G + 1, 55, #[.int .i64 fh, .int .i64 st, .int .i64 x0, .int .i64 x1, .int .i64 d0, .int .i64 d1]), (G, 35, #[.int .i64 id, .int .i64 al, .int .i64 ah, .slice A n c, .slice B mm d, .slice C l ee, .int .i64 t0, .int .i64 t1, .int .i64 u0, .int .i64 u1, .int .i64 v0, .int .i64 v1, .int .i64 h0, .int .i64 h1])] : List (Nat × TypeId × Array Value)) := HK2.out
  have HEd := Lib.hid HE2.out.drew
  have HKd := Lib.hid hS0
  refine wp_region_held_drew (S := fun w' => Boxes w' ([(G + 1 + 1, 55, #[.int .i64 gh, .int .i64 gt, .int .i64 y0, .int .i64 y1, .int .i64 k0, .int .i64 k1]), (G + 1, 55, #[.int .i64 fh, .int .i64 st, .int .i64 x0, .int .i64 x1, .int .i64 d0, .int .i64 d1]), (G, 35, #[.int .i64 id, .int .i64 al, .int .i64 ah, .slice A n c, .slice B mm d, .slice C l ee, .int .i64 t0, .int .i64 t1, .int .i64 u0, .int .i64 u1, .int .i64 v0, .int .i64 v1, .int .i64 h0, .int .i64 h1])] : List (Nat × TypeId × Array Value))) (by kernel_rfl) hS0 (fun hHeld => ?_)
  obtain ⟨W4, hW⟩ : ∃ W', w2.drew = W' := ⟨_, rfl⟩
  rw [hW] at HEd HKd hHeld ⊢
  clear hW hS0 HE2 HK2
  refine tK 23 (i := 0) (v := .pointer (some ⟨G, 0, none⟩)) rfl rfl (by kernel_rfl) ?_ hHeld ?_
  ·intro w hSw; clear hSw; go_simp; try with_reducible rfl
  simp only [uZ, uS]
  refine tK 24 (i := 1) (v := .int .i64 id) rfl rfl (by kernel_rfl) ?_ hHeld ?_
  ·intro w hSw; have hz := (hSw _ (.tail _ (.tail _ (.head _)))); have c0 := hz.cell 0; simp at c0; clear hz hSw; go_simp; try with_reducible rfl
  simp only [uZ, uS]
  refine tK 25 (i := 2) (v := .pointer (some ⟨G + 1, 1, none⟩)) rfl rfl (by kernel_rfl) ?_ hHeld ?_
  ·intro w hSw; clear hSw; go_simp; try with_reducible rfl
  simp only [uZ, uS]
  refine tK 26 (i := 3) (v := .int .i64 st) rfl rfl (by kernel_rfl) ?_ hHeld ?_
  ·intro w hSw; have hz := (hSw _ (.tail _ (.head _))); have c1 := hz.cell 1; simp at c1; clear hz hSw; go_simp; try with_reducible rfl
  simp only [uZ, uS]
  refine tK 27 (i := 4) (v := .pointer (some ⟨G + 1, 2, none⟩)) rfl rfl (by kernel_rfl) ?_ hHeld ?_
  ·intro w hSw; clear hSw; go_simp; try with_reducible rfl
  simp only [uZ, uS]
  refine tK 28 (i := 5) (v := rv x0 x1) rfl rfl (by kernel_rfl) ?_ hHeld ?_
  ·intro w hSw; have hz := (hSw _ (.tail _ (.head _))); have c2 := hz.cell 2; have c3 := hz.cell 3; simp at c2 c3; clear hz hSw; go_simp; try with_reducible rfl
  simp only [uZ, uS]
  refine tK 29 (i := 6) (v := .pointer (some ⟨G + 1 + 1, 2, none⟩)) rfl rfl (by kernel_rfl) ?_ hHeld ?_
  ·intro w hSw; clear hSw; go_simp; try with_reducible rfl
  simp only [uZ, uS]
  refine tK 30 (i := 7) (v := rv y0 y1) rfl rfl (by kernel_rfl) ?_ hHeld ?_
  ·intro w hSw; have hz := (hSw _ (.head _)); have c2 := hz.cell 2; have c3 := hz.cell 3; simp at c2 c3; clear hz hSw; go_simp; try with_reducible rfl
  simp only [uZ, uS]
  refine tK 32 (i := 9) (v := .pointer (some ⟨G + 1, 4, none⟩)) rfl rfl (by kernel_rfl) ?_ hHeld ?_
  ·intro w hSw; clear hSw; go_simp; try with_reducible rfl
  simp only [uZ, uS]
  refine tK 33 (i := 10) (v := rv d0 d1) rfl rfl (by kernel_rfl) ?_ hHeld ?_
  ·intro w hSw; have hz := (hSw _ (.tail _ (.head _))); have c4 := hz.cell 4; have c5 := hz.cell 5; simp at c4 c5; clear hz hSw; go_simp; try with_reducible rfl
  simp only [uZ, uS]
  refine tK 34 (i := 11) (v := .pointer (some ⟨G + 1 + 1, 4, none⟩)) rfl rfl (by kernel_rfl) ?_ hHeld ?_
  ·intro w hSw; clear hSw; go_simp; try with_reducible rfl
  simp only [uZ, uS]
  refine tK 35 (i := 12) (v := rv k0 k1) rfl rfl (by kernel_rfl) ?_ hHeld ?_
  ·intro w hSw; have hz := (hSw _ (.head _)); have c4 := hz.cell 4; have c5 := hz.cell 5; simp at c4 c5; clear hz hSw; go_simp; try with_reducible rfl
  simp only [uZ, uS]
  have HEq := HEd
  have HKq := HKd
  clear HEd HKd
  rename World => yq
  refine wpAnyH_ready (rs := [8, 15]) (by kernel_rfl) (by simp) ?_
  refine AllReadyH.cons rfl (fun K hK => ?_) (AllReadyH.cons rfl (fun K hK => ?_) AllReadyH.nil)
  all_goals
   go_simp
   first
   | (
    (with_reducible refine (C3.out _).mono ?_)
    rintro e yn ⟨rfl, hb⟩
    have HEr := Lib.hid (below_then HEq.out hb)
    have HKr := Lib.hid (HKq.out.on hb)
    have hS := hHeld.on hb
    clear hb
    refine hK.out _ _ hS (fun hHeld2 => ?_)
    try simp only [Act.put, uA, uZ, uS]
    clear hS hK K hHeld HEq HKq
    have hHeld := hHeld2
    clear hHeld2
    have HEq := HEr
    clear HEr
    have HKq := HKr
    clear HKr
    rename World => yq)
   | (
    (with_reducible refine (C4.out _).mono ?_)
    rintro e yn ⟨rfl, hb⟩
    have HEr := Lib.hid (below_then HEq.out hb)
    have HKr := Lib.hid (HKq.out.on hb)
    have hS := hHeld.on hb
    clear hb
    refine hK.out _ _ hS (fun hHeld2 => ?_)
    try simp only [Act.put, uA, uZ, uS]
    clear hS hK K hHeld HEq HKq
    have hHeld := hHeld2
    clear hHeld2
    have HEq := HEr
    clear HEr
    have HKq := HKr
    clear HKr
    refine tK 37 (i := 14) (v := .agg #[.int .i64 id, .int .i64 st, .int .i64 ha, .int .i64 hb, .int .i64 ma, .int .i64 mb]) rfl rfl (by kernel_rfl) ?_ hHeld ?_
    ·intro w hSw; clear hSw; go_simp; try with_reducible rfl
    simp only [uZ, uS]
    rename World => yq)
   | (
    have HEr := Lib.hid (below_then HEq.out (below_alloc1 yq (.cells #[.int .i64 0, .int .i64 0, .int .i64 0, .int .i64 0, .int .i64 0, .int .i64 0] 55)))
    have HKr := Lib.hid (HKq.out.new 55 #[.int .i64 0, .int .i64 0, .int .i64 0, .int .i64 0, .int .i64 0, .int .i64 0])
    have hS := hHeld.on (below_alloc1 yq (.cells #[.int .i64 0, .int .i64 0, .int .i64 0, .int .i64 0, .int .i64 0, .int .i64 0] 55))
    have HDA := Lib.hid (boxes_lt HKq.out)
    have HZA := Lib.hid HEq.out.size
    refine hK.out _ _ hS (fun hHeld2 => ?_)
    try simp only [Act.put, uA, uZ, uS]
    clear hS hK K hHeld HEq HKq
    have hHeld := hHeld2
    clear hHeld2
    have HEq := HEr
    clear HEr
    have HKq := HKr
    clear HKr
    obtain ⟨y2, hW⟩ : ∃ W', yq.alloc (.cells #[.int .i64 0, .int .i64 0, .int .i64 0, .int .i64 0, .int .i64 0, .int .i64 0] 55) = W' := ⟨_, rfl⟩
    rw [hW] at HEq HKq hHeld ⊢
    clear hW
    obtain ⟨NA, hN⟩ : ∃ N, yq.heap.size = N := ⟨_, rfl⟩
    rw [hN] at HKq HDA HZA ⊢
    clear hN
    rename World => yq)
  refine wpAnyH_ready (rs := [13, 15]) (by kernel_rfl) (by simp) ?_
  refine AllReadyH.cons rfl (fun K hK => ?_) (AllReadyH.cons rfl (fun K hK => ?_) AllReadyH.nil)
  rotate_left 2
  refine wpAnyH_ready (rs := [8]) (by kernel_rfl) (by simp) ?_
  refine AllReadyH.cons rfl (fun K hK => ?_) AllReadyH.nil
  rotate_left 1
  all_goals
   go_simp
   first
   | (
    (with_reducible refine (C3.out _).mono ?_)
    rintro e yn ⟨rfl, hb⟩
    have HEr := Lib.hid (below_then HEq.out hb)
    have HKr := Lib.hid (HKq.out.on hb)
    have hS := hHeld.on hb
    clear hb
    refine hK.out _ _ hS (fun hHeld2 => ?_)
    try simp only [Act.put, uA, uZ, uS]
    clear hS hK K hHeld HEq HKq
    have hHeld := hHeld2
    clear hHeld2
    have HEq := HEr
    clear HEr
    have HKq := HKr
    clear HKr
    rename World => yq)
   | (
    (with_reducible refine (C4.out _).mono ?_)
    rintro e yn ⟨rfl, hb⟩
    have HEr := Lib.hid (below_then HEq.out hb)
    have HKr := Lib.hid (HKq.out.on hb)
    have hS := hHeld.on hb
    clear hb
    refine hK.out _ _ hS (fun hHeld2 => ?_)
    try simp only [Act.put, uA, uZ, uS]
    clear hS hK K hHeld HEq HKq
    have hHeld := hHeld2
    clear hHeld2
    have HEq := HEr
    clear HEr
    have HKq := HKr
    clear HKr
    refine tK 37 (i := 14) (v := .agg #[.int .i64 id, .int .i64 st, .int .i64 ha, .int .i64 hb, .int .i64 ma, .int .i64 mb]) rfl rfl (by kernel_rfl) ?_ hHeld ?_
    ·intro w hSw; clear hSw; go_simp; try with_reducible rfl
    simp only [uZ, uS]
    rename World => yq)
   | (
    have HEr := Lib.hid (below_then HEq.out (below_alloc1 yq (.cells #[.int .i64 0, .int .i64 0, .int .i64 0, .int .i64 0, .int .i64 0, .int .i64 0] 55)))
    have HKr := Lib.hid (HKq.out.new 55 #[.int .i64 0, .int .i64 0, .int .i64 0, .int .i64 0, .int .i64 0, .int .i64 0])
    have hS := hHeld.on (below_alloc1 yq (.cells #[.int .i64 0, .int .i64 0, .int .i64 0, .int .i64 0, .int .i64 0, .int .i64 0] 55))
    have HDA := Lib.hid (boxes_lt HKq.out)
    have HZA := Lib.hid HEq.out.size
    refine hK.out _ _ hS (fun hHeld2 => ?_)
    try simp only [Act.put, uA, uZ, uS]
    clear hS hK K hHeld HEq HKq
    have hHeld := hHeld2
    clear hHeld2
    have HEq := HEr
    clear HEr
    have HKq := HKr
    clear HKr
    obtain ⟨y2, hW⟩ : ∃ W', yq.alloc (.cells #[.int .i64 0, .int .i64 0, .int .i64 0, .int .i64 0, .int .i64 0, .int .i64 0] 55) = W' := ⟨_, rfl⟩
    rw [hW] at HEq HKq hHeld ⊢
    clear hW
    obtain ⟨NA, hN⟩ : ∃ N, yq.heap.size = N := ⟨_, rfl⟩
    rw [hN] at HKq HDA HZA ⊢
    clear hN
    rename World => yq)
  refine wpAnyH_ready (rs := [15]) (by kernel_rfl) (by simp) ?_
  refine AllReadyH.cons rfl (fun K hK => ?_) AllReadyH.nil
  rotate_left 1
  refine wpAnyH_ready (rs := [13]) (by kernel_rfl) (by simp) ?_
  refine AllReadyH.cons rfl (fun K hK => ?_) AllReadyH.nil
  rotate_left 1
  refine wpAnyH_ready (rs := [13]) (by kernel_rfl) (by simp) ?_
  refine AllReadyH.cons rfl (fun K hK => ?_) AllReadyH.nil
  rotate_left 1
  all_goals
   go_simp
   first
   | (
    (with_reducible refine (C3.out _).mono ?_)
    rintro e yn ⟨rfl, hb⟩
    have HEr := Lib.hid (below_then HEq.out hb)
    have HKr := Lib.hid (HKq.out.on hb)
    have hS := hHeld.on hb
    clear hb
    refine hK.out _ _ hS (fun hHeld2 => ?_)
    try simp only [Act.put, uA, uZ, uS]
    clear hS hK K hHeld HEq HKq
    have hHeld := hHeld2
    clear hHeld2
    have HEq := HEr
    clear HEr
    have HKq := HKr
    clear HKr
    rename World => yq)
   | (
    (with_reducible refine (C4.out _).mono ?_)
    rintro e yn ⟨rfl, hb⟩
    have HEr := Lib.hid (below_then HEq.out hb)
    have HKr := Lib.hid (HKq.out.on hb)
    have hS := hHeld.on hb
    clear hb
    refine hK.out _ _ hS (fun hHeld2 => ?_)
    try simp only [Act.put, uA, uZ, uS]
    clear hS hK K hHeld HEq HKq
    have hHeld := hHeld2
    clear hHeld2
    have HEq := HEr
    clear HEr
    have HKq := HKr
    clear HKr
    refine tK 37 (i := 14) (v := .agg #[.int .i64 id, .int .i64 st, .int .i64 ha, .int .i64 hb, .int .i64 ma, .int .i64 mb]) rfl rfl (by kernel_rfl) ?_ hHeld ?_
    ·intro w hSw; clear hSw; go_simp; try with_reducible rfl
    simp only [uZ, uS]
    rename World => yq)
   | (
    have HEr := Lib.hid (below_then HEq.out (below_alloc1 yq (.cells #[.int .i64 0, .int .i64 0, .int .i64 0, .int .i64 0, .int .i64 0, .int .i64 0] 55)))
    have HKr := Lib.hid (HKq.out.new 55 #[.int .i64 0, .int .i64 0, .int .i64 0, .int .i64 0, .int .i64 0, .int .i64 0])
    have hS := hHeld.on (below_alloc1 yq (.cells #[.int .i64 0, .int .i64 0, .int .i64 0, .int .i64 0, .int .i64 0, .int .i64 0] 55))
    have HDA := Lib.hid (boxes_lt HKq.out)
    have HZA := Lib.hid HEq.out.size
    refine hK.out _ _ hS (fun hHeld2 => ?_)
    try simp only [Act.put, uA, uZ, uS]
    clear hS hK K hHeld HEq HKq
    have hHeld := hHeld2
    clear hHeld2
    have HEq := HEr
    clear HEr
    have HKq := HKr
    clear HKr
    obtain ⟨y2, hW⟩ : ∃ W', yq.alloc (.cells #[.int .i64 0, .int .i64 0, .int .i64 0, .int .i64 0, .int .i64 0, .int .i64 0] 55) = W' := ⟨_, rfl⟩
    rw [hW] at HEq HKq hHeld ⊢
    clear hW
    obtain ⟨NA, hN⟩ : ∃ N, yq.heap.size = N := ⟨_, rfl⟩
    rw [hN] at HKq HDA HZA ⊢
    clear hN
    rename World => yq)
  all_goals
   first
   | (
    refine wpAnyH_ready (rs := [16]) (by kernel_rfl) (by simp) ?_
    refine AllReadyH.cons rfl (fun K hK => ?_) AllReadyH.nil
    rw [if_pos (by kernel_rfl)]
    have ne1 : ∀ zz ∈ (([(G + 1 + 1, 55, #[.int .i64 gh, .int .i64 gt, .int .i64 y0, .int .i64 y1, .int .i64 k0, .int .i64 k1]), (G + 1, 55, #[.int .i64 fh, .int .i64 st, .int .i64 x0, .int .i64 x1, .int .i64 d0, .int .i64 d1]), (G, 35, #[.int .i64 id, .int .i64 al, .int .i64 ah, .slice A n c, .slice B mm d, .slice C l ee, .int .i64 t0, .int .i64 t1, .int .i64 u0, .int .i64 u1, .int .i64 v0, .int .i64 v1, .int .i64 h0, .int .i64 h1])] : List (Nat × TypeId × Array Value)) : List (Nat × TypeId × Array Value)), zz.1 ≠ NA := HDA.out
    have HK1 : Hid (Boxes (yq.setRow NA #[.int .i64 id, .int .i64 st, .int .i64 ha, .int .i64 hb, .int .i64 ma, .int .i64 mb]) ((NA, 55, #[.int .i64 id, .int .i64 st, .int .i64 ha, .int .i64 hb, .int .i64 ma, .int .i64 mb]) :: ([(G + 1 + 1, 55, #[.int .i64 gh, .int .i64 gt, .int .i64 y0, .int .i64 y1, .int .i64 k0, .int .i64 k1]), (G + 1, 55, #[.int .i64 fh, .int .i64 st, .int .i64 x0, .int .i64 x1, .int .i64 d0, .int .i64 d1]), (G, 35, #[.int .i64 id, .int .i64 al, .int .i64 ah, .slice A n c, .slice B mm d, .slice C l ee, .int .i64 t0, .int .i64 t1, .int .i64 u0, .int .i64 u1, .int .i64 v0, .int .i64 v1, .int .i64 h0, .int .i64 h1])] : List (Nat × TypeId × Array Value)))) := Lib.hid (Boxes.row HKq.out (.head _) (fun p hp => ⟨.tail _ hp, ne1 p hp⟩) #[.int .i64 id, .int .i64 st, .int .i64 ha, .int .i64 hb, .int .i64 ma, .int .i64 mb])
    have HE1 := Lib.hid (below_setRow HEq.out (show w.heap.size ≤ NA from HZA.out) #[.int .i64 id, .int .i64 st, .int .i64 ha, .int .i64 hb, .int .i64 ma, .int .i64 mb])
    have hS := hHeld.farRow (g := NA) (fun p hp => ne1 p (hp)) #[.int .i64 id, .int .i64 st, .int .i64 ha, .int .i64 hb, .int .i64 ma, .int .i64 mb]
    refine wp_store_row 55 (.tmp 10) (.tmp 37) rfl NA #[.int .i64 id, .int .i64 st, .int .i64 ha, .int .i64 hb, .int .i64 ma, .int .i64 mb] rfl rfl 55 _ (HKq.out _ (.head _)) (by kernel_rfl) rfl (by kernel_rfl) ?_
    obtain ⟨y1, hW⟩ : ∃ W', yq.setRow NA #[.int .i64 id, .int .i64 st, .int .i64 ha, .int .i64 hb, .int .i64 ma, .int .i64 mb] = W' := ⟨_, rfl⟩
    rw [hW] at HE1 HK1 hS ⊢
    refine hK.out _ _ hS (fun hHeld2 => ?_)
    try simp only [Act.put, uA, uZ, uS]
    clear hW hS hK K hHeld ne1 HEq HKq
    have hHeld := hHeld2
    clear hHeld2
    refine wpAnyH_done (by kernel_rfl) ?_ _
    go_wp2_with fail
    go_meet
    exact ⟨NA, rfl, HK1.out, HE1.out, HZA.out, HDA.out⟩)
 case rest =>
  obtain ⟨N, rfl, hB, hE, hz, hd⟩ := hcut
  have HE3 := Lib.hid hE
  have HK3 := Lib.hid hB
  have HZ := Lib.hid hz
  have HD := Lib.hid hd
  clear hB hE hz hd HE2 HK2 C3 C4
  have fa := HK3.out _ (.tail _ (.tail _ (.head _)))
  have fa1 := fa.cell 1
  simp at fa1
  clear fa
  have ga := HK3.out _ (.tail _ (.head _))
  have ga1 := ga.cell 1
  simp at ga1
  clear ga
  have wa := HK3.out _ (.head _)
  have wa1 := wa.cell 1
  have waf1 := wa.frozen 1
  have wal := wa.lt
  simp at wa1 waf1
  clear wa
  have b0 : (st == gt) = false := beq_eq_false_iff_ne.2 hs
  go_upto_region 11 with fail
  have HE4 := Lib.hid (HE3.out.setCell (p := ⟨N, 1, none⟩) (show w.heap.size ≤ N from HZ.out) (.int .i64 3))
  have HK4 := Lib.hid (HK3.out.set1 HD.out 1 (.int .i64 3) #[.int .i64 id, .int .i64 3, .int .i64 ha, .int .i64 hb, .int .i64 ma, .int .i64 mb] rfl)
  obtain ⟨W4, hW⟩ : ∃ W', wc.setCell ⟨N, 1, none⟩ (.int .i64 3) = W' := ⟨_, rfl⟩
  rw [hW] at HE4 HK4 ⊢
  clear hW HE3 HK3 b0 fa1 ga1 wa1 waf1 wal
  have HKs : Hid (Boxes W4 ([(G + 1 + 1, 55, #[.int .i64 gh, .int .i64 gt, .int .i64 y0, .int .i64 y1, .int .i64 k0, .int .i64 k1]), (G + 1, 55, #[.int .i64 fh, .int .i64 st, .int .i64 x0, .int .i64 x1, .int .i64 d0, .int .i64 d1]), (G, 35, #[.int .i64 id, .int .i64 al, .int .i64 ah, .slice A n c, .slice B mm d, .slice C l ee, .int .i64 t0, .int .i64 t1, .int .i64 u0, .int .i64 u1, .int .i64 v0, .int .i64 v1, .int .i64 h0, .int .i64 h1])] : List (Nat × TypeId × Array Value))) := Lib.hid (HK4.out.sub (fun x hx => .tail _ hx))
  have HK9 : Hid (Blk W4 N 55 #[.int .i64 id, .int .i64 3, .int .i64 ha, .int .i64 hb, .int .i64 ma, .int .i64 mb]) := Lib.hid (HK4.out _ (.head _))
  clear HK4
  go_cut [] (fun wx => Boxes wx ((N, 55, #[.int .i64 id, .int .i64 3, .int .i64 ga, .int .i64 gb, .int .i64 ma, .int .i64 mb]) :: ([(G + 1 + 1, 55, #[.int .i64 gh, .int .i64 gt, .int .i64 y0, .int .i64 y1, .int .i64 k0, .int .i64 k1]), (G + 1, 55, #[.int .i64 fh, .int .i64 st, .int .i64 x0, .int .i64 x1, .int .i64 d0, .int .i64 d1]), (G, 35, #[.int .i64 id, .int .i64 al, .int .i64 ah, .slice A n c, .slice B mm d, .slice C l ee, .int .i64 t0, .int .i64 t1, .int .i64 u0, .int .i64 u1, .int .i64 v0, .int .i64 v1, .int .i64 h0, .int .i64 h1])] : List (Nat × TypeId × Array Value))) ∧ Below w.heap.size w wx)
  case first =>
   rcases HKF.out with rfl | rfl | rfl <;> rcases HKG.out with rfl | rfl | rfl
   all_goals
    have hS0 : Boxes W4.drew ([(G + 1 + 1, 55, #[.int .i64 gh, .int .i64 gt, .int .i64 y0, .int .i64 y1, .int .i64 k0, .int .i64 k1]), (G + 1, 55, #[.int .i64 fh, .int .i64 st, .int .i64 x0, .int .i64 x1, .int .i64 d0, .int .i64 d1]), (G, 35, #[.int .i64 id, .int .i64 al, .int .i64 ah, .slice A n c, .slice B mm d, .slice C l ee, .int .i64 t0, .int .i64 t1, .int .i64 u0, .int .i64 u1, .int .i64 v0, .int .i64 v1, .int .i64 h0, .int .i64 h1])] : List (Nat × TypeId × Array Value)) := HKs.out
    have HEd := Lib.hid HE4.out.drew
    have HKd : Hid (Blk W4.drew N 55 #[.int .i64 id, .int .i64 3, .int .i64 ha, .int .i64 hb, .int .i64 ma, .int .i64 mb]) := Lib.hid HK9.out.drew
    refine wp_region_held_drew (S := fun w' => Boxes w' ([(G + 1 + 1, 55, #[.int .i64 gh, .int .i64 gt, .int .i64 y0, .int .i64 y1, .int .i64 k0, .int .i64 k1]), (G + 1, 55, #[.int .i64 fh, .int .i64 st, .int .i64 x0, .int .i64 x1, .int .i64 d0, .int .i64 d1]), (G, 35, #[.int .i64 id, .int .i64 al, .int .i64 ah, .slice A n c, .slice B mm d, .slice C l ee, .int .i64 t0, .int .i64 t1, .int .i64 u0, .int .i64 u1, .int .i64 v0, .int .i64 v1, .int .i64 h0, .int .i64 h1])] : List (Nat × TypeId × Array Value))) (by kernel_rfl) hS0 (fun hHeld => ?_)
    obtain ⟨W5, hW⟩ : ∃ W', W4.drew = W' := ⟨_, rfl⟩
    rw [hW] at HEd HKd hHeld ⊢
    clear hW hS0 HE4 HKs
    clear HK9
    refine tK 46 (i := 0) (v := .agg #[.int .i64 fh, .int .i64 st, .int .i64 x0, .int .i64 x1, .int .i64 d0, .int .i64 d1]) rfl rfl (by kernel_rfl) ?_ hHeld ?_
    ·intro w hSw; have hz := (hSw _ (.tail _ (.head _))); have c0 := hz.cell 0; have c1 := hz.cell 1; have c2 := hz.cell 2; have c3 := hz.cell 3; have c4 := hz.cell 4; have c5 := hz.cell 5; simp at c0 c1 c2 c3 c4 c5; clear hz hSw; go_simp; try with_reducible rfl
    simp only [uZ, uS]
    refine tK 49 (i := 3) (v := .agg #[.int .i64 id, .int .i64 al, .int .i64 ah, .slice A n c, .slice B mm d, .slice C l ee, .int .i64 t0, .int .i64 t1, .int .i64 u0, .int .i64 u1, .int .i64 v0, .int .i64 v1, .int .i64 h0, .int .i64 h1]) rfl rfl (by kernel_rfl) ?_ hHeld ?_
    ·intro w hSw; have hz := (hSw _ (.tail _ (.tail _ (.head _)))); have c0 := hz.cell 0; have c1 := hz.cell 1; have c2 := hz.cell 2; have c3 := hz.cell 3; have c4 := hz.cell 4; have c5 := hz.cell 5; have c6 := hz.cell 6; have c7 := hz.cell 7; have c8 := hz.cell 8; have c9 := hz.cell 9; have c10 := hz.cell 10; have c11 := hz.cell 11; have c12 := hz.cell 12; have c13 := hz.cell 13; simp at c0 c1 c2 c3 c4 c5 c6 c7 c8 c9 c10 c11 c12 c13; clear hz hSw; go_simp; try with_reducible rfl
    simp only [uZ, uS]
    refine tK 50 (i := 4) (v := .agg #[.int .i64 fh, .int .i64 st, .int .i64 x0, .int .i64 x1, .int .i64 d0, .int .i64 d1]) rfl rfl (by kernel_rfl) ?_ hHeld ?_
    ·intro w hSw; have hz := (hSw _ (.tail _ (.head _))); have c0 := hz.cell 0; have c1 := hz.cell 1; have c2 := hz.cell 2; have c3 := hz.cell 3; have c4 := hz.cell 4; have c5 := hz.cell 5; simp at c0 c1 c2 c3 c4 c5; clear hz hSw; go_simp; try with_reducible rfl
    simp only [uZ, uS]
    refine tK 52 (i := 6) (v := .agg #[.int .i64 gh, .int .i64 gt, .int .i64 y0, .int .i64 y1, .int .i64 k0, .int .i64 k1]) rfl rfl (by kernel_rfl) ?_ hHeld ?_
    ·intro w hSw; have hz := (hSw _ (.head _)); have c0 := hz.cell 0; have c1 := hz.cell 1; have c2 := hz.cell 2; have c3 := hz.cell 3; have c4 := hz.cell 4; have c5 := hz.cell 5; simp at c0 c1 c2 c3 c4 c5; clear hz hSw; go_simp; try with_reducible rfl
    simp only [uZ, uS]
    refine tK 55 (i := 9) (v := .agg #[.int .i64 id, .int .i64 al, .int .i64 ah, .slice A n c, .slice B mm d, .slice C l ee, .int .i64 t0, .int .i64 t1, .int .i64 u0, .int .i64 u1, .int .i64 v0, .int .i64 v1, .int .i64 h0, .int .i64 h1]) rfl rfl (by kernel_rfl) ?_ hHeld ?_
    ·intro w hSw; have hz := (hSw _ (.tail _ (.tail _ (.head _)))); have c0 := hz.cell 0; have c1 := hz.cell 1; have c2 := hz.cell 2; have c3 := hz.cell 3; have c4 := hz.cell 4; have c5 := hz.cell 5; have c6 := hz.cell 6; have c7 := hz.cell 7; have c8 := hz.cell 8; have c9 := hz.cell 9; have c10 := hz.cell 10; have c11 := hz.cell 11; have c12 := hz.cell 12; have c13 := hz.cell 13; simp at c0 c1 c2 c3 c4 c5 c6 c7 c8 c9 c10 c11 c12 c13; clear hz hSw; go_simp; try with_reducible rfl
    simp only [uZ, uS]
    refine tK 56 (i := 10) (v := .agg #[.int .i64 gh, .int .i64 gt, .int .i64 y0, .int .i64 y1, .int .i64 k0, .int .i64 k1]) rfl rfl (by kernel_rfl) ?_ hHeld ?_
    ·intro w hSw; have hz := (hSw _ (.head _)); have c0 := hz.cell 0; have c1 := hz.cell 1; have c2 := hz.cell 2; have c3 := hz.cell 3; have c4 := hz.cell 4; have c5 := hz.cell 5; simp at c0 c1 c2 c3 c4 c5; clear hz hSw; go_simp; try with_reducible rfl
    simp only [uZ, uS]
    refine wpAnyH_ready (rs := [1]) (by kernel_rfl) (by simp) ?_
    refine AllReadyH.cons rfl (fun K hK => ?_) AllReadyH.nil
    go_simp
    (with_reducible refine (CM1.out _).mono ?_)
    rintro e z1 ⟨rfl, hq⟩
    have HEz1 := Lib.hid (below_then HEd.out hq); have HKz1 := Lib.hid (blkOn HKd.out hq)
    have hS := hHeld.on hq
    clear hq
    refine hK.out _ _ (hS) (fun hHeld2 => ?_)
    try simp only [Act.put, uA, uZ, uS]
    clear hK K hHeld
    have hHeld := hHeld2
    clear hHeld2
    clear hS HEd HKd
    refine wpAnyH_take (i := 2) (v := ?_) rfl (by kernel_rfl) (by kernel_rfl) (by kernel_rfl) (fun _ _ _ h => h) (Or.inl ⟨by kernel_rfl, ?_⟩) hHeld ?_
    rotate_left
    ·intro w hSw; clear hSw; go_simp; try with_reducible rfl
    change wpAnyH _ _ _ _ _ _ _ (Act.put _ (some 48) _) _
    try simp only [Act.put, uA, uZ, uS]
    refine wpAnyH_ready (rs := [5]) (by kernel_rfl) (by simp) ?_
    refine AllReadyH.cons rfl (fun K hK => ?_) AllReadyH.nil
    go_simp
    (with_reducible refine (CS1.out _ HEz1.out).mono ?_)
    rintro e z2 ⟨rfl, hq⟩
    have HEz2 := Lib.hid (below_then HEz1.out hq); have HKz2 := Lib.hid (blkOn HKz1.out hq)
    have hS := hHeld.on hq
    clear hq
    refine hK.out _ _ (hS) (fun hHeld2 => ?_)
    try simp only [Act.put, uA, uZ, uS]
    clear hK K hHeld
    have hHeld := hHeld2
    clear hHeld2
    clear hS HEz1 HKz1
    refine wpAnyH_ready (rs := [7]) (by kernel_rfl) (by simp) ?_
    refine AllReadyH.cons rfl (fun K hK => ?_) AllReadyH.nil
    go_simp
    (with_reducible refine (CM2.out _).mono ?_)
    rintro e z3 ⟨rfl, hq⟩
    have HEz3 := Lib.hid (below_then HEz2.out hq); have HKz3 := Lib.hid (blkOn HKz2.out hq)
    have hS := hHeld.on hq
    clear hq
    refine hK.out _ _ (hS) (fun hHeld2 => ?_)
    try simp only [Act.put, uA, uZ, uS]
    clear hK K hHeld
    have hHeld := hHeld2
    clear hHeld2
    clear hS HEz2 HKz2
    refine wpAnyH_take (i := 8) (v := ?_) rfl (by kernel_rfl) (by kernel_rfl) (by kernel_rfl) (fun _ _ _ h => h) (Or.inl ⟨by kernel_rfl, ?_⟩) hHeld ?_
    rotate_left
    ·intro w hSw; clear hSw; go_simp; try with_reducible rfl
    change wpAnyH _ _ _ _ _ _ _ (Act.put _ (some 54) _) _
    try simp only [Act.put, uA, uZ, uS]
    refine wpAnyH_ready (rs := [11]) (by kernel_rfl) (by simp) ?_
    refine AllReadyH.cons rfl (fun K hK => ?_) AllReadyH.nil
    go_simp
    (with_reducible refine (CS2.out _ HEz3.out).mono ?_)
    rintro e z4 ⟨rfl, hq⟩
    have HEz4 := Lib.hid (below_then HEz3.out hq); have HKz4 := Lib.hid (blkOn HKz3.out hq)
    have hS := hHeld.on hq
    clear hq
    refine hK.out _ _ (hS) (fun hHeld2 => ?_)
    try simp only [Act.put, uA, uZ, uS]
    clear hK K hHeld
    have hHeld := hHeld2
    clear hHeld2
    clear hS HEz3 HKz3
    refine wpAnyH_ready (rs := [12]) (by kernel_rfl) (by simp) ?_
    refine AllReadyH.cons rfl (fun K hK => ?_) AllReadyH.nil
    go_simp
    (with_reducible refine (C7.out _).mono ?_)
    rintro e z5 ⟨rfl, hq⟩
    have HEz5 := Lib.hid (below_then HEz4.out hq); have HKz5 := Lib.hid (blkOn HKz4.out hq)
    have hS := hHeld.on hq
    clear hq
    refine hK.out _ _ (hS) (fun hHeld2 => ?_)
    try simp only [Act.put, uA, uZ, uS]
    clear hK K hHeld
    have hHeld := hHeld2
    clear hHeld2
    clear hS HEz4 HKz4
    refine tK 59 (i := 13) (v := .pointer (some ⟨N, 2, none⟩)) rfl rfl (by kernel_rfl) ?_ hHeld ?_
    ·intro w hSw; clear hSw; go_simp; try with_reducible rfl
    simp only [uZ, uS]
    have wa2 := HKz5.out.cell 2
    have waf2 := HKz5.out.frozen 2
    have wa3 := HKz5.out.cell 3
    have waf3 := HKz5.out.frozen 3
    have wal := HKz5.out.lt
    simp at wa2 waf2 wa3 waf3
    refine wpAnyH_ready (rs := [14]) (by kernel_rfl) (by simp) ?_
    refine AllReadyH.cons rfl (fun K hK => ?_) AllReadyH.nil
    go_simp
    have HE6 := Lib.hid ((HEz5.out.setCell (p := ⟨N, 2, none⟩) (show w.heap.size ≤ N from HZ.out) (.int .i64 ga)).setCell (p := ⟨N, 3, none⟩) (show w.heap.size ≤ N from HZ.out) (.int .i64 gb))
    have HKA : Hid (Boxes z5 ((N, 55, #[.int .i64 id, .int .i64 3, .int .i64 ha, .int .i64 hb, .int .i64 ma, .int .i64 mb]) :: ([(G + 1 + 1, 55, #[.int .i64 gh, .int .i64 gt, .int .i64 y0, .int .i64 y1, .int .i64 k0, .int .i64 k1]), (G + 1, 55, #[.int .i64 fh, .int .i64 st, .int .i64 x0, .int .i64 x1, .int .i64 d0, .int .i64 d1]), (G, 35, #[.int .i64 id, .int .i64 al, .int .i64 ah, .slice A n c, .slice B mm d, .slice C l ee, .int .i64 t0, .int .i64 t1, .int .i64 u0, .int .i64 u1, .int .i64 v0, .int .i64 v1, .int .i64 h0, .int .i64 h1])] : List (Nat × TypeId × Array Value)))) := Lib.hid (Boxes.cons hHeld HKz5.out)
    have HK6 := Lib.hid ((HKA.out.set1 HD.out 2 (.int .i64 ga) _ rfl).set1 HD.out 3 (.int .i64 gb) #[.int .i64 id, .int .i64 3, .int .i64 ga, .int .i64 gb, .int .i64 ma, .int .i64 mb] rfl)
    obtain ⟨W6, hW⟩ : ∃ W', (z5.setCell ⟨N, 2, none⟩ (.int .i64 ga)).setCell ⟨N, 3, none⟩ (.int .i64 gb) = W' := ⟨_, rfl⟩
    rw [hW] at HE6 HK6 ⊢
    clear hW
    refine hK.out _ _ (HK6.out.sub (fun x hx => .tail _ hx)) (fun hHeld2 => ?_)
    try simp only [Act.put, uA, uZ, uS]
    clear hK K hHeld HKA wa2 wa3 waf2 waf3 wal HEz5 HKz5
    refine wpAnyH_done (by kernel_rfl) ?_ _
    clear hHeld2
    go_wp2_with fail
    go_meet
    exact ⟨HK6.out, HE6.out⟩
  case rest =>
   obtain ⟨hB, hE⟩ := hcut
   rename World => W8
   have HE8 := Lib.hid hE
   have HK8 := Lib.hid hB
   clear hB hE HE4 HKs HK9 CM1 CM2 CS1 CS2 C7
   have fa := HK8.out _ (.tail _ (.tail _ (.head _)))
   have fa0 := fa.cell 0
   have fa1 := fa.cell 1
   have fa2 := fa.cell 2
   have fa3 := fa.cell 3
   have fa4 := fa.cell 4
   have fa5 := fa.cell 5
   simp at fa0 fa1 fa2 fa3 fa4 fa5
   clear fa
   have wa := HK8.out _ (.head _)
   have wa0 := wa.cell 0
   have wa1 := wa.cell 1
   have wa2 := wa.cell 2
   have wa3 := wa.cell 3
   have wa4 := wa.cell 4
   have wa5 := wa.cell 5
   simp at wa0 wa1 wa2 wa3 wa4 wa5
   clear wa
   have ga := HK8.out _ (.tail _ (.head _))
   have ga0 := ga.cell 0
   have ga1 := ga.cell 1
   have ga2 := ga.cell 2
   have ga3 := ga.cell 3
   have ga4 := ga.cell 4
   have ga5 := ga.cell 5
   simp at ga0 ga1 ga2 ga3 ga4 ga5
   clear ga
   go_wp2
   refine bodyPost_ret (v := .tuple #[.slice (some ⟨W8.heap.size, 0, none⟩) 3 3, .int .i64 0]) (by simp [results, Tryz.results31, go_sem]) rfl ⟨_, rfl, .inr ⟨_, _, rfl, by simp, ?_⟩, by simp, ?_⟩
   ·intro k r hr
    rcases three_fills hr with ⟨rfl, rfl⟩ | ⟨rfl, rfl⟩ | ⟨rfl, rfl⟩ <;> simp
   ·exact below_then HE8.out (below_alloc1 _ _)
end

end Go.Proofs.YtemlaaipnhmcoaaGreat
