/- The contracts of Surface, of hold and of the specification. Their condition: the tank's tables lie in memory. -/
import Derived.Test.YtpcmcicnciejpaaGreatR09
set_option linter.unusedVariables false
set_option linter.unusedSimpArgs false
set_option linter.constructorNameAsVariable false
set_option maxRecDepth 100000
set_option maxHeartbeats 4000000
namespace Go.Proofs.YtpcmcicnciejpaaGreat
theorem zH {p : Prop} (h : p) : Go.RowKit.Hid p := h
theorem rK {P : Program} {ops : Array Oper} {Q : Exit → Act → World → Prop} {md : Region.Mode} {S : World → Prop} {fuel : Nat} {listed : Array Bool} {a : Act} {w : World} (i : Nat) {o : Oper} (hr : Region.ready md ops listed = [i]) (ho : ops[i]? = some o)
    (h : ∀ K' : Act → World → Prop, Shut (∀ a w, S w → (S w → wpAnyH P md ops Q S fuel (listed.setIfInBounds i true) a w) → K' a w) → if Region.wanted o (yielded ops a.tmps) = true then Oper.wp P o a w K' Q else K' (a.put o.dst undef) w) : wpAnyH P md ops Q S (fuel + 1) listed a w :=
  wpAnyH_ready hr (by simp) (AllReadyH.cons ho h AllReadyH.nil)

section
open Go.RowKit
def firstErr (g : Nat → Int) : Nat → Nat → Int
  | _, 0 => 0
  | k, m + 1 => if g k = 0 then firstErr g (k + 1) m else g k

def FillsAt (w : World) (b o : Nat) (L : List FillD) : Prop := ∀ k r, L[k]? = some r → w.cell? ⟨b, o + k * 6, none⟩ = some (.int .i64 r.hold) ∧ w.cell? ⟨b, o + k * 6 + 1, none⟩ = some (.int .i64 r.st) ∧ w.cell? ⟨b, o + k * 6 + 2, none⟩ = some (.int .i64 r.x0) ∧ w.cell? ⟨b, o + k * 6 + 3, none⟩ = some (.int .i64 r.x1) ∧ w.cell? ⟨b, o + k * 6 + 4, none⟩ = some (.int .i64 r.d0) ∧ w.cell? ⟨b, o + k * 6 + 5, none⟩ = some (.int .i64 r.d1)
theorem FillsAt.below {w w' : World} {b o : Nat} {L : List FillD} (h : FillsAt w b o L) (hB : Below w.heap.size w w') (hb : b < w.heap.size) : FillsAt w' b o L := fun k r hr => by
  have e := fun i => (bcell hB).1 b i hb
  rw [e, e, e, e, e, e]; exact h k r hr
def FillsIn (w : World) (A : Option Addr) (n : Nat) (L : List FillD) : Prop := n = L.length ∧ n ≤ maxLen ∧ (L = [] ∨ ∃ b o, A = some ⟨b, o, none⟩ ∧ b < w.heap.size ∧ FillsAt w b o L)
theorem FillsIn.below {w w' : World} {A : Option Addr} {n : Nat} {L : List FillD} (h : FillsIn w A n L) (hB : Below w.heap.size w w') : FillsIn w' A n L :=
  ⟨h.1, h.2.1, h.2.2.imp id fun ⟨b, o, h1, h2, h3⟩ => ⟨b, o, h1, Nat.lt_of_lt_of_le h2 hB.size, h3.below hB h2⟩⟩

theorem indexHold_nil (A : Option Addr) (c : Nat) (f : Value) (w : World) :
  Calls Tryz.prog 95 #[.slice A 0 c, f] w fun e w' => (∃ j : Int, e = .returned (.int .i64 j) ∧ decide (0 ≤ j) = false) ∧ Below w.heap.size w w' := by
 go_enter Tryz.func95, Tryz.ntmps95
 go_wp2_with fail
 go_loopw [8] (fun i wr => i = .int .i64 0 ∧ Below w.heap.size w wr) (fun i _ => 0)
 case atStart => exact ⟨rfl, Below.refl _ _⟩
 case round =>
  obtain ⟨rfl, hB⟩ := hrel
  go_wp2
  go_ret
  exact ⟨⟨_, rfl, rfl⟩, hB⟩

theorem contHold (A : Option Addr) (n c : Nat) (L : List (HoldD × HoldM)) (qid qal qah qt0 qt1 qu0 qu1 qv0 qv1 qh0 qh1 : Int) (qA qB qC : Option Addr) (qn qc qm qd ql qe : Nat) (F H : Nat) (w : World) (h : HoldsIn w A n L) (h9 : n ≤ 1000000) (hF : Blk w F 92 #[fnV 36]) (hH : Blk w H 40 #[.int .i64 qid, .int .i64 qal, .int .i64 qah, .slice qA qn qc, .slice qB qm qd, .slice qC ql qe, .int .i64 qt0, .int .i64 qt1, .int .i64 qu0, .int .i64 qu1, .int .i64 qv0, .int .i64 qv1, .int .i64 qh0, .int .i64 qh1]) :
  Calls Tryz.prog 62 #[.slice A n c, .func (.func 63) #[] #[.pointer (some ⟨F, 0, none⟩), .pointer (some ⟨H, 0, none⟩)]] w fun e w' => e = .returned (.bool (hasHold L qid)) ∧ Below w.heap.size w w' := by
 have CI : Hid (∀ W, Below w.heap.size w W → Calls Tryz.prog 95 #[.slice A n c, .func (.func 63) #[] #[.pointer (some ⟨F, 0, none⟩), .pointer (some ⟨H, 0, none⟩)]] W fun e w' => (∃ j : Int, e = .returned (.int .i64 j) ∧ decide (0 ≤ j) = hasHold L qid) ∧ Below W.heap.size W w') := zH fun W hW => by
  obtain ⟨h1, h2, h3⟩ := h.below hW
  rcases h3 with rfl | ⟨b, o, rfl, h4, h5⟩
  ·obtain rfl : n = 0 := h1
   exact indexHold_nil A c _ W
  ·exact indexHold b o n c L qid qal qah qt0 qt1 qu0 qu1 qv0 qv1 qh0 qh1 qA qB qC qn qc qm qd ql qe F H W h1 h9 h4 h5 (blkOn hF hW) (blkOn hH hW)
 clear h hF hH
 generalize hasHold L qid = t at *
 go_enter Tryz.func62, Tryz.ntmps62
 go_wp2_with fail
 refine (CI.out _ (Below.refl _ _)).mono ?_
 rintro e w2 ⟨⟨j, rfl, hj⟩, hq⟩
 have HJ := zH hj
 have HE2 := zH hq
 clear hj hq CI
 go_wp2
 go_ret
 exact ⟨by rw [← HJ.out]; rfl, HE2.out⟩

def LevelsAt (w : World) (b o : Nat) (L : List LevelD) : Prop := ∀ k r, L[k]? = some r → w.cell? ⟨b, o + k * 6, none⟩ = some (.int .i64 r.tank) ∧ w.cell? ⟨b, o + k * 6 + 1, none⟩ = some (.bool r.pr) ∧ w.cell? ⟨b, o + k * 6 + 2, none⟩ = some (.int .i64 r.s0) ∧ w.cell? ⟨b, o + k * 6 + 3, none⟩ = some (.int .i64 r.s1) ∧ w.cell? ⟨b, o + k * 6 + 4, none⟩ = some (.int .i64 r.d0) ∧ w.cell? ⟨b, o + k * 6 + 5, none⟩ = some (.int .i64 r.d1)
theorem LevelsAt.below {w w' : World} {b o : Nat} {L : List LevelD} (h : LevelsAt w b o L) (hB : Below w.heap.size w w') (hb : b < w.heap.size) : LevelsAt w' b o L := fun k r hr => by
  have e := fun i => (bcell hB).1 b i hb
  rw [e, e, e, e, e, e]; exact h k r hr
def LevelsIn (w : World) (A : Option Addr) (n : Nat) (L : List LevelD) : Prop := n = L.length ∧ n ≤ maxLen ∧ (L = [] ∨ ∃ b o, A = some ⟨b, o, none⟩ ∧ b < w.heap.size ∧ LevelsAt w b o L)
theorem LevelsIn.below {w w' : World} {A : Option Addr} {n : Nat} {L : List LevelD} (h : LevelsIn w A n L) (hB : Below w.heap.size w w') : LevelsIn w' A n L :=
  ⟨h.1, h.2.1, h.2.2.imp id fun ⟨b, o, h1, h2, h3⟩ => ⟨b, o, h1, Nat.lt_of_lt_of_le h2 hB.size, h3.below hB h2⟩⟩

theorem indexTank_nil (A : Option Addr) (c : Nat) (f : Value) (w : World) :
  Calls Tryz.prog 103 #[.slice A 0 c, f] w fun e w' => (∃ j : Int, e = .returned (.int .i64 j) ∧ decide (0 ≤ j) = false) ∧ Below w.heap.size w w' := by
 go_enter Tryz.func103, Tryz.ntmps103
 go_wp2_with fail
 go_loopw [8] (fun i wr => i = .int .i64 0 ∧ Below w.heap.size w wr) (fun i _ => 0)
 case atStart => exact ⟨rfl, Below.refl _ _⟩
 case round =>
  obtain ⟨rfl, hB⟩ := hrel
  go_wp2
  go_ret
  exact ⟨⟨_, rfl, rfl⟩, hB⟩

theorem contTank (A : Option Addr) (n c : Nat) (L : List (TankD × HoldM)) (qid qal qah : Int) (qA qB qC : Option Addr) (qn qc qm qd ql qe : Nat) (F H : Nat) (w : World) (h : TanksIn w A n L) (h9 : n ≤ 1000000) (hF : Blk w F 95 #[fnV 39]) (hH : Blk w H 46 #[.int .i64 qid, .int .i64 qal, .int .i64 qah, .slice qA qn qc, .slice qB qm qd, .slice qC ql qe]) :
  Calls Tryz.prog 65 #[.slice A n c, .func (.func 66) #[] #[.pointer (some ⟨F, 0, none⟩), .pointer (some ⟨H, 0, none⟩)]] w fun e w' => e = .returned (.bool (hasTank L qid)) ∧ Below w.heap.size w w' := by
 have CI : Hid (∀ W, Below w.heap.size w W → Calls Tryz.prog 103 #[.slice A n c, .func (.func 66) #[] #[.pointer (some ⟨F, 0, none⟩), .pointer (some ⟨H, 0, none⟩)]] W fun e w' => (∃ j : Int, e = .returned (.int .i64 j) ∧ decide (0 ≤ j) = hasTank L qid) ∧ Below W.heap.size W w') := zH fun W hW => by
  obtain ⟨h1, h2, h3⟩ := h.below hW
  rcases h3 with rfl | ⟨b, o, rfl, h4, h5⟩
  ·obtain rfl : n = 0 := h1
   exact indexTank_nil A c _ W
  ·exact indexTank b o n c L qid qal qah qA qB qC qn qc qm qd ql qe F H W h1 h9 h4 h5 (blkOn hF hW) (blkOn hH hW)
 clear h hF hH
 generalize hasTank L qid = t at *
 go_enter Tryz.func65, Tryz.ntmps65
 go_wp2_with fail
 refine (CI.out _ (Below.refl _ _)).mono ?_
 rintro e w2 ⟨⟨j, rfl, hj⟩, hq⟩
 have HJ := zH hj
 have HE2 := zH hq
 clear hj hq CI
 go_wp2
 go_ret
 exact ⟨by rw [← HJ.out]; rfl, HE2.out⟩
end

section
open Go.RowKit

def errHold (L : List (HoldD × HoldM)) (fs : List FillD) (k : Nat) : Int := match L[k]?, fs[k]? with
  | some r, some f => if fillErr r.1 f = 20 ∨ hasHold (L.take k) r.1.id = true then 20 else fillErr r.1 f
  | _, _ => 0
def eachHold (L : List (HoldD × HoldM)) (fs : List FillD) : Int := firstErr (errHold L fs) 0 L.length

theorem checkEachHold_any (A B : Option Addr) (n c m d : Nat) (L : List (HoldD × HoldM)) (fs : List FillD) (w : World) (h : HoldsIn w A n L) (hf : FillsIn w B m fs) (hmn : m = n) (h9 : n ≤ 9) (hcap : n ≤ c) (hi : ∀ r ∈ L, HoldIn w r.1 r.2) :
  Calls Tryz.prog 34 #[.slice A n c, .slice B m d, fnV 35, fnV 36, .int .i64 20] w fun e w' => e = .returned (.int .i64 (eachHold L fs)) ∧ Below w.heap.size w w' := by
 obtain ⟨hn, hm1, hA⟩ := h
 obtain ⟨hm, hm2, hB0⟩ := hf
 subst hmn
 have HB1 : L = [] ∨ ∃ b o p q, A = some ⟨b, o, none⟩ ∧ b < w.heap.size ∧ HoldsMem w b o L ∧ B = some ⟨p, q, none⟩ ∧ p < w.heap.size ∧ FillsAt w p q fs := by
  rcases hA with e | ⟨b, o, a1, a2, a3⟩
  ·exact .inl e
  ·rcases hB0 with e | ⟨p, q, b1, b2, b3⟩
   ·left; subst e; exact List.length_eq_zero_iff.1 (by rw [← hn, hm]; rfl)
   ·exact .inr ⟨b, o, p, q, a1, a2, a3, b1, b2, b3⟩
 obtain ⟨R, hR⟩ : ∃ R, eachHold L fs = R := ⟨_, rfl⟩
 rw [hR]
 unfold eachHold at hR
 have HN := zH hn; have HM := zH hm; have HI := zH hi; have HD := zH HB1
 have HR := zH hR
 clear hA hB0 hm1 hm2 hn hm hi HB1 hR
 have HE := zH (show Below w.heap.size w (w.alloc (.cells #[fnV 36] 92)) from below_alloc1 w _)
 have HK := zH (boxes1' w 92 #[fnV 36])
 go_enter Tryz.func34, Tryz.ntmps34
 go_upto_region 1 with fail
 obtain ⟨W0, hW0⟩ : ∃ W0 : World, (w.alloc (.cells #[fnV 36] 92)) = W0 := ⟨_, rfl⟩
 rw [hW0] at HE HK ⊢
 clear hW0
 obtain ⟨G, hG⟩ : ∃ G, w.heap.size = G := ⟨_, rfl⟩
 rw [hG] at HK ⊢
 have HG := zH hG; clear hG
 go_wp2_with fail
 go_loopw [16] (fun i wr => ∃ k : Nat, k ≤ m ∧ i = .int .i64 k ∧ Below w.heap.size w wr ∧ Boxes wr [(G, 92, #[fnV 36])] ∧ firstErr (errHold L fs) k (m - k) = R) (fun i _ => m - (intOf i).toNat)
 case atStart => exact ⟨0, by omega, rfl, HE.out, HK.out, by rw [HN.out]; exact HR.out⟩
 case round =>
  obtain ⟨k, hj, rfl, hB, hX, hfe⟩ := hrel
  have HB := zH hB
  have HX := zH hX
  clear hB hX
  by_cases hlt : k < m
  rotate_left
  ·obtain rfl : k = m := by omega
   obtain rfl : R = 0 := by rw [← hfe, Nat.sub_self]; rfl
   clear hfe hj hlt HR HE HK HX
   go_wp2
   go_ret
   exact ⟨rfl, HB.out⟩
  have k1 : (k : Int) < (m : Int) := by omega
  have k2 : (k : Int) ≤ (c : Int) := by omega
  have k3 : (0 : Int) ≤ (k : Int) := by omega
  obtain ⟨b, o, p, q, rfl, lb, hA, rfl, lp, hF⟩ : ∃ b o p q, A = some ⟨b, o, none⟩ ∧ b < w.heap.size ∧ HoldsMem w b o L ∧ B = some ⟨p, q, none⟩ ∧ p < w.heap.size ∧ FillsAt w p q fs := by
   rcases HD.out with e | e
   ·exfalso; have := HN.out; rw [e] at this; simp at this; omega
   ·exact e
  obtain ⟨z, hz⟩ : ∃ z, L[k]? = some z := ⟨_, List.getElem?_eq_getElem (show k < L.length by rw [← HN.out]; omega)⟩
  obtain ⟨y, hy⟩ : ∃ y, fs[k]? = some y := ⟨_, List.getElem?_eq_getElem (show k < fs.length by rw [← HM.out]; omega)⟩
  obtain ⟨c0, c1, c2, c3, c4, c5, c6, c7, c8, c9, c10, c11, c12, c13⟩ := hA k z hz
  obtain ⟨f0, f1, f2, f3, f4, f5⟩ := hF k y hy
  have hge : errHold L fs k = if fillErr z.1 y = 20 ∨ hasHold (L.take k) z.1.id = true then 20 else fillErr z.1 y := by unfold errHold; rw [hz, hy]
  have hin := HI.out z (List.mem_of_getElem? hz)
  have hstep : (if errHold L fs k = 0 then firstErr (errHold L fs) (k + 1) (m - (k + 1)) else errHold L fs k) = R := by
   rw [← hfe, show m - k = (m - (k + 1)) + 1 by omega]; rfl
  rw [hge] at hstep
  have hchk : ∀ W, Below w.heap.size w W → Calls Tryz.prog 35 #[holdV z.1 z.2, fillV y] W fun e w' => e = .returned (.int .i64 (fillErr z.1 y)) ∧ Below W.heap.size W w' := fun W hW => checkFill_any z.1 z.2 y W (hin.below hW)
  obtain ⟨E, hE⟩ : ∃ E, fillErr z.1 y = E := ⟨_, rfl⟩
  obtain ⟨t, ht⟩ : ∃ t, hasHold (L.take k) z.1.id = t := ⟨_, rfl⟩
  rw [hE, ht] at hstep
  rw [hE] at hchk
  have CF : ∀ (W : World) (F H : Nat), Below w.heap.size w W → Blk W F 92 #[fnV 36] → Blk W H 40 (holdCells z.1 z.2) → Calls Tryz.prog 62 #[.slice (some ⟨b, o, none⟩) k c, .func (.func 63) #[] #[.pointer (some ⟨F, 0, none⟩), .pointer (some ⟨H, 0, none⟩)]] W fun e w' => e = .returned (.bool t) ∧ Below W.heap.size W w' := fun W F H hW h1 h2 => by
   rw [← ht]
   exact contHold (some ⟨b, o, none⟩) k c (L.take k) z.1.id z.1.al z.1.ah z.1.t0 z.1.t1 z.1.u0 z.1.u1 z.1.v0 z.1.v1 z.1.h0 z.1.h1 z.2.A z.2.B z.2.C z.2.n z.2.c z.2.m z.2.d z.2.l z.2.e F H W ⟨by rw [List.length_take, ← HN.out]; omega, by simp only [maxLen]; omega, .inr ⟨b, o, rfl, Nat.lt_of_lt_of_le lb hW.size, hA.take.below hW lb⟩⟩ (by omega) h1 h2
  clear hge hfe hE ht hin hz hy hA hF HD
  obtain ⟨⟨rid, ral, rah, vol, mom, hei, rt0, rt1, ru0, ru1, rv0, rv1, rh0, rh1⟩, ⟨rA, rn, rc, rB, rm, rd, rC, rl, re⟩⟩ := z
  obtain ⟨g0, g1, g2, g3, g4, g5⟩ := y
  dsimp only at c0 c1 c2 c3 c4 c5 c6 c7 c8 c9 c10 c11 c12 c13 f0 f1 f2 f3 f4 f5 hchk CF
  have HS := zH hstep; have C1 := zH hchk; have C2 := zH CF
  clear hstep hchk CF
  rw [← HB.out.cell (p := ⟨b, o + k * 14, none⟩) lb] at c0
  rw [← HB.out.cell (p := ⟨b, o + k * 14 + 1, none⟩) lb] at c1
  rw [← HB.out.cell (p := ⟨b, o + k * 14 + 2, none⟩) lb] at c2
  rw [← HB.out.cell (p := ⟨b, o + k * 14 + 3, none⟩) lb] at c3
  rw [← HB.out.cell (p := ⟨b, o + k * 14 + 4, none⟩) lb] at c4
  rw [← HB.out.cell (p := ⟨b, o + k * 14 + 5, none⟩) lb] at c5
  rw [← HB.out.cell (p := ⟨b, o + k * 14 + 6, none⟩) lb] at c6
  rw [← HB.out.cell (p := ⟨b, o + k * 14 + 7, none⟩) lb] at c7
  rw [← HB.out.cell (p := ⟨b, o + k * 14 + 8, none⟩) lb] at c8
  rw [← HB.out.cell (p := ⟨b, o + k * 14 + 9, none⟩) lb] at c9
  rw [← HB.out.cell (p := ⟨b, o + k * 14 + 10, none⟩) lb] at c10
  rw [← HB.out.cell (p := ⟨b, o + k * 14 + 11, none⟩) lb] at c11
  rw [← HB.out.cell (p := ⟨b, o + k * 14 + 12, none⟩) lb] at c12
  rw [← HB.out.cell (p := ⟨b, o + k * 14 + 13, none⟩) lb] at c13
  go_upto_region 4 with fail
  have HE1 := zH (below_then HB.out (below_alloc1 wr (.cells #[.int .i64 rid, .int .i64 ral, .int .i64 rah, .slice rA rn rc, .slice rB rm rd, .slice rC rl re, .int .i64 rt0, .int .i64 rt1, .int .i64 ru0, .int .i64 ru1, .int .i64 rv0, .int .i64 rv1, .int .i64 rh0, .int .i64 rh1] 40))); have HK1 := zH (HX.out.new 40 #[.int .i64 rid, .int .i64 ral, .int .i64 rah, .slice rA rn rc, .slice rB rm rd, .slice rC rl re, .int .i64 rt0, .int .i64 rt1, .int .i64 ru0, .int .i64 ru1, .int .i64 rv0, .int .i64 rv1, .int .i64 rh0, .int .i64 rh1])
  clear c0 c1 c2 c3 c4 c5 c6 c7 c8 c9 c10 c11 c12 c13 HB HX HE HK
  obtain ⟨W1, hW⟩ : ∃ W1 : World, wr.alloc (.cells #[.int .i64 rid, .int .i64 ral, .int .i64 rah, .slice rA rn rc, .slice rB rm rd, .slice rC rl re, .int .i64 rt0, .int .i64 rt1, .int .i64 ru0, .int .i64 ru1, .int .i64 rv0, .int .i64 rv1, .int .i64 rh0, .int .i64 rh1] 40) = W1 := ⟨_, rfl⟩
  rw [hW] at HE1 HK1 ⊢
  clear hW
  obtain ⟨N1, hN⟩ : ∃ N, wr.heap.size = N := ⟨_, rfl⟩
  rw [hN] at HK1 ⊢
  clear hN
  rw [← HE1.out.cell (p := ⟨p, q + k * 6, none⟩) lp] at f0
  rw [← HE1.out.cell (p := ⟨p, q + k * 6 + 1, none⟩) lp] at f1
  rw [← HE1.out.cell (p := ⟨p, q + k * 6 + 2, none⟩) lp] at f2
  rw [← HE1.out.cell (p := ⟨p, q + k * 6 + 3, none⟩) lp] at f3
  rw [← HE1.out.cell (p := ⟨p, q + k * 6 + 4, none⟩) lp] at f4
  rw [← HE1.out.cell (p := ⟨p, q + k * 6 + 5, none⟩) lp] at f5
  have hS0 : Boxes W1.drew [(N1, 40, #[.int .i64 rid, .int .i64 ral, .int .i64 rah, .slice rA rn rc, .slice rB rm rd, .slice rC rl re, .int .i64 rt0, .int .i64 rt1, .int .i64 ru0, .int .i64 ru1, .int .i64 rv0, .int .i64 rv1, .int .i64 rh0, .int .i64 rh1]), (G, 92, #[fnV 36])] ∧ (W1.drew.cell? ⟨p, q + k * 6, none⟩ = some (.int .i64 g0) ∧ W1.drew.cell? ⟨p, q + k * 6 + 1, none⟩ = some (.int .i64 g1) ∧ W1.drew.cell? ⟨p, q + k * 6 + 2, none⟩ = some (.int .i64 g2) ∧ W1.drew.cell? ⟨p, q + k * 6 + 3, none⟩ = some (.int .i64 g3) ∧ W1.drew.cell? ⟨p, q + k * 6 + 4, none⟩ = some (.int .i64 g4) ∧ W1.drew.cell? ⟨p, q + k * 6 + 5, none⟩ = some (.int .i64 g5)) := ⟨HK1.out, f0, f1, f2, f3, f4, f5⟩
  have HEd := zH HE1.out.drew
  refine wp_region_held_drew (S := fun w' => Boxes w' [(N1, 40, #[.int .i64 rid, .int .i64 ral, .int .i64 rah, .slice rA rn rc, .slice rB rm rd, .slice rC rl re, .int .i64 rt0, .int .i64 rt1, .int .i64 ru0, .int .i64 ru1, .int .i64 rv0, .int .i64 rv1, .int .i64 rh0, .int .i64 rh1]), (G, 92, #[fnV 36])] ∧ (w'.cell? ⟨p, q + k * 6, none⟩ = some (.int .i64 g0) ∧ w'.cell? ⟨p, q + k * 6 + 1, none⟩ = some (.int .i64 g1) ∧ w'.cell? ⟨p, q + k * 6 + 2, none⟩ = some (.int .i64 g2) ∧ w'.cell? ⟨p, q + k * 6 + 3, none⟩ = some (.int .i64 g3) ∧ w'.cell? ⟨p, q + k * 6 + 4, none⟩ = some (.int .i64 g4) ∧ w'.cell? ⟨p, q + k * 6 + 5, none⟩ = some (.int .i64 g5))) (by kernel_rfl) hS0 (fun hHeld => ?_)
  obtain ⟨W2, hW⟩ : ∃ W', W1.drew = W' := ⟨_, rfl⟩
  rw [hW] at HEd hHeld ⊢
  clear hW hS0 HE1 HK1 f0 f1 f2 f3 f4 f5
  refine tK 21 (i := 0) (v := fnV 35) rfl rfl (by kernel_rfl) ?_ hHeld ?_
  ·intro w hSw; clear hSw; go_simp; try with_reducible rfl
  simp only [uZ, uS]
  refine tK 22 (i := 1) (v := .agg #[.int .i64 rid, .int .i64 ral, .int .i64 rah, .slice rA rn rc, .slice rB rm rd, .slice rC rl re, .int .i64 rt0, .int .i64 rt1, .int .i64 ru0, .int .i64 ru1, .int .i64 rv0, .int .i64 rv1, .int .i64 rh0, .int .i64 rh1]) rfl rfl (by kernel_rfl) ?_ hHeld ?_
  ·intro w hSw; have hz := (hSw.1 _ (.head _)); have c0 := hz.cell 0; have c1 := hz.cell 1; have c2 := hz.cell 2; have c3 := hz.cell 3; have c4 := hz.cell 4; have c5 := hz.cell 5; have c6 := hz.cell 6; have c7 := hz.cell 7; have c8 := hz.cell 8; have c9 := hz.cell 9; have c10 := hz.cell 10; have c11 := hz.cell 11; have c12 := hz.cell 12; have c13 := hz.cell 13; simp at c0 c1 c2 c3 c4 c5 c6 c7 c8 c9 c10 c11 c12 c13; clear hz hSw; go_simp; try with_reducible rfl
  simp only [uZ, uS]
  refine tK 23 (i := 2) (v := .slice (some ⟨p, q, none⟩) m d) rfl rfl (by kernel_rfl) ?_ hHeld ?_
  ·intro w hSw; clear hSw; go_simp; try with_reducible rfl
  simp only [uZ, uS]
  refine tK 24 (i := 3) (v := .int .i64 k) rfl rfl (by kernel_rfl) ?_ hHeld ?_
  ·intro w hSw; clear hSw; go_simp; try with_reducible rfl
  simp only [uZ, uS]
  refine tK 25 (i := 4) (v := .pointer (some ⟨p, q + k * 6, none⟩)) rfl rfl (by kernel_rfl) ?_ hHeld ?_
  ·intro w hSw; clear hSw; go_simp; try with_reducible rfl
  simp only [uZ, uS]
  refine tK 26 (i := 5) (v := .agg #[.int .i64 g0, .int .i64 g1, .int .i64 g2, .int .i64 g3, .int .i64 g4, .int .i64 g5]) rfl rfl (by kernel_rfl) ?_ hHeld ?_
  ·intro w hSw; obtain ⟨_, e0, e1, e2, e3, e4, e5⟩ := hSw; go_simp; try with_reducible rfl
  simp only [uZ, uS]
  refine rK 6 (by kernel_rfl) rfl (fun K hK => ?_)
  go_simp
  (with_reducible refine (C1.out _ HEd.out).mono ?_)
  rintro e z1 ⟨rfl, hq⟩
  have HE_1 := zH (below_then HEd.out hq)
  have lq := Nat.lt_of_lt_of_le lp HEd.out.size
  have hS : Boxes z1 [(N1, 40, #[.int .i64 rid, .int .i64 ral, .int .i64 rah, .slice rA rn rc, .slice rB rm rd, .slice rC rl re, .int .i64 rt0, .int .i64 rt1, .int .i64 ru0, .int .i64 ru1, .int .i64 rv0, .int .i64 rv1, .int .i64 rh0, .int .i64 rh1]), (G, 92, #[fnV 36])] ∧ (z1.cell? ⟨p, q + k * 6, none⟩ = some (.int .i64 g0) ∧ z1.cell? ⟨p, q + k * 6 + 1, none⟩ = some (.int .i64 g1) ∧ z1.cell? ⟨p, q + k * 6 + 2, none⟩ = some (.int .i64 g2) ∧ z1.cell? ⟨p, q + k * 6 + 3, none⟩ = some (.int .i64 g3) ∧ z1.cell? ⟨p, q + k * 6 + 4, none⟩ = some (.int .i64 g4) ∧ z1.cell? ⟨p, q + k * 6 + 5, none⟩ = some (.int .i64 g5)) := ⟨hHeld.1.on hq, (hq.cell (p := ⟨p, q + k * 6, none⟩) lq).trans hHeld.2.1, (hq.cell (p := ⟨p, q + k * 6 + 1, none⟩) lq).trans hHeld.2.2.1, (hq.cell (p := ⟨p, q + k * 6 + 2, none⟩) lq).trans hHeld.2.2.2.1, (hq.cell (p := ⟨p, q + k * 6 + 3, none⟩) lq).trans hHeld.2.2.2.2.1, (hq.cell (p := ⟨p, q + k * 6 + 4, none⟩) lq).trans hHeld.2.2.2.2.2.1, (hq.cell (p := ⟨p, q + k * 6 + 5, none⟩) lq).trans hHeld.2.2.2.2.2.2⟩
  have HX1 := zH hS.1
  clear hq
  refine hK.out _ _ (hS) (fun θ => ?_)
  try simp only [Act.put, uA, uZ, uS]
  clear hK K hHeld
  have hHeld := θ
  clear θ
  clear hS HEd C1
  refine tK 13 (i := 7) (v := .int .i64 E) rfl rfl (by kernel_rfl) ?_ hHeld ?_
  ·intro w hSw; clear hSw; go_simp; try with_reducible rfl
  simp only [uZ, uS]
  refine wpAnyH_done (by kernel_rfl) ?_ _
  clear hHeld
  by_cases hb : E = 20
  ·have b1 : (E == 20) = true := by simp [hb]
   have q1 : E = 20 ∨ t = true := .inl hb
   obtain rfl : R = 20 := by rw [← HS.out, if_pos q1, if_neg (by decide)]
   clear q1
   have HBB := zH hb
   clear HS HR C2 HX1 hb
   go_wp2
   go_ret
   exact ⟨rfl, HE_1.out⟩
  have b1 : (E == 20) = false := beq_eq_false_iff_ne.2 hb
  have HBB := zH hb
  clear hb
  go_wp2_with fail
  refine (C2.out _ _ _ HE_1.out (HX1.out _ (.tail _ (.head _))) (HX1.out _ (.head _))).mono ?_
  rintro e z2 ⟨rfl, hq⟩
  have HE_2 := zH (below_then HE_1.out hq); have HX2 := zH (HX1.out.on hq)
  clear hq HE_1 HX1 C2
  cases t
  rotate_left
  ·have q1 : E = 20 ∨ true = true := .inr rfl
   obtain rfl : R = 20 := by rw [← HS.out, if_pos q1, if_neg (by decide)]
   clear q1
   clear HS HR HX2
   go_wp2
   go_ret
   exact ⟨rfl, HE_2.out⟩
  have hs := HS.out
  have q1 : ¬ (E = 20 ∨ false = true) := fun q => q.elim HBB.out (fun q => by cases q)
  rw [if_neg q1] at hs
  clear q1
  by_cases hE : E = 0
  ·rw [if_pos hE] at hs
   have HS2 := zH hs
   have b2 : (E == 0) = true := by simp [hE]
   have b3 : (E != 0) = false := by simp [hE]
   clear hs HS hE
   go_wp2
   go_roundw
   case rel => exact ⟨k + 1, by omega, by go_num, HE_2.out, fun p hp => HX2.out p (.tail _ hp), HS2.out⟩
   case measure => simp [intOf]; omega
  ·rw [if_neg hE] at hs
   subst hs
   have b2 : (E == 0) = false := beq_eq_false_iff_ne.2 hE
   have b3 : (E != 0) = true := bne_iff_ne.2 hE
   clear HS HR HX2 hE
   go_wp2
   go_ret
   exact ⟨rfl, HE_2.out⟩

def errTank (L : List (TankD × HoldM)) (fs : List LevelD) (k : Nat) : Int := match L[k]?, fs[k]? with
  | some r, some f => if levelErr r.1 f = 21 ∨ hasTank (L.take k) r.1.id = true then 21 else levelErr r.1 f
  | _, _ => 0
def eachTank (L : List (TankD × HoldM)) (fs : List LevelD) : Int := firstErr (errTank L fs) 0 L.length

theorem checkEachTank_any (A B : Option Addr) (n c m d : Nat) (L : List (TankD × HoldM)) (fs : List LevelD) (w : World) (h : TanksIn w A n L) (hf : LevelsIn w B m fs) (hmn : m = n) (h9 : n ≤ 9) (hcap : n ≤ c) (hi : ∀ r ∈ L, TankIn w r.1 r.2) :
  Calls Tryz.prog 37 #[.slice A n c, .slice B m d, fnV 38, fnV 39, .int .i64 21] w fun e w' => e = .returned (.int .i64 (eachTank L fs)) ∧ Below w.heap.size w w' := by
 obtain ⟨hn, hm1, hA⟩ := h
 obtain ⟨hm, hm2, hB0⟩ := hf
 subst hmn
 have HB1 : L = [] ∨ ∃ b o p q, A = some ⟨b, o, none⟩ ∧ b < w.heap.size ∧ TanksMem w b o L ∧ B = some ⟨p, q, none⟩ ∧ p < w.heap.size ∧ LevelsAt w p q fs := by
  rcases hA with e | ⟨b, o, a1, a2, a3⟩
  ·exact .inl e
  ·rcases hB0 with e | ⟨p, q, b1, b2, b3⟩
   ·left; subst e; exact List.length_eq_zero_iff.1 (by rw [← hn, hm]; rfl)
   ·exact .inr ⟨b, o, p, q, a1, a2, a3, b1, b2, b3⟩
 obtain ⟨R, hR⟩ : ∃ R, eachTank L fs = R := ⟨_, rfl⟩
 rw [hR]
 unfold eachTank at hR
 have HN := zH hn; have HM := zH hm; have HI := zH hi; have HD := zH HB1
 have HR := zH hR
 clear hA hB0 hm1 hm2 hn hm hi HB1 hR
 have HE := zH (show Below w.heap.size w (w.alloc (.cells #[fnV 39] 95)) from below_alloc1 w _)
 have HK := zH (boxes1' w 95 #[fnV 39])
 go_enter Tryz.func37, Tryz.ntmps37
 go_upto_region 1 with fail
 obtain ⟨W0, hW0⟩ : ∃ W0 : World, (w.alloc (.cells #[fnV 39] 95)) = W0 := ⟨_, rfl⟩
 rw [hW0] at HE HK ⊢
 clear hW0
 obtain ⟨G, hG⟩ : ∃ G, w.heap.size = G := ⟨_, rfl⟩
 rw [hG] at HK ⊢
 have HG := zH hG; clear hG
 go_wp2_with fail
 go_loopw [16] (fun i wr => ∃ k : Nat, k ≤ m ∧ i = .int .i64 k ∧ Below w.heap.size w wr ∧ Boxes wr [(G, 95, #[fnV 39])] ∧ firstErr (errTank L fs) k (m - k) = R) (fun i _ => m - (intOf i).toNat)
 case atStart => exact ⟨0, by omega, rfl, HE.out, HK.out, by rw [HN.out]; exact HR.out⟩
 case round =>
  obtain ⟨k, hj, rfl, hB, hX, hfe⟩ := hrel
  have HB := zH hB
  have HX := zH hX
  clear hB hX
  by_cases hlt : k < m
  rotate_left
  ·obtain rfl : k = m := by omega
   obtain rfl : R = 0 := by rw [← hfe, Nat.sub_self]; rfl
   clear hfe hj hlt HR HE HK HX
   go_wp2
   go_ret
   exact ⟨rfl, HB.out⟩
  have k1 : (k : Int) < (m : Int) := by omega
  have k2 : (k : Int) ≤ (c : Int) := by omega
  have k3 : (0 : Int) ≤ (k : Int) := by omega
  obtain ⟨b, o, p, q, rfl, lb, hA, rfl, lp, hF⟩ : ∃ b o p q, A = some ⟨b, o, none⟩ ∧ b < w.heap.size ∧ TanksMem w b o L ∧ B = some ⟨p, q, none⟩ ∧ p < w.heap.size ∧ LevelsAt w p q fs := by
   rcases HD.out with e | e
   ·exfalso; have := HN.out; rw [e] at this; simp at this; omega
   ·exact e
  obtain ⟨z, hz⟩ : ∃ z, L[k]? = some z := ⟨_, List.getElem?_eq_getElem (show k < L.length by rw [← HN.out]; omega)⟩
  obtain ⟨y, hy⟩ : ∃ y, fs[k]? = some y := ⟨_, List.getElem?_eq_getElem (show k < fs.length by rw [← HM.out]; omega)⟩
  obtain ⟨c0, c1, c2, c3, c4, c5⟩ := hA k z hz
  obtain ⟨f0, f1, f2, f3, f4, f5⟩ := hF k y hy
  have hge : errTank L fs k = if levelErr z.1 y = 21 ∨ hasTank (L.take k) z.1.id = true then 21 else levelErr z.1 y := by unfold errTank; rw [hz, hy]
  have hin := HI.out z (List.mem_of_getElem? hz)
  have hstep : (if errTank L fs k = 0 then firstErr (errTank L fs) (k + 1) (m - (k + 1)) else errTank L fs k) = R := by
   rw [← hfe, show m - k = (m - (k + 1)) + 1 by omega]; rfl
  rw [hge] at hstep
  have hchk : ∀ W, Below w.heap.size w W → Calls Tryz.prog 38 #[tankV z.1 z.2, levelV y] W fun e w' => e = .returned (.int .i64 (levelErr z.1 y)) ∧ Below W.heap.size W w' := fun W hW => checkLevel_any z.1 z.2 y W (hin.below hW)
  obtain ⟨E, hE⟩ : ∃ E, levelErr z.1 y = E := ⟨_, rfl⟩
  obtain ⟨t, ht⟩ : ∃ t, hasTank (L.take k) z.1.id = t := ⟨_, rfl⟩
  rw [hE, ht] at hstep
  rw [hE] at hchk
  have CF : ∀ (W : World) (F H : Nat), Below w.heap.size w W → Blk W F 95 #[fnV 39] → Blk W H 46 (tankCells z.1 z.2) → Calls Tryz.prog 65 #[.slice (some ⟨b, o, none⟩) k c, .func (.func 66) #[] #[.pointer (some ⟨F, 0, none⟩), .pointer (some ⟨H, 0, none⟩)]] W fun e w' => e = .returned (.bool t) ∧ Below W.heap.size W w' := fun W F H hW h1 h2 => by
   rw [← ht]
   exact contTank (some ⟨b, o, none⟩) k c (L.take k) z.1.id z.1.al z.1.ah z.2.A z.2.B z.2.C z.2.n z.2.c z.2.m z.2.d z.2.l z.2.e F H W ⟨by rw [List.length_take, ← HN.out]; omega, by simp only [maxLen]; omega, .inr ⟨b, o, rfl, Nat.lt_of_lt_of_le lb hW.size, hA.take.below hW lb⟩⟩ (by omega) h1 h2
  clear hge hfe hE ht hin hz hy hA hF HD
  obtain ⟨⟨rid, ral, rah, vol, sur, hei⟩, ⟨rA, rn, rc, rB, rm, rd, rC, rl, re⟩⟩ := z
  obtain ⟨g0, g1, g2, g3, g4, g5⟩ := y
  dsimp only at c0 c1 c2 c3 c4 c5 f0 f1 f2 f3 f4 f5 hchk CF
  have HS := zH hstep; have C1 := zH hchk; have C2 := zH CF
  clear hstep hchk CF
  rw [← HB.out.cell (p := ⟨b, o + k * 6, none⟩) lb] at c0
  rw [← HB.out.cell (p := ⟨b, o + k * 6 + 1, none⟩) lb] at c1
  rw [← HB.out.cell (p := ⟨b, o + k * 6 + 2, none⟩) lb] at c2
  rw [← HB.out.cell (p := ⟨b, o + k * 6 + 3, none⟩) lb] at c3
  rw [← HB.out.cell (p := ⟨b, o + k * 6 + 4, none⟩) lb] at c4
  rw [← HB.out.cell (p := ⟨b, o + k * 6 + 5, none⟩) lb] at c5
  go_upto_region 4 with fail
  have HE1 := zH (below_then HB.out (below_alloc1 wr (.cells #[.int .i64 rid, .int .i64 ral, .int .i64 rah, .slice rA rn rc, .slice rB rm rd, .slice rC rl re] 46))); have HK1 := zH (HX.out.new 46 #[.int .i64 rid, .int .i64 ral, .int .i64 rah, .slice rA rn rc, .slice rB rm rd, .slice rC rl re])
  clear c0 c1 c2 c3 c4 c5 HB HX HE HK
  obtain ⟨W1, hW⟩ : ∃ W1 : World, wr.alloc (.cells #[.int .i64 rid, .int .i64 ral, .int .i64 rah, .slice rA rn rc, .slice rB rm rd, .slice rC rl re] 46) = W1 := ⟨_, rfl⟩
  rw [hW] at HE1 HK1 ⊢
  clear hW
  obtain ⟨N1, hN⟩ : ∃ N, wr.heap.size = N := ⟨_, rfl⟩
  rw [hN] at HK1 ⊢
  clear hN
  rw [← HE1.out.cell (p := ⟨p, q + k * 6, none⟩) lp] at f0
  rw [← HE1.out.cell (p := ⟨p, q + k * 6 + 1, none⟩) lp] at f1
  rw [← HE1.out.cell (p := ⟨p, q + k * 6 + 2, none⟩) lp] at f2
  rw [← HE1.out.cell (p := ⟨p, q + k * 6 + 3, none⟩) lp] at f3
  rw [← HE1.out.cell (p := ⟨p, q + k * 6 + 4, none⟩) lp] at f4
  rw [← HE1.out.cell (p := ⟨p, q + k * 6 + 5, none⟩) lp] at f5
  have hS0 : Boxes W1.drew [(N1, 46, #[.int .i64 rid, .int .i64 ral, .int .i64 rah, .slice rA rn rc, .slice rB rm rd, .slice rC rl re]), (G, 95, #[fnV 39])] ∧ (W1.drew.cell? ⟨p, q + k * 6, none⟩ = some (.int .i64 g0) ∧ W1.drew.cell? ⟨p, q + k * 6 + 1, none⟩ = some (.bool g1) ∧ W1.drew.cell? ⟨p, q + k * 6 + 2, none⟩ = some (.int .i64 g2) ∧ W1.drew.cell? ⟨p, q + k * 6 + 3, none⟩ = some (.int .i64 g3) ∧ W1.drew.cell? ⟨p, q + k * 6 + 4, none⟩ = some (.int .i64 g4) ∧ W1.drew.cell? ⟨p, q + k * 6 + 5, none⟩ = some (.int .i64 g5)) := ⟨HK1.out, f0, f1, f2, f3, f4, f5⟩
  have HEd := zH HE1.out.drew
  refine wp_region_held_drew (S := fun w' => Boxes w' [(N1, 46, #[.int .i64 rid, .int .i64 ral, .int .i64 rah, .slice rA rn rc, .slice rB rm rd, .slice rC rl re]), (G, 95, #[fnV 39])] ∧ (w'.cell? ⟨p, q + k * 6, none⟩ = some (.int .i64 g0) ∧ w'.cell? ⟨p, q + k * 6 + 1, none⟩ = some (.bool g1) ∧ w'.cell? ⟨p, q + k * 6 + 2, none⟩ = some (.int .i64 g2) ∧ w'.cell? ⟨p, q + k * 6 + 3, none⟩ = some (.int .i64 g3) ∧ w'.cell? ⟨p, q + k * 6 + 4, none⟩ = some (.int .i64 g4) ∧ w'.cell? ⟨p, q + k * 6 + 5, none⟩ = some (.int .i64 g5))) (by kernel_rfl) hS0 (fun hHeld => ?_)
  obtain ⟨W2, hW⟩ : ∃ W', W1.drew = W' := ⟨_, rfl⟩
  rw [hW] at HEd hHeld ⊢
  clear hW hS0 HE1 HK1 f0 f1 f2 f3 f4 f5
  refine tK 21 (i := 0) (v := fnV 38) rfl rfl (by kernel_rfl) ?_ hHeld ?_
  ·intro w hSw; clear hSw; go_simp; try with_reducible rfl
  simp only [uZ, uS]
  refine tK 22 (i := 1) (v := .agg #[.int .i64 rid, .int .i64 ral, .int .i64 rah, .slice rA rn rc, .slice rB rm rd, .slice rC rl re]) rfl rfl (by kernel_rfl) ?_ hHeld ?_
  ·intro w hSw; have hz := (hSw.1 _ (.head _)); have c0 := hz.cell 0; have c1 := hz.cell 1; have c2 := hz.cell 2; have c3 := hz.cell 3; have c4 := hz.cell 4; have c5 := hz.cell 5; simp at c0 c1 c2 c3 c4 c5; clear hz hSw; go_simp; try with_reducible rfl
  simp only [uZ, uS]
  refine tK 23 (i := 2) (v := .slice (some ⟨p, q, none⟩) m d) rfl rfl (by kernel_rfl) ?_ hHeld ?_
  ·intro w hSw; clear hSw; go_simp; try with_reducible rfl
  simp only [uZ, uS]
  refine tK 24 (i := 3) (v := .int .i64 k) rfl rfl (by kernel_rfl) ?_ hHeld ?_
  ·intro w hSw; clear hSw; go_simp; try with_reducible rfl
  simp only [uZ, uS]
  refine tK 25 (i := 4) (v := .pointer (some ⟨p, q + k * 6, none⟩)) rfl rfl (by kernel_rfl) ?_ hHeld ?_
  ·intro w hSw; clear hSw; go_simp; try with_reducible rfl
  simp only [uZ, uS]
  refine tK 26 (i := 5) (v := .agg #[.int .i64 g0, .bool g1, .int .i64 g2, .int .i64 g3, .int .i64 g4, .int .i64 g5]) rfl rfl (by kernel_rfl) ?_ hHeld ?_
  ·intro w hSw; obtain ⟨_, e0, e1, e2, e3, e4, e5⟩ := hSw; go_simp; try with_reducible rfl
  simp only [uZ, uS]
  refine rK 6 (by kernel_rfl) rfl (fun K hK => ?_)
  go_simp
  (with_reducible refine (C1.out _ HEd.out).mono ?_)
  rintro e z1 ⟨rfl, hq⟩
  have HE_1 := zH (below_then HEd.out hq)
  have lq := Nat.lt_of_lt_of_le lp HEd.out.size
  have hS : Boxes z1 [(N1, 46, #[.int .i64 rid, .int .i64 ral, .int .i64 rah, .slice rA rn rc, .slice rB rm rd, .slice rC rl re]), (G, 95, #[fnV 39])] ∧ (z1.cell? ⟨p, q + k * 6, none⟩ = some (.int .i64 g0) ∧ z1.cell? ⟨p, q + k * 6 + 1, none⟩ = some (.bool g1) ∧ z1.cell? ⟨p, q + k * 6 + 2, none⟩ = some (.int .i64 g2) ∧ z1.cell? ⟨p, q + k * 6 + 3, none⟩ = some (.int .i64 g3) ∧ z1.cell? ⟨p, q + k * 6 + 4, none⟩ = some (.int .i64 g4) ∧ z1.cell? ⟨p, q + k * 6 + 5, none⟩ = some (.int .i64 g5)) := ⟨hHeld.1.on hq, (hq.cell (p := ⟨p, q + k * 6, none⟩) lq).trans hHeld.2.1, (hq.cell (p := ⟨p, q + k * 6 + 1, none⟩) lq).trans hHeld.2.2.1, (hq.cell (p := ⟨p, q + k * 6 + 2, none⟩) lq).trans hHeld.2.2.2.1, (hq.cell (p := ⟨p, q + k * 6 + 3, none⟩) lq).trans hHeld.2.2.2.2.1, (hq.cell (p := ⟨p, q + k * 6 + 4, none⟩) lq).trans hHeld.2.2.2.2.2.1, (hq.cell (p := ⟨p, q + k * 6 + 5, none⟩) lq).trans hHeld.2.2.2.2.2.2⟩
  have HX1 := zH hS.1
  clear hq
  refine hK.out _ _ (hS) (fun θ => ?_)
  try simp only [Act.put, uA, uZ, uS]
  clear hK K hHeld
  have hHeld := θ
  clear θ
  clear hS HEd C1
  refine tK 13 (i := 7) (v := .int .i64 E) rfl rfl (by kernel_rfl) ?_ hHeld ?_
  ·intro w hSw; clear hSw; go_simp; try with_reducible rfl
  simp only [uZ, uS]
  refine wpAnyH_done (by kernel_rfl) ?_ _
  clear hHeld
  by_cases hb : E = 21
  ·have b1 : (E == 21) = true := by simp [hb]
   have q1 : E = 21 ∨ t = true := .inl hb
   obtain rfl : R = 21 := by rw [← HS.out, if_pos q1, if_neg (by decide)]
   clear q1
   have HBB := zH hb
   clear HS HR C2 HX1 hb
   go_wp2
   go_ret
   exact ⟨rfl, HE_1.out⟩
  have b1 : (E == 21) = false := beq_eq_false_iff_ne.2 hb
  have HBB := zH hb
  clear hb
  go_wp2_with fail
  refine (C2.out _ _ _ HE_1.out (HX1.out _ (.tail _ (.head _))) (HX1.out _ (.head _))).mono ?_
  rintro e z2 ⟨rfl, hq⟩
  have HE_2 := zH (below_then HE_1.out hq); have HX2 := zH (HX1.out.on hq)
  clear hq HE_1 HX1 C2
  cases t
  rotate_left
  ·have q1 : E = 21 ∨ true = true := .inr rfl
   obtain rfl : R = 21 := by rw [← HS.out, if_pos q1, if_neg (by decide)]
   clear q1
   clear HS HR HX2
   go_wp2
   go_ret
   exact ⟨rfl, HE_2.out⟩
  have hs := HS.out
  have q1 : ¬ (E = 21 ∨ false = true) := fun q => q.elim HBB.out (fun q => by cases q)
  rw [if_neg q1] at hs
  clear q1
  by_cases hE : E = 0
  ·rw [if_pos hE] at hs
   have HS2 := zH hs
   have b2 : (E == 0) = true := by simp [hE]
   have b3 : (E != 0) = false := by simp [hE]
   clear hs HS hE
   go_wp2
   go_roundw
   case rel => exact ⟨k + 1, by omega, by go_num, HE_2.out, fun p hp => HX2.out p (.tail _ hp), HS2.out⟩
   case measure => simp [intOf]; omega
  ·rw [if_neg hE] at hs
   subst hs
   have b2 : (E == 0) = false := beq_eq_false_iff_ne.2 hE
   have b3 : (E != 0) = true := bne_iff_ne.2 hE
   clear HS HR HX2 hE
   go_wp2
   go_ret
   exact ⟨rfl, HE_2.out⟩
end

section
open Go.RowKit
def loadErr (L : List (HoldD × HoldM)) (fs : List FillD) (T : List (TankD × HoldM)) (ls : List LevelD) : Int :=
  if 9 < L.length ∨ 9 < T.length then 2 else if ¬ fs.length = L.length ∨ ¬ ls.length = T.length then 1 else if eachHold L fs = 0 then eachTank T ls else eachHold L fs

theorem checkLoad_any (A B C D : Option Addr) (n c m d l e r s : Nat) (L : List (HoldD × HoldM)) (fs : List FillD) (T : List (TankD × HoldM)) (ls : List LevelD) (w : World) (hL : HoldsIn w A n L) (hF : FillsIn w B m fs) (hT : TanksIn w C l T) (hV : LevelsIn w D r ls) (hc : n ≤ c) (he : l ≤ e) (iL : ∀ r ∈ L, HoldIn w r.1 r.2) (iT : ∀ r ∈ T, TankIn w r.1 r.2) :
  Calls Tryz.prog 20 #[.slice A n c, .slice B m d, .slice C l e, .slice D r s] w fun x w' => x = .returned (.int .i64 (loadErr L fs T ls)) ∧ Below w.heap.size w w' := by
 obtain ⟨R, hR⟩ : ∃ R, loadErr L fs T ls = R := ⟨_, rfl⟩
 obtain ⟨X, hX⟩ : ∃ X, eachHold L fs = X := ⟨_, rfl⟩
 obtain ⟨Y, hY⟩ : ∃ Y, eachTank T ls = Y := ⟨_, rfl⟩
 have hN := hL.1; have hM := hF.1; have hK := hT.1; have hJ := hV.1
 have HR : Hid ((if 9 < n ∨ 9 < l then (2 : Int) else if ¬ m = n ∨ ¬ r = l then 1 else if X = 0 then Y else X) = R) := zH (by rw [← hR, ← hX, ← hY, hN, hM, hK, hJ]; rfl)
 rw [hR]
 have C1 : Hid (m = n → n ≤ 9 → ∀ W, Below w.heap.size w W → Calls Tryz.prog 34 #[.slice A n c, .slice B m d, fnV 35, fnV 36, .int .i64 20] W fun x w' => x = .returned (.int .i64 X) ∧ Below W.heap.size W w') := zH fun h1 h2 W hW => by
  rw [← hX]; exact checkEachHold_any A B n c m d L fs W (hL.below hW) (hF.below hW) h1 h2 hc (fun z hz => (iL z hz).below hW)
 have C2 : Hid (r = l → l ≤ 9 → ∀ W, Below w.heap.size w W → Calls Tryz.prog 37 #[.slice C l e, .slice D r s, fnV 38, fnV 39, .int .i64 21] W fun x w' => x = .returned (.int .i64 Y) ∧ Below W.heap.size W w') := zH fun h1 h2 W hW => by
  rw [← hY]; exact checkEachTank_any C D l e r s T ls W (hT.below hW) (hV.below hW) h1 h2 he (fun z hz => (iT z hz).below hW)
 clear hL hF hT hV hc he iL iT hR hX hY hN hM hK hJ
 go_enter Tryz.func20, Tryz.ntmps20
 by_cases a1 : 9 < n
 ·obtain rfl : R = 2 := by rw [← HR.out, if_pos (Or.inl a1)]
  have a2 : (9 : Int) < (n : Int) := by omega
  clear HR C1 C2
  go_wp2
  go_ret
  exact ⟨rfl, Below.refl _ _⟩
 have a2 : ¬ (9 : Int) < (n : Int) := by omega
 by_cases a3 : 9 < l
 ·obtain rfl : R = 2 := by rw [← HR.out, if_pos (Or.inr a3)]
  have a4 : (9 : Int) < (l : Int) := by omega
  clear HR C1 C2
  go_wp2
  go_ret
  exact ⟨rfl, Below.refl _ _⟩
 have a4 : ¬ (9 : Int) < (l : Int) := by omega
 have q1 : ¬ (9 < n ∨ 9 < l) := by omega
 by_cases b1 : m = n
 rotate_left
 ·obtain rfl : R = 1 := by rw [← HR.out, if_neg q1, if_pos (Or.inl b1)]
  have b2 : ((m : Int) != (n : Int)) = true := bne_iff_ne.2 (by omega)
  have b3 : ((m : Int) == (n : Int)) = false := beq_eq_false_iff_ne.2 (by omega)
  clear HR C1 C2
  go_wp2
  go_ret
  exact ⟨rfl, Below.refl _ _⟩
 have b2 : ((m : Int) != (n : Int)) = false := by simp [b1]
 have b3 : ((m : Int) == (n : Int)) = true := by simp [b1]
 by_cases c1 : r = l
 rotate_left
 ·obtain rfl : R = 1 := by rw [← HR.out, if_neg q1, if_pos (Or.inr c1)]
  have c2 : ((r : Int) != (l : Int)) = true := bne_iff_ne.2 (by omega)
  have c3 : ((r : Int) == (l : Int)) = false := beq_eq_false_iff_ne.2 (by omega)
  have B1 := zH b1
  clear HR C1 C2 b1
  go_wp2
  go_ret
  exact ⟨rfl, Below.refl _ _⟩
 have c2 : ((r : Int) != (l : Int)) = false := by simp [c1]
 have c3 : ((r : Int) == (l : Int)) = true := by simp [c1]
 have q2 : ¬ (¬ m = n ∨ ¬ r = l) := by omega
 have HR2 : Hid ((if X = 0 then Y else X) = R) := zH (by rw [← HR.out, if_neg q1, if_neg q2])
 have D1 := zH (C1.out b1 (by omega)); have D2 := zH (C2.out c1 (by omega))
 clear HR C1 C2 q1 q2 b1 c1
 go_wp2_with fail
 refine (D1.out _ (Below.refl _ _)).mono ?_
 rintro x w2 ⟨rfl, hq⟩
 have HE2 := zH hq
 clear hq D1
 by_cases x0 : X = 0
 ·have x1 : (X == 0) = true := by simp [x0]
  have x2 : (X != 0) = false := by simp [x0]
  obtain rfl : R = Y := by rw [← HR2.out, if_pos x0]
  clear x0 HR2
  go_wp2_with fail
  refine (D2.out _ HE2.out).mono ?_
  rintro x w3 ⟨rfl, hq⟩
  have HE3 := zH (below_then HE2.out hq)
  clear hq D2
  go_wp2
  go_ret
  exact ⟨rfl, HE3.out⟩
 ·have x1 : (X == 0) = false := beq_eq_false_iff_ne.2 x0
  have x2 : (X != 0) = true := bne_iff_ne.2 x0
  obtain rfl : R = X := by rw [← HR2.out, if_neg x0]
  clear x0 HR2 D2
  go_wp2
  go_ret
  exact ⟨rfl, HE2.out⟩
end

section
open Go.RowKit

def UllageS (h : HoldD) (a b c d : Int) : Int × Int × Int := if holdErr h = 0 then (if massErr a b c d = 0 then ullS h.vol (litresS a b c d).1 (litresS a b c d).2 else (0, 0, massErr a b c d)) else (0, 0, holdErr h)
theorem holdErr_zero {h : HoldD} (e : holdErr h = 0) : holdS h = true := by
  unfold holdErr at e
  split at e
  · assumption
  · omega

theorem hUllage_any (h : HoldD) (m : HoldM) (a b e0 e1 : Int) (w : World) (hi : HoldIn w h m) :
  Calls Tryz.prog 28 #[holdV h m, rv a b, rv e0 e1] w fun e w' => e = .returned (rt (UllageS h a b e0 e1)) ∧ Below w.heap.size w w' := by
 obtain ⟨R, hR⟩ : ∃ R, UllageS h a b e0 e1 = R := ⟨_, rfl⟩
 obtain ⟨E, hE⟩ : ∃ E, holdErr h = E := ⟨_, rfl⟩
 have C1 : Hid (∀ W, Below w.heap.size w W → Calls Tryz.prog 49 #[holdV h m] W fun e w' => e = .returned (.int .i64 E) ∧ Below W.heap.size W w') := zH fun W hW => int_to (checkHold_any h m W (hi.below hW)) hE
 have HR : Hid ((if E = 0 then (if massErr a b e0 e1 = 0 then ullS h.vol (litresS a b e0 e1).1 (litresS a b e0 e1).2 else (0, 0, massErr a b e0 e1)) else (0, 0, E)) = R) := zH (by rw [← hR]; unfold UllageS; rw [hE])
 have HV : E = 0 → tabOk h.vol = true := fun e => hold_tab (holdErr_zero (hE.trans e))
 have h20 : E = 0 ∨ E = 20 := by
  rw [← hE]; unfold holdErr; split
  ·exact .inl rfl
  ·exact .inr rfl
 rw [hR]
 clear hR hE
 obtain ⟨id, al, ah, vol, mom, hei, t0, t1, u0, u1, v0, v1, h0, h1⟩ := h
 obtain ⟨A, n, c, B, mm, d, C, l, ee⟩ := m
 obtain ⟨i1, i2, i3⟩ := hi
 dsimp only at i1 i2 i3 HR HV
 have C2 : Hid (E = 0 → ∀ W Bh, Below w.heap.size w W → Blk W Bh 40 #[.int .i64 id, .int .i64 al, .int .i64 ah, .slice A n c, .slice B mm d, .slice C l ee, .int .i64 t0, .int .i64 t1, .int .i64 u0, .int .i64 u1, .int .i64 v0, .int .i64 v1, .int .i64 h0, .int .i64 h1] → Calls Tryz.prog 50 #[rv a b, rv e0 e1, .func (.func 51) #[] #[.pointer (some ⟨Bh, 0, none⟩)]] W fun e w' => e = .returned (rt (if massErr a b e0 e1 = 0 then ullS vol (litresS a b e0 e1).1 (litresS a b e0 e1).2 else (0, 0, massErr a b e0 e1))) ∧ Below W.heap.size W w') := zH fun e W Bh hW hB =>
  ofMass_ull a b e0 e1 Bh _ W fun _ V hV => ullage1_any vol id al ah t0 t1 u0 u1 v0 v1 h0 h1 A B C n c mm d l ee _ _ Bh V (blkOn hB hV) (i1.below (below_then hW hV)) (HV e) (first_le_last (HV e))
 have HE := zH (show Below w.heap.size w ((((w.alloc (.cells #[.int .i64 id, .int .i64 al, .int .i64 ah, .slice A n c, .slice B mm d, .slice C l ee, .int .i64 t0, .int .i64 t1, .int .i64 u0, .int .i64 u1, .int .i64 v0, .int .i64 v1, .int .i64 h0, .int .i64 h1] 40)).alloc (.cells #[.int .i64 a, .int .i64 b] 35)).alloc (.cells #[.int .i64 e0, .int .i64 e1] 35)).alloc (.cells #[.int .i64 0, .int .i64 0] 35)) from below_a4 (Below.refl _ _))
 have HK := zH (boxes4' w 40 35 35 35 #[.int .i64 id, .int .i64 al, .int .i64 ah, .slice A n c, .slice B mm d, .slice C l ee, .int .i64 t0, .int .i64 t1, .int .i64 u0, .int .i64 u1, .int .i64 v0, .int .i64 v1, .int .i64 h0, .int .i64 h1] #[.int .i64 a, .int .i64 b] #[.int .i64 e0, .int .i64 e1] #[.int .i64 0, .int .i64 0])
 clear i1 i2 i3 HV
 generalize (if massErr a b e0 e1 = 0 then ullS vol (litresS a b e0 e1).1 (litresS a b e0 e1).2 else (0, 0, massErr a b e0 e1)) = Q at *
 obtain ⟨qa, qb, qe⟩ := Q
 go_enter Tryz.func28, Tryz.ntmps28
 go_wp2_with fail
 obtain ⟨W0, hW0⟩ : ∃ W0, ((((w.alloc (.cells #[.int .i64 id, .int .i64 al, .int .i64 ah, .slice A n c, .slice B mm d, .slice C l ee, .int .i64 t0, .int .i64 t1, .int .i64 u0, .int .i64 u1, .int .i64 v0, .int .i64 v1, .int .i64 h0, .int .i64 h1] 40)).alloc (.cells #[.int .i64 a, .int .i64 b] 35)).alloc (.cells #[.int .i64 e0, .int .i64 e1] 35)).alloc (.cells #[.int .i64 0, .int .i64 0] 35)) = W0 := ⟨_, rfl⟩
 rw [hW0] at HE HK ⊢
 clear hW0
 obtain ⟨G, hG⟩ : ∃ G, w.heap.size = G := ⟨_, rfl⟩
 rw [hG] at HK ⊢
 have HG := zH hG; clear hG
 refine (C1.out _ HE.out).mono ?_
 rintro e w1 ⟨rfl, hb⟩
 have HE1 := zH (below_then HE.out hb); have HK1 := zH (HK.out.on hb)
 clear hb HE HK C1
 by_cases g : E = 0
 ·have eR : R = (qa, qb, qe) := by rw [← HR.out, if_pos g]
  subst eR
  have D2 := zH (C2.out g)
  clear HR C2
  subst g
  have p := HK1.out _ (.tail _ (.tail _ (.head _)))
  have p0 := p.cell 0
  have p1 := p.cell 1
  simp at p0 p1
  clear p
  have q := HK1.out _ (.tail _ (.head _))
  have q0 := q.cell 0
  have q1 := q.cell 1
  simp at q0 q1
  clear q
  go_wp2_with fail
  refine (D2.out _ _ HE1.out (HK1.out _ (.tail _ (.tail _ (.tail _ (.head _)))))).mono ?_
  rintro e w2 ⟨rfl, hb⟩
  have HE2 := zH (below_then HE1.out hb); have HK2 := zH (HK1.out.on hb)
  clear hb HE1 HK1 D2 p0 p1 q0 q1
  have z := HK2.out _ (.head _)
  have z0 := z.cell 0
  have zf0 := z.frozen 0
  have z1 := z.cell 1
  have zf1 := z.frozen 1
  have zl := z.lt
  simp at z0 zf0 z1 zf1
  clear z
  go_wp2
  refine bodyPost_ret (v := rt (qa, qb, qe)) (by simp [results, Tryz.results28, go_sem, z0, z1]) rfl ⟨rfl, ?_⟩
  have hg := HG.out
  repeat (first | exact HE2.out | refine Below.setCell ?_ (by simp <;> omega) _)
 ·have eR : R = (0, 0, E) := by rw [← HR.out, if_neg g]
  subst eR
  clear HR C2
  obtain rfl : E = 20 := h20.resolve_left g
  have z := HK1.out _ (.head _)
  have z0 := z.cell 0
  have zf0 := z.frozen 0
  have z1 := z.cell 1
  have zf1 := z.frozen 1
  have zl := z.lt
  simp at z0 zf0 z1 zf1
  clear z
  go_wp2
  refine bodyPost_ret (v := rt (0, 0, 20)) (by simp [results, Tryz.results28, go_sem, z0, z1]) rfl ⟨rfl, ?_⟩
  have hg := HG.out
  repeat (first | exact HE1.out | refine Below.setCell ?_ (by simp <;> omega) _)

def lineS (a b : Int) : List P3 := [(0, a, a), (100, b, b)]

theorem line_any (a b : Int) (w : World) : Calls Tryz.prog 47 #[.int .i64 a, .int .i64 b] w fun e w' => ∃ g, e = .returned (tv (some ⟨g, 0, none⟩) 2 2) ∧ w.heap.size ≤ g ∧ Blk w' g 66 #[.int .i64 0, .int .i64 a, .int .i64 a, .int .i64 100, .int .i64 b, .int .i64 b] ∧ Below w.heap.size w w' := by
 go_enter Tryz.func47, Tryz.ntmps47
 go_wp2_with fail
 have hE : Below w.heap.size w ((w.alloc (.cells #[.slice (some ⟨w.heap.size + 1, 0, none⟩) 2 2] 38)).alloc (.cells #[.int .i64 0, .int .i64 a, .int .i64 a, .int .i64 100, .int .i64 b, .int .i64 b] 66)) := below_a2 (Below.refl _ _)
 have bP := Blk.new (w.alloc (.cells #[.slice (some ⟨w.heap.size + 1, 0, none⟩) 2 2] 38)) 66 #[.int .i64 0, .int .i64 a, .int .i64 a, .int .i64 100, .int .i64 b, .int .i64 b]
 simp only [World.size_alloc] at bP
 refine bodyPost_ret (v := tv (some ⟨w.heap.size + 1, 0, none⟩) 2 2) (by simp [results, Tryz.results47, go_sem]) rfl ⟨_, rfl, by omega, bP, hE⟩
end

section
open Go.RowKit

def exMom : List P3 := [(0, 0, 0), (50, 400, 500), (100, 0, 0)]
def exH : HoldD := ⟨1, 0, 0, lineS 1000 0, exMom, lineS 300 100, 10, 20, 50, 60, 1000, 1010, 300, 300⟩
def exF : FillD := ⟨1, 3, 40, 60, 800, 800⟩
abbrev exM (g1 g2 g3 : Nat) : HoldM := ⟨some ⟨g1, 0, none⟩, 2, 2, some ⟨g2, 0, none⟩, 3, 3, some ⟨g3, 0, none⟩, 2, 2⟩
def GivesEx (w : World) (e : Ending) (w' : World) : Prop := ∃ g1 g2 g3, e = .returned (.tuple #[holdV exH (exM g1 g2 g3), fillV exF]) ∧ HoldIn w' exH (exM g1 g2 g3) ∧ Below w.heap.size w w'
theorem results_rows {P : Program} {fn : Func} {p q : Tmp} {ty ty2 : TypeId} (h : fn.results = #[.cell p ty, .cell q ty2]) (tmps : Array Value) (w : World) (g g2 : Nat) (t t2 : TypeId) (cs cs2 : Array Value) (fr fr2 : Nat × Nat) (d d2 : TypeDesc)
    (hp : tmps.getD p undef = .pointer (some ⟨g, 0, none⟩)) (hq : tmps.getD q undef = .pointer (some ⟨g2, 0, none⟩)) (hg : w.heap[g]? = some (.cells cs t fr)) (hg2 : w.heap[g2]? = some (.cells cs2 t2 fr2))
    (hu : P.underlying ty = some d) (hu2 : P.underlying ty2 = some d2) (hd : (match d with | .struct _ | .array _ _ => true | _ => false) = true) (hd2 : (match d2 with | .struct _ | .array _ _ => true | _ => false) = true) (hi : (P.info? ty).map (·.size) = some cs.size) (hi2 : (P.info? ty2).map (·.size) = some cs2.size) :
    (results fn tmps).run P w = .ok (.tuple #[.agg cs, .agg cs2]) w := by
  have hp' : tmps[p]?.getD undef = .pointer (some ⟨g, 0, none⟩) := by simpa using hp
  have hq' : tmps[q]?.getD undef = .pointer (some ⟨g2, 0, none⟩) := by simpa using hq
  simp [results, h, hp', hq', asAddr, run_loadVar_row w g t ty cs fr d hg hu hd hi, run_loadVar_row w g2 t2 ty2 cs2 fr2 d2 hg2 hu2 hd2 hi2]
theorem Boxes.cons {W : World} {L : List (Nat × TypeId × Array Value)} (h : Boxes W L) {g : Nat} {t : TypeId} {cs : Array Value} (hb : Blk W g t cs) : Boxes W ((g, t, cs) :: L) := fun p hp => by
  rcases List.mem_cons.1 hp with rfl | hp
  · exact hb
  · exact h p hp
theorem Boxes.set1 {W : World} {g : Nat} {t : TypeId} {cs : Array Value} {L : List (Nat × TypeId × Array Value)} (h : Boxes W ((g, t, cs) :: L)) (hg : ∀ p ∈ L, p.1 ≠ g) (i : Nat) (a : Value) (cs' : Array Value) (he : cs.setIfInBounds i a = cs') :
    Boxes (W.setCell ⟨g, i, none⟩ a) ((g, t, cs') :: L) := fun p hp => by
  rcases List.mem_cons.1 hp with rfl | hp
  · rw [← he]; exact (h _ (.head _)).set_ i a
  · exact (h p (.tail _ hp)).far (p := ⟨g, i, none⟩) (hg p hp) a
theorem Boxes.row' {W : World} {L L' : List (Nat × TypeId × Array Value)} (h : Boxes W L) {g : Nat} {t : TypeId} {old : Array Value} (hm : (g, t, old) ∈ L) (hs : ∀ p ∈ L', p ∈ L ∧ p.1 ≠ g) (cs : Array Value) :
    Boxes (W.setRow g cs) ((g, t, cs) :: L') := fun p hp => by
  rcases List.mem_cons.1 hp with rfl | hp
  · exact setRow_heap W g _ _ t _ (h _ hm)
  · exact (h p (hs p hp).1).farRow (hs p hp).2 cs
theorem pts2 {w : World} {g : Nat} {a b c d e f : Int} (h : Blk w g 66 #[.int .i64 a, .int .i64 b, .int .i64 c, .int .i64 d, .int .i64 e, .int .i64 f]) : Pts w (some ⟨g, 0, none⟩) [(a, b, c), (d, e, f)] := .inr ⟨g, 0, rfl, h.lt, fun k p hp => by
  rcases k with _ | _ | k
  · simp at hp; subst hp
    exact ⟨h.cell 0, h.cell 1, h.cell 2⟩
  · simp at hp; subst hp
    exact ⟨h.cell 3, h.cell 4, h.cell 5⟩
  · simp at hp⟩
theorem pts3 {w : World} {g : Nat} {a b c d e f i j k : Int} (h : Blk w g 66 #[.int .i64 a, .int .i64 b, .int .i64 c, .int .i64 d, .int .i64 e, .int .i64 f, .int .i64 i, .int .i64 j, .int .i64 k]) : Pts w (some ⟨g, 0, none⟩) [(a, b, c), (d, e, f), (i, j, k)] := .inr ⟨g, 0, rfl, h.lt, fun n p hp => by
  rcases n with _ | _ | _ | n
  · simp at hp; subst hp
    exact ⟨h.cell 0, h.cell 1, h.cell 2⟩
  · simp at hp; subst hp
    exact ⟨h.cell 3, h.cell 4, h.cell 5⟩
  · simp at hp; subst hp
    exact ⟨h.cell 6, h.cell 7, h.cell 8⟩
  · simp at hp⟩

theorem example_any (w : World) : Calls Tryz.prog 26 #[] w (GivesEx w) := by
 have HE := zH (show Below w.heap.size w ((w.alloc (.cells #[.int .i64 0, .int .i64 0, .int .i64 0, .slice none 0 0, .slice none 0 0, .slice none 0 0, .int .i64 0, .int .i64 0, .int .i64 0, .int .i64 0, .int .i64 0, .int .i64 0, .int .i64 0, .int .i64 0] 40)).alloc (.cells #[.int .i64 0, .int .i64 0, .int .i64 0, .int .i64 0, .int .i64 0, .int .i64 0] 43)) from below_a2 (Below.refl _ _))
 have HK := zH (boxes2' w 40 43 #[.int .i64 0, .int .i64 0, .int .i64 0, .slice none 0 0, .slice none 0 0, .slice none 0 0, .int .i64 0, .int .i64 0, .int .i64 0, .int .i64 0, .int .i64 0, .int .i64 0, .int .i64 0, .int .i64 0] #[.int .i64 0, .int .i64 0, .int .i64 0, .int .i64 0, .int .i64 0, .int .i64 0])
 go_enter Tryz.func26, Tryz.ntmps26
 go_wp2_with fail
 obtain ⟨W0, hW0⟩ : ∃ W0, ((w.alloc (.cells #[.int .i64 0, .int .i64 0, .int .i64 0, .slice none 0 0, .slice none 0 0, .slice none 0 0, .int .i64 0, .int .i64 0, .int .i64 0, .int .i64 0, .int .i64 0, .int .i64 0, .int .i64 0, .int .i64 0] 40)).alloc (.cells #[.int .i64 0, .int .i64 0, .int .i64 0, .int .i64 0, .int .i64 0, .int .i64 0] 43)) = W0 := ⟨_, rfl⟩
 rw [hW0] at HE HK ⊢
 clear hW0
 obtain ⟨G, hG⟩ : ∃ G, w.heap.size = G := ⟨_, rfl⟩
 rw [hG] at HK ⊢
 have HG := zH hG; clear hG
 refine (line_any 1000 0 _).mono ?_
 rintro e w1 ⟨g1, rfl, l1, P1, hb⟩
 have HL1 := zH (show G + 1 < g1 from Nat.lt_of_lt_of_le (HK.out _ (.head _)).lt l1)
 have HE1 := zH (below_then HE.out hb); have HK1 := zH ((HK.out.on hb).cons P1)
 clear hb HE HK l1 P1
 go_wp2_with fail
 refine (line_any 300 100 _).mono ?_
 rintro e w2 ⟨g3, rfl, l3, P3, hb⟩
 have HL3 := zH (show g1 < g3 from Nat.lt_of_lt_of_le (HK1.out _ (.head _)).lt l3)
 have HLN := zH (show g3 < w2.heap.size from P3.lt)
 have HE2 := zH (below_then (below_then HE1.out hb) (below_alloc1 w2 (.cells #[.int .i64 1, .int .i64 0, .int .i64 0, .slice (some ⟨g1, 0, none⟩) 2 2, .slice none 0 0, .slice (some ⟨g3, 0, none⟩) 2 2, .int .i64 10, .int .i64 20, .int .i64 50, .int .i64 60, .int .i64 1000, .int .i64 1010, .int .i64 300, .int .i64 300] 40))); have HK2 := zH (((HK1.out.on hb).cons P3).new 40 #[.int .i64 1, .int .i64 0, .int .i64 0, .slice (some ⟨g1, 0, none⟩) 2 2, .slice none 0 0, .slice (some ⟨g3, 0, none⟩) 2 2, .int .i64 10, .int .i64 20, .int .i64 50, .int .i64 60, .int .i64 1000, .int .i64 1010, .int .i64 300, .int .i64 300])
 clear hb HE1 HK1 l3 P3
 go_upto_region 2 with fail
 obtain ⟨W2, hW2⟩ : ∃ W2, w2.alloc (.cells #[.int .i64 1, .int .i64 0, .int .i64 0, .slice (some ⟨g1, 0, none⟩) 2 2, .slice none 0 0, .slice (some ⟨g3, 0, none⟩) 2 2, .int .i64 10, .int .i64 20, .int .i64 50, .int .i64 60, .int .i64 1000, .int .i64 1010, .int .i64 300, .int .i64 300] 40) = W2 := ⟨_, rfl⟩
 rw [hW2] at HE2 HK2 ⊢
 clear hW2
 obtain ⟨N, hN⟩ : ∃ N, w2.heap.size = N := ⟨_, rfl⟩
 rw [hN] at HK2 HLN ⊢
 clear hN
 have HL2 := zH (show N < W2.heap.size from (HK2.out _ (.head _)).lt)
 have z := HK2.out _ (.head _)
 have z4 := z.cell 4
 have zf4 := z.frozen 4
 have zl := z.lt
 simp at z4 zf4
 clear z
 go_upto_region 3 with fail
 have hne : ∀ p ∈ ([(g3, 66, #[.int .i64 0, .int .i64 300, .int .i64 300, .int .i64 100, .int .i64 100, .int .i64 100]), (g1, 66, #[.int .i64 0, .int .i64 1000, .int .i64 1000, .int .i64 100, .int .i64 0, .int .i64 0]), (G + 1, 43, #[.int .i64 0, .int .i64 0, .int .i64 0, .int .i64 0, .int .i64 0, .int .i64 0]), (G, 40, #[.int .i64 0, .int .i64 0, .int .i64 0, .slice none 0 0, .slice none 0 0, .slice none 0 0, .int .i64 0, .int .i64 0, .int .i64 0, .int .i64 0, .int .i64 0, .int .i64 0, .int .i64 0, .int .i64 0])] : List (Nat × TypeId × Array Value)), p.1 ≠ N := by
  have a1 := HL1.out; have a2 := HL3.out; have a3 := HLN.out
  intro x hx
  simp only [List.mem_cons, List.not_mem_nil, or_false] at hx
  rcases hx with h | h | h | h <;> (rw [h]; dsimp only; omega)
 have hz : (W2.setCell ⟨N, 4, none⟩ (.slice (some ⟨W2.heap.size, 0, none⟩) 3 3)).heap.size = W2.heap.size := by simp [World.setCell]
 have hK3 := (Boxes.set1 HK2.out hne 4 (.slice (some ⟨W2.heap.size, 0, none⟩) 3 3) #[.int .i64 1, .int .i64 0, .int .i64 0, .slice (some ⟨g1, 0, none⟩) 2 2, .slice (some ⟨W2.heap.size, 0, none⟩) 3 3, .slice (some ⟨g3, 0, none⟩) 2 2, .int .i64 10, .int .i64 20, .int .i64 50, .int .i64 60, .int .i64 1000, .int .i64 1010, .int .i64 300, .int .i64 300] rfl).new 66 #[.int .i64 0, .int .i64 0, .int .i64 0, .int .i64 50, .int .i64 400, .int .i64 500, .int .i64 100, .int .i64 0, .int .i64 0]
 rw [hz] at hK3
 have HE3 := zH ((HE2.out.setCell (p := ⟨N, 4, none⟩) (by have := HG.out; have := HL1.out; have := HL3.out; have := HLN.out; simp; omega) (.slice (some ⟨W2.heap.size, 0, none⟩) 3 3)).alloc (by rw [hz]; exact HE2.out.size) (.cells #[.int .i64 0, .int .i64 0, .int .i64 0, .int .i64 50, .int .i64 400, .int .i64 500, .int .i64 100, .int .i64 0, .int .i64 0] 66))
 have HK3 := zH hK3
 clear hK3 hne hz z4 zf4 zl HE2 HK2
 obtain ⟨W3, hW3⟩ : ∃ W3, (W2.setCell ⟨N, 4, none⟩ (.slice (some ⟨W2.heap.size, 0, none⟩) 3 3)).alloc (.cells #[.int .i64 0, .int .i64 0, .int .i64 0, .int .i64 50, .int .i64 400, .int .i64 500, .int .i64 100, .int .i64 0, .int .i64 0] 66) = W3 := ⟨_, rfl⟩
 rw [hW3] at HE3 HK3 ⊢
 clear hW3
 obtain ⟨g2, hg2⟩ : ∃ g2, W2.heap.size = g2 := ⟨_, rfl⟩
 rw [hg2] at HK3 HL2
 clear hg2
 have s := HK3.out _ (.tail _ (.head _))
 have s0 := s.cell 0
 have s1 := s.cell 1
 have s2 := s.cell 2
 have s3 := s.cell 3
 have s4 := s.cell 4
 have s5 := s.cell 5
 have s6 := s.cell 6
 have s7 := s.cell 7
 have s8 := s.cell 8
 have s9 := s.cell 9
 have s10 := s.cell 10
 have s11 := s.cell 11
 have s12 := s.cell 12
 have s13 := s.cell 13
 simp at s0 s1 s2 s3 s4 s5 s6 s7 s8 s9 s10 s11 s12 s13
 clear s
 refine wp_region_lit ?_
 refine wpList_plain rfl (fun K hK => ?_)
 go_simp
 refine hK _ _ ?_
 clear hK K
 refine wpList_plain rfl (fun K hK => ?_)
 go_simp
 refine hK _ _ ?_
 clear hK K
 refine wpList_plain rfl (fun K hK => ?_)
 go_simp
 refine hK _ _ ?_
 clear hK K
 refine wpList_plain rfl (fun K hK => ?_)
 go_simp
 refine hK _ _ ?_
 clear hK K
 have ord : G + 1 < g1 ∧ g1 < g3 ∧ g3 < N ∧ N < g2 := ⟨HL1.out, HL3.out, HLN.out, HL2.out⟩
 have HK4 : Hid (Boxes (W3.setRow G #[.int .i64 1, .int .i64 0, .int .i64 0, .slice (some ⟨g1, 0, none⟩) 2 2, .slice (some ⟨g2, 0, none⟩) 3 3, .slice (some ⟨g3, 0, none⟩) 2 2, .int .i64 10, .int .i64 20, .int .i64 50, .int .i64 60, .int .i64 1000, .int .i64 1010, .int .i64 300, .int .i64 300]) [(G, 40, #[.int .i64 1, .int .i64 0, .int .i64 0, .slice (some ⟨g1, 0, none⟩) 2 2, .slice (some ⟨g2, 0, none⟩) 3 3, .slice (some ⟨g3, 0, none⟩) 2 2, .int .i64 10, .int .i64 20, .int .i64 50, .int .i64 60, .int .i64 1000, .int .i64 1010, .int .i64 300, .int .i64 300]), (g2, 66, #[.int .i64 0, .int .i64 0, .int .i64 0, .int .i64 50, .int .i64 400, .int .i64 500, .int .i64 100, .int .i64 0, .int .i64 0]), (g3, 66, #[.int .i64 0, .int .i64 300, .int .i64 300, .int .i64 100, .int .i64 100, .int .i64 100]), (g1, 66, #[.int .i64 0, .int .i64 1000, .int .i64 1000, .int .i64 100, .int .i64 0, .int .i64 0]), (G + 1, 43, #[.int .i64 0, .int .i64 0, .int .i64 0, .int .i64 0, .int .i64 0, .int .i64 0])]) := zH (Boxes.row' HK3.out (.tail _ (.tail _ (.tail _ (.tail _ (.tail _ (.head _)))))) (fun x hx => by
  simp only [List.mem_cons, List.not_mem_nil, or_false] at hx ⊢
  rcases hx with h | h | h | h <;> (refine ⟨by simp [h], ?_⟩; rw [h]; dsimp only; omega)) #[.int .i64 1, .int .i64 0, .int .i64 0, .slice (some ⟨g1, 0, none⟩) 2 2, .slice (some ⟨g2, 0, none⟩) 3 3, .slice (some ⟨g3, 0, none⟩) 2 2, .int .i64 10, .int .i64 20, .int .i64 50, .int .i64 60, .int .i64 1000, .int .i64 1010, .int .i64 300, .int .i64 300])
 have HE4 := zH (below_setRow HE3.out (show w.heap.size ≤ G by have := HG.out; omega) #[.int .i64 1, .int .i64 0, .int .i64 0, .slice (some ⟨g1, 0, none⟩) 2 2, .slice (some ⟨g2, 0, none⟩) 3 3, .slice (some ⟨g3, 0, none⟩) 2 2, .int .i64 10, .int .i64 20, .int .i64 50, .int .i64 60, .int .i64 1000, .int .i64 1010, .int .i64 300, .int .i64 300])
 refine wpList_store_row rfl 40 (.tmp 0) (.tmp 16) rfl G #[.int .i64 1, .int .i64 0, .int .i64 0, .slice (some ⟨g1, 0, none⟩) 2 2, .slice (some ⟨g2, 0, none⟩) 3 3, .slice (some ⟨g3, 0, none⟩) 2 2, .int .i64 10, .int .i64 20, .int .i64 50, .int .i64 60, .int .i64 1000, .int .i64 1010, .int .i64 300, .int .i64 300] rfl rfl 40 _ (HK3.out _ (.tail _ (.tail _ (.tail _ (.tail _ (.tail _ (.head _))))))) (by kernel_rfl) rfl (by kernel_rfl) ?_
 obtain ⟨W4, hW4⟩ : ∃ W4, W3.setRow G #[.int .i64 1, .int .i64 0, .int .i64 0, .slice (some ⟨g1, 0, none⟩) 2 2, .slice (some ⟨g2, 0, none⟩) 3 3, .slice (some ⟨g3, 0, none⟩) 2 2, .int .i64 10, .int .i64 20, .int .i64 50, .int .i64 60, .int .i64 1000, .int .i64 1010, .int .i64 300, .int .i64 300] = W4 := ⟨_, rfl⟩
 rw [hW4] at HK4 HE4 ⊢
 clear hW4 HK3 HE3 s0 s1 s2 s3 s4 s5 s6 s7 s8 s9 s10 s11 s12 s13
 have HK5 : Hid (Boxes (W4.setRow (G + 1) #[.int .i64 1, .int .i64 3, .int .i64 40, .int .i64 60, .int .i64 800, .int .i64 800]) [(G + 1, 43, #[.int .i64 1, .int .i64 3, .int .i64 40, .int .i64 60, .int .i64 800, .int .i64 800]), (G, 40, #[.int .i64 1, .int .i64 0, .int .i64 0, .slice (some ⟨g1, 0, none⟩) 2 2, .slice (some ⟨g2, 0, none⟩) 3 3, .slice (some ⟨g3, 0, none⟩) 2 2, .int .i64 10, .int .i64 20, .int .i64 50, .int .i64 60, .int .i64 1000, .int .i64 1010, .int .i64 300, .int .i64 300]), (g2, 66, #[.int .i64 0, .int .i64 0, .int .i64 0, .int .i64 50, .int .i64 400, .int .i64 500, .int .i64 100, .int .i64 0, .int .i64 0]), (g3, 66, #[.int .i64 0, .int .i64 300, .int .i64 300, .int .i64 100, .int .i64 100, .int .i64 100]), (g1, 66, #[.int .i64 0, .int .i64 1000, .int .i64 1000, .int .i64 100, .int .i64 0, .int .i64 0])]) := zH (Boxes.row' HK4.out (.tail _ (.tail _ (.tail _ (.tail _ (.head _))))) (fun x hx => by
  simp only [List.mem_cons, List.not_mem_nil, or_false] at hx ⊢
  rcases hx with h | h | h | h <;> (refine ⟨by simp [h], ?_⟩; rw [h]; dsimp only; omega)) #[.int .i64 1, .int .i64 3, .int .i64 40, .int .i64 60, .int .i64 800, .int .i64 800])
 have HE5 := zH (below_setRow HE4.out (show w.heap.size ≤ G + 1 by have := HG.out; omega) #[.int .i64 1, .int .i64 3, .int .i64 40, .int .i64 60, .int .i64 800, .int .i64 800])
 refine wpList_store_row rfl 43 (.tmp 1) (.tmp 19) rfl (G + 1) #[.int .i64 1, .int .i64 3, .int .i64 40, .int .i64 60, .int .i64 800, .int .i64 800] rfl rfl 43 _ (HK4.out _ (.tail _ (.tail _ (.tail _ (.tail _ (.head _)))))) (by kernel_rfl) rfl (by kernel_rfl) ?_
 obtain ⟨W5, hW5⟩ : ∃ W5, W4.setRow (G + 1) #[.int .i64 1, .int .i64 3, .int .i64 40, .int .i64 60, .int .i64 800, .int .i64 800] = W5 := ⟨_, rfl⟩
 rw [hW5] at HK5 HE5 ⊢
 clear hW5 HK4 HE4 ord
 go_wp2
 exact bodyPost_ret (v := .tuple #[.agg #[.int .i64 1, .int .i64 0, .int .i64 0, .slice (some ⟨g1, 0, none⟩) 2 2, .slice (some ⟨g2, 0, none⟩) 3 3, .slice (some ⟨g3, 0, none⟩) 2 2, .int .i64 10, .int .i64 20, .int .i64 50, .int .i64 60, .int .i64 1000, .int .i64 1010, .int .i64 300, .int .i64 300], .agg #[.int .i64 1, .int .i64 3, .int .i64 40, .int .i64 60, .int .i64 800, .int .i64 800]]) (results_rows Tryz.results26 _ _ G (G + 1) 40 43 #[.int .i64 1, .int .i64 0, .int .i64 0, .slice (some ⟨g1, 0, none⟩) 2 2, .slice (some ⟨g2, 0, none⟩) 3 3, .slice (some ⟨g3, 0, none⟩) 2 2, .int .i64 10, .int .i64 20, .int .i64 50, .int .i64 60, .int .i64 1000, .int .i64 1010, .int .i64 300, .int .i64 300] #[.int .i64 1, .int .i64 3, .int .i64 40, .int .i64 60, .int .i64 800, .int .i64 800] (0, 0) (0, 0) _ _ rfl rfl (HK5.out _ (.tail _ (.head _))) (HK5.out _ (.head _)) Tryz.underlying40 Tryz.underlying43 rfl rfl (by kernel_rfl) (by kernel_rfl)) rfl
  ⟨g1, g2, g3, rfl, ⟨⟨rfl, (show 2 ≤ maxLen by decide), pts2 (HK5.out _ (.tail _ (.tail _ (.tail _ (.tail _ (.head _))))))⟩, ⟨rfl, (show 3 ≤ maxLen by decide), pts3 (HK5.out _ (.tail _ (.tail _ (.head _))))⟩, ⟨rfl, (show 2 ≤ maxLen by decide), pts2 (HK5.out _ (.tail _ (.tail _ (.tail _ (.head _)))))⟩⟩, HE5.out⟩
end

section
open Go.RowKit

theorem tank_parts {t : TankD} (e : tankS t = true) : (measuresS t.vol = true ∧ measuresS t.sur = true ∧ measuresS t.hei = true) ∧ (alongS t.vol t.sur = true ∧ alongS t.vol t.hei = true) := by
  unfold tankS ctRest at e
  simp only [Bool.and_eq_true] at e
  exact ⟨⟨e.2.1, e.2.2.1.1, e.2.2.2.1.1⟩, ⟨e.2.2.1.2, e.2.2.2.1.2⟩⟩
theorem level_zero {t : TankD} {l : LevelD} (e : levelErr t l = 0) : tankS t = true ∧ levelS t l = true := by
  unfold levelErr at e
  split at e
  · rename_i g
    split at e
    · rename_i k
      exact ⟨g, k⟩
    · omega
  · omega
theorem level_dens {t : TankD} {l : LevelD} (e : levelErr t l = 0) : densS l.d0 l.d1 = true := by
  have g := (level_zero e).2
  unfold levelS at g
  simp only [Bool.and_eq_true] at g
  exact g.2.1
theorem level_place {t : TankD} {l : LevelD} (e : levelErr t l = 0) : inB l.s0 l.s1 (firstX t.vol) (lastX t.vol) = true := by
  have g := (level_zero e).2
  unfold levelS at g
  simp only [Bool.and_eq_true] at g
  exact g.2.2.1
def denL (l : LevelD) (v : Int × Int) : Int × Int := ((denseS v.1 v.2 l.d0 l.d1).1, (denseS v.1 v.2 l.d0 l.d1).2.1)
def ovL (ps : List P3) (l : LevelD) : Int × Int := ((overS ps l.s0 l.s1).1, (overS ps l.s0 l.s1).2.1)
theorem sur_amtL {t : TankD} {l : LevelD} (e : levelErr t l = 0) : Amt (ovL t.sur l) := by
  have q := tank_parts (level_zero e).1
  exact over_in q.1.2.1 (along_in q.2.1 (level_place e))
theorem den_heavyL {t : TankD} {l : LevelD} (e : levelErr t l = 0) {v : Int × Int} (hv : Amt v) : heavyS v.1 v.2 l.d0 l.d1 = denL l v := by
  have q := dens_in (level_dens e)
  obtain ⟨q1, q2⟩ := dense_heavy v.1 v.2 l.d0 l.d1 hv.1 hv.2.1 hv.2.2 (by omega) (by omega) (by omega)
  unfold denL
  rw [q1, q2]
theorem hdense_L (l : LevelD) {va vb ka kb : Int} (hk : denL l (va, vb) = (ka, kb)) (w : World) :
    Calls Tryz.prog 43 #[rv va vb, rv l.d0 l.d1] w fun e w' => e = .returned (rv ka kb) ∧ Below w.heap.size w w' := by
  have := dense_any va vb l.d0 l.d1 w
  unfold denL at hk
  injection hk with h1 h2
  dsimp only at h1 h2
  rw [h1, h2] at this
  exact this
def liqS (t : TankD) (l : LevelD) : Int × Int × Int := if levelErr t l = 0 then ((denL l (ovL t.vol l)).1, (denL l (ovL t.vol l)).2, 0) else (0, 0, levelErr t l)
def srfS (t : TankD) (l : LevelD) : Int × Int × Int :=
  if levelErr t l = 0 then (if l.pr = true ∨ (ovL t.vol l).2 = 0 then (0, 0, 0) else (if (ovL t.vol l).1 = 0 then 0 else (denL l (ovL t.sur l)).1, (denL l (ovL t.sur l)).2, 0)) else (0, 0, levelErr t l)
def balV (t : TankD) (l : LevelD) : Value := if levelErr t l = 0 then wt (denL l (ovL t.vol l)).1 (denL l (ovL t.vol l)).2 t.al t.ah (ovL t.hei l).1 (ovL t.hei l).2 0 else wt 0 0 0 0 0 0 (levelErr t l)
end

section
open Go.RowKit

theorem hLiquid_any (t : TankD) (m : HoldM) (lv : LevelD) (w : World) (hi : TankIn w t m) :
  Calls Tryz.prog 45 #[tankV t m, levelV lv] w fun e w' => e = .returned (rt (liqS t lv)) ∧ Below w.heap.size w w' := by
 obtain ⟨E, hE⟩ : ∃ E, levelErr t lv = E := ⟨_, rfl⟩
 obtain ⟨⟨va, vb⟩, qC2⟩ : ∃ v, ovL t.vol lv = v := ⟨_, rfl⟩
 obtain ⟨⟨ka, kb⟩, qC3⟩ : ∃ v, denL lv (va, vb) = v := ⟨_, rfl⟩
 obtain ⟨R, hR⟩ : ∃ R, liqS t lv = R := ⟨_, rfl⟩
 have HR : Hid ((if E = 0 then (ka, kb, 0) else (0, 0, E)) = R) := zH (by rw [← hR]; unfold liqS; rw [hE, qC2, qC3])
 have C1 : Hid (∀ W, Below w.heap.size w W → Calls Tryz.prog 38 #[tankV t m, levelV lv] W fun e w' => e = .returned (.int .i64 E) ∧ Below W.heap.size W w') := zH fun W hW => int_to (checkLevel_any t m lv W (hi.below hW)) hE
 have C2 : Hid (∀ W, Below w.heap.size w W → Calls Tryz.prog 46 #[tv m.A m.n m.c, rv lv.s0 lv.s1] W fun e w' => e = .returned (rv va vb) ∧ Below W.heap.size W w') := zH fun W hW => by
  have := hover_any m.A m.n m.c t.vol lv.s0 lv.s1 W (hi.1.below hW)
  rw [show ((overS t.vol lv.s0 lv.s1).1 = va) from congrArg Prod.fst qC2, show ((overS t.vol lv.s0 lv.s1).2.1 = vb) from congrArg Prod.snd qC2] at this; exact this
 have C3 : Hid (∀ W, Calls Tryz.prog 43 #[rv va vb, rv lv.d0 lv.d1] W fun e w' => e = .returned (rv ka kb) ∧ Below W.heap.size W w') := zH fun W => hdense_L lv qC3 W
 rw [hR]
 clear hR hE qC2 qC3 hi
 obtain ⟨id, al, ah, vol, sur, hei⟩ := t
 obtain ⟨A, n, c, B, mm, d, C, l, ee⟩ := m
 obtain ⟨tk, pr, s0, s1, d0, d1⟩ := lv
 have HE := zH (show Below w.heap.size w (((w.alloc (.cells #[.int .i64 id, .int .i64 al, .int .i64 ah, .slice A n c, .slice B mm d, .slice C l ee] 46)).alloc (.cells #[.int .i64 tk, .bool pr, .int .i64 s0, .int .i64 s1, .int .i64 d0, .int .i64 d1] 49)).alloc (.cells #[.int .i64 0, .int .i64 0] 35)) from below_a3 (Below.refl _ _))
 have HK := zH (boxes3' w 46 49 35 #[.int .i64 id, .int .i64 al, .int .i64 ah, .slice A n c, .slice B mm d, .slice C l ee] #[.int .i64 tk, .bool pr, .int .i64 s0, .int .i64 s1, .int .i64 d0, .int .i64 d1] #[.int .i64 0, .int .i64 0])
 go_enter Tryz.func45, Tryz.ntmps45
 go_wp2_with fail
 obtain ⟨W0, hW0⟩ : ∃ W0, (((w.alloc (.cells #[.int .i64 id, .int .i64 al, .int .i64 ah, .slice A n c, .slice B mm d, .slice C l ee] 46)).alloc (.cells #[.int .i64 tk, .bool pr, .int .i64 s0, .int .i64 s1, .int .i64 d0, .int .i64 d1] 49)).alloc (.cells #[.int .i64 0, .int .i64 0] 35)) = W0 := ⟨_, rfl⟩
 rw [hW0] at HE HK ⊢
 clear hW0
 obtain ⟨G, hG⟩ : ∃ G, w.heap.size = G := ⟨_, rfl⟩
 rw [hG] at HK ⊢
 have HG := zH hG; clear hG
 refine (C1.out _ HE.out).mono ?_
 rintro e w1 ⟨rfl, hq⟩
 have HE1 := zH (below_then HE.out hq); have HK1 := zH (HK.out.on hq)
 clear hq HE HK C1
 by_cases g : E = 0
 ·have eR := HR.out
  rw [if_pos g] at eR
  subst eR
  clear HR
  subst g
  go_upto_region 4 with fail
  have HKs : Hid (Boxes w1 [(G + 1, 49, #[.int .i64 tk, .bool pr, .int .i64 s0, .int .i64 s1, .int .i64 d0, .int .i64 d1]), (G, 46, #[.int .i64 id, .int .i64 al, .int .i64 ah, .slice A n c, .slice B mm d, .slice C l ee])]) := zH (HK1.out.sub (fun x hx => by
   simp only [List.mem_cons, List.not_mem_nil, or_false] at hx ⊢
   rcases hx with h | h <;> simp [h]))
  have HK9 : Hid (Blk w1 (G + 1 + 1) 35 #[.int .i64 0, .int .i64 0]) := zH (HK1.out _ (.head _))
  clear HK1
  have hne : ∀ zz ∈ ([(G + 1, 49, #[.int .i64 tk, .bool pr, .int .i64 s0, .int .i64 s1, .int .i64 d0, .int .i64 d1]), (G, 46, #[.int .i64 id, .int .i64 al, .int .i64 ah, .slice A n c, .slice B mm d, .slice C l ee])] : List (Nat × TypeId × Array Value)), zz.1 ≠ G + 1 + 1 := by
   intro zz hz
   simp only [List.mem_cons, List.not_mem_nil, or_false] at hz
   rcases hz with h | h <;> (rw [h]; dsimp only at *; omega)
  have HNE := zH hne
  clear hne
  have hS0 : Boxes w1.drew [(G + 1, 49, #[.int .i64 tk, .bool pr, .int .i64 s0, .int .i64 s1, .int .i64 d0, .int .i64 d1]), (G, 46, #[.int .i64 id, .int .i64 al, .int .i64 ah, .slice A n c, .slice B mm d, .slice C l ee])] := HKs.out
  have HEd := zH HE1.out.drew
  have HKd : Hid (Blk w1.drew (G + 1 + 1) 35 #[.int .i64 0, .int .i64 0]) := zH HK9.out.drew
  refine wp_region_held_drew (S := fun w' => Boxes w' [(G + 1, 49, #[.int .i64 tk, .bool pr, .int .i64 s0, .int .i64 s1, .int .i64 d0, .int .i64 d1]), (G, 46, #[.int .i64 id, .int .i64 al, .int .i64 ah, .slice A n c, .slice B mm d, .slice C l ee])]) (by kernel_rfl) hS0 (fun hHeld => ?_)
  obtain ⟨W3, hW⟩ : ∃ W', w1.drew = W' := ⟨_, rfl⟩
  rw [hW] at HEd HKd hHeld ⊢
  clear hW hS0 HE1 HKs
  clear HK9
  refine tK 14 (i := 0) (v := .pointer (some ⟨G, 3, none⟩)) rfl rfl (by kernel_rfl) ?_ hHeld ?_
  ·intro w hSw; clear hSw; go_simp; try with_reducible rfl
  simp only [uZ, uS]
  refine tK 15 (i := 1) (v := tv A n c) rfl rfl (by kernel_rfl) ?_ hHeld ?_
  ·intro w hSw; have hz := (hSw _ (.tail _ (.head _))); have c3 := hz.cell 3; simp at c3; clear hz hSw; go_simp; try with_reducible rfl
  simp only [uZ, uS]
  refine tK 16 (i := 2) (v := .pointer (some ⟨G + 1, 2, none⟩)) rfl rfl (by kernel_rfl) ?_ hHeld ?_
  ·intro w hSw; clear hSw; go_simp; try with_reducible rfl
  simp only [uZ, uS]
  refine tK 17 (i := 3) (v := rv s0 s1) rfl rfl (by kernel_rfl) ?_ hHeld ?_
  ·intro w hSw; have hz := (hSw _ (.head _)); have c2 := hz.cell 2; have c3 := hz.cell 3; simp at c2 c3; clear hz hSw; go_simp; try with_reducible rfl
  simp only [uZ, uS]
  refine tK 19 (i := 5) (v := .pointer (some ⟨G + 1, 4, none⟩)) rfl rfl (by kernel_rfl) ?_ hHeld ?_
  ·intro w hSw; clear hSw; go_simp; try with_reducible rfl
  simp only [uZ, uS]
  refine tK 20 (i := 6) (v := rv d0 d1) rfl rfl (by kernel_rfl) ?_ hHeld ?_
  ·intro w hSw; have hz := (hSw _ (.head _)); have c4 := hz.cell 4; have c5 := hz.cell 5; simp at c4 c5; clear hz hSw; go_simp; try with_reducible rfl
  simp only [uZ, uS]
  refine rK 4 (by kernel_rfl) rfl (fun K hK => ?_)
  go_simp
  (with_reducible refine (C2.out _ HEd.out).mono ?_)
  rintro e z1 ⟨rfl, hq⟩
  have HEz1 := zH (below_then HEd.out hq); have HKz1 := zH (blkOn HKd.out hq)
  have hS := hHeld.on hq
  clear hq
  refine hK.out _ _ (hS) (fun θ => ?_)
  try simp only [Act.put, uA, uZ, uS]
  clear hK K hHeld
  have hHeld := θ
  clear θ
  clear hS HEd HKd
  refine rK 7 (by kernel_rfl) rfl (fun K hK => ?_)
  go_simp
  (with_reducible refine (C3.out _).mono ?_)
  rintro e z2 ⟨rfl, hq⟩
  have HEz2 := zH (below_then HEz1.out hq); have HKz2 := zH (blkOn HKz1.out hq)
  have hS := hHeld.on hq
  clear hq
  refine hK.out _ _ (hS) (fun θ => ?_)
  try simp only [Act.put, uA, uZ, uS]
  clear hK K hHeld
  have hHeld := θ
  clear θ
  clear hS HEz1 HKz1
  refine rK 8 (by kernel_rfl) rfl (fun K hK => ?_)
  rw [if_pos (by kernel_rfl)]
  have HKR : Hid (Blk (z2.setRow (G + 1 + 1) #[.int .i64 ka, .int .i64 kb]) (G + 1 + 1) 35 #[.int .i64 ka, .int .i64 kb]) := zH (setRow_heap z2 (G + 1 + 1) _ _ 35 _ HKz2.out)
  have HE9 := zH (below_setRow HEz2.out (show w.heap.size ≤ G + 1 + 1 by have := HG.out; omega) #[.int .i64 ka, .int .i64 kb])
  have hS := hHeld.farRow (g := (G + 1 + 1)) HNE.out #[.int .i64 ka, .int .i64 kb]
  refine wp_store_row 35 (.tmp 4) (.tmp 21) rfl (G + 1 + 1) #[.int .i64 ka, .int .i64 kb] rfl rfl 35 _ HKz2.out (by kernel_rfl) rfl (by kernel_rfl) ?_
  obtain ⟨Wz, hW⟩ : ∃ W', z2.setRow (G + 1 + 1) #[.int .i64 ka, .int .i64 kb] = W' := ⟨_, rfl⟩
  rw [hW] at HKR HE9 hS ⊢
  refine hK.out _ _ hS (fun θ => ?_)
  try simp only [Act.put, uA, uZ, uS]
  clear hW hS hK K hHeld HKz2 HEz2
  have hHeld := θ
  clear θ
  refine tK 5 (i := 9) (v := .int .i64 0) rfl rfl (by kernel_rfl) ?_ hHeld ?_
  ·intro w hSw; clear hSw; go_simp; try with_reducible rfl
  simp only [uZ, uS]
  refine wpAnyH_done (by kernel_rfl) ?_ _
  clear hHeld
  go_wp2
  exact bodyPost_ret (v := .tuple #[.agg #[.int .i64 ka, .int .i64 kb], .int .i64 0]) (results_cell_tmp_row Tryz.results45 _ _ (G + 1 + 1) 35 #[.int .i64 ka, .int .i64 kb] (0, 0) _ _ rfl rfl HKR.out Tryz.underlying35 rfl (by kernel_rfl)) rfl ⟨rfl, HE9.out⟩
 ·have eR := HR.out
  rw [if_neg g] at eR
  subst eR
  clear HR
  go_upto_region 3 with fail
  refine wp_region_lit ?_
  refine wpList_plain rfl (fun K hK => ?_)
  go_simp
  refine hK _ _ ?_
  clear hK K
  refine wpList_plain rfl (fun K hK => ?_)
  go_simp
  refine hK _ _ ?_
  clear hK K
  have HKR : Hid (Blk (w1.setRow (G + 1 + 1) #[.int .i64 0, .int .i64 0]) (G + 1 + 1) 35 #[.int .i64 0, .int .i64 0]) := zH (setRow_heap w1 (G + 1 + 1) _ _ 35 _ (HK1.out _ (.head _)))
  have HE9 := zH (below_setRow HE1.out (show w.heap.size ≤ G + 1 + 1 by have := HG.out; omega) #[.int .i64 0, .int .i64 0])
  refine wpList_store_row rfl 35 (.tmp 4) (.tmp 12) rfl (G + 1 + 1) #[.int .i64 0, .int .i64 0] rfl rfl 35 _ (HK1.out _ (.head _)) (by kernel_rfl) rfl (by kernel_rfl) ?_
  obtain ⟨W9, hW9⟩ : ∃ W9, w1.setRow (G + 1 + 1) #[.int .i64 0, .int .i64 0] = W9 := ⟨_, rfl⟩
  rw [hW9] at HKR HE9 ⊢
  clear hW9
  go_wp2
  exact bodyPost_ret (v := .tuple #[.agg #[.int .i64 0, .int .i64 0], .int .i64 E]) (results_cell_tmp_row Tryz.results45 _ _ (G + 1 + 1) 35 #[.int .i64 0, .int .i64 0] (0, 0) _ _ rfl rfl HKR.out Tryz.underlying35 rfl (by kernel_rfl)) rfl ⟨rfl, HE9.out⟩

theorem hBallast_any (t : TankD) (m : HoldM) (lv : LevelD) (w : World) (hi : TankIn w t m) :
  Calls Tryz.prog 24 #[tankV t m, levelV lv] w fun e w' => e = .returned (balV t lv) ∧ Below w.heap.size w w' := by
 obtain ⟨E, hE⟩ : ∃ E, levelErr t lv = E := ⟨_, rfl⟩
 obtain ⟨⟨va, vb⟩, qv⟩ : ∃ v, ovL t.vol lv = v := ⟨_, rfl⟩
 obtain ⟨⟨ka, kb⟩, qk⟩ : ∃ v, denL lv (va, vb) = v := ⟨_, rfl⟩
 obtain ⟨⟨ha, hb⟩, qC2⟩ : ∃ v, ovL t.hei lv = v := ⟨_, rfl⟩
 obtain ⟨R, hR⟩ : ∃ R, balV t lv = R := ⟨_, rfl⟩
 have HR : Hid ((if E = 0 then wt ka kb t.al t.ah ha hb 0 else wt 0 0 0 0 0 0 E) = R) := zH (by rw [← hR]; unfold balV; rw [hE, qv, qk, qC2])
 obtain ⟨qa, qb, qe, hq⟩ : ∃ qa qb qe, liqS t lv = (qa, qb, qe) := ⟨_, _, _, rfl⟩
 have HQ : Hid ((if E = 0 then (ka, kb, 0) else (0, 0, E)) = (qa, qb, qe)) := zH (by rw [← hq]; unfold liqS; rw [hE, qv, qk])
 have C1 : Hid (∀ W, Below w.heap.size w W → Calls Tryz.prog 45 #[tankV t m, levelV lv] W fun e w' => e = .returned (.tuple #[rv qa qb, .int .i64 qe]) ∧ Below W.heap.size W w') := zH fun W hW => rt_to (hLiquid_any t m lv W (hi.below hW)) hq
 have C2 : Hid (∀ W, Below w.heap.size w W → Calls Tryz.prog 46 #[tv m.C m.l m.e, rv lv.s0 lv.s1] W fun e w' => e = .returned (rv ha hb) ∧ Below W.heap.size W w') := zH fun W hW => by
  have := hover_any m.C m.l m.e t.hei lv.s0 lv.s1 W (hi.2.2.below hW)
  rw [show ((overS t.hei lv.s0 lv.s1).1 = ha) from congrArg Prod.fst qC2, show ((overS t.hei lv.s0 lv.s1).2.1 = hb) from congrArg Prod.snd qC2] at this; exact this
 rw [hR]
 clear hR hE qv qk qC2 hq hi
 obtain ⟨id, al, ah, vol, sur, hei⟩ := t
 obtain ⟨A, n, c, B, mm, d, C, l, ee⟩ := m
 obtain ⟨tk, pr, s0, s1, d0, d1⟩ := lv
 have HE := zH (show Below w.heap.size w (((w.alloc (.cells #[.int .i64 id, .int .i64 al, .int .i64 ah, .slice A n c, .slice B mm d, .slice C l ee] 46)).alloc (.cells #[.int .i64 tk, .bool pr, .int .i64 s0, .int .i64 s1, .int .i64 d0, .int .i64 d1] 49)).alloc (.cells #[.int .i64 0, .int .i64 0, .int .i64 0, .int .i64 0, .int .i64 0, .int .i64 0] 73)) from below_a3 (Below.refl _ _))
 have HK := zH (boxes3' w 46 49 73 #[.int .i64 id, .int .i64 al, .int .i64 ah, .slice A n c, .slice B mm d, .slice C l ee] #[.int .i64 tk, .bool pr, .int .i64 s0, .int .i64 s1, .int .i64 d0, .int .i64 d1] #[.int .i64 0, .int .i64 0, .int .i64 0, .int .i64 0, .int .i64 0, .int .i64 0])
 go_enter Tryz.func24, Tryz.ntmps24
 go_wp2_with fail
 obtain ⟨W0, hW0⟩ : ∃ W0, (((w.alloc (.cells #[.int .i64 id, .int .i64 al, .int .i64 ah, .slice A n c, .slice B mm d, .slice C l ee] 46)).alloc (.cells #[.int .i64 tk, .bool pr, .int .i64 s0, .int .i64 s1, .int .i64 d0, .int .i64 d1] 49)).alloc (.cells #[.int .i64 0, .int .i64 0, .int .i64 0, .int .i64 0, .int .i64 0, .int .i64 0] 73)) = W0 := ⟨_, rfl⟩
 rw [hW0] at HE HK ⊢
 clear hW0
 obtain ⟨G, hG⟩ : ∃ G, w.heap.size = G := ⟨_, rfl⟩
 rw [hG] at HK ⊢
 have HG := zH hG; clear hG
 refine (C1.out _ HE.out).mono ?_
 rintro e w1 ⟨rfl, hq⟩
 have HE1 := zH (below_then (below_then HE.out hq) (below_alloc1 w1 (.cells #[.int .i64 qa, .int .i64 qb] 35))); have HK1 := zH ((HK.out.on hq).new 35 #[.int .i64 qa, .int .i64 qb])
 have HDM := zH (boxes_lt (HK.out.on hq))
 clear hq HE HK C1
 go_upto_region 2 with fail
 obtain ⟨W2, hW⟩ : ∃ W2, w1.alloc (.cells #[.int .i64 qa, .int .i64 qb] 35) = W2 := ⟨_, rfl⟩
 rw [hW] at HE1 HK1 ⊢
 clear hW
 obtain ⟨N, hN⟩ : ∃ N, w1.heap.size = N := ⟨_, rfl⟩
 rw [hN] at HK1 HDM ⊢
 clear hN
 by_cases g : E = 0
 ·have eR := HR.out
  rw [if_pos g] at eR
  have eQ := HQ.out
  rw [if_pos g] at eQ
  injection eQ with q1 q2
  injection q2 with q2 q3
  subst eR q1 q2 q3
  clear HR HQ g
  go_upto_region 4 with fail
  have HKs : Hid (Boxes W2 [(N, 35, #[.int .i64 ka, .int .i64 kb]), (G + 1, 49, #[.int .i64 tk, .bool pr, .int .i64 s0, .int .i64 s1, .int .i64 d0, .int .i64 d1]), (G, 46, #[.int .i64 id, .int .i64 al, .int .i64 ah, .slice A n c, .slice B mm d, .slice C l ee])]) := zH (HK1.out.sub (fun x hx => by
   simp only [List.mem_cons, List.not_mem_nil, or_false] at hx ⊢
   rcases hx with h | h | h <;> simp [h]))
  have HK9 : Hid (Blk W2 (G + 1 + 1) 73 #[.int .i64 0, .int .i64 0, .int .i64 0, .int .i64 0, .int .i64 0, .int .i64 0]) := zH (HK1.out _ (.tail _ (.head _)))
  clear HK1
  have hne : ∀ zz ∈ ([(N, 35, #[.int .i64 ka, .int .i64 kb]), (G + 1, 49, #[.int .i64 tk, .bool pr, .int .i64 s0, .int .i64 s1, .int .i64 d0, .int .i64 d1]), (G, 46, #[.int .i64 id, .int .i64 al, .int .i64 ah, .slice A n c, .slice B mm d, .slice C l ee])] : List (Nat × TypeId × Array Value)), zz.1 ≠ G + 1 + 1 := by
   have a1 := HDM.out _ (.head _)
   intro zz hz
   simp only [List.mem_cons, List.not_mem_nil, or_false] at hz
   rcases hz with h | h | h <;> (rw [h]; dsimp only at *; omega)
  have HNE := zH hne
  clear hne
  have hS0 : Boxes W2.drew [(N, 35, #[.int .i64 ka, .int .i64 kb]), (G + 1, 49, #[.int .i64 tk, .bool pr, .int .i64 s0, .int .i64 s1, .int .i64 d0, .int .i64 d1]), (G, 46, #[.int .i64 id, .int .i64 al, .int .i64 ah, .slice A n c, .slice B mm d, .slice C l ee])] := HKs.out
  have HEd := zH HE1.out.drew
  have HKd : Hid (Blk W2.drew (G + 1 + 1) 73 #[.int .i64 0, .int .i64 0, .int .i64 0, .int .i64 0, .int .i64 0, .int .i64 0]) := zH HK9.out.drew
  refine wp_region_held_drew (S := fun w' => Boxes w' [(N, 35, #[.int .i64 ka, .int .i64 kb]), (G + 1, 49, #[.int .i64 tk, .bool pr, .int .i64 s0, .int .i64 s1, .int .i64 d0, .int .i64 d1]), (G, 46, #[.int .i64 id, .int .i64 al, .int .i64 ah, .slice A n c, .slice B mm d, .slice C l ee])]) (by kernel_rfl) hS0 (fun hHeld => ?_)
  obtain ⟨W3, hW⟩ : ∃ W', W2.drew = W' := ⟨_, rfl⟩
  rw [hW] at HEd HKd hHeld ⊢
  clear hW hS0 HE1 HKs
  clear HK9
  refine tK 18 (i := 0) (v := rv ka kb) rfl rfl (by kernel_rfl) ?_ hHeld ?_
  ·intro w hSw; have hz := (hSw _ (.head _)); have c0 := hz.cell 0; have c1 := hz.cell 1; simp at c0 c1; clear hz hSw; go_simp; try with_reducible rfl
  simp only [uZ, uS]
  refine tK 19 (i := 1) (v := .pointer (some ⟨G, 1, none⟩)) rfl rfl (by kernel_rfl) ?_ hHeld ?_
  ·intro w hSw; clear hSw; go_simp; try with_reducible rfl
  simp only [uZ, uS]
  refine tK 20 (i := 2) (v := rv al ah) rfl rfl (by kernel_rfl) ?_ hHeld ?_
  ·intro w hSw; have hz := (hSw _ (.tail _ (.tail _ (.head _)))); have c1 := hz.cell 1; have c2 := hz.cell 2; simp at c1 c2; clear hz hSw; go_simp; try with_reducible rfl
  simp only [uZ, uS]
  refine tK 21 (i := 3) (v := .pointer (some ⟨G, 5, none⟩)) rfl rfl (by kernel_rfl) ?_ hHeld ?_
  ·intro w hSw; clear hSw; go_simp; try with_reducible rfl
  simp only [uZ, uS]
  refine tK 22 (i := 4) (v := tv C l ee) rfl rfl (by kernel_rfl) ?_ hHeld ?_
  ·intro w hSw; have hz := (hSw _ (.tail _ (.tail _ (.head _)))); have c5 := hz.cell 5; simp at c5; clear hz hSw; go_simp; try with_reducible rfl
  simp only [uZ, uS]
  refine tK 23 (i := 5) (v := .pointer (some ⟨G + 1, 2, none⟩)) rfl rfl (by kernel_rfl) ?_ hHeld ?_
  ·intro w hSw; clear hSw; go_simp; try with_reducible rfl
  simp only [uZ, uS]
  refine tK 24 (i := 6) (v := rv s0 s1) rfl rfl (by kernel_rfl) ?_ hHeld ?_
  ·intro w hSw; have hz := (hSw _ (.tail _ (.head _))); have c2 := hz.cell 2; have c3 := hz.cell 3; simp at c2 c3; clear hz hSw; go_simp; try with_reducible rfl
  simp only [uZ, uS]
  refine rK 7 (by kernel_rfl) rfl (fun K hK => ?_)
  go_simp
  (with_reducible refine (C2.out _ HEd.out).mono ?_)
  rintro e z1 ⟨rfl, hq⟩
  have HEz1 := zH (below_then HEd.out hq); have HKz1 := zH (blkOn HKd.out hq)
  have hS := hHeld.on hq
  clear hq
  refine hK.out _ _ (hS) (fun θ => ?_)
  try simp only [Act.put, uA, uZ, uS]
  clear hK K hHeld
  have hHeld := θ
  clear θ
  clear hS HEd HKd
  refine tK 26 (i := 8) (v := .agg #[.int .i64 ka, .int .i64 kb, .int .i64 al, .int .i64 ah, .int .i64 ha, .int .i64 hb]) rfl rfl (by kernel_rfl) ?_ hHeld ?_
  ·intro w hSw; clear hSw; go_simp; try with_reducible rfl
  simp only [uZ, uS]
  refine rK 9 (by kernel_rfl) rfl (fun K hK => ?_)
  rw [if_pos (by kernel_rfl)]
  have HKR : Hid (Blk (z1.setRow (G + 1 + 1) #[.int .i64 ka, .int .i64 kb, .int .i64 al, .int .i64 ah, .int .i64 ha, .int .i64 hb]) (G + 1 + 1) 73 #[.int .i64 ka, .int .i64 kb, .int .i64 al, .int .i64 ah, .int .i64 ha, .int .i64 hb]) := zH (setRow_heap z1 (G + 1 + 1) _ _ 73 _ HKz1.out)
  have HE9 := zH (below_setRow HEz1.out (show w.heap.size ≤ G + 1 + 1 by have := HG.out; omega) #[.int .i64 ka, .int .i64 kb, .int .i64 al, .int .i64 ah, .int .i64 ha, .int .i64 hb])
  have hS := hHeld.farRow (g := (G + 1 + 1)) HNE.out #[.int .i64 ka, .int .i64 kb, .int .i64 al, .int .i64 ah, .int .i64 ha, .int .i64 hb]
  refine wp_store_row 73 (.tmp 4) (.tmp 26) rfl (G + 1 + 1) #[.int .i64 ka, .int .i64 kb, .int .i64 al, .int .i64 ah, .int .i64 ha, .int .i64 hb] rfl rfl 73 _ HKz1.out (by kernel_rfl) rfl (by kernel_rfl) ?_
  obtain ⟨Wz, hW⟩ : ∃ W', z1.setRow (G + 1 + 1) #[.int .i64 ka, .int .i64 kb, .int .i64 al, .int .i64 ah, .int .i64 ha, .int .i64 hb] = W' := ⟨_, rfl⟩
  rw [hW] at HKR HE9 hS ⊢
  refine hK.out _ _ hS (fun θ => ?_)
  try simp only [Act.put, uA, uZ, uS]
  clear hW hS hK K hHeld HKz1 HEz1
  have hHeld := θ
  clear θ
  refine tK 5 (i := 10) (v := .int .i64 0) rfl rfl (by kernel_rfl) ?_ hHeld ?_
  ·intro w hSw; clear hSw; go_simp; try with_reducible rfl
  simp only [uZ, uS]
  refine wpAnyH_done (by kernel_rfl) ?_ _
  clear hHeld
  go_wp2
  exact bodyPost_ret (v := .tuple #[.agg #[.int .i64 ka, .int .i64 kb, .int .i64 al, .int .i64 ah, .int .i64 ha, .int .i64 hb], .int .i64 0]) (results_cell_tmp_row Tryz.results24 _ _ (G + 1 + 1) 73 #[.int .i64 ka, .int .i64 kb, .int .i64 al, .int .i64 ah, .int .i64 ha, .int .i64 hb] (0, 0) _ _ rfl rfl HKR.out Tryz.underlying73 rfl (by kernel_rfl)) rfl ⟨rfl, HE9.out⟩
 ·have eR := HR.out
  rw [if_neg g] at eR
  have eQ := HQ.out
  rw [if_neg g] at eQ
  injection eQ with q1 q2
  injection q2 with q2 q3
  subst eR q1 q2 q3
  clear HR HQ
  go_upto_region 3 with fail
  refine wp_region_lit ?_
  refine wpList_plain rfl (fun K hK => ?_)
  go_simp
  refine hK _ _ ?_
  clear hK K
  refine wpList_plain rfl (fun K hK => ?_)
  go_simp
  refine hK _ _ ?_
  clear hK K
  have HKR : Hid (Blk (W2.setRow (G + 1 + 1) #[.int .i64 0, .int .i64 0, .int .i64 0, .int .i64 0, .int .i64 0, .int .i64 0]) (G + 1 + 1) 73 #[.int .i64 0, .int .i64 0, .int .i64 0, .int .i64 0, .int .i64 0, .int .i64 0]) := zH (setRow_heap W2 (G + 1 + 1) _ _ 73 _ (HK1.out _ (.tail _ (.head _))))
  have HE9 := zH (below_setRow HE1.out (show w.heap.size ≤ G + 1 + 1 by have := HG.out; omega) #[.int .i64 0, .int .i64 0, .int .i64 0, .int .i64 0, .int .i64 0, .int .i64 0])
  refine wpList_store_row rfl 73 (.tmp 4) (.tmp 16) rfl (G + 1 + 1) #[.int .i64 0, .int .i64 0, .int .i64 0, .int .i64 0, .int .i64 0, .int .i64 0] rfl rfl 73 _ (HK1.out _ (.tail _ (.head _))) (by kernel_rfl) rfl (by kernel_rfl) ?_
  obtain ⟨W9, hW9⟩ : ∃ W9, W2.setRow (G + 1 + 1) #[.int .i64 0, .int .i64 0, .int .i64 0, .int .i64 0, .int .i64 0, .int .i64 0] = W9 := ⟨_, rfl⟩
  rw [hW9] at HKR HE9 ⊢
  clear hW9
  go_wp2
  exact bodyPost_ret (v := .tuple #[.agg #[.int .i64 0, .int .i64 0, .int .i64 0, .int .i64 0, .int .i64 0, .int .i64 0], .int .i64 E]) (results_cell_tmp_row Tryz.results24 _ _ (G + 1 + 1) 73 #[.int .i64 0, .int .i64 0, .int .i64 0, .int .i64 0, .int .i64 0, .int .i64 0] (0, 0) _ _ rfl rfl HKR.out Tryz.underlying73 rfl (by kernel_rfl)) rfl ⟨rfl, HE9.out⟩
end

section
open Go.RowKit

theorem hSurface_any (t : TankD) (m : HoldM) (lv : LevelD) (w : World) (hi : TankIn w t m) :
  Calls Tryz.prog 25 #[tankV t m, levelV lv] w fun e w' => e = .returned (rt (srfS t lv)) ∧ Below w.heap.size w w' := by
 obtain ⟨E, hE⟩ : ∃ E, levelErr t lv = E := ⟨_, rfl⟩
 obtain ⟨⟨va, vb⟩, qC2⟩ : ∃ v, ovL t.vol lv = v := ⟨_, rfl⟩
 obtain ⟨⟨sa, sb⟩, qC4⟩ : ∃ v, ovL t.sur lv = v := ⟨_, rfl⟩
 obtain ⟨⟨ka, kb⟩, qC5⟩ : ∃ v, denL lv (sa, sb) = v := ⟨_, rfl⟩
 obtain ⟨R, hR⟩ : ∃ R, srfS t lv = R := ⟨_, rfl⟩
 have HR : Hid ((if E = 0 then (if lv.pr = true ∨ vb = 0 then (0, 0, 0) else (if va = 0 then 0 else ka, kb, 0)) else (0, 0, E)) = R) := zH (by rw [← hR]; unfold srfS; rw [hE, qC2, qC4, qC5])
 have C1 : Hid (∀ W, Below w.heap.size w W → Calls Tryz.prog 38 #[tankV t m, levelV lv] W fun e w' => e = .returned (.int .i64 E) ∧ Below W.heap.size W w') := zH fun W hW => int_to (checkLevel_any t m lv W (hi.below hW)) hE
 have C2 : Hid (∀ W, Below w.heap.size w W → Calls Tryz.prog 46 #[tv m.A m.n m.c, rv lv.s0 lv.s1] W fun e w' => e = .returned (rv va vb) ∧ Below W.heap.size W w') := zH fun W hW => by
  have := hover_any m.A m.n m.c t.vol lv.s0 lv.s1 W (hi.1.below hW)
  rw [show ((overS t.vol lv.s0 lv.s1).1 = va) from congrArg Prod.fst qC2, show ((overS t.vol lv.s0 lv.s1).2.1 = vb) from congrArg Prod.snd qC2] at this; exact this
 have C4 : Hid (∀ W, Below w.heap.size w W → Calls Tryz.prog 46 #[tv m.B m.m m.d, rv lv.s0 lv.s1] W fun e w' => e = .returned (rv sa sb) ∧ Below W.heap.size W w') := zH fun W hW => by
  have := hover_any m.B m.m m.d t.sur lv.s0 lv.s1 W (hi.2.1.below hW)
  rw [show ((overS t.sur lv.s0 lv.s1).1 = sa) from congrArg Prod.fst qC4, show ((overS t.sur lv.s0 lv.s1).2.1 = sb) from congrArg Prod.snd qC4] at this; exact this
 have C5 : Hid (∀ W, Calls Tryz.prog 43 #[rv sa sb, rv lv.d0 lv.d1] W fun e w' => e = .returned (rv ka kb) ∧ Below W.heap.size W w') := zH fun W => hdense_L lv qC5 W
 rw [hR]
 clear hR hE qC2 qC4 qC5 hi
 obtain ⟨id, al, ah, vol, sur, hei⟩ := t
 obtain ⟨A, n, c, B, mm, d, C, l, ee⟩ := m
 obtain ⟨tk, pr, s0, s1, d0, d1⟩ := lv
 dsimp only at HR
 have HE := zH (show Below w.heap.size w (((w.alloc (.cells #[.int .i64 id, .int .i64 al, .int .i64 ah, .slice A n c, .slice B mm d, .slice C l ee] 46)).alloc (.cells #[.int .i64 tk, .bool pr, .int .i64 s0, .int .i64 s1, .int .i64 d0, .int .i64 d1] 49)).alloc (.cells #[.int .i64 0, .int .i64 0] 35)) from below_a3 (Below.refl _ _))
 have HK := zH (boxes3' w 46 49 35 #[.int .i64 id, .int .i64 al, .int .i64 ah, .slice A n c, .slice B mm d, .slice C l ee] #[.int .i64 tk, .bool pr, .int .i64 s0, .int .i64 s1, .int .i64 d0, .int .i64 d1] #[.int .i64 0, .int .i64 0])
 go_enter Tryz.func25, Tryz.ntmps25
 go_wp2_with fail
 obtain ⟨W0, hW0⟩ : ∃ W0, (((w.alloc (.cells #[.int .i64 id, .int .i64 al, .int .i64 ah, .slice A n c, .slice B mm d, .slice C l ee] 46)).alloc (.cells #[.int .i64 tk, .bool pr, .int .i64 s0, .int .i64 s1, .int .i64 d0, .int .i64 d1] 49)).alloc (.cells #[.int .i64 0, .int .i64 0] 35)) = W0 := ⟨_, rfl⟩
 rw [hW0] at HE HK ⊢
 clear hW0
 obtain ⟨G, hG⟩ : ∃ G, w.heap.size = G := ⟨_, rfl⟩
 rw [hG] at HK ⊢
 have HG := zH hG; clear hG
 refine (C1.out _ HE.out).mono ?_
 rintro e w1 ⟨rfl, hq⟩
 have HE1 := zH (below_then HE.out hq); have HK1 := zH (HK.out.on hq)
 clear hq HE HK C1
 by_cases g : E = 0
 rotate_left
 ·have eR := HR.out
  rw [if_neg g] at eR
  subst eR
  clear HR
  go_upto_region 3 with fail
  refine wp_region_lit ?_
  refine wpList_plain rfl (fun K hK => ?_)
  go_simp
  refine hK _ _ ?_
  clear hK K
  refine wpList_plain rfl (fun K hK => ?_)
  go_simp
  refine hK _ _ ?_
  clear hK K
  have HKR : Hid (Blk (w1.setRow (G + 1 + 1) #[.int .i64 0, .int .i64 0]) (G + 1 + 1) 35 #[.int .i64 0, .int .i64 0]) := zH (setRow_heap w1 (G + 1 + 1) _ _ 35 _ (HK1.out _ (.head _)))
  have HE9 := zH (below_setRow HE1.out (show w.heap.size ≤ G + 1 + 1 by have := HG.out; omega) #[.int .i64 0, .int .i64 0])
  refine wpList_store_row rfl 35 (.tmp 4) (.tmp 14) rfl (G + 1 + 1) #[.int .i64 0, .int .i64 0] rfl rfl 35 _ (HK1.out _ (.head _)) (by kernel_rfl) rfl (by kernel_rfl) ?_
  obtain ⟨W9, hW9⟩ : ∃ W9, w1.setRow (G + 1 + 1) #[.int .i64 0, .int .i64 0] = W9 := ⟨_, rfl⟩
  rw [hW9] at HKR HE9 ⊢
  clear hW9
  go_wp2
  exact bodyPost_ret (v := .tuple #[.agg #[.int .i64 0, .int .i64 0], .int .i64 E]) (results_cell_tmp_row Tryz.results25 _ _ (G + 1 + 1) 35 #[.int .i64 0, .int .i64 0] (0, 0) _ _ rfl rfl HKR.out Tryz.underlying35 rfl (by kernel_rfl)) rfl ⟨rfl, HE9.out⟩
 have hR := HR.out
 rw [if_pos g] at hR
 have HR2 := zH hR
 clear hR HR
 subst g
 have r := HK1.out _ (.tail _ (.tail _ (.head _)))
 have r3 := r.cell 3
 simp at r3
 clear r
 have f := HK1.out _ (.tail _ (.head _))
 have f2 := f.cell 2
 have f3 := f.cell 3
 simp at f2 f3
 clear f
 go_wp2_with fail
 refine (C2.out _ HE1.out).mono ?_
 rintro e y1 ⟨rfl, hq⟩
 have HE2 := zH (below_then (below_then HE1.out hq) (below_alloc1 y1 (.cells #[.int .i64 va, .int .i64 vb] 35))); have HK2 := zH ((HK1.out.on hq).new 35 #[.int .i64 va, .int .i64 vb])
 have HD2 := zH (boxes_lt (HK1.out.on hq))
 clear hq HE1 HK1 C2 r3 f2 f3
 go_upto_region 5 with fail
 obtain ⟨W2, hW⟩ : ∃ W', y1.alloc (.cells #[.int .i64 va, .int .i64 vb] 35) = W' := ⟨_, rfl⟩
 rw [hW] at HE2 HK2 ⊢
 clear hW
 obtain ⟨N2, hN⟩ : ∃ N, y1.heap.size = N := ⟨_, rfl⟩
 rw [hN] at HK2 HD2 ⊢
 clear hN
 have f := HK2.out _ (.tail _ (.tail _ (.head _)))
 have f1 := f.cell 1
 simp at f1
 clear f
 cases pr
 rotate_left
 ·skip
  have eR : R = (0, 0, 0) := by rw [← HR2.out, if_pos (.inl rfl)]
  subst eR
  clear HR2
  have z := HK2.out _ (.tail _ (.head _))
  have z0 := z.cell 0
  have zf0 := z.frozen 0
  have z1 := z.cell 1
  have zf1 := z.frozen 1
  have zl := z.lt
  simp at z0 zf0 z1 zf1
  clear z
  go_wp2
  refine bodyPost_ret (v := rt (0, 0, 0)) (by simp [results, Tryz.results25, go_sem, z0, z1]) rfl ⟨rfl, ?_⟩
  have hg := HG.out
  repeat (first | exact HE2.out | refine Below.setCell ?_ (by simp <;> omega) _)
 have a := HK2.out _ (.head _)
 have a1 := a.cell 1
 simp at a1
 clear a
 by_cases hv : vb = 0
 ·have eR : R = (0, 0, 0) := by rw [← HR2.out, if_pos (.inr hv)]
  subst eR hv
  clear HR2
  have z := HK2.out _ (.tail _ (.head _))
  have z0 := z.cell 0
  have zf0 := z.frozen 0
  have z1 := z.cell 1
  have zf1 := z.frozen 1
  have zl := z.lt
  simp at z0 zf0 z1 zf1
  clear z
  go_wp2
  refine bodyPost_ret (v := rt (0, 0, 0)) (by simp [results, Tryz.results25, go_sem, z0, z1]) rfl ⟨rfl, ?_⟩
  have hg := HG.out
  repeat (first | exact HE2.out | refine Below.setCell ?_ (by simp <;> omega) _)
 have eR := HR2.out
 rw [if_neg (show ¬ (false = true ∨ vb = 0) from fun q => q.elim (fun q => absurd q (by decide)) hv)] at eR
 have HR3 := zH eR
 clear HR2 eR
 have b0 : (vb == 0) = false := beq_eq_false_iff_ne.2 hv
 go_upto_region 7 with fail
 clear b0 hv f1 a1
 go_cut [8] (fun s8 wx => ∃ N1, s8 = .pointer (some ⟨N1, 0, none⟩) ∧ Boxes wx ((N1, 35, #[.int .i64 ka, .int .i64 kb]) :: ((N2, 35, #[.int .i64 va, .int .i64 vb]) :: [(G + 1 + 1, 35, #[.int .i64 0, .int .i64 0]), (G + 1, 49, #[.int .i64 tk, .bool false, .int .i64 s0, .int .i64 s1, .int .i64 d0, .int .i64 d1]), (G, 46, #[.int .i64 id, .int .i64 al, .int .i64 ah, .slice A n c, .slice B mm d, .slice C l ee])] : List (Nat × TypeId × Array Value))) ∧ Below w.heap.size w wx ∧ w.heap.size ≤ N1 ∧ N2 ≠ N1 ∧ G + 1 + 1 ≠ N1)
 case first =>
  have hS0 : Boxes W2.drew ((N2, 35, #[.int .i64 va, .int .i64 vb]) :: [(G + 1 + 1, 35, #[.int .i64 0, .int .i64 0]), (G + 1, 49, #[.int .i64 tk, .bool false, .int .i64 s0, .int .i64 s1, .int .i64 d0, .int .i64 d1]), (G, 46, #[.int .i64 id, .int .i64 al, .int .i64 ah, .slice A n c, .slice B mm d, .slice C l ee])] : List (Nat × TypeId × Array Value)) := HK2.out
  have HEd := zH HE2.out.drew
  have HKd := zH hS0
  refine wp_region_held_drew (S := fun w' => Boxes w' ((N2, 35, #[.int .i64 va, .int .i64 vb]) :: [(G + 1 + 1, 35, #[.int .i64 0, .int .i64 0]), (G + 1, 49, #[.int .i64 tk, .bool false, .int .i64 s0, .int .i64 s1, .int .i64 d0, .int .i64 d1]), (G, 46, #[.int .i64 id, .int .i64 al, .int .i64 ah, .slice A n c, .slice B mm d, .slice C l ee])] : List (Nat × TypeId × Array Value))) (by kernel_rfl) hS0 (fun hHeld => ?_)
  obtain ⟨W4, hW⟩ : ∃ W', W2.drew = W' := ⟨_, rfl⟩
  rw [hW] at HEd HKd hHeld ⊢
  clear hW hS0 HE2 HK2
  refine tK 29 (i := 0) (v := .pointer (some ⟨G, 4, none⟩)) rfl rfl (by kernel_rfl) ?_ hHeld ?_
  ·intro w hSw; clear hSw; go_simp; try with_reducible rfl
  simp only [uZ, uS]
  refine tK 30 (i := 1) (v := tv B mm d) rfl rfl (by kernel_rfl) ?_ hHeld ?_
  ·intro w hSw; have hz := (hSw _ (.tail _ (.tail _ (.tail _ (.head _))))); have c4 := hz.cell 4; simp at c4; clear hz hSw; go_simp; try with_reducible rfl
  simp only [uZ, uS]
  refine tK 31 (i := 2) (v := .pointer (some ⟨G + 1, 2, none⟩)) rfl rfl (by kernel_rfl) ?_ hHeld ?_
  ·intro w hSw; clear hSw; go_simp; try with_reducible rfl
  simp only [uZ, uS]
  refine tK 32 (i := 3) (v := rv s0 s1) rfl rfl (by kernel_rfl) ?_ hHeld ?_
  ·intro w hSw; have hz := (hSw _ (.tail _ (.tail _ (.head _)))); have c2 := hz.cell 2; have c3 := hz.cell 3; simp at c2 c3; clear hz hSw; go_simp; try with_reducible rfl
  simp only [uZ, uS]
  refine tK 34 (i := 5) (v := .pointer (some ⟨G + 1, 4, none⟩)) rfl rfl (by kernel_rfl) ?_ hHeld ?_
  ·intro w hSw; clear hSw; go_simp; try with_reducible rfl
  simp only [uZ, uS]
  refine tK 35 (i := 6) (v := rv d0 d1) rfl rfl (by kernel_rfl) ?_ hHeld ?_
  ·intro w hSw; have hz := (hSw _ (.tail _ (.tail _ (.head _)))); have c4 := hz.cell 4; have c5 := hz.cell 5; simp at c4 c5; clear hz hSw; go_simp; try with_reducible rfl
  simp only [uZ, uS]
  have HEq := HEd
  have HKq := HKd
  clear HEd HKd
  rename World => yq
  refine wpAnyH_ready (rs := [4, 8]) (by kernel_rfl) (by simp) ?_
  refine AllReadyH.cons rfl (fun K hK => ?_) (AllReadyH.cons rfl (fun K hK => ?_) AllReadyH.nil)
  all_goals
   go_simp
   first
   | (
    (with_reducible refine (C4.out _ HEq.out).mono ?_)
    rintro e yn ⟨rfl, hb⟩
    have HEr := zH (below_then HEq.out hb)
    have HKr := zH (HKq.out.on hb)
    have hS := hHeld.on hb
    clear hb
    refine hK.out _ _ hS (fun θ => ?_)
    try simp only [Act.put, uA, uZ, uS]
    clear hS hK K hHeld HEq HKq
    have hHeld := θ
    clear θ
    have HEq := HEr
    clear HEr
    have HKq := HKr
    clear HKr
    rename World => yq)
   | (
    (with_reducible refine (C5.out _).mono ?_)
    rintro e yn ⟨rfl, hb⟩
    have HEr := zH (below_then HEq.out hb)
    have HKr := zH (HKq.out.on hb)
    have hS := hHeld.on hb
    clear hb
    refine hK.out _ _ hS (fun θ => ?_)
    try simp only [Act.put, uA, uZ, uS]
    clear hS hK K hHeld HEq HKq
    have hHeld := θ
    clear θ
    have HEq := HEr
    clear HEr
    have HKq := HKr
    clear HKr
    rename World => yq)
   | (
    have HEr := zH (below_then HEq.out (below_alloc1 yq (.cells #[.int .i64 0, .int .i64 0] 35)))
    have HKr := zH (HKq.out.new 35 #[.int .i64 0, .int .i64 0])
    have hS := hHeld.on (below_alloc1 yq (.cells #[.int .i64 0, .int .i64 0] 35))
    have HDA := zH (boxes_lt HKq.out)
    have HZA := zH HEq.out.size
    refine hK.out _ _ hS (fun θ => ?_)
    try simp only [Act.put, uA, uZ, uS]
    clear hS hK K hHeld HEq HKq
    have hHeld := θ
    clear θ
    have HEq := HEr
    clear HEr
    have HKq := HKr
    clear HKr
    obtain ⟨y2, hW⟩ : ∃ W', yq.alloc (.cells #[.int .i64 0, .int .i64 0] 35) = W' := ⟨_, rfl⟩
    rw [hW] at HEq HKq hHeld ⊢
    clear hW
    obtain ⟨NA, hN⟩ : ∃ N, yq.heap.size = N := ⟨_, rfl⟩
    rw [hN] at HKq HDA HZA ⊢
    clear hN
    rename World => yq)
  refine wpAnyH_ready (rs := [7, 8]) (by kernel_rfl) (by simp) ?_
  refine AllReadyH.cons rfl (fun K hK => ?_) (AllReadyH.cons rfl (fun K hK => ?_) AllReadyH.nil)
  rotate_left 2
  refine rK 4 (by kernel_rfl) rfl (fun K hK => ?_)
  rotate_left 1
  all_goals
   go_simp
   first
   | (
    (with_reducible refine (C4.out _ HEq.out).mono ?_)
    rintro e yn ⟨rfl, hb⟩
    have HEr := zH (below_then HEq.out hb)
    have HKr := zH (HKq.out.on hb)
    have hS := hHeld.on hb
    clear hb
    refine hK.out _ _ hS (fun θ => ?_)
    try simp only [Act.put, uA, uZ, uS]
    clear hS hK K hHeld HEq HKq
    have hHeld := θ
    clear θ
    have HEq := HEr
    clear HEr
    have HKq := HKr
    clear HKr
    rename World => yq)
   | (
    (with_reducible refine (C5.out _).mono ?_)
    rintro e yn ⟨rfl, hb⟩
    have HEr := zH (below_then HEq.out hb)
    have HKr := zH (HKq.out.on hb)
    have hS := hHeld.on hb
    clear hb
    refine hK.out _ _ hS (fun θ => ?_)
    try simp only [Act.put, uA, uZ, uS]
    clear hS hK K hHeld HEq HKq
    have hHeld := θ
    clear θ
    have HEq := HEr
    clear HEr
    have HKq := HKr
    clear HKr
    rename World => yq)
   | (
    have HEr := zH (below_then HEq.out (below_alloc1 yq (.cells #[.int .i64 0, .int .i64 0] 35)))
    have HKr := zH (HKq.out.new 35 #[.int .i64 0, .int .i64 0])
    have hS := hHeld.on (below_alloc1 yq (.cells #[.int .i64 0, .int .i64 0] 35))
    have HDA := zH (boxes_lt HKq.out)
    have HZA := zH HEq.out.size
    refine hK.out _ _ hS (fun θ => ?_)
    try simp only [Act.put, uA, uZ, uS]
    clear hS hK K hHeld HEq HKq
    have hHeld := θ
    clear θ
    have HEq := HEr
    clear HEr
    have HKq := HKr
    clear HKr
    obtain ⟨y2, hW⟩ : ∃ W', yq.alloc (.cells #[.int .i64 0, .int .i64 0] 35) = W' := ⟨_, rfl⟩
    rw [hW] at HEq HKq hHeld ⊢
    clear hW
    obtain ⟨NA, hN⟩ : ∃ N, yq.heap.size = N := ⟨_, rfl⟩
    rw [hN] at HKq HDA HZA ⊢
    clear hN
    rename World => yq)
  refine rK 8 (by kernel_rfl) rfl (fun K hK => ?_)
  rotate_left 1
  refine rK 7 (by kernel_rfl) rfl (fun K hK => ?_)
  rotate_left 1
  refine rK 7 (by kernel_rfl) rfl (fun K hK => ?_)
  rotate_left 1
  all_goals
   go_simp
   first
   | (
    (with_reducible refine (C4.out _ HEq.out).mono ?_)
    rintro e yn ⟨rfl, hb⟩
    have HEr := zH (below_then HEq.out hb)
    have HKr := zH (HKq.out.on hb)
    have hS := hHeld.on hb
    clear hb
    refine hK.out _ _ hS (fun θ => ?_)
    try simp only [Act.put, uA, uZ, uS]
    clear hS hK K hHeld HEq HKq
    have hHeld := θ
    clear θ
    have HEq := HEr
    clear HEr
    have HKq := HKr
    clear HKr
    rename World => yq)
   | (
    (with_reducible refine (C5.out _).mono ?_)
    rintro e yn ⟨rfl, hb⟩
    have HEr := zH (below_then HEq.out hb)
    have HKr := zH (HKq.out.on hb)
    have hS := hHeld.on hb
    clear hb
    refine hK.out _ _ hS (fun θ => ?_)
    try simp only [Act.put, uA, uZ, uS]
    clear hS hK K hHeld HEq HKq
    have hHeld := θ
    clear θ
    have HEq := HEr
    clear HEr
    have HKq := HKr
    clear HKr
    rename World => yq)
   | (
    have HEr := zH (below_then HEq.out (below_alloc1 yq (.cells #[.int .i64 0, .int .i64 0] 35)))
    have HKr := zH (HKq.out.new 35 #[.int .i64 0, .int .i64 0])
    have hS := hHeld.on (below_alloc1 yq (.cells #[.int .i64 0, .int .i64 0] 35))
    have HDA := zH (boxes_lt HKq.out)
    have HZA := zH HEq.out.size
    refine hK.out _ _ hS (fun θ => ?_)
    try simp only [Act.put, uA, uZ, uS]
    clear hS hK K hHeld HEq HKq
    have hHeld := θ
    clear θ
    have HEq := HEr
    clear HEr
    have HKq := HKr
    clear HKr
    obtain ⟨y2, hW⟩ : ∃ W', yq.alloc (.cells #[.int .i64 0, .int .i64 0] 35) = W' := ⟨_, rfl⟩
    rw [hW] at HEq HKq hHeld ⊢
    clear hW
    obtain ⟨NA, hN⟩ : ∃ N, yq.heap.size = N := ⟨_, rfl⟩
    rw [hN] at HKq HDA HZA ⊢
    clear hN
    rename World => yq)
  all_goals
   first
   | (
    refine rK 9 (by kernel_rfl) rfl (fun K hK => ?_)
    rw [if_pos (by kernel_rfl)]
    have ne1 : ∀ zz ∈ (((N2, 35, #[.int .i64 va, .int .i64 vb]) :: [(G + 1 + 1, 35, #[.int .i64 0, .int .i64 0]), (G + 1, 49, #[.int .i64 tk, .bool false, .int .i64 s0, .int .i64 s1, .int .i64 d0, .int .i64 d1]), (G, 46, #[.int .i64 id, .int .i64 al, .int .i64 ah, .slice A n c, .slice B mm d, .slice C l ee])] : List (Nat × TypeId × Array Value)) : List (Nat × TypeId × Array Value)), zz.1 ≠ NA := HDA.out
    have HK1 : Hid (Boxes (yq.setRow NA #[.int .i64 ka, .int .i64 kb]) ((NA, 35, #[.int .i64 ka, .int .i64 kb]) :: ((N2, 35, #[.int .i64 va, .int .i64 vb]) :: [(G + 1 + 1, 35, #[.int .i64 0, .int .i64 0]), (G + 1, 49, #[.int .i64 tk, .bool false, .int .i64 s0, .int .i64 s1, .int .i64 d0, .int .i64 d1]), (G, 46, #[.int .i64 id, .int .i64 al, .int .i64 ah, .slice A n c, .slice B mm d, .slice C l ee])] : List (Nat × TypeId × Array Value)))) := zH (Boxes.row HKq.out (.head _) (fun p hp => ⟨.tail _ hp, ne1 p hp⟩) #[.int .i64 ka, .int .i64 kb])
    have HE1 := zH (below_setRow HEq.out (show w.heap.size ≤ NA from HZA.out) #[.int .i64 ka, .int .i64 kb])
    have hS := hHeld.farRow (g := NA) (fun p hp => ne1 p (hp)) #[.int .i64 ka, .int .i64 kb]
    refine wp_store_row 35 (.tmp 8) (.tmp 36) rfl NA #[.int .i64 ka, .int .i64 kb] rfl rfl 35 _ (HKq.out _ (.head _)) (by kernel_rfl) rfl (by kernel_rfl) ?_
    obtain ⟨y1, hW⟩ : ∃ W', yq.setRow NA #[.int .i64 ka, .int .i64 kb] = W' := ⟨_, rfl⟩
    rw [hW] at HE1 HK1 hS ⊢
    refine hK.out _ _ hS (fun θ => ?_)
    try simp only [Act.put, uA, uZ, uS]
    clear hW hS hK K hHeld ne1 HEq HKq
    have hHeld := θ
    clear θ
    refine wpAnyH_done (by kernel_rfl) ?_ _
    go_wp2_with fail
    go_meet
    exact ⟨NA, rfl, HK1.out, HE1.out, HZA.out, HDA.out (_, _, _) (.head _), HDA.out (_, _, _) (.tail _ (.head _))⟩)
 obtain ⟨N1, rfl, hB, hE, hz, n1, n2⟩ := hcut
 have HE5 := zH hE
 have HK5 := zH hB
 have n1' : N1 ≠ N2 := fun q => n1 q.symm
 have n2' : N1 ≠ G + 1 + 1 := fun q => n2 q.symm
 have hzz : G ≤ N1 := by have hg := HG.out; omega
 clear hB hE HE2 HK2 C4 C5 HD2 hz
 have k := HK5.out _ (.head _)
 have k0 := k.cell 0
 have kf0 := k.frozen 0
 have k1 := k.cell 1
 have kf1 := k.frozen 1
 have kl := k.lt
 simp at k0 kf0 k1 kf1
 clear k
 have a := HK5.out _ (.tail _ (.head _))
 have a0 := a.cell 0
 simp at a0
 clear a
 have z := HK5.out _ (.tail _ (.tail _ (.head _)))
 have z0 := z.cell 0
 have zf0 := z.frozen 0
 have z1 := z.cell 1
 have zf1 := z.frozen 1
 have zl := z.lt
 simp at z0 zf0 z1 zf1
 clear z
 by_cases hv : va = 0
 ·have eR : R = (0, kb, 0) := by rw [← HR3.out, if_pos hv]
  subst eR hv
  clear HR3
  go_wp2
  refine bodyPost_ret (v := rt (0, kb, 0)) (by simp [results, Tryz.results25, go_sem, z0, z1, n2, n2']) rfl ⟨rfl, ?_⟩
  have hg := HG.out
  repeat (first | exact HE5.out | refine Below.setCell ?_ (by simp <;> omega) _)
 ·have b0 : (va == 0) = false := beq_eq_false_iff_ne.2 hv
  have eR : R = (ka, kb, 0) := by rw [← HR3.out, if_neg hv]
  subst eR
  clear HR3
  go_wp2
  refine bodyPost_ret (v := rt (ka, kb, 0)) (by simp [results, Tryz.results25, go_sem, z0, z1, n2, n2']) rfl ⟨rfl, ?_⟩
  have hg := HG.out
  repeat (first | exact HE5.out | refine Below.setCell ?_ (by simp <;> omega) _)
end

end Go.Proofs.YtpcmcicnciejpaaGreat
