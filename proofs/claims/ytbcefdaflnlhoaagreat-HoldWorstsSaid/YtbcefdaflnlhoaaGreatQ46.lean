/- CheckWorst of hold and of the specification, for all holds, fills and numbers. Its condition: the hold's tables lie in memory. -/
import Derived.Test.YtbcefdaflnlhoaaGreatQ50
import Derived.Test.YtbcefdaflnlhoaaGreatQ45
import Derived.Test.YtbcefdaflnlhoaaGreatQ08
set_option linter.unusedVariables false
set_option linter.unusedSimpArgs false
set_option linter.constructorNameAsVariable false
namespace Go.Proofs.YtbcefdaflnlhoaaGreat

section
open Go.RowKit


set_option maxRecDepth 100000 in
set_option maxHeartbeats 4000000 in
theorem isWorst_n (vol mom hei : List P3) (id al ah t0 t1 u0 u1 v0 v1 h0 h1 : Int) (A B C : Option Addr) (n c mm d l ee : Nat) (fh st x0 x1 d0 d1 uu mo : Int) (t : Bool) (w : World) (hi : HoldIn w ⟨id, al, ah, vol, mom, hei, t0, t1, u0, u1, v0, v1, h0, h1⟩ ⟨A, n, c, B, mm, d, C, l, ee⟩) (gs : ¬ st = 3) (hu : (uu == 0) = t) :
    Calls Tryz.prog 82 #[.agg #[.int .i64 id, .int .i64 al, .int .i64 ah, .slice A n c, .slice B mm d, .slice C l ee, .int .i64 t0, .int .i64 t1, .int .i64 u0, .int .i64 u1, .int .i64 v0, .int .i64 v1, .int .i64 h0, .int .i64 h1], .agg #[.int .i64 fh, .int .i64 st, .int .i64 x0, .int .i64 x1, .int .i64 d0, .int .i64 d1], .int .i64 uu, .int .i64 mo] w fun e w' => e = .returned (.bool t) ∧ Below w.heap.size w w' := by
  have HE := Lib.hid (show Below w.heap.size w ((w.alloc (.cells #[.int .i64 id, .int .i64 al, .int .i64 ah, .slice A n c, .slice B mm d, .slice C l ee, .int .i64 t0, .int .i64 t1, .int .i64 u0, .int .i64 u1, .int .i64 v0, .int .i64 v1, .int .i64 h0, .int .i64 h1] 45)).alloc (.cells #[.int .i64 fh, .int .i64 st, .int .i64 x0, .int .i64 x1, .int .i64 d0, .int .i64 d1] 47)) from below_a2 (Below.refl _ _))
  have HK := Lib.hid (boxes2' w 45 47 #[.int .i64 id, .int .i64 al, .int .i64 ah, .slice A n c, .slice B mm d, .slice C l ee, .int .i64 t0, .int .i64 t1, .int .i64 u0, .int .i64 u1, .int .i64 v0, .int .i64 v1, .int .i64 h0, .int .i64 h1] #[.int .i64 fh, .int .i64 st, .int .i64 x0, .int .i64 x1, .int .i64 d0, .int .i64 d1])
  have b0 : (st == 3) = false := beq_eq_false_iff_ne.2 gs
  clear hi gs
  go_enter Tryz.func82, Tryz.ntmps82
  go_upto_region 1 with fail
  obtain ⟨W0, hW0⟩ : ∃ W0, ((w.alloc (.cells #[.int .i64 id, .int .i64 al, .int .i64 ah, .slice A n c, .slice B mm d, .slice C l ee, .int .i64 t0, .int .i64 t1, .int .i64 u0, .int .i64 u1, .int .i64 v0, .int .i64 v1, .int .i64 h0, .int .i64 h1] 45)).alloc (.cells #[.int .i64 fh, .int .i64 st, .int .i64 x0, .int .i64 x1, .int .i64 d0, .int .i64 d1] 47)) = W0 := ⟨_, rfl⟩
  rw [hW0] at HE HK ⊢
  clear hW0
  obtain ⟨G, hG⟩ : ∃ G, w.heap.size = G := ⟨_, rfl⟩
  rw [hG] at HK ⊢
  have HG := Lib.hid hG; clear hG
  have fa := HK.out _ (.head _)
  have fa1 := fa.cell 1
  simp at fa1
  clear fa
  have HU := Lib.hid hu
  go_wp2
  go_ret
  exact ⟨rfl, HE.out⟩

set_option maxRecDepth 100000 in
set_option maxHeartbeats 4000000 in
theorem isWorst_y (vol mom hei : List P3) (id al ah t0 t1 u0 u1 v0 v1 h0 h1 : Int) (A B C : Option Addr) (n c mm d l ee : Nat) (fh st x0 x1 d0 d1 uu mo pa pb pe : Int) (t : Bool) (w : World) (hi : HoldIn w ⟨id, al, ah, vol, mom, hei, t0, t1, u0, u1, v0, v1, h0, h1⟩ ⟨A, n, c, B, mm, d, C, l, ee⟩) (gs : st = 3) (hA : AtS mom uu = (pa, pb, pe)) (ht : hasS x0 x1 uu = t) :
    Calls Tryz.prog 82 #[.agg #[.int .i64 id, .int .i64 al, .int .i64 ah, .slice A n c, .slice B mm d, .slice C l ee, .int .i64 t0, .int .i64 t1, .int .i64 u0, .int .i64 u1, .int .i64 v0, .int .i64 v1, .int .i64 h0, .int .i64 h1], .agg #[.int .i64 fh, .int .i64 st, .int .i64 x0, .int .i64 x1, .int .i64 d0, .int .i64 d1], .int .i64 uu, .int .i64 mo] w fun e w' => e = .returned (.bool (t && pb == mo)) ∧ Below w.heap.size w w' := by
  have HE := Lib.hid (show Below w.heap.size w ((w.alloc (.cells #[.int .i64 id, .int .i64 al, .int .i64 ah, .slice A n c, .slice B mm d, .slice C l ee, .int .i64 t0, .int .i64 t1, .int .i64 u0, .int .i64 u1, .int .i64 v0, .int .i64 v1, .int .i64 h0, .int .i64 h1] 45)).alloc (.cells #[.int .i64 fh, .int .i64 st, .int .i64 x0, .int .i64 x1, .int .i64 d0, .int .i64 d1] 47)) from below_a2 (Below.refl _ _))
  have HK := Lib.hid (boxes2' w 45 47 #[.int .i64 id, .int .i64 al, .int .i64 ah, .slice A n c, .slice B mm d, .slice C l ee, .int .i64 t0, .int .i64 t1, .int .i64 u0, .int .i64 u1, .int .i64 v0, .int .i64 v1, .int .i64 h0, .int .i64 h1] #[.int .i64 fh, .int .i64 st, .int .i64 x0, .int .i64 x1, .int .i64 d0, .int .i64 d1])
  have C1 : Hid (∀ W, Below w.heap.size w W → Calls Tryz.prog 129 #[tv B mm d, .int .i64 uu] W fun e w' => e = .returned (.tuple #[rv pa pb, .int .i64 pe]) ∧ Below W.heap.size W w') := Lib.hid fun W hW => rt_to (at_all B mm d mom uu W hi.2.1.1 hi.2.1.2.1 (hi.2.1.below hW).2.2) hA
  have C2 : Hid (∀ W, Calls Tryz.prog 130 #[rv x0 x1, .int .i64 uu] W fun e w' => e = .returned (.bool t) ∧ Below W.heap.size W w') := Lib.hid fun W => bool_to (has_any x0 x1 uu W) ht
  have b0 : (st == 3) = true := by simp [gs]
  clear hi gs hA ht
  go_enter Tryz.func82, Tryz.ntmps82
  go_upto_region 1 with fail
  obtain ⟨W0, hW0⟩ : ∃ W0, ((w.alloc (.cells #[.int .i64 id, .int .i64 al, .int .i64 ah, .slice A n c, .slice B mm d, .slice C l ee, .int .i64 t0, .int .i64 t1, .int .i64 u0, .int .i64 u1, .int .i64 v0, .int .i64 v1, .int .i64 h0, .int .i64 h1] 45)).alloc (.cells #[.int .i64 fh, .int .i64 st, .int .i64 x0, .int .i64 x1, .int .i64 d0, .int .i64 d1] 47)) = W0 := ⟨_, rfl⟩
  rw [hW0] at HE HK ⊢
  clear hW0
  obtain ⟨G, hG⟩ : ∃ G, w.heap.size = G := ⟨_, rfl⟩
  rw [hG] at HK ⊢
  have HG := Lib.hid hG; clear hG
  have fb := HK.out _ (.head _)
  have fb1 := fb.cell 1
  simp at fb1
  clear fb
  go_upto_region 3 with fail
  clear fb1 b0
  have ha := HK.out _ (.tail _ (.head _))
  have ha4 := ha.cell 4
  simp at ha4
  clear ha
  go_wp2_with fail
  refine (C1.out _ HE.out).mono ?_
  rintro e y2 ⟨rfl, hq⟩
  have HE2 := Lib.hid (below_then (below_then HE.out hq) (below_alloc1 y2 (.cells #[.int .i64 pa, .int .i64 pb] 23))); have HK2 := Lib.hid ((HK.out.on hq).new 23 #[.int .i64 pa, .int .i64 pb])
  clear hq HE HK C1 ha4
  go_upto_region 4 with fail
  obtain ⟨W2, hW⟩ : ∃ W', y2.alloc (.cells #[.int .i64 pa, .int .i64 pb] 23) = W' := ⟨_, rfl⟩
  rw [hW] at HE2 HK2 ⊢
  clear hW
  obtain ⟨N, hN⟩ : ∃ N, y2.heap.size = N := ⟨_, rfl⟩
  rw [hN] at HK2 ⊢
  clear hN
  have fa := HK2.out _ (.tail _ (.head _))
  have fa2 := fa.cell 2
  have fa3 := fa.cell 3
  simp at fa2 fa3
  clear fa
  go_wp2_with fail
  refine (C2.out _).mono ?_
  rintro e w3 ⟨rfl, hq⟩
  have HE3 := Lib.hid (below_then HE2.out hq); have HK3 := Lib.hid (HK2.out.on hq)
  clear hq HE2 HK2 C2 fa2 fa3
  have pq := HK3.out _ (.head _)
  have pq1 := pq.cell 1
  simp at pq1
  clear pq
  cases t
  · go_wp2
    go_ret
    exact ⟨rfl, HE3.out⟩
  · by_cases hm : pb = mo
    · have b1 : (pb == mo) = true := by simp [hm]
      have HB := Lib.hid hm
      clear hm
      go_wp2
      go_ret
      exact ⟨by first | rfl | (rw [b1]; rfl) | simp [b1], HE3.out⟩
    · have b1 : (pb == mo) = false := beq_eq_false_iff_ne.2 hm
      go_wp2
      go_ret
      exact ⟨by first | rfl | (rw [b1]; rfl) | simp [b1], HE3.out⟩

set_option maxRecDepth 100000 in
set_option maxHeartbeats 4000000 in
theorem hCheckWorst_e (vol mom hei : List P3) (id al ah t0 t1 u0 u1 v0 v1 h0 h1 : Int) (A B C : Option Addr) (n c mm d l ee : Nat) (fh st x0 x1 d0 d1 uu mo pa pb pe : Int) (w : World) (hi : HoldIn w ⟨id, al, ah, vol, mom, hei, t0, t1, u0, u1, v0, v1, h0, h1⟩ ⟨A, n, c, B, mm, d, C, l, ee⟩) (hM : tellS ⟨id, al, ah, vol, mom, hei, t0, t1, u0, u1, v0, v1, h0, h1⟩ ⟨fh, st, x0, x1, d0, d1⟩ (momS ⟨id, al, ah, vol, mom, hei, t0, t1, u0, u1, v0, v1, h0, h1⟩ ⟨fh, st, x0, x1, d0, d1⟩) = (pa, pb, pe)) (ge : ¬ pe = 0) :
    Calls Tryz.prog 29 #[.agg #[.int .i64 id, .int .i64 al, .int .i64 ah, .slice A n c, .slice B mm d, .slice C l ee, .int .i64 t0, .int .i64 t1, .int .i64 u0, .int .i64 u1, .int .i64 v0, .int .i64 v1, .int .i64 h0, .int .i64 h1], .agg #[.int .i64 fh, .int .i64 st, .int .i64 x0, .int .i64 x1, .int .i64 d0, .int .i64 d1], .int .i64 uu, .int .i64 mo] w fun e w' => e = .returned (.int .i64 pe) ∧ Below w.heap.size w w' := by
  have HE := Lib.hid (show Below w.heap.size w ((w.alloc (.cells #[.int .i64 id, .int .i64 al, .int .i64 ah, .slice A n c, .slice B mm d, .slice C l ee, .int .i64 t0, .int .i64 t1, .int .i64 u0, .int .i64 u1, .int .i64 v0, .int .i64 v1, .int .i64 h0, .int .i64 h1] 45)).alloc (.cells #[.int .i64 fh, .int .i64 st, .int .i64 x0, .int .i64 x1, .int .i64 d0, .int .i64 d1] 47)) from below_a2 (Below.refl _ _))
  have HK := Lib.hid (boxes2' w 45 47 #[.int .i64 id, .int .i64 al, .int .i64 ah, .slice A n c, .slice B mm d, .slice C l ee, .int .i64 t0, .int .i64 t1, .int .i64 u0, .int .i64 u1, .int .i64 v0, .int .i64 v1, .int .i64 h0, .int .i64 h1] #[.int .i64 fh, .int .i64 st, .int .i64 x0, .int .i64 x1, .int .i64 d0, .int .i64 d1])
  have C1 : Hid (∀ W, Below w.heap.size w W → Calls Tryz.prog 76 #[.agg #[.int .i64 id, .int .i64 al, .int .i64 ah, .slice A n c, .slice B mm d, .slice C l ee, .int .i64 t0, .int .i64 t1, .int .i64 u0, .int .i64 u1, .int .i64 v0, .int .i64 v1, .int .i64 h0, .int .i64 h1], .agg #[.int .i64 fh, .int .i64 st, .int .i64 x0, .int .i64 x1, .int .i64 d0, .int .i64 d1]] W fun e w' => e = .returned (.tuple #[rv pa pb, .int .i64 pe]) ∧ Below W.heap.size W w') := Lib.hid fun W hW => rt_to (hMoment_any ⟨id, al, ah, vol, mom, hei, t0, t1, u0, u1, v0, v1, h0, h1⟩ ⟨A, n, c, B, mm, d, C, l, ee⟩ ⟨fh, st, x0, x1, d0, d1⟩ W (hi.below hW)) hM
  clear hi hM
  go_enter Tryz.func29, Tryz.ntmps29
  go_upto_region 1 with fail
  obtain ⟨W0, hW0⟩ : ∃ W0, ((w.alloc (.cells #[.int .i64 id, .int .i64 al, .int .i64 ah, .slice A n c, .slice B mm d, .slice C l ee, .int .i64 t0, .int .i64 t1, .int .i64 u0, .int .i64 u1, .int .i64 v0, .int .i64 v1, .int .i64 h0, .int .i64 h1] 45)).alloc (.cells #[.int .i64 fh, .int .i64 st, .int .i64 x0, .int .i64 x1, .int .i64 d0, .int .i64 d1] 47)) = W0 := ⟨_, rfl⟩
  rw [hW0] at HE HK ⊢
  clear hW0
  obtain ⟨G, hG⟩ : ∃ G, w.heap.size = G := ⟨_, rfl⟩
  rw [hG] at HK ⊢
  have HG := Lib.hid hG; clear hG
  have ha := HK.out _ (.tail _ (.head _))
  have ha0 := ha.cell 0
  have ha1 := ha.cell 1
  have ha2 := ha.cell 2
  have ha3 := ha.cell 3
  have ha4 := ha.cell 4
  have ha5 := ha.cell 5
  have ha6 := ha.cell 6
  have ha7 := ha.cell 7
  have ha8 := ha.cell 8
  have ha9 := ha.cell 9
  have ha10 := ha.cell 10
  have ha11 := ha.cell 11
  have ha12 := ha.cell 12
  have ha13 := ha.cell 13
  simp at ha0 ha1 ha2 ha3 ha4 ha5 ha6 ha7 ha8 ha9 ha10 ha11 ha12 ha13
  clear ha
  have fa := HK.out _ (.head _)
  have fa0 := fa.cell 0
  have fa1 := fa.cell 1
  have fa2 := fa.cell 2
  have fa3 := fa.cell 3
  have fa4 := fa.cell 4
  have fa5 := fa.cell 5
  simp at fa0 fa1 fa2 fa3 fa4 fa5
  clear fa
  go_wp2_with fail
  refine (C1.out _ HE.out).mono ?_
  rintro e y2 ⟨rfl, hq⟩
  have HE2 := Lib.hid (below_then (below_then HE.out hq) (below_alloc1 y2 (.cells #[.int .i64 pa, .int .i64 pb] 23))); have HK2 := Lib.hid ((HK.out.on hq).new 23 #[.int .i64 pa, .int .i64 pb])
  clear hq HE HK C1 ha0 ha1 ha2 ha3 ha4 ha5 ha6 ha7 ha8 ha9 ha10 ha11 ha12 ha13 fa0 fa1 fa2 fa3 fa4 fa5
  go_upto_region 2 with fail
  obtain ⟨W2, hW⟩ : ∃ W', y2.alloc (.cells #[.int .i64 pa, .int .i64 pb] 23) = W' := ⟨_, rfl⟩
  rw [hW] at HE2 HK2 ⊢
  clear hW
  obtain ⟨N, hN⟩ : ∃ N, y2.heap.size = N := ⟨_, rfl⟩
  rw [hN] at HK2 ⊢
  clear hN
  go_wp2
  go_ret
  exact ⟨rfl, HE2.out⟩

set_option maxRecDepth 100000 in
set_option maxHeartbeats 4000000 in
theorem hCheckWorst_y (vol mom hei : List P3) (id al ah t0 t1 u0 u1 v0 v1 h0 h1 : Int) (A B C : Option Addr) (n c mm d l ee : Nat) (fh st x0 x1 d0 d1 uu mo pa pb pe R : Int) (t : Bool) (w : World) (hi : HoldIn w ⟨id, al, ah, vol, mom, hei, t0, t1, u0, u1, v0, v1, h0, h1⟩ ⟨A, n, c, B, mm, d, C, l, ee⟩) (hM : tellS ⟨id, al, ah, vol, mom, hei, t0, t1, u0, u1, v0, v1, h0, h1⟩ ⟨fh, st, x0, x1, d0, d1⟩ (momS ⟨id, al, ah, vol, mom, hei, t0, t1, u0, u1, v0, v1, h0, h1⟩ ⟨fh, st, x0, x1, d0, d1⟩) = (pa, pb, pe)) (ge : pe = 0) (hR : (if t = true ∧ mo = pb then (0 : Int) else 1) = R) (hW : ∀ W, Below w.heap.size w W → Calls Tryz.prog 82 #[.agg #[.int .i64 id, .int .i64 al, .int .i64 ah, .slice A n c, .slice B mm d, .slice C l ee, .int .i64 t0, .int .i64 t1, .int .i64 u0, .int .i64 u1, .int .i64 v0, .int .i64 v1, .int .i64 h0, .int .i64 h1], .agg #[.int .i64 fh, .int .i64 st, .int .i64 x0, .int .i64 x1, .int .i64 d0, .int .i64 d1], .int .i64 uu, .int .i64 mo] W fun e w' => e = .returned (.bool t) ∧ Below W.heap.size W w') :
    Calls Tryz.prog 29 #[.agg #[.int .i64 id, .int .i64 al, .int .i64 ah, .slice A n c, .slice B mm d, .slice C l ee, .int .i64 t0, .int .i64 t1, .int .i64 u0, .int .i64 u1, .int .i64 v0, .int .i64 v1, .int .i64 h0, .int .i64 h1], .agg #[.int .i64 fh, .int .i64 st, .int .i64 x0, .int .i64 x1, .int .i64 d0, .int .i64 d1], .int .i64 uu, .int .i64 mo] w fun e w' => e = .returned (.int .i64 R) ∧ Below w.heap.size w w' := by
  have HE := Lib.hid (show Below w.heap.size w ((w.alloc (.cells #[.int .i64 id, .int .i64 al, .int .i64 ah, .slice A n c, .slice B mm d, .slice C l ee, .int .i64 t0, .int .i64 t1, .int .i64 u0, .int .i64 u1, .int .i64 v0, .int .i64 v1, .int .i64 h0, .int .i64 h1] 45)).alloc (.cells #[.int .i64 fh, .int .i64 st, .int .i64 x0, .int .i64 x1, .int .i64 d0, .int .i64 d1] 47)) from below_a2 (Below.refl _ _))
  have HK := Lib.hid (boxes2' w 45 47 #[.int .i64 id, .int .i64 al, .int .i64 ah, .slice A n c, .slice B mm d, .slice C l ee, .int .i64 t0, .int .i64 t1, .int .i64 u0, .int .i64 u1, .int .i64 v0, .int .i64 v1, .int .i64 h0, .int .i64 h1] #[.int .i64 fh, .int .i64 st, .int .i64 x0, .int .i64 x1, .int .i64 d0, .int .i64 d1])
  have C1 : Hid (∀ W, Below w.heap.size w W → Calls Tryz.prog 76 #[.agg #[.int .i64 id, .int .i64 al, .int .i64 ah, .slice A n c, .slice B mm d, .slice C l ee, .int .i64 t0, .int .i64 t1, .int .i64 u0, .int .i64 u1, .int .i64 v0, .int .i64 v1, .int .i64 h0, .int .i64 h1], .agg #[.int .i64 fh, .int .i64 st, .int .i64 x0, .int .i64 x1, .int .i64 d0, .int .i64 d1]] W fun e w' => e = .returned (.tuple #[rv pa pb, .int .i64 pe]) ∧ Below W.heap.size W w') := Lib.hid fun W hW => rt_to (hMoment_any ⟨id, al, ah, vol, mom, hei, t0, t1, u0, u1, v0, v1, h0, h1⟩ ⟨A, n, c, B, mm, d, C, l, ee⟩ ⟨fh, st, x0, x1, d0, d1⟩ W (hi.below hW)) hM
  subst ge
  have C2 := Lib.hid hW
  have HR := Lib.hid hR
  clear hi hM hW hR
  go_enter Tryz.func29, Tryz.ntmps29
  go_upto_region 1 with fail
  obtain ⟨W0, hW0⟩ : ∃ W0, ((w.alloc (.cells #[.int .i64 id, .int .i64 al, .int .i64 ah, .slice A n c, .slice B mm d, .slice C l ee, .int .i64 t0, .int .i64 t1, .int .i64 u0, .int .i64 u1, .int .i64 v0, .int .i64 v1, .int .i64 h0, .int .i64 h1] 45)).alloc (.cells #[.int .i64 fh, .int .i64 st, .int .i64 x0, .int .i64 x1, .int .i64 d0, .int .i64 d1] 47)) = W0 := ⟨_, rfl⟩
  rw [hW0] at HE HK ⊢
  clear hW0
  obtain ⟨G, hG⟩ : ∃ G, w.heap.size = G := ⟨_, rfl⟩
  rw [hG] at HK ⊢
  have HG := Lib.hid hG; clear hG
  have ha := HK.out _ (.tail _ (.head _))
  have ha0 := ha.cell 0
  have ha1 := ha.cell 1
  have ha2 := ha.cell 2
  have ha3 := ha.cell 3
  have ha4 := ha.cell 4
  have ha5 := ha.cell 5
  have ha6 := ha.cell 6
  have ha7 := ha.cell 7
  have ha8 := ha.cell 8
  have ha9 := ha.cell 9
  have ha10 := ha.cell 10
  have ha11 := ha.cell 11
  have ha12 := ha.cell 12
  have ha13 := ha.cell 13
  simp at ha0 ha1 ha2 ha3 ha4 ha5 ha6 ha7 ha8 ha9 ha10 ha11 ha12 ha13
  clear ha
  have fa := HK.out _ (.head _)
  have fa0 := fa.cell 0
  have fa1 := fa.cell 1
  have fa2 := fa.cell 2
  have fa3 := fa.cell 3
  have fa4 := fa.cell 4
  have fa5 := fa.cell 5
  simp at fa0 fa1 fa2 fa3 fa4 fa5
  clear fa
  go_wp2_with fail
  refine (C1.out _ HE.out).mono ?_
  rintro e y2 ⟨rfl, hq⟩
  have HE2 := Lib.hid (below_then (below_then HE.out hq) (below_alloc1 y2 (.cells #[.int .i64 pa, .int .i64 pb] 23))); have HK2 := Lib.hid ((HK.out.on hq).new 23 #[.int .i64 pa, .int .i64 pb])
  clear hq HE HK C1 ha0 ha1 ha2 ha3 ha4 ha5 ha6 ha7 ha8 ha9 ha10 ha11 ha12 ha13 fa0 fa1 fa2 fa3 fa4 fa5
  go_upto_region 2 with fail
  obtain ⟨W2, hW⟩ : ∃ W', y2.alloc (.cells #[.int .i64 pa, .int .i64 pb] 23) = W' := ⟨_, rfl⟩
  rw [hW] at HE2 HK2 ⊢
  clear hW
  obtain ⟨N, hN⟩ : ∃ N, y2.heap.size = N := ⟨_, rfl⟩
  rw [hN] at HK2 ⊢
  clear hN
  go_upto_region 4 with fail
  have ha := HK2.out _ (.tail _ (.tail _ (.head _)))
  have ha0 := ha.cell 0
  have ha1 := ha.cell 1
  have ha2 := ha.cell 2
  have ha3 := ha.cell 3
  have ha4 := ha.cell 4
  have ha5 := ha.cell 5
  have ha6 := ha.cell 6
  have ha7 := ha.cell 7
  have ha8 := ha.cell 8
  have ha9 := ha.cell 9
  have ha10 := ha.cell 10
  have ha11 := ha.cell 11
  have ha12 := ha.cell 12
  have ha13 := ha.cell 13
  simp at ha0 ha1 ha2 ha3 ha4 ha5 ha6 ha7 ha8 ha9 ha10 ha11 ha12 ha13
  clear ha
  have fa := HK2.out _ (.tail _ (.head _))
  have fa0 := fa.cell 0
  have fa1 := fa.cell 1
  have fa2 := fa.cell 2
  have fa3 := fa.cell 3
  have fa4 := fa.cell 4
  have fa5 := fa.cell 5
  simp at fa0 fa1 fa2 fa3 fa4 fa5
  clear fa
  go_wp2_with fail
  refine (C2.out _ HE2.out).mono ?_
  rintro e w3 ⟨rfl, hq⟩
  have HE3 := Lib.hid (below_then HE2.out hq); have HK3 := Lib.hid (HK2.out.on hq)
  clear hq HE2 HK2 C2 ha0 ha1 ha2 ha3 ha4 ha5 ha6 ha7 ha8 ha9 ha10 ha11 ha12 ha13 fa0 fa1 fa2 fa3 fa4 fa5
  have pq := HK3.out _ (.head _)
  have pq1 := pq.cell 1
  simp at pq1
  clear pq
  cases t
  · obtain rfl : R = 1 := by rw [← HR.out, if_neg (fun q => absurd q.1 (by decide))]
    clear HR
    go_wp2
    go_ret
    exact ⟨rfl, HE3.out⟩
  · by_cases hm : mo = pb
    · have b1 : (mo == pb) = true := by simp [hm]
      obtain rfl : R = 0 := by rw [← HR.out, if_pos ⟨rfl, hm⟩]
      clear HR
      have HB := Lib.hid hm
      clear hm
      go_wp2
      go_ret
      exact ⟨rfl, HE3.out⟩
    · have b1 : (mo == pb) = false := beq_eq_false_iff_ne.2 hm
      obtain rfl : R = 1 := by rw [← HR.out, if_neg (fun q => hm q.2)]
      clear HR
      go_wp2
      go_ret
      exact ⟨rfl, HE3.out⟩

set_option maxRecDepth 100000 in
set_option maxHeartbeats 4000000 in
theorem sCheckWorst_e (vol mom hei : List P3) (id al ah t0 t1 u0 u1 v0 v1 h0 h1 : Int) (A B C : Option Addr) (n c mm d l ee : Nat) (fh st x0 x1 d0 d1 uu mo wx wt' we : Int) (w : World) (hi : HoldIn w ⟨id, al, ah, vol, mom, hei, t0, t1, u0, u1, v0, v1, h0, h1⟩ ⟨A, n, c, B, mm, d, C, l, ee⟩) (hM : worstW ⟨id, al, ah, vol, mom, hei, t0, t1, u0, u1, v0, v1, h0, h1⟩ ⟨fh, st, x0, x1, d0, d1⟩ = (wx, wt', we)) (ge : ¬ we = 0) :
    Calls Tryz.prog 30 #[.agg #[.int .i64 id, .int .i64 al, .int .i64 ah, .slice A n c, .slice B mm d, .slice C l ee, .int .i64 t0, .int .i64 t1, .int .i64 u0, .int .i64 u1, .int .i64 v0, .int .i64 v1, .int .i64 h0, .int .i64 h1], .agg #[.int .i64 fh, .int .i64 st, .int .i64 x0, .int .i64 x1, .int .i64 d0, .int .i64 d1], .int .i64 uu, .int .i64 mo] w fun e w' => e = .returned (.int .i64 we) ∧ Below w.heap.size w w' := by
  have HE := Lib.hid (show Below w.heap.size w ((w.alloc (.cells #[.int .i64 id, .int .i64 al, .int .i64 ah, .slice A n c, .slice B mm d, .slice C l ee, .int .i64 t0, .int .i64 t1, .int .i64 u0, .int .i64 u1, .int .i64 v0, .int .i64 v1, .int .i64 h0, .int .i64 h1] 45)).alloc (.cells #[.int .i64 fh, .int .i64 st, .int .i64 x0, .int .i64 x1, .int .i64 d0, .int .i64 d1] 47)) from below_a2 (Below.refl _ _))
  have HK := Lib.hid (boxes2' w 45 47 #[.int .i64 id, .int .i64 al, .int .i64 ah, .slice A n c, .slice B mm d, .slice C l ee, .int .i64 t0, .int .i64 t1, .int .i64 u0, .int .i64 u1, .int .i64 v0, .int .i64 v1, .int .i64 h0, .int .i64 h1] #[.int .i64 fh, .int .i64 st, .int .i64 x0, .int .i64 x1, .int .i64 d0, .int .i64 d1])
  have C1 : Hid (∀ W, Below w.heap.size w W → Calls Tryz.prog 28 #[.agg #[.int .i64 id, .int .i64 al, .int .i64 ah, .slice A n c, .slice B mm d, .slice C l ee, .int .i64 t0, .int .i64 t1, .int .i64 u0, .int .i64 u1, .int .i64 v0, .int .i64 v1, .int .i64 h0, .int .i64 h1], .agg #[.int .i64 fh, .int .i64 st, .int .i64 x0, .int .i64 x1, .int .i64 d0, .int .i64 d1]] W fun e w' => e = .returned (it (wx, wt', we)) ∧ Below W.heap.size W w') := Lib.hid fun W hW => by
    have := sWorst_any ⟨id, al, ah, vol, mom, hei, t0, t1, u0, u1, v0, v1, h0, h1⟩ ⟨A, n, c, B, mm, d, C, l, ee⟩ ⟨fh, st, x0, x1, d0, d1⟩ W (hi.below hW)
    rw [hM] at this; exact this
  clear hi hM
  go_enter Tryz.func30, Tryz.ntmps30
  go_upto_region 1 with fail
  obtain ⟨W0, hW0⟩ : ∃ W0, ((w.alloc (.cells #[.int .i64 id, .int .i64 al, .int .i64 ah, .slice A n c, .slice B mm d, .slice C l ee, .int .i64 t0, .int .i64 t1, .int .i64 u0, .int .i64 u1, .int .i64 v0, .int .i64 v1, .int .i64 h0, .int .i64 h1] 45)).alloc (.cells #[.int .i64 fh, .int .i64 st, .int .i64 x0, .int .i64 x1, .int .i64 d0, .int .i64 d1] 47)) = W0 := ⟨_, rfl⟩
  rw [hW0] at HE HK ⊢
  clear hW0
  obtain ⟨G, hG⟩ : ∃ G, w.heap.size = G := ⟨_, rfl⟩
  rw [hG] at HK ⊢
  have HG := Lib.hid hG; clear hG
  have ha := HK.out _ (.tail _ (.head _))
  have ha0 := ha.cell 0
  have ha1 := ha.cell 1
  have ha2 := ha.cell 2
  have ha3 := ha.cell 3
  have ha4 := ha.cell 4
  have ha5 := ha.cell 5
  have ha6 := ha.cell 6
  have ha7 := ha.cell 7
  have ha8 := ha.cell 8
  have ha9 := ha.cell 9
  have ha10 := ha.cell 10
  have ha11 := ha.cell 11
  have ha12 := ha.cell 12
  have ha13 := ha.cell 13
  simp at ha0 ha1 ha2 ha3 ha4 ha5 ha6 ha7 ha8 ha9 ha10 ha11 ha12 ha13
  clear ha
  have fa := HK.out _ (.head _)
  have fa0 := fa.cell 0
  have fa1 := fa.cell 1
  have fa2 := fa.cell 2
  have fa3 := fa.cell 3
  have fa4 := fa.cell 4
  have fa5 := fa.cell 5
  simp at fa0 fa1 fa2 fa3 fa4 fa5
  clear fa
  go_wp2_with fail
  refine (C1.out _ HE.out).mono ?_
  rintro e w2 ⟨rfl, hq⟩
  have HE2 := Lib.hid (below_then HE.out hq); have HK2 := Lib.hid (HK.out.on hq)
  clear hq HE HK C1 ha0 ha1 ha2 ha3 ha4 ha5 ha6 ha7 ha8 ha9 ha10 ha11 ha12 ha13 fa0 fa1 fa2 fa3 fa4 fa5
  go_wp2
  go_ret
  exact ⟨rfl, HE2.out⟩

set_option maxRecDepth 100000 in
set_option maxHeartbeats 4000000 in
theorem sCheckWorst_n (vol mom hei : List P3) (id al ah t0 t1 u0 u1 v0 v1 h0 h1 : Int) (A B C : Option Addr) (n c mm d l ee : Nat) (fh st x0 x1 d0 d1 uu mo wx wt' we R : Int) (w : World) (hi : HoldIn w ⟨id, al, ah, vol, mom, hei, t0, t1, u0, u1, v0, v1, h0, h1⟩ ⟨A, n, c, B, mm, d, C, l, ee⟩) (hM : worstW ⟨id, al, ah, vol, mom, hei, t0, t1, u0, u1, v0, v1, h0, h1⟩ ⟨fh, st, x0, x1, d0, d1⟩ = (wx, wt', we)) (ge : we = 0) (gs : ¬ st = 3) (hR : (if uu = wx ∧ mo = wt' then (0 : Int) else 1) = R) :
    Calls Tryz.prog 30 #[.agg #[.int .i64 id, .int .i64 al, .int .i64 ah, .slice A n c, .slice B mm d, .slice C l ee, .int .i64 t0, .int .i64 t1, .int .i64 u0, .int .i64 u1, .int .i64 v0, .int .i64 v1, .int .i64 h0, .int .i64 h1], .agg #[.int .i64 fh, .int .i64 st, .int .i64 x0, .int .i64 x1, .int .i64 d0, .int .i64 d1], .int .i64 uu, .int .i64 mo] w fun e w' => e = .returned (.int .i64 R) ∧ Below w.heap.size w w' := by
  have HE := Lib.hid (show Below w.heap.size w ((w.alloc (.cells #[.int .i64 id, .int .i64 al, .int .i64 ah, .slice A n c, .slice B mm d, .slice C l ee, .int .i64 t0, .int .i64 t1, .int .i64 u0, .int .i64 u1, .int .i64 v0, .int .i64 v1, .int .i64 h0, .int .i64 h1] 45)).alloc (.cells #[.int .i64 fh, .int .i64 st, .int .i64 x0, .int .i64 x1, .int .i64 d0, .int .i64 d1] 47)) from below_a2 (Below.refl _ _))
  have HK := Lib.hid (boxes2' w 45 47 #[.int .i64 id, .int .i64 al, .int .i64 ah, .slice A n c, .slice B mm d, .slice C l ee, .int .i64 t0, .int .i64 t1, .int .i64 u0, .int .i64 u1, .int .i64 v0, .int .i64 v1, .int .i64 h0, .int .i64 h1] #[.int .i64 fh, .int .i64 st, .int .i64 x0, .int .i64 x1, .int .i64 d0, .int .i64 d1])
  have C1 : Hid (∀ W, Below w.heap.size w W → Calls Tryz.prog 28 #[.agg #[.int .i64 id, .int .i64 al, .int .i64 ah, .slice A n c, .slice B mm d, .slice C l ee, .int .i64 t0, .int .i64 t1, .int .i64 u0, .int .i64 u1, .int .i64 v0, .int .i64 v1, .int .i64 h0, .int .i64 h1], .agg #[.int .i64 fh, .int .i64 st, .int .i64 x0, .int .i64 x1, .int .i64 d0, .int .i64 d1]] W fun e w' => e = .returned (it (wx, wt', we)) ∧ Below W.heap.size W w') := Lib.hid fun W hW => by
    have := sWorst_any ⟨id, al, ah, vol, mom, hei, t0, t1, u0, u1, v0, v1, h0, h1⟩ ⟨A, n, c, B, mm, d, C, l, ee⟩ ⟨fh, st, x0, x1, d0, d1⟩ W (hi.below hW)
    rw [hM] at this; exact this
  subst ge
  have HR := Lib.hid hR
  clear hR
  have b0 : (st == 3) = false := beq_eq_false_iff_ne.2 gs
  clear hi hM gs
  go_enter Tryz.func30, Tryz.ntmps30
  go_upto_region 1 with fail
  obtain ⟨W0, hW0⟩ : ∃ W0, ((w.alloc (.cells #[.int .i64 id, .int .i64 al, .int .i64 ah, .slice A n c, .slice B mm d, .slice C l ee, .int .i64 t0, .int .i64 t1, .int .i64 u0, .int .i64 u1, .int .i64 v0, .int .i64 v1, .int .i64 h0, .int .i64 h1] 45)).alloc (.cells #[.int .i64 fh, .int .i64 st, .int .i64 x0, .int .i64 x1, .int .i64 d0, .int .i64 d1] 47)) = W0 := ⟨_, rfl⟩
  rw [hW0] at HE HK ⊢
  clear hW0
  obtain ⟨G, hG⟩ : ∃ G, w.heap.size = G := ⟨_, rfl⟩
  rw [hG] at HK ⊢
  have HG := Lib.hid hG; clear hG
  have ha := HK.out _ (.tail _ (.head _))
  have ha0 := ha.cell 0
  have ha1 := ha.cell 1
  have ha2 := ha.cell 2
  have ha3 := ha.cell 3
  have ha4 := ha.cell 4
  have ha5 := ha.cell 5
  have ha6 := ha.cell 6
  have ha7 := ha.cell 7
  have ha8 := ha.cell 8
  have ha9 := ha.cell 9
  have ha10 := ha.cell 10
  have ha11 := ha.cell 11
  have ha12 := ha.cell 12
  have ha13 := ha.cell 13
  simp at ha0 ha1 ha2 ha3 ha4 ha5 ha6 ha7 ha8 ha9 ha10 ha11 ha12 ha13
  clear ha
  have fa := HK.out _ (.head _)
  have fa0 := fa.cell 0
  have fa1 := fa.cell 1
  have fa2 := fa.cell 2
  have fa3 := fa.cell 3
  have fa4 := fa.cell 4
  have fa5 := fa.cell 5
  simp at fa0 fa1 fa2 fa3 fa4 fa5
  clear fa
  go_wp2_with fail
  refine (C1.out _ HE.out).mono ?_
  rintro e w2 ⟨rfl, hq⟩
  have HE2 := Lib.hid (below_then HE.out hq); have HK2 := Lib.hid (HK.out.on hq)
  clear hq HE HK C1 ha0 ha1 ha2 ha3 ha4 ha5 ha6 ha7 ha8 ha9 ha10 ha11 ha12 ha13 fa0 fa1 fa2 fa3 fa4 fa5
  have fa := HK2.out _ (.head _)
  have fa1 := fa.cell 1
  simp at fa1
  clear fa
  by_cases gz1 : uu = wx
  · have b1 : (uu == wx) = true := by simp [gz1]
    by_cases gz2 : mo = wt'
    · have b2 : (mo == wt') = true := by simp [gz2]
      obtain rfl : R = 0 := by rw [← HR.out, if_pos ⟨gz1, gz2⟩]
      clear HR
      have H1 := Lib.hid gz1
      have H2 := Lib.hid gz2
      clear gz1 gz2
      go_wp2
      go_ret
      exact ⟨rfl, HE2.out⟩
    · have b2 : (mo == wt') = false := beq_eq_false_iff_ne.2 gz2
      obtain rfl : R = 1 := by rw [← HR.out, if_neg (fun q => gz2 q.2)]
      clear HR
      have H1 := Lib.hid gz1
      clear gz1
      go_wp2
      go_ret
      exact ⟨rfl, HE2.out⟩
  · have b1 : (uu == wx) = false := beq_eq_false_iff_ne.2 gz1
    obtain rfl : R = 1 := by rw [← HR.out, if_neg (fun q => gz1 q.1)]
    clear HR
    go_wp2
    go_ret
    exact ⟨rfl, HE2.out⟩

set_option maxRecDepth 100000 in
set_option maxHeartbeats 4000000 in
theorem sCheckWorst_y (vol mom hei : List P3) (id al ah t0 t1 u0 u1 v0 v1 h0 h1 : Int) (A B C : Option Addr) (n c mm d l ee : Nat) (fh st x0 x1 d0 d1 uu mo wx wt' we R : Int) (w : World) (hi : HoldIn w ⟨id, al, ah, vol, mom, hei, t0, t1, u0, u1, v0, v1, h0, h1⟩ ⟨A, n, c, B, mm, d, C, l, ee⟩) (hM : worstW ⟨id, al, ah, vol, mom, hei, t0, t1, u0, u1, v0, v1, h0, h1⟩ ⟨fh, st, x0, x1, d0, d1⟩ = (wx, wt', we)) (ge : we = 0) (hR : (if (x0 ≤ uu ∧ uu ≤ x1) ∧ mo = wt' ∧ (atS mom uu).2 = wt' then (0 : Int) else 1) = R) (gs : st = 3) (ht : tabOk mom = true) (r1 : firstX mom ≤ x0) (r2 : x1 ≤ lastX mom) :
    Calls Tryz.prog 30 #[.agg #[.int .i64 id, .int .i64 al, .int .i64 ah, .slice A n c, .slice B mm d, .slice C l ee, .int .i64 t0, .int .i64 t1, .int .i64 u0, .int .i64 u1, .int .i64 v0, .int .i64 v1, .int .i64 h0, .int .i64 h1], .agg #[.int .i64 fh, .int .i64 st, .int .i64 x0, .int .i64 x1, .int .i64 d0, .int .i64 d1], .int .i64 uu, .int .i64 mo] w fun e w' => e = .returned (.int .i64 R) ∧ Below w.heap.size w w' := by
  have HE := Lib.hid (show Below w.heap.size w ((w.alloc (.cells #[.int .i64 id, .int .i64 al, .int .i64 ah, .slice A n c, .slice B mm d, .slice C l ee, .int .i64 t0, .int .i64 t1, .int .i64 u0, .int .i64 u1, .int .i64 v0, .int .i64 v1, .int .i64 h0, .int .i64 h1] 45)).alloc (.cells #[.int .i64 fh, .int .i64 st, .int .i64 x0, .int .i64 x1, .int .i64 d0, .int .i64 d1] 47)) from below_a2 (Below.refl _ _))
  have HK := Lib.hid (boxes2' w 45 47 #[.int .i64 id, .int .i64 al, .int .i64 ah, .slice A n c, .slice B mm d, .slice C l ee, .int .i64 t0, .int .i64 t1, .int .i64 u0, .int .i64 u1, .int .i64 v0, .int .i64 v1, .int .i64 h0, .int .i64 h1] #[.int .i64 fh, .int .i64 st, .int .i64 x0, .int .i64 x1, .int .i64 d0, .int .i64 d1])
  have C1 : Hid (∀ W, Below w.heap.size w W → Calls Tryz.prog 28 #[.agg #[.int .i64 id, .int .i64 al, .int .i64 ah, .slice A n c, .slice B mm d, .slice C l ee, .int .i64 t0, .int .i64 t1, .int .i64 u0, .int .i64 u1, .int .i64 v0, .int .i64 v1, .int .i64 h0, .int .i64 h1], .agg #[.int .i64 fh, .int .i64 st, .int .i64 x0, .int .i64 x1, .int .i64 d0, .int .i64 d1]] W fun e w' => e = .returned (it (wx, wt', we)) ∧ Below W.heap.size W w') := Lib.hid fun W hW => by
    have := sWorst_any ⟨id, al, ah, vol, mom, hei, t0, t1, u0, u1, v0, v1, h0, h1⟩ ⟨A, n, c, B, mm, d, C, l, ee⟩ ⟨fh, st, x0, x1, d0, d1⟩ W (hi.below hW)
    rw [hM] at this; exact this
  subst ge
  have HR := Lib.hid hR
  clear hR
  have b0 : (st == 3) = true := by simp [gs]
  have C2 : Hid (∀ t W, decide (x0 ≤ uu ∧ uu ≤ x1) = t → Calls Tryz.prog 50 #[.int .i64 uu, .int .i64 x0, .int .i64 x1] W fun e w' => e = .returned (.bool t) ∧ Below W.heap.size W w') := Lib.hid fun t W h => between_to uu x0 x1 t W h
  have C3 : Hid (∀ W, x0 ≤ uu → uu ≤ x1 → Below w.heap.size w W → Calls Tryz.prog 81 #[tv B mm d, .int .i64 uu] W fun e w' => e = .returned (rv (atS mom uu).1 (atS mom uu).2) ∧ Below W.heap.size W w') := Lib.hid fun W p1 p2 hW => sat_tab B mm d mom uu W (hi.2.1.below hW) ht (by omega) (by omega)
  clear hi hM gs ht r1 r2
  go_enter Tryz.func30, Tryz.ntmps30
  go_upto_region 1 with fail
  obtain ⟨W0, hW0⟩ : ∃ W0, ((w.alloc (.cells #[.int .i64 id, .int .i64 al, .int .i64 ah, .slice A n c, .slice B mm d, .slice C l ee, .int .i64 t0, .int .i64 t1, .int .i64 u0, .int .i64 u1, .int .i64 v0, .int .i64 v1, .int .i64 h0, .int .i64 h1] 45)).alloc (.cells #[.int .i64 fh, .int .i64 st, .int .i64 x0, .int .i64 x1, .int .i64 d0, .int .i64 d1] 47)) = W0 := ⟨_, rfl⟩
  rw [hW0] at HE HK ⊢
  clear hW0
  obtain ⟨G, hG⟩ : ∃ G, w.heap.size = G := ⟨_, rfl⟩
  rw [hG] at HK ⊢
  have HG := Lib.hid hG; clear hG
  have ha := HK.out _ (.tail _ (.head _))
  have ha0 := ha.cell 0
  have ha1 := ha.cell 1
  have ha2 := ha.cell 2
  have ha3 := ha.cell 3
  have ha4 := ha.cell 4
  have ha5 := ha.cell 5
  have ha6 := ha.cell 6
  have ha7 := ha.cell 7
  have ha8 := ha.cell 8
  have ha9 := ha.cell 9
  have ha10 := ha.cell 10
  have ha11 := ha.cell 11
  have ha12 := ha.cell 12
  have ha13 := ha.cell 13
  simp at ha0 ha1 ha2 ha3 ha4 ha5 ha6 ha7 ha8 ha9 ha10 ha11 ha12 ha13
  clear ha
  have fa := HK.out _ (.head _)
  have fa0 := fa.cell 0
  have fa1 := fa.cell 1
  have fa2 := fa.cell 2
  have fa3 := fa.cell 3
  have fa4 := fa.cell 4
  have fa5 := fa.cell 5
  simp at fa0 fa1 fa2 fa3 fa4 fa5
  clear fa
  go_wp2_with fail
  refine (C1.out _ HE.out).mono ?_
  rintro e w2 ⟨rfl, hq⟩
  have HE2 := Lib.hid (below_then HE.out hq); have HK2 := Lib.hid (HK.out.on hq)
  clear hq HE HK C1 ha0 ha1 ha2 ha3 ha4 ha5 ha6 ha7 ha8 ha9 ha10 ha11 ha12 ha13 fa0 fa1 fa2 fa3 fa4 fa5
  have fb := HK2.out _ (.head _)
  have fb1 := fb.cell 1
  simp at fb1
  clear fb
  go_upto_region 8 with fail
  clear fb1 b0
  have fa := HK2.out _ (.head _)
  have fa2 := fa.cell 2
  have fa3 := fa.cell 3
  simp at fa2 fa3
  clear fa
  by_cases gz1 : x0 ≤ uu ∧ uu ≤ x1
  rotate_left
  · have D2 := Lib.hid (fun W => C2.out false W (decide_eq_false gz1))
    obtain rfl : R = 1 := by rw [← HR.out, if_neg (fun q => gz1 q.1)]
    clear C2 C3 gz1 HR
    go_wp2_with fail
    refine (D2.out _).mono ?_
    rintro e w3 ⟨rfl, hq⟩
    have HE3 := Lib.hid (below_then HE2.out hq)
    clear hq
    go_wp2
    go_ret
    exact ⟨rfl, HE3.out⟩
  have D2 := Lib.hid (fun W => C2.out true W (decide_eq_true gz1))
  have D3 := Lib.hid (fun W hW => C3.out W gz1.1 gz1.2 hW)
  clear C2 C3
  by_cases gz2 : mo = wt'
  rotate_left
  · have b2 : (mo == wt') = false := beq_eq_false_iff_ne.2 gz2
    have b2' : (mo != wt') = true := bne_iff_ne.2 gz2
    obtain rfl : R = 1 := by rw [← HR.out, if_neg (fun q => gz2 q.2.1)]
    clear D3 gz1 gz2 HR
    go_wp2_with fail
    refine (D2.out _).mono ?_
    rintro e w3 ⟨rfl, hq⟩
    have HE3 := Lib.hid (below_then HE2.out hq)
    clear hq
    go_wp2
    go_ret
    exact ⟨rfl, HE3.out⟩
  have b2 : (mo == wt') = true := by simp [gz2]
  have b2' : (mo != wt') = false := by simp [gz2]
  obtain ⟨⟨av1, av2⟩, hav⟩ : ∃ v, atS mom uu = v := ⟨_, rfl⟩
  rw [hav] at D3 HR
  clear hav
  dsimp only at D3 HR
  have HG1 := Lib.hid gz1
  have HG2 := Lib.hid gz2
  clear gz1 gz2
  go_wp2_with fail
  refine (D2.out _).mono ?_
  rintro e w3 ⟨rfl, hq⟩
  have HE3 := Lib.hid (below_then HE2.out hq); have HK3 := Lib.hid (HK2.out.on hq)
  clear hq HE2 HK2 D2 fa2 fa3
  have ha := HK3.out _ (.tail _ (.head _))
  have ha4 := ha.cell 4
  simp at ha4
  clear ha
  go_wp2_with fail
  refine (D3.out _ HE3.out).mono ?_
  rintro e w4 ⟨rfl, hq⟩
  have HE4 := Lib.hid (below_then HE3.out hq)
  clear hq HE3 HK3 D3 ha4
  by_cases gz3 : av2 = wt'
  · have b3 : (av2 == wt') = true := by simp [gz3]
    have b3' : (av2 != wt') = false := by simp [gz3]
    obtain rfl : R = 0 := by rw [← HR.out, if_pos ⟨HG1.out, HG2.out, gz3⟩]
    clear HR
    have HG3 := Lib.hid gz3
    clear gz3
    go_wp2
    go_ret
    exact ⟨rfl, HE4.out⟩
  · have b3 : (av2 == wt') = false := beq_eq_false_iff_ne.2 gz3
    have b3' : (av2 != wt') = true := bne_iff_ne.2 gz3
    obtain rfl : R = 1 := by rw [← HR.out, if_neg (fun q => gz3 q.2.2)]
    clear HR
    go_wp2
    go_ret
    exact ⟨rfl, HE4.out⟩
end

end Go.Proofs.YtbcefdaflnlhoaaGreat
