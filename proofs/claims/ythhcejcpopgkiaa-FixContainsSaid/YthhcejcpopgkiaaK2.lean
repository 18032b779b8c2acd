/- The walk of FixContains (the law package): it returns true. Its condition: the numbers are those of ints. -/
import Derived.Test.YthhcejcpopgkiaaK0
import Derived.Test.YthhcejcpopgkiaaK1
import Derived.Test.YthhcejcpopgkiaaF1
set_option linter.unusedVariables false
set_option linter.unusedSimpArgs false
set_option linter.constructorNameAsVariable false
namespace Go.Proofs.Ythhcejcpopgkiaa
open Go.RowKit
attribute [local go_sem ↓] eqlRange neqRange run_minI run_maxI

def I64 (x : Int) : Prop := -9223372036854775808 ≤ x ∧ x ≤ 9223372036854775807

set_option maxRecDepth 100000 in
set_option maxHeartbeats 8000000 in
theorem fixContains_walk (x0 x1 x2 x3 x4 x5 n d : Int) (hx0 : I64 x0) (hx1 : I64 x1) (hx2 : I64 x2) (hx3 : I64 x3) (hx4 : I64 x4) (hx5 : I64 x5) (hn : I64 n) (hd : I64 d) (w : World) :
    Calls Try.prog 4 #[.agg #[.int .i64 x0, .int .i64 x1, .int .i64 x2, .int .i64 x3, .int .i64 x4, .int .i64 x5], .int .i64 n, .int .i64 d] w fun e w' => e = .returned (.bool true) ∧ Below w.heap.size w w' := by
  obtain ⟨⟨al, ah, u⟩, hs1⟩ : ∃ r, smallS x0 x1 x2 = r := ⟨_, rfl⟩
  obtain ⟨⟨bl, bh, v⟩, hs2⟩ : ∃ r, smallS x3 x4 x5 = r := ⟨_, rfl⟩
  have i1 := smallS_in x0 x1 x2
  have i2 := smallS_in x3 x4 x5
  rw [hs1] at i1
  rw [hs2] at i2
  dsimp only at i1 i2
  obtain ⟨i11, i12, i13, i14⟩ := i1
  obtain ⟨i21, i22, i23, i24⟩ := i2
  obtain ⟨fn, hfn⟩ : ∃ r, fewS n = r := ⟨_, rfl⟩
  obtain ⟨fd, hfd⟩ : ∃ r, fewS d = r := ⟨_, rfl⟩
  have bfn := fewS_in n
  have bfd := fewS_in d
  rw [hfn] at bfn
  rw [hfd] at bfd
  have C1 : Hid (∀ W, Calls Try.prog 33 #[.int .i64 x0, .int .i64 x1, .int .i64 x2] W fun e w' => e = .returned (.tuple #[rv al ah, .int .i64 u]) ∧ Below W.heap.size W w') :=
    Lib.hid fun W => rt_to (small_any x0 x1 x2 W hx0.1 hx0.2 hx1.1 hx1.2 hx2.1 hx2.2) hs1
  have C2 : Hid (∀ W, Calls Try.prog 33 #[.int .i64 x3, .int .i64 x4, .int .i64 x5] W fun e w' => e = .returned (.tuple #[rv bl bh, .int .i64 v]) ∧ Below W.heap.size W w') :=
    Lib.hid fun W => rt_to (small_any x3 x4 x5 W hx3.1 hx3.2 hx4.1 hx4.2 hx5.1 hx5.2) hs2
  have CN : Hid (∀ W, Calls Try.prog 34 #[.int .i64 n] W fun e w' => e = .returned (.int .i64 fn) ∧ W = w') := Lib.hid fun W => few_to n fn W hn.1 hn.2 hfn
  have CD : Hid (∀ W, Calls Try.prog 34 #[.int .i64 d] W fun e w' => e = .returned (.int .i64 fd) ∧ W = w') := Lib.hid fun W => few_to d fd W hd.1 hd.2 hfd
  clear hs1 hs2 hfn hfd hx0 hx1 hx2 hx3 hx4 hx5 hn hd
  obtain ⟨N, hN⟩ : ∃ r, fn.tmod 1001 = r := ⟨_, rfl⟩
  have bN1 := Int.tmod_lt_of_pos fn (show (0 : Int) < 1001 by omega)
  have bN2 : -1001 < fn.tmod 1001 := Int.lt_tmod_of_pos fn (by omega)
  rw [hN] at bN1 bN2
  obtain ⟨M, hM⟩ : ∃ r, max fd (-fd) = r := ⟨_, rfl⟩
  obtain ⟨R, hR⟩ : ∃ r, M.tmod 1000 = r := ⟨_, rfl⟩
  have bR1 := Int.tmod_lt_of_pos M (show (0 : Int) < 1000 by omega)
  have bR2 : 0 ≤ M.tmod 1000 := Int.tmod_nonneg 1000 (by omega)
  rw [hR] at bR1 bR2
  obtain ⟨D, hD⟩ : ∃ r, 1 + R = r := ⟨_, rfl⟩
  have q1 : IntKind.i64.wrap N = N := IntWalk.i64_in _ ⟨by omega, by omega⟩
  have q2 : IntKind.i64.wrap (-fd) = -fd := IntWalk.i64_in _ ⟨by omega, by omega⟩
  have q3 : IntKind.i64.wrap R = R := IntWalk.i64_in _ ⟨by omega, by omega⟩
  have q4 : IntKind.i64.wrap (1 + R) = D := by rw [IntWalk.i64_in _ ⟨by omega, by omega⟩]; exact hD
  have bth := both_yes (a := al) (b := ah) (c := bl) (d := bh) (by omega) (by omega) (by omega) (by omega) (by omega) (by omega)
  obtain ⟨S, w1⟩ : ∃ r, IntKind.i64.wrap (u + v) = r := ⟨_, rfl⟩
  obtain ⟨T, w2⟩ : ∃ r, IntKind.i64.wrap (u - v) = r := ⟨_, rfl⟩
  obtain ⟨Q, w3⟩ : ∃ r, IntKind.i64.wrap (u * v) = r := ⟨_, rfl⟩
  have puv := mul_between2 u v 1000000 1000000 (by omega) (by omega) (by omega) (by omega)
  have eS : u + v = S := by rw [← w1, IntWalk.i64_in _ ⟨by omega, by omega⟩]
  have eT : u - v = T := by rw [← w2, IntWalk.i64_in _ ⟨by omega, by omega⟩]
  have eQ : u * v = Q := by rw [← w3, IntWalk.i64_in _ ⟨by omega, by omega⟩]
  obtain ⟨p1, hp1⟩ : ∃ r, al + bl = r := ⟨_, rfl⟩
  obtain ⟨p2, hp2⟩ : ∃ r, ah + bh = r := ⟨_, rfl⟩
  have a1 : addS al ah bl bh = (p1, p2, 0) := by unfold addS; rw [twoS_yes bth, bigS_yes (by omega) (by omega) (by omega), hp1, hp2]
  have t1 : hasS p1 p2 S = true := has_yes (by omega) (by omega) (by omega) (by omega)
  obtain ⟨o1, ho1⟩ : ∃ r, al - bh = r := ⟨_, rfl⟩
  obtain ⟨o2, ho2⟩ : ∃ r, ah - bl = r := ⟨_, rfl⟩
  have a2 : subS al ah bl bh = (o1, o2, 0) := by unfold subS; rw [twoS_yes bth, bigS_yes (by omega) (by omega) (by omega), ho1, ho2]
  have t2 : hasS o1 o2 T = true := has_yes (by omega) (by omega) (by omega) (by omega)
  obtain ⟨r1, r2, a3, t3⟩ := mul_ranges (a := al) (b := ah) (c := bl) (d := bh) (u := u) (v := v) (by omega) (by omega) (by omega) (by omega) (by omega) (by omega) (by omega) (by omega)
  rw [eQ] at t3
  obtain ⟨s1, s2, a4, k1, k2, k3, k4, k5, k6⟩ := scale_ranges (a := al) (b := ah) (u := u) (n := N) (d := D) (by omega) (by omega) (by omega) (by omega) (by omega) (by omega) (by omega) (by omega)
  have puN := mul_between2 u N 1000000 1000 (by omega) (by omega) (by omega) (by omega)
  obtain ⟨X1, y1⟩ : ∃ r, IntKind.i64.wrap (s1 * D) = r := ⟨_, rfl⟩
  obtain ⟨X2, y2⟩ : ∃ r, IntKind.i64.wrap (u * N) = r := ⟨_, rfl⟩
  obtain ⟨X3, y3⟩ : ∃ r, IntKind.i64.wrap (s2 * D) = r := ⟨_, rfl⟩
  have e1 : s1 * D = X1 := by rw [← y1, IntWalk.i64_in _ ⟨by omega, by omega⟩]
  have e2 : u * N = X2 := by rw [← y2, IntWalk.i64_in _ ⟨by omega, by omega⟩]
  have e3 : s2 * D = X3 := by rw [← y3, IntWalk.i64_in _ ⟨by omega, by omega⟩]
  have c1 : ¬ X2 < X1 := by omega
  have c2 : ¬ X3 < X2 := by omega
  obtain ⟨g1, hg1⟩ : ∃ r, min al bl = r := ⟨_, rfl⟩
  obtain ⟨g2, hg2⟩ : ∃ r, max ah bh = r := ⟨_, rfl⟩
  have a5 : hullS al ah bl bh = (g1, g2, 0) := by unfold hullS; rw [twoS_yes bth, hg1, hg2]
  have t4 : hasS g1 g2 u = true := has_yes (by omega) (by omega) (by omega) (by omega)
  have t5 : hasS g1 g2 v = true := has_yes (by omega) (by omega) (by omega) (by omega)
  have t6 : hasS al ah u = true := has_yes (by omega) (by omega) (by omega) (by omega)
  have hm := meet_ranges (a := al) (b := ah) (c := bl) (d := bh) (u := u) (by omega) (by omega) (by omega) (by omega) (by omega) (by omega) (by omega)
  obtain ⟨⟨m1, m2, em⟩, a6⟩ : ∃ r, meetS al ah bl bh = r := ⟨_, rfl⟩
  obtain ⟨tb, htb⟩ : ∃ r, hasS bl bh u = r := ⟨_, rfl⟩
  obtain ⟨tm, htm⟩ : ∃ r, hasS m1 m2 u = r := ⟨_, rfl⟩
  have hcase : (em = 0 ∧ tb = true ∧ tm = true) ∨ (em = 0 ∧ tb = false ∧ tm = false) ∨ (em = 3 ∧ tb = false) := by
    rcases hm with ⟨lo, hi, h1, h2, h3⟩ | ⟨lo, hi, h1, h2, h3⟩ | ⟨h1, h2⟩
    · rw [a6] at h1; simp only [Prod.mk.injEq] at h1; obtain ⟨rfl, rfl, rfl⟩ := h1
      exact .inl ⟨rfl, htb.symm.trans h2, htm.symm.trans h3⟩
    · rw [a6] at h1; simp only [Prod.mk.injEq] at h1; obtain ⟨rfl, rfl, rfl⟩ := h1
      exact .inr (.inl ⟨rfl, htb.symm.trans h2, htm.symm.trans h3⟩)
    · rw [a6] at h1; simp only [Prod.mk.injEq] at h1
      exact .inr (.inr ⟨h1.2.2, htb.symm.trans h2⟩)
  have HC := Lib.hid (And.intro hcase (And.intro htb htm))
  have HA := Lib.hid (And.intro a1 (And.intro a2 (And.intro a3 (And.intro a4 (And.intro a5 a6)))))
  have HT := Lib.hid (And.intro t1 (And.intro t2 (And.intro t3 (And.intro t4 (And.intro t5 t6)))))
  clear hcase htb htm hm a1 a2 a3 a4 a5 a6 t1 t2 t3 t4 t5 t6 e1 e2 e3 k1 k2 k3 k4 k5 k6 puN puv eS eT eQ hp1 hp2 ho1 ho2 hg1 hg2 bth hD bR1 bR2 bN1 bN2 bfn bfd i11 i12 i13 i14 i21 i22 i23 i24
  have hK : Boxes (w.alloc (.cells #[.int .i64 x0, .int .i64 x1, .int .i64 x2, .int .i64 x3, .int .i64 x4, .int .i64 x5] 36)) [(w.heap.size, 36, #[.int .i64 x0, .int .i64 x1, .int .i64 x2, .int .i64 x3, .int .i64 x4, .int .i64 x5])] := fun p hp => by
    have := List.mem_singleton.1 hp; subst this; exact Blk.new w _ _
  have HK0 := Lib.hid hK; clear hK
  have HE0 := Lib.hid (below_alloc1 w (.cells #[.int .i64 x0, .int .i64 x1, .int .i64 x2, .int .i64 x3, .int .i64 x4, .int .i64 x5] 36))
  go_enter Try.func4, Try.ntmps4
  go_wp2_with fail
  obtain ⟨A, hA⟩ : ∃ A, w.heap.size = A := ⟨_, rfl⟩
  obtain ⟨W0, hW⟩ : ∃ W, w.alloc (.cells #[.int .i64 x0, .int .i64 x1, .int .i64 x2, .int .i64 x3, .int .i64 x4, .int .i64 x5] 36) = W := ⟨_, rfl⟩
  rw [hW] at HK0 HE0 ⊢
  rw [hA] at HK0 ⊢
  clear hW
  -- 1
  refine (C1.out W0).mono ?_
  rintro e V ⟨rfl, hb⟩
  have HK := Lib.hid (HK0.out.on hb); have HE := Lib.hid (below_then HE0.out hb)
  clear hb HK0 HE0
  have z0 := (HK.out _ (.head _)).cell 0
  have z1 := (HK.out _ (.head _)).cell 1
  have z2 := (HK.out _ (.head _)).cell 2
  have z3 := (HK.out _ (.head _)).cell 3
  have z4 := (HK.out _ (.head _)).cell 4
  have z5 := (HK.out _ (.head _)).cell 5
  have lA := (HK.out _ (.head _)).lt
  simp at z0 z1 z2 z3 z4 z5 lA
  have HK1 := Lib.hid (HK.out.new 23 #[.int .i64 al, .int .i64 ah]); have HE1 := Lib.hid (below_then HE.out (below_alloc1 V (.cells #[.int .i64 al, .int .i64 ah] 23)))
  clear HK HE
  go_wp2_with fail
  obtain ⟨B1, hB⟩ : ∃ B, V.heap.size = B := ⟨_, rfl⟩
  obtain ⟨W1, hW⟩ : ∃ W, V.alloc (.cells #[.int .i64 al, .int .i64 ah] 23) = W := ⟨_, rfl⟩
  rw [hW] at HK1 HE1 ⊢
  rw [hB] at HK1 ⊢
  clear hW hB V z0 z1 z2 z3 z4 z5 lA
  -- 2
  refine (C2.out W1).mono ?_
  rintro e V ⟨rfl, hb⟩
  have HK := Lib.hid (HK1.out.on hb); have HE := Lib.hid (below_then HE1.out hb)
  clear hb HK1 HE1
  have f1 := (HK.out _ (.head _)).cell 0; have h1 := (HK.out _ (.head _)).cell 1; have l1 := (HK.out _ (.head _)).lt
  simp at f1 h1 l1
  have HK2 := Lib.hid (HK.out.new 23 #[.int .i64 bl, .int .i64 bh]); have HE2 := Lib.hid (below_then HE.out (below_alloc1 V (.cells #[.int .i64 bl, .int .i64 bh] 23)))
  clear HK HE
  go_wp2_with fail
  refine (CN.out _).mono ?_
  rintro e V2 ⟨rfl, rfl⟩
  go_wp2_with fail
  refine (CD.out _).mono ?_
  rintro e V2 ⟨rfl, rfl⟩
  go_wp2_with fail
  refine (CD.out _).mono ?_
  rintro e V2 ⟨rfl, rfl⟩
  have f2 := (HK2.out _ (.head _)).cell 0; have h2 := (HK2.out _ (.head _)).cell 1
  simp at f2 h2
  go_wp2_with fail
  obtain ⟨B2, hB⟩ : ∃ B, V.heap.size = B := ⟨_, rfl⟩
  obtain ⟨W2, hW⟩ : ∃ W, V.alloc (.cells #[.int .i64 bl, .int .i64 bh] 23) = W := ⟨_, rfl⟩
  rw [hW] at HK2 HE2 ⊢
  rw [hB] at HK2 ⊢
  clear hW hB V f1 h1 l1 f2 h2
  -- 3
  refine (rt_to (add_any al ah bl bh W2) HA.out.1).mono ?_
  rintro e V ⟨rfl, hb⟩
  have HK := Lib.hid (HK2.out.on hb); have HE := Lib.hid (below_then HE2.out hb)
  clear hb HK2 HE2
  have f1 := (HK.out _ (.tail _ (.head _))).cell 0; have h1 := (HK.out _ (.tail _ (.head _))).cell 1; have l1 := (HK.out _ (.tail _ (.head _))).lt
  simp at f1 h1 l1
  have f2 := (HK.out _ (.head _)).cell 0; have h2 := (HK.out _ (.head _)).cell 1; have l2 := (HK.out _ (.head _)).lt
  simp at f2 h2 l2
  have HK3 := Lib.hid (HK.out.new 23 #[.int .i64 p1, .int .i64 p2]); have HE3 := Lib.hid (below_then HE.out (below_alloc1 V (.cells #[.int .i64 p1, .int .i64 p2] 23)))
  clear HK HE
  go_wp2_with fail
  obtain ⟨B3, hB⟩ : ∃ B, V.heap.size = B := ⟨_, rfl⟩
  obtain ⟨W3, hW⟩ : ∃ W, V.alloc (.cells #[.int .i64 p1, .int .i64 p2] 23) = W := ⟨_, rfl⟩
  rw [hW] at HK3 HE3 ⊢
  rw [hB] at HK3 ⊢
  clear hW hB V f1 h1 l1 f2 h2 l2
  -- 4
  refine (rt_to (sub_any al ah bl bh W3) HA.out.2.1).mono ?_
  rintro e V ⟨rfl, hb⟩
  have HK := Lib.hid (HK3.out.on hb); have HE := Lib.hid (below_then HE3.out hb)
  clear hb HK3 HE3
  have f1 := (HK.out _ (.tail _ (.tail _ (.head _)))).cell 0; have h1 := (HK.out _ (.tail _ (.tail _ (.head _)))).cell 1; have l1 := (HK.out _ (.tail _ (.tail _ (.head _)))).lt
  simp at f1 h1 l1
  have f2 := (HK.out _ (.tail _ (.head _))).cell 0; have h2 := (HK.out _ (.tail _ (.head _))).cell 1; have l2 := (HK.out _ (.tail _ (.head _))).lt
  simp at f2 h2 l2
  have HK4 := Lib.hid (HK.out.new 23 #[.int .i64 o1, .int .i64 o2]); have HE4 := Lib.hid (below_then HE.out (below_alloc1 V (.cells #[.int .i64 o1, .int .i64 o2] 23)))
  clear HK HE
  go_wp2_with fail
  obtain ⟨B4, hB⟩ : ∃ B, V.heap.size = B := ⟨_, rfl⟩
  obtain ⟨W4, hW⟩ : ∃ W, V.alloc (.cells #[.int .i64 o1, .int .i64 o2] 23) = W := ⟨_, rfl⟩
  rw [hW] at HK4 HE4 ⊢
  rw [hB] at HK4 ⊢
  clear hW hB V f1 h1 l1 f2 h2 l2
  -- 5
  refine (rt_to (mul_any al ah bl bh W4) HA.out.2.2.1).mono ?_
  rintro e V ⟨rfl, hb⟩
  have HK := Lib.hid (HK4.out.on hb); have HE := Lib.hid (below_then HE4.out hb)
  clear hb HK4 HE4
  have f1 := (HK.out _ (.tail _ (.tail _ (.tail _ (.head _))))).cell 0; have h1 := (HK.out _ (.tail _ (.tail _ (.tail _ (.head _))))).cell 1; have l1 := (HK.out _ (.tail _ (.tail _ (.tail _ (.head _))))).lt
  simp at f1 h1 l1
  have f2 := (HK.out _ (.tail _ (.tail _ (.head _)))).cell 0; have h2 := (HK.out _ (.tail _ (.tail _ (.head _)))).cell 1; have l2 := (HK.out _ (.tail _ (.tail _ (.head _)))).lt
  simp at f2 h2 l2
  have HK5 := Lib.hid (HK.out.new 23 #[.int .i64 r1, .int .i64 r2]); have HE5 := Lib.hid (below_then HE.out (below_alloc1 V (.cells #[.int .i64 r1, .int .i64 r2] 23)))
  clear HK HE
  go_wp2_with fail
  obtain ⟨B5, hB⟩ : ∃ B, V.heap.size = B := ⟨_, rfl⟩
  obtain ⟨W5, hW⟩ : ∃ W, V.alloc (.cells #[.int .i64 r1, .int .i64 r2] 23) = W := ⟨_, rfl⟩
  rw [hW] at HK5 HE5 ⊢
  rw [hB] at HK5 ⊢
  clear hW hB V f1 h1 l1 f2 h2 l2
  -- 6
  refine (rt_to (scale_any al ah N D W5) HA.out.2.2.2.1).mono ?_
  rintro e V ⟨rfl, hb⟩
  have HK := Lib.hid (HK5.out.on hb); have HE := Lib.hid (below_then HE5.out hb)
  clear hb HK5 HE5
  have f1 := (HK.out _ (.tail _ (.tail _ (.tail _ (.tail _ (.head _)))))).cell 0; have h1 := (HK.out _ (.tail _ (.tail _ (.tail _ (.tail _ (.head _)))))).cell 1; have l1 := (HK.out _ (.tail _ (.tail _ (.tail _ (.tail _ (.head _)))))).lt
  simp at f1 h1 l1
  have f2 := (HK.out _ (.tail _ (.tail _ (.tail _ (.head _))))).cell 0; have h2 := (HK.out _ (.tail _ (.tail _ (.tail _ (.head _))))).cell 1; have l2 := (HK.out _ (.tail _ (.tail _ (.tail _ (.head _))))).lt
  simp at f2 h2 l2
  have HK6 := Lib.hid (HK.out.new 23 #[.int .i64 s1, .int .i64 s2]); have HE6 := Lib.hid (below_then HE.out (below_alloc1 V (.cells #[.int .i64 s1, .int .i64 s2] 23)))
  clear HK HE
  go_wp2_with fail
  obtain ⟨B6, hB⟩ : ∃ B, V.heap.size = B := ⟨_, rfl⟩
  obtain ⟨W6, hW⟩ : ∃ W, V.alloc (.cells #[.int .i64 s1, .int .i64 s2] 23) = W := ⟨_, rfl⟩
  rw [hW] at HK6 HE6 ⊢
  rw [hB] at HK6 ⊢
  clear hW hB V f1 h1 l1 f2 h2 l2
  -- 7
  refine (rt_to (hull_any al ah bl bh W6) HA.out.2.2.2.2.1).mono ?_
  rintro e V ⟨rfl, hb⟩
  have HK := Lib.hid (HK6.out.on hb); have HE := Lib.hid (below_then HE6.out hb)
  clear hb HK6 HE6
  have f1 := (HK.out _ (.tail _ (.tail _ (.tail _ (.tail _ (.tail _ (.head _))))))).cell 0; have h1 := (HK.out _ (.tail _ (.tail _ (.tail _ (.tail _ (.tail _ (.head _))))))).cell 1; have l1 := (HK.out _ (.tail _ (.tail _ (.tail _ (.tail _ (.tail _ (.head _))))))).lt
  simp at f1 h1 l1
  have f2 := (HK.out _ (.tail _ (.tail _ (.tail _ (.tail _ (.head _)))))).cell 0; have h2 := (HK.out _ (.tail _ (.tail _ (.tail _ (.tail _ (.head _)))))).cell 1; have l2 := (HK.out _ (.tail _ (.tail _ (.tail _ (.tail _ (.head _)))))).lt
  simp at f2 h2 l2
  have HK7 := Lib.hid (HK.out.new 23 #[.int .i64 g1, .int .i64 g2]); have HE7 := Lib.hid (below_then HE.out (below_alloc1 V (.cells #[.int .i64 g1, .int .i64 g2] 23)))
  clear HK HE
  go_wp2_with fail
  obtain ⟨B7, hB⟩ : ∃ B, V.heap.size = B := ⟨_, rfl⟩
  obtain ⟨W7, hW⟩ : ∃ W, V.alloc (.cells #[.int .i64 g1, .int .i64 g2] 23) = W := ⟨_, rfl⟩
  rw [hW] at HK7 HE7 ⊢
  rw [hB] at HK7 ⊢
  clear hW hB V f1 h1 l1 f2 h2 l2
  -- 8
  refine (rt_to (meet_any al ah bl bh W7) HA.out.2.2.2.2.2).mono ?_
  rintro e V ⟨rfl, hb⟩
  have HK := Lib.hid (HK7.out.on hb); have HE := Lib.hid (below_then HE7.out hb)
  clear hb HK7 HE7
  have HK8 := Lib.hid (HK.out.new 23 #[.int .i64 m1, .int .i64 m2]); have HE8 := Lib.hid (below_then HE.out (below_alloc1 V (.cells #[.int .i64 m1, .int .i64 m2] 23)))
  clear HK HE
  go_upto_region 11 with fail
  obtain ⟨B8, hB⟩ : ∃ B, V.heap.size = B := ⟨_, rfl⟩
  obtain ⟨W8, hW⟩ : ∃ W, V.alloc (.cells #[.int .i64 m1, .int .i64 m2] 23) = W := ⟨_, rfl⟩
  rw [hW] at HK8 HE8 ⊢
  rw [hB] at HK8 ⊢
  clear hW hB V 
  have f3 := (HK8.out _ (.tail _ (.tail _ (.tail _ (.tail _ (.tail _ (.head _))))))).cell 0; have h3 := (HK8.out _ (.tail _ (.tail _ (.tail _ (.tail _ (.tail _ (.head _))))))).cell 1
  simp at f3 h3
  go_wp2_with fail
  clear f3 h3
  refine (bool_to (has_any p1 p2 S _) HT.out.1).mono ?_
  rintro e U1 ⟨rfl, hb⟩
  have HK9 := Lib.hid (HK8.out.on hb); have HE9 := Lib.hid (below_then HE8.out hb)
  clear hb HK8 HE8
  have f4 := (HK9.out _ (.tail _ (.tail _ (.tail _ (.tail _ (.head _)))))).cell 0; have h4 := (HK9.out _ (.tail _ (.tail _ (.tail _ (.tail _ (.head _)))))).cell 1
  simp at f4 h4
  go_wp2_with fail
  clear f4 h4
  refine (bool_to (has_any o1 o2 T _) HT.out.2.1).mono ?_
  rintro e U2 ⟨rfl, hb⟩
  have HK10 := Lib.hid (HK9.out.on hb); have HE10 := Lib.hid (below_then HE9.out hb)
  clear hb HK9 HE9
  have f5 := (HK10.out _ (.tail _ (.tail _ (.tail _ (.head _))))).cell 0; have h5 := (HK10.out _ (.tail _ (.tail _ (.tail _ (.head _))))).cell 1
  simp at f5 h5
  go_wp2_with fail
  clear f5 h5
  refine (bool_to (has_any r1 r2 Q _) HT.out.2.2.1).mono ?_
  rintro e U3 ⟨rfl, hb⟩
  have HK11 := Lib.hid (HK10.out.on hb); have HE11 := Lib.hid (below_then HE10.out hb)
  clear hb HK10 HE10
  have f6 := (HK11.out _ (.tail _ (.tail _ (.head _)))).cell 0; have h6 := (HK11.out _ (.tail _ (.tail _ (.head _)))).cell 1
  simp at f6 h6
  have f7 := (HK11.out _ (.tail _ (.head _))).cell 0; have h7 := (HK11.out _ (.tail _ (.head _))).cell 1
  simp at f7 h7
  go_wp2_with fail
  clear f6 h6 f7 h7
  refine (bool_to (has_any g1 g2 u _) HT.out.2.2.2.1).mono ?_
  rintro e U4 ⟨rfl, hb⟩
  have HK12 := Lib.hid (HK11.out.on hb); have HE12 := Lib.hid (below_then HE11.out hb)
  clear hb HK11 HE11
  have f7 := (HK12.out _ (.tail _ (.head _))).cell 0; have h7 := (HK12.out _ (.tail _ (.head _))).cell 1
  simp at f7 h7
  go_wp2_with fail
  clear f7 h7
  refine (bool_to (has_any g1 g2 v _) HT.out.2.2.2.2.1).mono ?_
  rintro e U5 ⟨rfl, hb⟩
  have HK13 := Lib.hid (HK12.out.on hb); have HE13 := Lib.hid (below_then HE12.out hb)
  clear hb HK12 HE12
  have f1 := (HK13.out _ (.tail _ (.tail _ (.tail _ (.tail _ (.tail _ (.tail _ (.tail _ (.head _))))))))).cell 0; have h1 := (HK13.out _ (.tail _ (.tail _ (.tail _ (.tail _ (.tail _ (.tail _ (.tail _ (.head _))))))))).cell 1
  simp at f1 h1
  go_wp2_with fail
  clear f1 h1
  refine (bool_to (has_any al ah u _) HT.out.2.2.2.2.2).mono ?_
  rintro e U6 ⟨rfl, hb⟩
  have HK14 := Lib.hid (HK13.out.on hb); have HE14 := Lib.hid (below_then HE13.out hb)
  clear hb HK13 HE13
  have f2 := (HK14.out _ (.tail _ (.tail _ (.tail _ (.tail _ (.tail _ (.tail _ (.head _)))))))).cell 0; have h2 := (HK14.out _ (.tail _ (.tail _ (.tail _ (.tail _ (.tail _ (.tail _ (.head _)))))))).cell 1
  simp at f2 h2
  go_wp2_with fail
  clear f2 h2
  refine (bool_to (has_any bl bh u _) HC.out.2.1).mono ?_
  rintro e U7 ⟨rfl, hb⟩
  have HK15 := Lib.hid (HK14.out.on hb); have HE15 := Lib.hid (below_then HE14.out hb)
  clear hb HK14 HE14
  have f8 := (HK15.out _ (.head _)).cell 0; have h8 := (HK15.out _ (.head _)).cell 1
  simp at f8 h8
  obtain ⟨hc, _, htm⟩ := HC.out
  have HTM := Lib.hid htm
  clear htm HC
  rcases hc with ⟨rfl, rfl, rfl⟩ | ⟨rfl, rfl, rfl⟩ | ⟨rfl, rfl⟩
  · go_wp2_with fail
    refine (bool_to (has_any m1 m2 u _) HTM.out).mono ?_
    rintro e U8 ⟨rfl, hb⟩
    have HE16 := Lib.hid (below_then HE15.out hb)
    clear hb f8 h8 HK15
    go_wp2_with fail
    refine (sane_any _).mono ?_
    rintro e U9 ⟨rfl, hb⟩
    have HE17 := Lib.hid (below_then HE16.out hb)
    clear hb
    go_wp2
    go_ret
    exact ⟨rfl, HE17.out⟩
  · go_wp2_with fail
    refine (bool_to (has_any m1 m2 u _) HTM.out).mono ?_
    rintro e U8 ⟨rfl, hb⟩
    have HE16 := Lib.hid (below_then HE15.out hb)
    clear hb f8 h8 HK15
    go_wp2_with fail
    refine (sane_any _).mono ?_
    rintro e U9 ⟨rfl, hb⟩
    have HE17 := Lib.hid (below_then HE16.out hb)
    clear hb
    go_wp2
    go_ret
    exact ⟨rfl, HE17.out⟩
  · go_wp2_with fail
    refine (sane_any _).mono ?_
    rintro e U9 ⟨rfl, hb⟩
    have HE17 := Lib.hid (below_then HE15.out hb)
    clear hb
    go_wp2
    go_ret
    exact ⟨rfl, HE17.out⟩
end Go.Proofs.Ythhcejcpopgkiaa
