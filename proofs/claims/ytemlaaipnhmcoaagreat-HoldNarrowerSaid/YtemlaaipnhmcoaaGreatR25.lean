/- The contracts of hull, mix and moved (hold). Their condition: the hold's tables lie in memory, its volume is a valid table. -/
import Derived.Test.YtemlaaipnhmcoaaGreatR23
import Derived.Test.YtemlaaipnhmcoaaGreatR24
import Derived.Test.YtemlaaipnhmcoaaGreatR14
import Derived.Test.YtemlaaipnhmcoaaGreatR15
import Derived.Test.YtemlaaipnhmcoaaGreatR20
set_option linter.unusedVariables false
set_option linter.unusedSimpArgs false
set_option linter.constructorNameAsVariable false
namespace Go.Proofs.YtemlaaipnhmcoaaGreat

section
open Go.RowKit

def LitresS (a b c d : Int) : Int × Int × Int := if massErr a b c d = 0 then ((litresS a b c d).1, (litresS a b c d).2, 0) else (0, 0, massErr a b c d)
theorem massErr_zero {a b c d : Int} (h : massErr a b c d = 0) : vR a b = true ∧ densS c d = true := by
  unfold massErr at h
  cases h1 : vR a b <;> cases h2 : densS c d <;> simp [h1, h2] at h
  exact ⟨rfl, rfl⟩

set_option maxRecDepth 100000 in
set_option maxHeartbeats 4000000 in
theorem hLitres_any (a b c d : Int) (w : World) :
  Calls Tryz.prog 119 #[rv a b, rv c d] w fun e w' => e = .returned (rt (LitresS a b c d)) ∧ Below w.heap.size w w' := by
 have HE := Lib.hid (show Below w.heap.size w (((w.alloc (.cells #[.int .i64 a, .int .i64 b] 30)).alloc (.cells #[.int .i64 c, .int .i64 d] 30)).alloc (.cells #[.int .i64 0, .int .i64 0] 30)) from below_a3 (Below.refl _ _))
 have HK := Lib.hid (boxes3' w 30 30 30 #[.int .i64 a, .int .i64 b] #[.int .i64 c, .int .i64 d] #[.int .i64 0, .int .i64 0])
 obtain ⟨E, hE⟩ : ∃ E, massErr a b c d = E := ⟨_, rfl⟩
 obtain ⟨R, hR⟩ : ∃ R, LitresS a b c d = R := ⟨_, rfl⟩
 rw [hR]
 have HR : Hid ((if E = 0 then ((litresS a b c d).1, (litresS a b c d).2, 0) else (0, 0, E)) = R) := Lib.hid (by rw [← hR]; unfold LitresS; rw [hE])
 have C1 : Hid (∀ W, Calls Tryz.prog 74 #[rv a b, rv c d] W fun e w' => e = .returned (.int .i64 E) ∧ Below W.heap.size W w') := Lib.hid fun W => int_to (checkMass_any a b c d W) hE
 have C2 : Hid (E = 0 → ∀ W, Calls Tryz.prog 76 #[rv a b, rv c d] W fun e w' => e = .returned (rv (litresS a b c d).1 (litresS a b c d).2) ∧ Below W.heap.size W w') := Lib.hid fun h W => by
  obtain ⟨m1, m2⟩ := massErr_zero (hE.trans h)
  exact hlitres_any a b c d W (vR_small m1) (dens_in m2)
 clear hE hR
 generalize (litresS a b c d).1 = p at *
 generalize (litresS a b c d).2 = q at *
 go_enter Tryz.func119, Tryz.ntmps119
 go_wp2_with fail
 obtain ⟨W0, hW0⟩ : ∃ W0, (((w.alloc (.cells #[.int .i64 a, .int .i64 b] 30)).alloc (.cells #[.int .i64 c, .int .i64 d] 30)).alloc (.cells #[.int .i64 0, .int .i64 0] 30)) = W0 := ⟨_, rfl⟩
 rw [hW0] at HE HK ⊢
 clear hW0
 obtain ⟨G, hG⟩ : ∃ G, w.heap.size = G := ⟨_, rfl⟩
 rw [hG] at HK ⊢
 have HG := Lib.hid hG; clear hG
 refine (C1.out _).mono ?_
 rintro e w1 ⟨rfl, hb⟩
 have HE1 := Lib.hid (below_then HE.out hb); have HK1 := Lib.hid (HK.out.on hb)
 clear hb HE HK C1
 by_cases g : E = 0
 ·subst g
  have e : R = (p, q, 0) := by rw [← HR.out]; rfl
  subst e
  have D2 := Lib.hid (C2.out rfl)
  clear HR C2
  have p := HK1.out _ (.tail _ (.tail _ (.head _)))
  have p0 := p.cell 0
  have p1 := p.cell 1
  simp at p0 p1
  clear p
  have q := HK1.out _ (.tail _ (.head _))
  have q0 := q.cell 0
  have q1 := q.cell 1
  simp at q0 q1
  clear q
  go_wp2_with fail
  refine (D2.out _).mono ?_
  rintro e w2 ⟨rfl, hb⟩
  have HE2 := Lib.hid (below_then HE1.out hb); have HK2 := Lib.hid (HK1.out.on hb)
  clear hb HE1 HK1 D2 p0 p1 q0 q1
  have z := HK2.out _ (.head _)
  have z0 := z.cell 0
  have zf0 := z.frozen 0
  have z1 := z.cell 1
  have zf1 := z.frozen 1
  have zl := z.lt
  simp at z0 zf0 z1 zf1
  clear z
  go_wp2
  refine bodyPost_ret (v := rt (p, q, 0)) (by simp [results, Tryz.results119, go_sem, z0, z1]) rfl ⟨rfl, ?_⟩
  have hg := HG.out
  repeat (first | exact HE2.out | refine Below.setCell ?_ (by simp <;> omega) _)
 ·have e : R = (0, 0, E) := by rw [← HR.out, if_neg g]
  subst e
  clear HR C2
  have z := HK1.out _ (.head _)
  have z0 := z.cell 0
  have zf0 := z.frozen 0
  have z1 := z.cell 1
  have zf1 := z.frozen 1
  have zl := z.lt
  simp at z0 zf0 z1 zf1
  clear z
  go_wp2
  refine bodyPost_ret (v := rt (0, 0, E)) (by simp [results, Tryz.results119, go_sem, z0, z1]) rfl ⟨rfl, ?_⟩
  have hg := HG.out
  repeat (first | exact HE1.out | refine Below.setCell ?_ (by simp <;> omega) _)

def ullS (ps : List P3) (x y : Int) : Int × Int × Int := invS (moreF ps y) (lessF ps x) (firstX ps) (lastX ps)

set_option maxRecDepth 100000 in
set_option maxHeartbeats 4000000 in
theorem ullages_any (ps : List P3) (id al ah t0 t1 u0 u1 v0 v1 h0 h1 : Int) (A B C : Option Addr) (n c mm d l ee : Nat) (x y : Int) (w : World) (hp : TabIn w A n ps) (ht : tabOk ps = true) (hle : firstX ps ≤ lastX ps) :
  Calls Tryz.prog 67 #[.agg #[.int .i64 id, .int .i64 al, .int .i64 ah, .slice A n c, .slice B mm d, .slice C l ee, .int .i64 t0, .int .i64 t1, .int .i64 u0, .int .i64 u1, .int .i64 v0, .int .i64 v1, .int .i64 h0, .int .i64 h1], rv x y] w fun e w' => e = .returned (rt (ullS ps x y)) ∧ Below w.heap.size w w' := by
 have HE := Lib.hid (show Below w.heap.size w (((w.alloc (.cells #[.int .i64 id, .int .i64 al, .int .i64 ah, .slice A n c, .slice B mm d, .slice C l ee, .int .i64 t0, .int .i64 t1, .int .i64 u0, .int .i64 u1, .int .i64 v0, .int .i64 v1, .int .i64 h0, .int .i64 h1] 35)).alloc (.cells #[.int .i64 x, .int .i64 y] 30)).alloc (.cells #[.int .i64 0, .int .i64 0] 30)) from below_a3 (Below.refl _ _))
 have HK := Lib.hid (boxes3' w 35 30 30 #[.int .i64 id, .int .i64 al, .int .i64 ah, .slice A n c, .slice B mm d, .slice C l ee, .int .i64 t0, .int .i64 t1, .int .i64 u0, .int .i64 u1, .int .i64 v0, .int .i64 v1, .int .i64 h0, .int .i64 h1] #[.int .i64 x, .int .i64 y] #[.int .i64 0, .int .i64 0])
 obtain ⟨R, hR⟩ : ∃ R, ullS ps x y = R := ⟨_, rfl⟩
 have CC : Hid (∀ W, Below w.heap.size w W → Calls Tryz.prog 120 #[tv A n c, rv x y, fnV 121, fnV 122] W fun e w' => e = .returned (rt R) ∧ Below W.heap.size W w') := Lib.hid fun W hW => by
  rw [← hR]; exact inverse_more A n c ps x y W (hp.below hW) ht hle
 rw [hR]
 clear hR hp ht hle
 obtain ⟨ra, rb, re⟩ := R
 go_enter Tryz.func67, Tryz.ntmps67
 go_wp2_with fail
 obtain ⟨W0, hW0⟩ : ∃ W0, (((w.alloc (.cells #[.int .i64 id, .int .i64 al, .int .i64 ah, .slice A n c, .slice B mm d, .slice C l ee, .int .i64 t0, .int .i64 t1, .int .i64 u0, .int .i64 u1, .int .i64 v0, .int .i64 v1, .int .i64 h0, .int .i64 h1] 35)).alloc (.cells #[.int .i64 x, .int .i64 y] 30)).alloc (.cells #[.int .i64 0, .int .i64 0] 30)) = W0 := ⟨_, rfl⟩
 rw [hW0] at HE HK ⊢
 clear hW0
 obtain ⟨G, hG⟩ : ∃ G, w.heap.size = G := ⟨_, rfl⟩
 rw [hG] at HK ⊢
 have HG := Lib.hid hG; clear hG
 refine (CC.out _ HE.out).mono ?_
 rintro e w1 ⟨rfl, hb⟩
 have HE1 := Lib.hid (below_then HE.out hb); have HK1 := Lib.hid (HK.out.on hb)
 clear hb HE HK CC
 have z := HK1.out _ (.head _)
 have z0 := z.cell 0
 have zf0 := z.frozen 0
 have z1 := z.cell 1
 have zf1 := z.frozen 1
 have zl := z.lt
 simp at z0 zf0 z1 zf1
 clear z
 go_wp2
 refine bodyPost_ret (v := rt (ra, rb, re)) (by simp [results, Tryz.results67, go_sem, z0, z1]) rfl ⟨rfl, ?_⟩
 have hg := HG.out
 repeat (first | exact HE1.out | refine Below.setCell ?_ (by simp <;> omega) _)

set_option maxRecDepth 100000 in
set_option maxHeartbeats 4000000 in
theorem ullage1_any (ps : List P3) (id al ah t0 t1 u0 u1 v0 v1 h0 h1 : Int) (A B C : Option Addr) (n c mm d l ee : Nat) (x y : Int) (Bh : Nat) (w : World) (hB : Blk w Bh 35 #[.int .i64 id, .int .i64 al, .int .i64 ah, .slice A n c, .slice B mm d, .slice C l ee, .int .i64 t0, .int .i64 t1, .int .i64 u0, .int .i64 u1, .int .i64 v0, .int .i64 v1, .int .i64 h0, .int .i64 h1]) (hp : TabIn w A n ps) (ht : tabOk ps = true) (hle : firstX ps ≤ lastX ps) :
  Calls Tryz.prog 66 #[rv x y, .pointer (some ⟨Bh, 0, none⟩)] w fun e w' => e = .returned (rt (ullS ps x y)) ∧ Below w.heap.size w w' := by
 have HE := Lib.hid (show Below w.heap.size w ((w.alloc (.cells #[.int .i64 x, .int .i64 y] 30)).alloc (.cells #[.int .i64 0, .int .i64 0] 30)) from below_a2 (Below.refl _ _))
 have HK := Lib.hid (boxes2' w 30 30 #[.int .i64 x, .int .i64 y] #[.int .i64 0, .int .i64 0])
 obtain ⟨R, hR⟩ : ∃ R, ullS ps x y = R := ⟨_, rfl⟩
 have CC : Hid (∀ W, Below w.heap.size w W → Calls Tryz.prog 67 #[.agg #[.int .i64 id, .int .i64 al, .int .i64 ah, .slice A n c, .slice B mm d, .slice C l ee, .int .i64 t0, .int .i64 t1, .int .i64 u0, .int .i64 u1, .int .i64 v0, .int .i64 v1, .int .i64 h0, .int .i64 h1], rv x y] W fun e w' => e = .returned (rt R) ∧ Below W.heap.size W w') := Lib.hid fun W hW => by
  rw [← hR]; exact ullages_any ps id al ah t0 t1 u0 u1 v0 v1 h0 h1 A B C n c mm d l ee x y W (hp.below hW) ht hle
 rw [hR]
 clear hR hp ht hle
 obtain ⟨ra, rb, re⟩ := R
 have HH := Lib.hid (blkOn hB HE.out)
 have HH0 := Lib.hid hB
 clear hB
 go_enter Tryz.func66, Tryz.ntmps66
 go_upto_region 1 with fail
 obtain ⟨W0, hW0⟩ : ∃ W0, ((w.alloc (.cells #[.int .i64 x, .int .i64 y] 30)).alloc (.cells #[.int .i64 0, .int .i64 0] 30)) = W0 := ⟨_, rfl⟩
 rw [hW0] at HE HK HH ⊢
 clear hW0
 obtain ⟨G, hG⟩ : ∃ G, w.heap.size = G := ⟨_, rfl⟩
 rw [hG] at HK ⊢
 have HG := Lib.hid hG; clear hG
 have hh := HH.out
 have s0 := hh.cell 0
 have s1 := hh.cell 1
 have s2 := hh.cell 2
 have s3 := hh.cell 3
 have s4 := hh.cell 4
 have s5 := hh.cell 5
 have s6 := hh.cell 6
 have s7 := hh.cell 7
 have s8 := hh.cell 8
 have s9 := hh.cell 9
 have s10 := hh.cell 10
 have s11 := hh.cell 11
 have s12 := hh.cell 12
 have s13 := hh.cell 13
 simp at s0 s1 s2 s3 s4 s5 s6 s7 s8 s9 s10 s11 s12 s13
 have p := HK.out _ (.tail _ (.head _))
 have p0 := p.cell 0
 have p1 := p.cell 1
 simp at p0 p1
 clear p
 clear hh HH HH0
 go_wp2_with fail
 refine (CC.out _ HE.out).mono ?_
 rintro e w1 ⟨rfl, hb⟩
 have HE1 := Lib.hid (below_then HE.out hb); have HK1 := Lib.hid (HK.out.on hb)
 clear hb HE HK CC p0 p1 s0 s1 s2 s3 s4 s5 s6 s7 s8 s9 s10 s11 s12 s13
 have z := HK1.out _ (.head _)
 have z0 := z.cell 0
 have zf0 := z.frozen 0
 have z1 := z.cell 1
 have zf1 := z.frozen 1
 have zl := z.lt
 simp at z0 zf0 z1 zf1
 clear z
 go_wp2
 refine bodyPost_ret (v := rt (ra, rb, re)) (by simp [results, Tryz.results66, go_sem, z0, z1]) rfl ⟨rfl, ?_⟩
 have hg := HG.out
 repeat (first | exact HE1.out | refine Below.setCell ?_ (by simp <;> omega) _)

set_option maxRecDepth 100000 in
set_option maxHeartbeats 4000000 in
theorem ofMass_ull (a b c d : Int) (Bh : Nat) (R : Int × Int × Int) (w : World) (hC : massErr a b c d = 0 → ∀ W, Below w.heap.size w W → Calls Tryz.prog 66 #[rv (litresS a b c d).1 (litresS a b c d).2, .pointer (some ⟨Bh, 0, none⟩)] W fun e w' => e = .returned (rt R) ∧ Below W.heap.size W w') :
  Calls Tryz.prog 65 #[rv a b, rv c d, .func (.func 66) #[] #[.pointer (some ⟨Bh, 0, none⟩)]] w fun e w' => e = .returned (rt (if massErr a b c d = 0 then R else (0, 0, massErr a b c d))) ∧ Below w.heap.size w w' := by
 have HE := Lib.hid (show Below w.heap.size w (((w.alloc (.cells #[.int .i64 a, .int .i64 b] 30)).alloc (.cells #[.int .i64 c, .int .i64 d] 30)).alloc (.cells #[.int .i64 0, .int .i64 0] 30)) from below_a3 (Below.refl _ _))
 have HK := Lib.hid (boxes3' w 30 30 30 #[.int .i64 a, .int .i64 b] #[.int .i64 c, .int .i64 d] #[.int .i64 0, .int .i64 0])
 obtain ⟨E, hE⟩ : ∃ E, massErr a b c d = E := ⟨_, rfl⟩
 obtain ⟨Q, hQ⟩ : ∃ Q, (if massErr a b c d = 0 then R else (0, 0, massErr a b c d)) = Q := ⟨_, rfl⟩
 rw [hQ]
 obtain ⟨p, hp⟩ : ∃ p, (litresS a b c d).1 = p := ⟨_, rfl⟩
 obtain ⟨q, hq⟩ : ∃ q, (litresS a b c d).2 = q := ⟨_, rfl⟩
 have HQ : Hid ((if E = 0 then R else (0, 0, E)) = Q) := Lib.hid (by rw [← hQ, hE])
 have C1 : Hid (E = 0 → ∀ W, Calls Tryz.prog 119 #[rv a b, rv c d] W fun e w' => e = .returned (.tuple #[rv p q, .int .i64 0]) ∧ Below W.heap.size W w') := Lib.hid fun h W => rt_to (hLitres_any a b c d W) (by unfold LitresS; rw [if_pos (hE.trans h), hp, hq])
 have C1' : Hid (¬ E = 0 → ∀ W, Calls Tryz.prog 119 #[rv a b, rv c d] W fun e w' => e = .returned (.tuple #[rv 0 0, .int .i64 E]) ∧ Below W.heap.size W w') := Lib.hid fun h W => rt_to (hLitres_any a b c d W) (by unfold LitresS; rw [if_neg (by rw [hE]; exact h), hE])
 have C2 : Hid (E = 0 → ∀ W, Below w.heap.size w W → Calls Tryz.prog 66 #[rv p q, .pointer (some ⟨Bh, 0, none⟩)] W fun e w' => e = .returned (rt R) ∧ Below W.heap.size W w') := Lib.hid fun h W hW => by
  have := hC (hE.trans h) W hW
  rw [hp, hq] at this; exact this
 clear hE hQ hp hq hC
 obtain ⟨ra, rb, re⟩ := R
 by_cases g : E = 0
 ·have e : Q = (ra, rb, re) := by rw [← HQ.out, if_pos g]
  subst e
  have C1 := Lib.hid (C1.out g)
  have C2 := Lib.hid (C2.out g)
  clear HQ C1' g
  go_enter Tryz.func65, Tryz.ntmps65
  go_wp2_with fail
  obtain ⟨W0, hW0⟩ : ∃ W0, (((w.alloc (.cells #[.int .i64 a, .int .i64 b] 30)).alloc (.cells #[.int .i64 c, .int .i64 d] 30)).alloc (.cells #[.int .i64 0, .int .i64 0] 30)) = W0 := ⟨_, rfl⟩
  rw [hW0] at HE HK ⊢
  clear hW0
  obtain ⟨G, hG⟩ : ∃ G, w.heap.size = G := ⟨_, rfl⟩
  rw [hG] at HK ⊢
  have HG := Lib.hid hG; clear hG
  refine (C1.out _).mono ?_
  rintro e w1 ⟨rfl, hb⟩
  have HE1 := Lib.hid (below_then (below_then HE.out hb) (below_alloc1 w1 (.cells #[.int .i64 p, .int .i64 q] 30))); have HK1 := Lib.hid ((HK.out.on hb).new 30 #[.int .i64 p, .int .i64 q])
  clear hb HE HK C1
  go_wp2_with fail
  refine (C2.out _ HE1.out).mono ?_
  rintro e w2 ⟨rfl, hb⟩
  have HE2 := Lib.hid (below_then HE1.out hb); have HK2 := Lib.hid (HK1.out.on hb)
  clear hb HE1 HK1 C2
  have z := HK2.out _ (.tail _ (.head _))
  have z0 := z.cell 0
  have zf0 := z.frozen 0
  have z1 := z.cell 1
  have zf1 := z.frozen 1
  have zl := z.lt
  simp at z0 zf0 z1 zf1
  clear z
  go_wp2
  refine bodyPost_ret (v := rt (ra, rb, re)) (by simp [results, Tryz.results65, go_sem, z0, z1]) rfl ⟨rfl, ?_⟩
  have hg := HG.out
  repeat (first | exact HE2.out | refine Below.setCell ?_ (by simp <;> omega) _)
 ·have e : Q = (0, 0, E) := by rw [← HQ.out, if_neg g]
  subst e
  have C1 := Lib.hid (C1'.out g)
  clear HQ C1' C2
  go_enter Tryz.func65, Tryz.ntmps65
  go_wp2_with fail
  obtain ⟨W0, hW0⟩ : ∃ W0, (((w.alloc (.cells #[.int .i64 a, .int .i64 b] 30)).alloc (.cells #[.int .i64 c, .int .i64 d] 30)).alloc (.cells #[.int .i64 0, .int .i64 0] 30)) = W0 := ⟨_, rfl⟩
  rw [hW0] at HE HK ⊢
  clear hW0
  obtain ⟨G, hG⟩ : ∃ G, w.heap.size = G := ⟨_, rfl⟩
  rw [hG] at HK ⊢
  have HG := Lib.hid hG; clear hG
  refine (C1.out _).mono ?_
  rintro e w1 ⟨rfl, hb⟩
  have HE1 := Lib.hid (below_then (below_then HE.out hb) (below_alloc1 w1 (.cells #[.int .i64 0, .int .i64 0] 30))); have HK1 := Lib.hid ((HK.out.on hb).new 30 #[.int .i64 0, .int .i64 0])
  have hlt := (HK.out.on hb _ (.head _)).lt
  have hl : G + 1 + 1 ≠ w1.heap.size := Nat.ne_of_lt hlt
  have hl2 : w1.heap.size ≠ G + 1 + 1 := Nat.ne_of_gt hlt
  clear hb HE HK C1
  go_upto_region 3 with fail
  obtain ⟨W1, hW1⟩ : ∃ W1, w1.alloc (.cells #[.int .i64 0, .int .i64 0] 30) = W1 := ⟨_, rfl⟩
  rw [hW1] at HE1 HK1 ⊢
  clear hW1
  have z := HK1.out _ (.tail _ (.head _))
  have z0 := z.cell 0
  have zf0 := z.frozen 0
  have z1 := z.cell 1
  have zf1 := z.frozen 1
  have zl := z.lt
  simp at z0 zf0 z1 zf1
  clear z
  go_wp2
  refine bodyPost_ret (v := rt (0, 0, E)) (by simp [results, Tryz.results65, go_sem, z0, z1]) rfl ⟨rfl, ?_⟩
  have hg := HG.out
  repeat (first | exact HE1.out | refine Below.setCell ?_ (by simp <;> omega) _)
end

section
open Go.RowKit
attribute [local go_sem ↓] eqlRange neqRange
theorem results_cell_tmp_row {P : Program} {fn : Func} {p q : Tmp} {ty : TypeId} (h : fn.results = #[.cell p ty, .tmp q]) (tmps : Array Value) (w : World) (g : Nat) (t : TypeId) (cs : Array Value) (fr : Nat × Nat) (d : TypeDesc) (x : Value)
    (hp : tmps.getD p undef = .pointer (some ⟨g, 0, none⟩)) (hq : tmps.getD q undef = x) (hg : w.heap[g]? = some (.cells cs t fr))
    (hu : P.underlying ty = some d) (hd : (match d with | .struct _ | .array _ _ => true | _ => false) = true) (hi : (P.info? ty).map (·.size) = some cs.size) :
    (results fn tmps).run P w = .ok (.tuple #[.agg cs, x]) w := by
  have hp' : tmps[p]?.getD undef = .pointer (some ⟨g, 0, none⟩) := by simpa using hp
  have hq' : tmps[q]?.getD undef = x := by simpa using hq
  simp [results, h, hp', hq', asAddr, run_loadVar_row w g t ty cs fr d hg hu hd hi]
theorem Boxes.set2 {W : World} {g : Nat} {t : TypeId} {x y : Value} {L : List (Nat × TypeId × Array Value)} (h : Boxes W ((g, t, #[x, y]) :: L)) (hg : ∀ p ∈ L, p.1 ≠ g) (a b : Value) :
    Boxes ((W.setCell ⟨g, 0, none⟩ a).setCell ⟨g, 1, none⟩ b) ((g, t, #[a, b]) :: L) := fun p hp => by
  rcases List.mem_cons.1 hp with rfl | hp
  · simpa using ((h _ (.head _)).set_ 0 a).set_ 1 b
  · exact ((h p (.tail _ hp)).far (p := ⟨g, 0, none⟩) (hg p hp) a).far (p := ⟨g, 1, none⟩) (hg p hp) b
def hulS (a b c d : Int) : Int × Int := ((hullS a b c d).1, (hullS a b c d).2.1)

set_option maxRecDepth 100000 in
set_option maxHeartbeats 4000000 in
theorem hhull_any (a b c d : Int) (w : World) :
  Calls Tryz.prog 81 #[rv a b, rv c d] w fun e w' => e = .returned (rv (hulS a b c d).1 (hulS a b c d).2) ∧ Below w.heap.size w w' := by
 have HE := Lib.hid (show Below w.heap.size w (((w.alloc (.cells #[.int .i64 a, .int .i64 b] 30)).alloc (.cells #[.int .i64 c, .int .i64 d] 30)).alloc (.cells #[.int .i64 0, .int .i64 0] 30)) from below_a3 (Below.refl _ _))
 have HK := Lib.hid (boxes3' w 30 30 30 #[.int .i64 a, .int .i64 b] #[.int .i64 c, .int .i64 d] #[.int .i64 0, .int .i64 0])
 have CC : Hid (∀ W, Calls Tryz.prog 133 #[rv a b, rv c d] W fun e w' => e = .returned (rt (hullS a b c d)) ∧ Below W.heap.size W w') := Lib.hid fun W => hull_any a b c d W
 unfold hulS
 generalize hullS a b c d = R at *
 obtain ⟨p, q, r⟩ := R
 go_enter Tryz.func81, Tryz.ntmps81
 go_wp2_with fail
 obtain ⟨W0, hW0⟩ : ∃ W0, (((w.alloc (.cells #[.int .i64 a, .int .i64 b] 30)).alloc (.cells #[.int .i64 c, .int .i64 d] 30)).alloc (.cells #[.int .i64 0, .int .i64 0] 30)) = W0 := ⟨_, rfl⟩
 rw [hW0] at HE HK ⊢
 clear hW0
 obtain ⟨G, hG⟩ : ∃ G, w.heap.size = G := ⟨_, rfl⟩
 rw [hG] at HK ⊢
 have HG := Lib.hid hG; clear hG
 refine (CC.out _).mono ?_
 rintro e w1 ⟨rfl, hb⟩
 have HE1 := Lib.hid (below_then (below_then HE.out hb) (below_alloc1 w1 (.cells #[.int .i64 p, .int .i64 q] 30))); have HK1 := Lib.hid ((HK.out.on hb).new 30 #[.int .i64 p, .int .i64 q])
 clear hb HE HK CC
 go_upto_region 2 with fail
 obtain ⟨W1, hW1⟩ : ∃ W1, w1.alloc (.cells #[.int .i64 p, .int .i64 q] 30) = W1 := ⟨_, rfl⟩
 rw [hW1] at HE1 HK1 ⊢
 clear hW1
 obtain ⟨N, hN⟩ : ∃ N, w1.heap.size = N := ⟨_, rfl⟩
 rw [hN] at HK1 ⊢
 clear hN
 have p := HK1.out _ (.head _)
 have p0 := p.cell 0
 have p1 := p.cell 1
 simp at p0 p1
 clear p
 have z := HK1.out _ (.tail _ (.head _))
 have z0 := z.cell 0
 have zf0 := z.frozen 0
 have z1 := z.cell 1
 have zf1 := z.frozen 1
 have zl := z.lt
 simp at z0 zf0 z1 zf1
 clear z
 go_wp2
 refine bodyPost_ret (v := rv p q) (by simp [results, Tryz.results81, go_sem, z0, z1]) rfl ⟨rfl, ?_⟩
 have hg := HG.out
 repeat (first | exact HE1.out | refine Below.setCell ?_ (by simp <;> omega) _)

def mixS (a b c d : Int) : Int × Int := if (a == 0 && b == 0) = true then (c, d) else if (c == 0 && d == 0) = true then (a, b) else hulS a b c d

set_option maxRecDepth 100000 in
set_option maxHeartbeats 4000000 in
theorem mix_any (a b c d : Int) (w : World) :
  Calls Tryz.prog 79 #[rv a b, rv c d] w fun e w' => e = .returned (rv (mixS a b c d).1 (mixS a b c d).2) ∧ Below w.heap.size w w' := by
 have HE := Lib.hid (show Below w.heap.size w (((w.alloc (.cells #[.int .i64 a, .int .i64 b] 30)).alloc (.cells #[.int .i64 c, .int .i64 d] 30)).alloc (.cells #[.int .i64 0, .int .i64 0] 30)) from below_a3 (Below.refl _ _))
 have HK := Lib.hid (boxes3' w 30 30 30 #[.int .i64 a, .int .i64 b] #[.int .i64 c, .int .i64 d] #[.int .i64 0, .int .i64 0])
 have CC : Hid (∀ W, Calls Tryz.prog 81 #[rv a b, rv c d] W fun e w' => e = .returned (rv (hulS a b c d).1 (hulS a b c d).2) ∧ Below W.heap.size W w') := Lib.hid fun W => hhull_any a b c d W
 cases g1 : (a == 0 && b == 0)
 ·cases g2 : (c == 0 && d == 0)
  ·have e : mixS a b c d = hulS a b c d := by unfold mixS; rw [g1, g2]; rfl
   rw [e]
   clear e
   generalize hulS a b c d = R at *
   obtain ⟨p, q⟩ := R
   go_enter Tryz.func79, Tryz.ntmps79
   go_wp2_with fail
   obtain ⟨W0, hW0⟩ : ∃ W0, (((w.alloc (.cells #[.int .i64 a, .int .i64 b] 30)).alloc (.cells #[.int .i64 c, .int .i64 d] 30)).alloc (.cells #[.int .i64 0, .int .i64 0] 30)) = W0 := ⟨_, rfl⟩
   rw [hW0] at HE HK ⊢
   clear hW0
   obtain ⟨G, hG⟩ : ∃ G, w.heap.size = G := ⟨_, rfl⟩
   rw [hG] at HK ⊢
   have HG := Lib.hid hG; clear hG
   refine (CC.out _).mono ?_
   rintro e w1 ⟨rfl, hb⟩
   have HE1 := Lib.hid (below_then HE.out hb); have HK1 := Lib.hid (HK.out.on hb)
   clear hb HE HK CC g1 g2
   have z := HK1.out _ (.head _)
   have z0 := z.cell 0
   have zf0 := z.frozen 0
   have z1 := z.cell 1
   have zf1 := z.frozen 1
   have zl := z.lt
   simp at z0 zf0 z1 zf1
   clear z
   go_wp2
   refine bodyPost_ret (v := rv p q) (by simp [results, Tryz.results79, go_sem, z0, z1]) rfl ⟨rfl, ?_⟩
   have hg := HG.out
   repeat (first | exact HE1.out | refine Below.setCell ?_ (by simp <;> omega) _)
  ·have e : mixS a b c d = (a, b) := by unfold mixS; rw [g1, g2]; rfl
   rw [e]
   clear e CC HK
   go_enter Tryz.func79, Tryz.ntmps79
   go_wp2
   refine bodyPost_ret (v := rv a b) (by simp [results, Tryz.results79, go_sem]) rfl ⟨rfl, ?_⟩
   repeat (first | exact HE.out | exact Below.refl _ _ | refine Below.setCell ?_ (by simp <;> omega) _ | refine Below.alloc ?_ (by simp <;> omega) _)
 ·have e : mixS a b c d = (c, d) := by unfold mixS; rw [g1]; rfl
  rw [e]
  clear e CC HK
  go_enter Tryz.func79, Tryz.ntmps79
  go_wp2
  refine bodyPost_ret (v := rv c d) (by simp [results, Tryz.results79, go_sem]) rfl ⟨rfl, ?_⟩
  repeat (first | exact HE.out | exact Below.refl _ _ | refine Below.setCell ?_ (by simp <;> omega) _ | refine Below.alloc ?_ (by simp <;> omega) _)

abbrev ft (r : FillD × Int) : Value := .tuple #[fillV r.1, .int .i64 r.2]
def noFill : FillD := ⟨0, 0, 0, 0, 0, 0⟩
def movedS (ps : List P3) (id x y a0 a1 d0 d1 : Int) : FillD × Int :=
  if (ullS ps x y).2.2 = 0 then (if (meetS (ullS ps x y).1 (ullS ps x y).2.1 a0 a1).2.2 = 0 then (⟨id, 3, (meetS (ullS ps x y).1 (ullS ps x y).2.1 a0 a1).1, (meetS (ullS ps x y).1 (ullS ps x y).2.1 a0 a1).2.1, d0, d1⟩, 0) else (noFill, 24)) else (noFill, (ullS ps x y).2.2)

set_option maxRecDepth 100000 in
set_option maxHeartbeats 4000000 in
theorem moved_any (ps : List P3) (id al ah t0 t1 u0 u1 v0 v1 h0 h1 : Int) (A B C : Option Addr) (n c mm d l ee : Nat) (x y a0 a1 d0 d1 : Int) (w : World) (hp : TabIn w A n ps) (ht : tabOk ps = true) (hle : firstX ps ≤ lastX ps) :
  Calls Tryz.prog 78 #[.agg #[.int .i64 id, .int .i64 al, .int .i64 ah, .slice A n c, .slice B mm d, .slice C l ee, .int .i64 t0, .int .i64 t1, .int .i64 u0, .int .i64 u1, .int .i64 v0, .int .i64 v1, .int .i64 h0, .int .i64 h1], rv x y, rv a0 a1, rv d0 d1] w fun e w' => e = .returned (ft (movedS ps id x y a0 a1 d0 d1)) ∧ Below w.heap.size w w' := by
 have HE := Lib.hid (show Below w.heap.size w (((((w.alloc (.cells #[.int .i64 id, .int .i64 al, .int .i64 ah, .slice A n c, .slice B mm d, .slice C l ee, .int .i64 t0, .int .i64 t1, .int .i64 u0, .int .i64 u1, .int .i64 v0, .int .i64 v1, .int .i64 h0, .int .i64 h1] 35)).alloc (.cells #[.int .i64 x, .int .i64 y] 30)).alloc (.cells #[.int .i64 a0, .int .i64 a1] 30)).alloc (.cells #[.int .i64 d0, .int .i64 d1] 30)).alloc (.cells #[.int .i64 0, .int .i64 0, .int .i64 0, .int .i64 0, .int .i64 0, .int .i64 0] 55)) from below_a5 (Below.refl _ _))
 have HK := Lib.hid (boxes5' w 35 30 30 30 55 #[.int .i64 id, .int .i64 al, .int .i64 ah, .slice A n c, .slice B mm d, .slice C l ee, .int .i64 t0, .int .i64 t1, .int .i64 u0, .int .i64 u1, .int .i64 v0, .int .i64 v1, .int .i64 h0, .int .i64 h1] #[.int .i64 x, .int .i64 y] #[.int .i64 a0, .int .i64 a1] #[.int .i64 d0, .int .i64 d1] #[.int .i64 0, .int .i64 0, .int .i64 0, .int .i64 0, .int .i64 0, .int .i64 0])
 obtain ⟨R, hR⟩ : ∃ R, movedS ps id x y a0 a1 d0 d1 = R := ⟨_, rfl⟩
 obtain ⟨U, hU⟩ : ∃ U, ullS ps x y = U := ⟨_, rfl⟩
 have C1 : Hid (∀ W, Below w.heap.size w W → Calls Tryz.prog 67 #[.agg #[.int .i64 id, .int .i64 al, .int .i64 ah, .slice A n c, .slice B mm d, .slice C l ee, .int .i64 t0, .int .i64 t1, .int .i64 u0, .int .i64 u1, .int .i64 v0, .int .i64 v1, .int .i64 h0, .int .i64 h1], rv x y] W fun e w' => e = .returned (rt U) ∧ Below W.heap.size W w') := Lib.hid fun W hW => by
  rw [← hU]; exact ullages_any ps id al ah t0 t1 u0 u1 v0 v1 h0 h1 A B C n c mm d l ee x y W (hp.below hW) ht hle
 have HR := Lib.hid hR
 rw [hR]
 unfold movedS at HR
 rw [hU] at HR
 clear hR hU hp ht hle
 obtain ⟨p, q, r⟩ := U
 have C2 : Hid (∀ W, Calls Tryz.prog 130 #[rv p q, rv a0 a1] W fun e w' => e = .returned (rt (meetS p q a0 a1)) ∧ Below W.heap.size W w') := Lib.hid fun W => meet_any p q a0 a1 W
 dsimp only at HR
 generalize meetS p q a0 a1 = M at *
 obtain ⟨j, k, e2⟩ := M
 dsimp only at HR
 go_enter Tryz.func78, Tryz.ntmps78
 go_wp2_with fail
 obtain ⟨W0, hW0⟩ : ∃ W0, (((((w.alloc (.cells #[.int .i64 id, .int .i64 al, .int .i64 ah, .slice A n c, .slice B mm d, .slice C l ee, .int .i64 t0, .int .i64 t1, .int .i64 u0, .int .i64 u1, .int .i64 v0, .int .i64 v1, .int .i64 h0, .int .i64 h1] 35)).alloc (.cells #[.int .i64 x, .int .i64 y] 30)).alloc (.cells #[.int .i64 a0, .int .i64 a1] 30)).alloc (.cells #[.int .i64 d0, .int .i64 d1] 30)).alloc (.cells #[.int .i64 0, .int .i64 0, .int .i64 0, .int .i64 0, .int .i64 0, .int .i64 0] 55)) = W0 := ⟨_, rfl⟩
 rw [hW0] at HE HK ⊢
 clear hW0
 obtain ⟨G, hG⟩ : ∃ G, w.heap.size = G := ⟨_, rfl⟩
 rw [hG] at HK ⊢
 have HG := Lib.hid hG; clear hG
 refine (C1.out _ HE.out).mono ?_
 rintro e w1 ⟨rfl, hb⟩
 have HE1 := Lib.hid (below_then (below_then HE.out hb) (below_alloc1 w1 (.cells #[.int .i64 p, .int .i64 q] 30))); have HK1 := Lib.hid ((HK.out.on hb).new 30 #[.int .i64 p, .int .i64 q])
 have hlt := (HK.out.on hb _ (.head _)).lt
 clear hb HE HK C1
 go_upto_region 2 with fail
 obtain ⟨W1, hW1⟩ : ∃ W1, w1.alloc (.cells #[.int .i64 p, .int .i64 q] 30) = W1 := ⟨_, rfl⟩
 rw [hW1] at HE1 HK1 ⊢
 clear hW1
 obtain ⟨N, hN⟩ : ∃ N, w1.heap.size = N := ⟨_, rfl⟩
 rw [hN] at HK1 hlt ⊢
 clear hN
 by_cases g : r = 0
 ·subst g
  have p := HK1.out _ (.head _)
  have p0 := p.cell 0
  have pf0 := p.frozen 0
  have p1 := p.cell 1
  have pf1 := p.frozen 1
  simp at p0 pf0 p1 pf1
  clear p
  have aa := HK1.out _ (.tail _ (.tail _ (.tail _ (.head _))))
  have aa0 := aa.cell 0
  have aa1 := aa.cell 1
  simp at aa0 aa1
  clear aa
  go_wp2_with fail
  refine (C2.out _).mono ?_
  rintro e w2 ⟨rfl, hb⟩
  have hne : ∀ p ∈ ([(G + 1 + 1 + 1 + 1, 55, #[.int .i64 0, .int .i64 0, .int .i64 0, .int .i64 0, .int .i64 0, .int .i64 0]), (G + 1 + 1 + 1, 30, #[.int .i64 d0, .int .i64 d1]), (G + 1 + 1, 30, #[.int .i64 a0, .int .i64 a1]), (G + 1, 30, #[.int .i64 x, .int .i64 y]), (G, 35, #[.int .i64 id, .int .i64 al, .int .i64 ah, .slice A n c, .slice B mm d, .slice C l ee, .int .i64 t0, .int .i64 t1, .int .i64 u0, .int .i64 u1, .int .i64 v0, .int .i64 v1, .int .i64 h0, .int .i64 h1])] : List (Nat × TypeId × Array Value)), p.1 ≠ N := by
   intro p hp
   simp only [List.mem_cons, List.not_mem_nil, or_false] at hp
   rcases hp with rfl | rfl | rfl | rfl | rfl <;> (dsimp only; omega)
  have HE2 := Lib.hid (((below_then HE1.out hb).setCell (p := ⟨N, 0, none⟩) (by have := HG.out; simp; omega) (.int .i64 j)).setCell (p := ⟨N, 1, none⟩) (by have := HG.out; simp; omega) (.int .i64 k))
  have HK2 := Lib.hid (Boxes.set2 (HK1.out.on hb) hne (.int .i64 j) (.int .i64 k))
  have HKb := Lib.hid (HK1.out.on hb)
  clear hb HE1 HK1 C2 hne p0 p1 pf0 pf1
  have b := HKb.out _ (.head _)
  have b0 := b.cell 0
  have bf0 := b.frozen 0
  have b1 := b.cell 1
  have bf1 := b.frozen 1
  simp at b0 bf0 b1 bf1
  clear b
  go_upto_region 5 with fail
  obtain ⟨W3, hW3⟩ : ∃ W3, (w2.setCell ⟨N, 0, none⟩ (.int .i64 j)).setCell ⟨N, 1, none⟩ (.int .i64 k) = W3 := ⟨_, rfl⟩
  rw [hW3] at HE2 HK2 ⊢
  clear hW3 HKb b0 b1 bf0 bf1
  by_cases g2 : e2 = 0
  ·have eR : R = (⟨id, 3, j, k, d0, d1⟩, 0) := by rw [← HR.out]; simp [g2]
   subst eR
   subst g2
   clear HR
   have p := HK2.out _ (.head _)
   have p0 := p.cell 0
   have p1 := p.cell 1
   simp at p0 p1
   clear p
   have r := HK2.out _ (.tail _ (.tail _ (.head _)))
   have r0 := r.cell 0
   have r1 := r.cell 1
   simp at r0 r1
   clear r
   have s := HK2.out _ (.tail _ (.tail _ (.tail _ (.tail _ (.tail _ (.head _))))))
   have s0 := s.cell 0
   simp at s0
   clear s
   go_upto_region 7 with fail
   refine wp_region_lit ?_
   refine wpList_plain rfl (fun K hK => ?_)
   go_simp
   refine hK _ _ ?_
   clear hK K
   refine wpList_plain rfl (fun K hK => ?_)
   go_simp
   refine hK _ _ ?_
   clear hK K
   refine wpList_plain rfl (fun K hK => ?_)
   go_simp
   refine hK _ _ ?_
   clear hK K
   refine wpList_plain rfl (fun K hK => ?_)
   go_simp
   refine hK _ _ ?_
   clear hK K
   refine wpList_plain rfl (fun K hK => ?_)
   go_simp
   refine hK _ _ ?_
   clear hK K
   have HKR : Hid (Blk (W3.setRow (G + 1 + 1 + 1 + 1) #[.int .i64 id, .int .i64 3, .int .i64 j, .int .i64 k, .int .i64 d0, .int .i64 d1]) (G + 1 + 1 + 1 + 1) 55 #[.int .i64 id, .int .i64 3, .int .i64 j, .int .i64 k, .int .i64 d0, .int .i64 d1]) := Lib.hid (setRow_heap W3 (G + 1 + 1 + 1 + 1) _ _ 55 _ (HK2.out _ (.tail _ (.head _))))
   have HE9 := Lib.hid (below_setRow HE2.out (show w.heap.size ≤ G + 1 + 1 + 1 + 1 by have := HG.out; omega) #[.int .i64 id, .int .i64 3, .int .i64 j, .int .i64 k, .int .i64 d0, .int .i64 d1])
   refine wpList_store_row rfl 55 (.tmp 8) (.tmp 35) rfl (G + 1 + 1 + 1 + 1) #[.int .i64 id, .int .i64 3, .int .i64 j, .int .i64 k, .int .i64 d0, .int .i64 d1] rfl rfl 55 _ (HK2.out _ (.tail _ (.head _))) (by kernel_rfl) rfl (by kernel_rfl) ?_
   obtain ⟨W9, hW9⟩ : ∃ W9, W3.setRow (G + 1 + 1 + 1 + 1) #[.int .i64 id, .int .i64 3, .int .i64 j, .int .i64 k, .int .i64 d0, .int .i64 d1] = W9 := ⟨_, rfl⟩
   rw [hW9] at HKR HE9 ⊢
   clear hW9
   go_wp2
   exact bodyPost_ret (v := .tuple #[.agg #[.int .i64 id, .int .i64 3, .int .i64 j, .int .i64 k, .int .i64 d0, .int .i64 d1], .int .i64 0]) (results_cell_tmp_row Tryz.results78 _ _ (G + 1 + 1 + 1 + 1) 55 #[.int .i64 id, .int .i64 3, .int .i64 j, .int .i64 k, .int .i64 d0, .int .i64 d1] (0, 0) _ _ rfl rfl HKR.out Tryz.underlying55 rfl (by kernel_rfl)) rfl ⟨rfl, HE9.out⟩
  ·have eR : R = (noFill, 24) := by rw [← HR.out]; simp [g2]
   subst eR
   clear HR
   go_upto_region 6 with fail
   refine wp_region_lit ?_
   refine wpList_plain rfl (fun K hK => ?_)
   go_simp
   refine hK _ _ ?_
   clear hK K
   have HKR : Hid (Blk (W3.setRow (G + 1 + 1 + 1 + 1) #[.int .i64 0, .int .i64 0, .int .i64 0, .int .i64 0, .int .i64 0, .int .i64 0]) (G + 1 + 1 + 1 + 1) 55 #[.int .i64 0, .int .i64 0, .int .i64 0, .int .i64 0, .int .i64 0, .int .i64 0]) := Lib.hid (setRow_heap W3 (G + 1 + 1 + 1 + 1) _ _ 55 _ (HK2.out _ (.tail _ (.head _))))
   have HE9 := Lib.hid (below_setRow HE2.out (show w.heap.size ≤ G + 1 + 1 + 1 + 1 by have := HG.out; omega) #[.int .i64 0, .int .i64 0, .int .i64 0, .int .i64 0, .int .i64 0, .int .i64 0])
   refine wpList_store_row rfl 55 (.tmp 8) (.tmp 30) rfl (G + 1 + 1 + 1 + 1) #[.int .i64 0, .int .i64 0, .int .i64 0, .int .i64 0, .int .i64 0, .int .i64 0] rfl rfl 55 _ (HK2.out _ (.tail _ (.head _))) (by kernel_rfl) rfl (by kernel_rfl) ?_
   obtain ⟨W9, hW9⟩ : ∃ W9, W3.setRow (G + 1 + 1 + 1 + 1) #[.int .i64 0, .int .i64 0, .int .i64 0, .int .i64 0, .int .i64 0, .int .i64 0] = W9 := ⟨_, rfl⟩
   rw [hW9] at HKR HE9 ⊢
   clear hW9
   go_wp2
   exact bodyPost_ret (v := .tuple #[.agg #[.int .i64 0, .int .i64 0, .int .i64 0, .int .i64 0, .int .i64 0, .int .i64 0], .int .i64 24]) (results_cell_tmp_row Tryz.results78 _ _ (G + 1 + 1 + 1 + 1) 55 #[.int .i64 0, .int .i64 0, .int .i64 0, .int .i64 0, .int .i64 0, .int .i64 0] (0, 0) _ _ rfl rfl HKR.out Tryz.underlying55 rfl (by kernel_rfl)) rfl ⟨rfl, HE9.out⟩
 ·have eR : R = (noFill, r) := by rw [← HR.out, if_neg g]
  subst eR
  clear HR C2
  go_upto_region 3 with fail
  refine wp_region_lit ?_
  refine wpList_plain rfl (fun K hK => ?_)
  go_simp
  refine hK _ _ ?_
  clear hK K
  refine wpList_plain rfl (fun K hK => ?_)
  go_simp
  refine hK _ _ ?_
  clear hK K
  have HKR : Hid (Blk (W1.setRow (G + 1 + 1 + 1 + 1) #[.int .i64 0, .int .i64 0, .int .i64 0, .int .i64 0, .int .i64 0, .int .i64 0]) (G + 1 + 1 + 1 + 1) 55 #[.int .i64 0, .int .i64 0, .int .i64 0, .int .i64 0, .int .i64 0, .int .i64 0]) := Lib.hid (setRow_heap W1 (G + 1 + 1 + 1 + 1) _ _ 55 _ (HK1.out _ (.tail _ (.head _))))
  have HE9 := Lib.hid (below_setRow HE1.out (show w.heap.size ≤ G + 1 + 1 + 1 + 1 by have := HG.out; omega) #[.int .i64 0, .int .i64 0, .int .i64 0, .int .i64 0, .int .i64 0, .int .i64 0])
  refine wpList_store_row rfl 55 (.tmp 8) (.tmp 20) rfl (G + 1 + 1 + 1 + 1) #[.int .i64 0, .int .i64 0, .int .i64 0, .int .i64 0, .int .i64 0, .int .i64 0] rfl rfl 55 _ (HK1.out _ (.tail _ (.head _))) (by kernel_rfl) rfl (by kernel_rfl) ?_
  obtain ⟨W9, hW9⟩ : ∃ W9, W1.setRow (G + 1 + 1 + 1 + 1) #[.int .i64 0, .int .i64 0, .int .i64 0, .int .i64 0, .int .i64 0, .int .i64 0] = W9 := ⟨_, rfl⟩
  rw [hW9] at HKR HE9 ⊢
  clear hW9
  go_wp2
  exact bodyPost_ret (v := .tuple #[.agg #[.int .i64 0, .int .i64 0, .int .i64 0, .int .i64 0, .int .i64 0, .int .i64 0], .int .i64 r]) (results_cell_tmp_row Tryz.results78 _ _ (G + 1 + 1 + 1 + 1) 55 #[.int .i64 0, .int .i64 0, .int .i64 0, .int .i64 0, .int .i64 0, .int .i64 0] (0, 0) _ _ rfl rfl HKR.out Tryz.underlying55 rfl (by kernel_rfl)) rfl ⟨rfl, HE9.out⟩
end

end Go.Proofs.YtemlaaipnhmcoaaGreat
