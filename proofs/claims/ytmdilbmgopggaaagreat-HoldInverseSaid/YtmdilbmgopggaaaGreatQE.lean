/- The contracts of inverse for tanks, soundings and Sounding (hold). The condition of Sounding: the tank's tables lie in memory. -/
import Derived.Test.YtmdilbmgopggaaaGreatQ45
import Derived.Test.YtmdilbmgopggaaaGreatQ22
import Derived.Test.YtmdilbmgopggaaaGreatQC
import Derived.Test.YtmdilbmgopggaaaGreatQD
set_option linter.unusedVariables false
set_option linter.unusedSimpArgs false
set_option linter.constructorNameAsVariable false
namespace Go.Proofs.YtmdilbmgopggaaaGreat

section
open Go.RowKit
attribute [local go_sem ↓] run_minI run_maxI
set_option maxRecDepth 100000 in
set_option maxHeartbeats 4000000 in
theorem inverse_less (A : Option Addr) (n c : Nat) (ps : List P3) (v0 v1 : Int) (w : World) (hp : TabIn w A n ps) (ht : tabOk ps = true) (hle : firstX ps ≤ lastX ps) :
    Calls Tryz.prog 160 #[tv A n c, rv v0 v1, fnV 161, fnV 162] w fun e w' => e = .returned (rt (invS (lessF ps v0) (moreF ps v1) (firstX ps) (lastX ps))) ∧ Below w.heap.size w w' := by
  have HE := Lib.hid (show Below w.heap.size w (((((w.alloc (.cells #[.slice A n c] 26)).alloc (.cells #[.int .i64 v0, .int .i64 v1] 23)).alloc (.cells #[fnV 161] 109)).alloc (.cells #[fnV 162] 109)).alloc (.cells #[.int .i64 0, .int .i64 0] 23)) from below_a5 (Below.refl _ _))
  have HK := Lib.hid (boxes5' w 26 23 109 109 23 #[.slice A n c] #[.int .i64 v0, .int .i64 v1] #[fnV 161] #[fnV 162] #[.int .i64 0, .int .i64 0])
  obtain ⟨pl1, pl2⟩ := places_in ht
  obtain ⟨r1, hr1⟩ : ∃ r, firstX ps + bs (fun i => !((lessF ps v0) (firstX ps + i))) (lastX ps - firstX ps + 1).toNat 0 (lastX ps - firstX ps + 1) = r := ⟨_, rfl⟩
  obtain ⟨r2, hr2⟩ : ∃ r, firstX ps + bs (fun i => (moreF ps v1) (firstX ps + i)) (lastX ps - firstX ps + 1).toNat 0 (lastX ps - firstX ps + 1) = r := ⟨_, rfl⟩
  have hb1 := bs_range (fun i => !((lessF ps v0) (firstX ps + i))) (lastX ps - firstX ps + 1).toNat 0 (lastX ps - firstX ps + 1) (by omega)
  have hb2 := bs_range (fun i => (moreF ps v1) (firstX ps + i)) (lastX ps - firstX ps + 1).toNat 0 (lastX ps - firstX ps + 1) (by omega)
  have C0 : Hid (∀ W, Below w.heap.size w W → Calls Tryz.prog 120 #[tv A n c] W fun e w' => e = .returned (rv (firstX ps) (lastX ps)) ∧ Below W.heap.size W w') := Lib.hid fun W hW => hplaces_tab A n c ps W (hp.below hW) ht
  have C1 : Hid (∀ W Bt Ba Bv, InvIn W Bt Ba Bv A n c 161 v0 v1 ps → Calls Tryz.prog 209 #[.int .i64 (firstX ps), .int .i64 (lastX ps), inv1Fn Bt Ba Bv] W fun e w' => e = .returned (.int .i64 r1) ∧ Below W.heap.size W w') := Lib.hid fun W Bt Ba Bv hI =>
    first1_to Bt Ba Bv (fun x => !((lessF ps v0) x)) _ _ r1 W (fun V x t hV q1 q2 q3 => inv1_less A n c ps v0 v1 x t Bt Ba Bv V (hI.below hV) ht q1 q2 q3) pl1 hle pl2 hr1
  have C2 : Hid (∀ W Bt Ba Bv, InvIn W Bt Ba Bv A n c 162 v0 v1 ps → Calls Tryz.prog 209 #[.int .i64 (firstX ps), .int .i64 (lastX ps), inv2Fn Bt Ba Bv] W fun e w' => e = .returned (.int .i64 r2) ∧ Below W.heap.size W w') := Lib.hid fun W Bt Ba Bv hI =>
    first2_to Bt Ba Bv (moreF ps v1) _ _ r2 W (fun V x t hV q1 q2 q3 => inv2_more A n c ps v0 v1 x t Bt Ba Bv V (hI.below hV) ht q1 q2 q3) pl1 hle pl2 hr2
  obtain ⟨R, hR⟩ : ∃ R, invS (lessF ps v0) (moreF ps v1) (firstX ps) (lastX ps) = R := ⟨_, rfl⟩
  rw [hR]
  have HR : Hid ((if lastX ps < r1 ∨ r2 = firstX ps then (0, 0, 24) else (max (r1 - 1) (firstX ps), min r2 (lastX ps), 0)) = R) := Lib.hid (by rw [← hR]; unfold invS; rw [hr1, hr2])
  clear hR ht
  have HP := Lib.hid hp
  clear hp
  generalize firstX ps = f at *
  generalize lastX ps = l at *
  have k1 : f ≤ r1 ∧ r1 ≤ l + 1 := by omega
  have k2 : f ≤ r2 ∧ r2 ≤ l + 1 := by omega
  clear hr1 hr2 hb1 hb2
  have w1 : IntKind.i64.wrap (r1 - 1) = r1 - 1 := IntWalk.i64_in _ ⟨by omega, by omega⟩
  go_enter Tryz.func160, Tryz.ntmps160
  go_wp2_with fail
  obtain ⟨W0, hW0⟩ : ∃ W0, (((((w.alloc (.cells #[.slice A n c] 26)).alloc (.cells #[.int .i64 v0, .int .i64 v1] 23)).alloc (.cells #[fnV 161] 109)).alloc (.cells #[fnV 162] 109)).alloc (.cells #[.int .i64 0, .int .i64 0] 23)) = W0 := ⟨_, rfl⟩
  rw [hW0] at HE HK ⊢
  clear hW0
  obtain ⟨G, hG⟩ : ∃ G, w.heap.size = G := ⟨_, rfl⟩
  rw [hG] at HK ⊢
  have HG := Lib.hid hG; clear hG
  refine (C0.out _ HE.out).mono ?_
  rintro e w1 ⟨rfl, hb⟩
  have HE1 := Lib.hid (below_then (below_then HE.out hb) (below_alloc1 w1 (.cells #[.int .i64 f, .int .i64 l] 23)))
  have HK1 := Lib.hid ((HK.out.on hb).new 23 #[.int .i64 f, .int .i64 l])
  clear hb HE HK C0
  go_upto_region 2 with fail
  obtain ⟨W1, hW1⟩ : ∃ W1, w1.alloc (.cells #[.int .i64 f, .int .i64 l] 23) = W1 := ⟨_, rfl⟩
  rw [hW1] at HE1 HK1 ⊢
  clear hW1
  obtain ⟨N, hN⟩ : ∃ N, w1.heap.size = N := ⟨_, rfl⟩
  rw [hN] at HK1 ⊢
  clear hN
  have p := HK1.out _ (.head _)
  have p0 := p.cell 0
  have p1 := p.cell 1
  simp at p0 p1
  clear p
  go_wp2_with fail
  refine (C1.out _ _ _ _ ⟨HK1.out _ (.tail _ (.tail _ (.tail _ (.tail _ (.tail _ (.head _)))))), HK1.out _ (.tail _ (.tail _ (.tail _ (.head _)))), HK1.out _ (.tail _ (.tail _ (.tail _ (.tail _ (.head _))))), HP.out.below HE1.out⟩).mono ?_
  rintro e w2 ⟨rfl, hb⟩
  have HE2 := Lib.hid (below_then HE1.out hb)
  have HK2 := Lib.hid (HK1.out.on hb)
  clear hb HE1 HK1 p0 p1 C1
  have p := HK2.out _ (.head _)
  have p0 := p.cell 0
  have p1 := p.cell 1
  simp at p0 p1
  clear p
  go_wp2_with fail
  refine (C2.out _ _ _ _ ⟨HK2.out _ (.tail _ (.tail _ (.tail _ (.tail _ (.tail _ (.head _)))))), HK2.out _ (.tail _ (.tail _ (.head _))), HK2.out _ (.tail _ (.tail _ (.tail _ (.tail _ (.head _))))), HP.out.below HE2.out⟩).mono ?_
  rintro e w3 ⟨rfl, hb⟩
  have HE3 := Lib.hid (below_then HE2.out hb)
  have HK3 := Lib.hid (HK2.out.on hb)
  clear hb HE2 HK2 p0 p1 C2
  have p := HK3.out _ (.head _)
  have p0 := p.cell 0
  have p1 := p.cell 1
  have pl := p.lt
  simp at p0 p1
  clear p
  have z := HK3.out _ (.tail _ (.head _))
  have z0 := z.cell 0
  have zf0 := z.frozen 0
  have z1 := z.cell 1
  have zf1 := z.frozen 1
  have zl := z.lt
  simp at z0 zf0 z1 zf1
  clear z
  by_cases g1 : l < r1
  · have e : R = (0, 0, 24) := by rw [← HR.out, if_pos (.inl g1)]
    subst e
    clear HR
    go_wp2
    refine bodyPost_ret (v := rt (0, 0, 24)) (by simp [results, Tryz.results160, go_sem, z0, z1]) rfl ⟨rfl, ?_⟩
    have hg := HG.out
    repeat (first | exact HE3.out | refine Below.setCell ?_ (by simp <;> omega) _)
  · by_cases g2 : r2 = f
    · have e : R = (0, 0, 24) := by rw [← HR.out, if_pos (.inr g2)]
      subst e
      have b2 : (r2 == f) = true := by simp [g2]
      clear g2 HR
      go_wp2
      refine bodyPost_ret (v := rt (0, 0, 24)) (by simp [results, Tryz.results160, go_sem, z0, z1]) rfl ⟨rfl, ?_⟩
      have hg := HG.out
      repeat (first | exact HE3.out | refine Below.setCell ?_ (by simp <;> omega) _)
    · have e : R = (max (r1 - 1) f, min r2 l, 0) := by rw [← HR.out, if_neg (by omega)]
      have b2 : (r2 == f) = false := beq_eq_false_iff_ne.2 g2
      obtain ⟨m1, hm1⟩ : ∃ m, max (r1 - 1) f = m := ⟨_, rfl⟩
      obtain ⟨m2, hm2⟩ : ∃ m, min r2 l = m := ⟨_, rfl⟩
      rw [hm1, hm2] at e
      subst e
      clear g2 HR
      go_wp2
      refine bodyPost_ret (v := rt (m1, m2, 0)) (by simp [results, Tryz.results160, go_sem, z0, z1]) rfl ⟨rfl, ?_⟩
      have hg := HG.out
      repeat (first | exact HE3.out | refine Below.setCell ?_ (by simp <;> omega) _)

/-- the soundings of a volume -/
def sndS (ps : List P3) (x y : Int) : Int × Int × Int := invS (lessF ps x) (moreF ps y) (firstX ps) (lastX ps)

set_option maxRecDepth 100000 in
set_option maxHeartbeats 4000000 in
theorem soundings_any (ps : List P3) (id al ah : Int) (A B C : Option Addr) (n c mm d l ee : Nat) (x y : Int) (w : World) (hp : TabIn w A n ps) (ht : tabOk ps = true) (hle : firstX ps ≤ lastX ps) :
    Calls Tryz.prog 112 #[.agg #[.int .i64 id, .int .i64 al, .int .i64 ah, .slice A n c, .slice B mm d, .slice C l ee], rv x y] w fun e w' => e = .returned (rt (sndS ps x y)) ∧ Below w.heap.size w w' := by
  have HE := Lib.hid (show Below w.heap.size w (((w.alloc (.cells #[.int .i64 id, .int .i64 al, .int .i64 ah, .slice A n c, .slice B mm d, .slice C l ee] 43)).alloc (.cells #[.int .i64 x, .int .i64 y] 23)).alloc (.cells #[.int .i64 0, .int .i64 0] 23)) from below_a3 (Below.refl _ _))
  have HK := Lib.hid (boxes3' w 43 23 23 #[.int .i64 id, .int .i64 al, .int .i64 ah, .slice A n c, .slice B mm d, .slice C l ee] #[.int .i64 x, .int .i64 y] #[.int .i64 0, .int .i64 0])
  obtain ⟨R, hR⟩ : ∃ R, sndS ps x y = R := ⟨_, rfl⟩
  have CC : Hid (∀ W, Below w.heap.size w W → Calls Tryz.prog 160 #[tv A n c, rv x y, fnV 161, fnV 162] W fun e w' => e = .returned (rt R) ∧ Below W.heap.size W w') := Lib.hid fun W hW => by
    rw [← hR]; exact inverse_less A n c ps x y W (hp.below hW) ht hle
  rw [hR]
  clear hR hp ht hle
  obtain ⟨ra, rb, re⟩ := R
  go_enter Tryz.func112, Tryz.ntmps112
  go_wp2_with fail
  obtain ⟨W0, hW0⟩ : ∃ W0, (((w.alloc (.cells #[.int .i64 id, .int .i64 al, .int .i64 ah, .slice A n c, .slice B mm d, .slice C l ee] 43)).alloc (.cells #[.int .i64 x, .int .i64 y] 23)).alloc (.cells #[.int .i64 0, .int .i64 0] 23)) = W0 := ⟨_, rfl⟩
  rw [hW0] at HE HK ⊢
  clear hW0
  obtain ⟨G, hG⟩ : ∃ G, w.heap.size = G := ⟨_, rfl⟩
  rw [hG] at HK ⊢
  have HG := Lib.hid hG; clear hG
  refine (CC.out _ HE.out).mono ?_
  rintro e w1 ⟨rfl, hb⟩
  have HE1 := Lib.hid (below_then HE.out hb); have HK1 := Lib.hid (HK.out.on hb)
  clear hb HE HK CC
  have z := HK1.out _ (.head _)
  have z0 := z.cell 0
  have zf0 := z.frozen 0
  have z1 := z.cell 1
  have zf1 := z.frozen 1
  have zl := z.lt
  simp at z0 zf0 z1 zf1
  clear z
  go_wp2
  refine bodyPost_ret (v := rt (ra, rb, re)) (by simp [results, Tryz.results112, go_sem, z0, z1]) rfl ⟨rfl, ?_⟩
  have hg := HG.out
  repeat (first | exact HE1.out | refine Below.setCell ?_ (by simp <;> omega) _)

set_option maxRecDepth 100000 in
set_option maxHeartbeats 4000000 in
theorem sounding1_any (ps : List P3) (id al ah : Int) (A B C : Option Addr) (n c mm d l ee : Nat) (x y : Int) (Bh : Nat) (w : World) (hB : Blk w Bh 43 #[.int .i64 id, .int .i64 al, .int .i64 ah, .slice A n c, .slice B mm d, .slice C l ee]) (hp : TabIn w A n ps) (ht : tabOk ps = true) (hle : firstX ps ≤ lastX ps) :
    Calls Tryz.prog 124 #[rv x y, .pointer (some ⟨Bh, 0, none⟩)] w fun e w' => e = .returned (rt (sndS ps x y)) ∧ Below w.heap.size w w' := by
  have HE := Lib.hid (show Below w.heap.size w ((w.alloc (.cells #[.int .i64 x, .int .i64 y] 23)).alloc (.cells #[.int .i64 0, .int .i64 0] 23)) from below_a2 (Below.refl _ _))
  have HK := Lib.hid (boxes2' w 23 23 #[.int .i64 x, .int .i64 y] #[.int .i64 0, .int .i64 0])
  obtain ⟨R, hR⟩ : ∃ R, sndS ps x y = R := ⟨_, rfl⟩
  have CC : Hid (∀ W, Below w.heap.size w W → Calls Tryz.prog 112 #[.agg #[.int .i64 id, .int .i64 al, .int .i64 ah, .slice A n c, .slice B mm d, .slice C l ee], rv x y] W fun e w' => e = .returned (rt R) ∧ Below W.heap.size W w') := Lib.hid fun W hW => by
    rw [← hR]; exact soundings_any ps id al ah A B C n c mm d l ee x y W (hp.below hW) ht hle
  rw [hR]
  clear hR hp ht hle
  obtain ⟨ra, rb, re⟩ := R
  have HH := Lib.hid (blkOn hB HE.out)
  have HH0 := Lib.hid hB
  clear hB
  go_enter Tryz.func124, Tryz.ntmps124
  go_upto_region 1 with fail
  obtain ⟨W0, hW0⟩ : ∃ W0, ((w.alloc (.cells #[.int .i64 x, .int .i64 y] 23)).alloc (.cells #[.int .i64 0, .int .i64 0] 23)) = W0 := ⟨_, rfl⟩
  rw [hW0] at HE HK HH ⊢
  clear hW0
  obtain ⟨G, hG⟩ : ∃ G, w.heap.size = G := ⟨_, rfl⟩
  rw [hG] at HK ⊢
  have HG := Lib.hid hG; clear hG
  have hh := HH.out
  have s0 := hh.cell 0
  have s1 := hh.cell 1
  have s2 := hh.cell 2
  have s3 := hh.cell 3
  have s4 := hh.cell 4
  have s5 := hh.cell 5
  simp at s0 s1 s2 s3 s4 s5
  have p := HK.out _ (.tail _ (.head _))
  have p0 := p.cell 0
  have p1 := p.cell 1
  simp at p0 p1
  clear p
  clear hh HH HH0
  go_wp2_with fail
  refine (CC.out _ HE.out).mono ?_
  rintro e w1 ⟨rfl, hb⟩
  have HE1 := Lib.hid (below_then HE.out hb); have HK1 := Lib.hid (HK.out.on hb)
  clear hb HE HK CC p0 p1 s0 s1 s2 s3 s4 s5
  have z := HK1.out _ (.head _)
  have z0 := z.cell 0
  have zf0 := z.frozen 0
  have z1 := z.cell 1
  have zf1 := z.frozen 1
  have zl := z.lt
  simp at z0 zf0 z1 zf1
  clear z
  go_wp2
  refine bodyPost_ret (v := rt (ra, rb, re)) (by simp [results, Tryz.results124, go_sem, z0, z1]) rfl ⟨rfl, ?_⟩
  have hg := HG.out
  repeat (first | exact HE1.out | refine Below.setCell ?_ (by simp <;> omega) _)

set_option maxRecDepth 100000 in
set_option maxHeartbeats 4000000 in
theorem ofMass_snd (a b c d : Int) (Bh : Nat) (R : Int × Int × Int) (w : World) (hC : massErr a b c d = 0 → ∀ W, Below w.heap.size w W → Calls Tryz.prog 124 #[rv (litresS a b c d).1 (litresS a b c d).2, .pointer (some ⟨Bh, 0, none⟩)] W fun e w' => e = .returned (rt R) ∧ Below W.heap.size W w') :
    Calls Tryz.prog 121 #[rv a b, rv c d, .func (.func 124) #[] #[.pointer (some ⟨Bh, 0, none⟩)]] w fun e w' => e = .returned (rt (if massErr a b c d = 0 then R else (0, 0, massErr a b c d))) ∧ Below w.heap.size w w' := by
  have HE := Lib.hid (show Below w.heap.size w (((w.alloc (.cells #[.int .i64 a, .int .i64 b] 23)).alloc (.cells #[.int .i64 c, .int .i64 d] 23)).alloc (.cells #[.int .i64 0, .int .i64 0] 23)) from below_a3 (Below.refl _ _))
  have HK := Lib.hid (boxes3' w 23 23 23 #[.int .i64 a, .int .i64 b] #[.int .i64 c, .int .i64 d] #[.int .i64 0, .int .i64 0])
  obtain ⟨E, hE⟩ : ∃ E, massErr a b c d = E := ⟨_, rfl⟩
  obtain ⟨Q, hQ⟩ : ∃ Q, (if massErr a b c d = 0 then R else (0, 0, massErr a b c d)) = Q := ⟨_, rfl⟩
  rw [hQ]
  obtain ⟨p, hp⟩ : ∃ p, (litresS a b c d).1 = p := ⟨_, rfl⟩
  obtain ⟨q, hq⟩ : ∃ q, (litresS a b c d).2 = q := ⟨_, rfl⟩
  have HQ : Hid ((if E = 0 then R else (0, 0, E)) = Q) := Lib.hid (by rw [← hQ, hE])
  have C1 : Hid (E = 0 → ∀ W, Calls Tryz.prog 44 #[rv a b, rv c d] W fun e w' => e = .returned (.tuple #[rv p q, .int .i64 0]) ∧ Below W.heap.size W w') := Lib.hid fun h W => rt_to (hLitres_any a b c d W) (by unfold LitresS; rw [if_pos (hE.trans h), hp, hq])
  have C1' : Hid (¬ E = 0 → ∀ W, Calls Tryz.prog 44 #[rv a b, rv c d] W fun e w' => e = .returned (.tuple #[rv 0 0, .int .i64 E]) ∧ Below W.heap.size W w') := Lib.hid fun h W => rt_to (hLitres_any a b c d W) (by unfold LitresS; rw [if_neg (by rw [hE]; exact h), hE])
  have C2 : Hid (E = 0 → ∀ W, Below w.heap.size w W → Calls Tryz.prog 124 #[rv p q, .pointer (some ⟨Bh, 0, none⟩)] W fun e w' => e = .returned (rt R) ∧ Below W.heap.size W w') := Lib.hid fun h W hW => by
    have := hC (hE.trans h) W hW
    rw [hp, hq] at this; exact this
  clear hE hQ hp hq hC
  obtain ⟨ra, rb, re⟩ := R
  by_cases g : E = 0
  · have e : Q = (ra, rb, re) := by rw [← HQ.out, if_pos g]
    subst e
    have C1 := Lib.hid (C1.out g)
    have C2 := Lib.hid (C2.out g)
    clear HQ C1' g
    go_enter Tryz.func121, Tryz.ntmps121
    go_wp2_with fail
    obtain ⟨W0, hW0⟩ : ∃ W0, (((w.alloc (.cells #[.int .i64 a, .int .i64 b] 23)).alloc (.cells #[.int .i64 c, .int .i64 d] 23)).alloc (.cells #[.int .i64 0, .int .i64 0] 23)) = W0 := ⟨_, rfl⟩
    rw [hW0] at HE HK ⊢
    clear hW0
    obtain ⟨G, hG⟩ : ∃ G, w.heap.size = G := ⟨_, rfl⟩
    rw [hG] at HK ⊢
    have HG := Lib.hid hG; clear hG
    refine (C1.out _).mono ?_
    rintro e w1 ⟨rfl, hb⟩
    have HE1 := Lib.hid (below_then (below_then HE.out hb) (below_alloc1 w1 (.cells #[.int .i64 p, .int .i64 q] 23))); have HK1 := Lib.hid ((HK.out.on hb).new 23 #[.int .i64 p, .int .i64 q])
    clear hb HE HK C1
    go_wp2_with fail
    refine (C2.out _ HE1.out).mono ?_
    rintro e w2 ⟨rfl, hb⟩
    have HE2 := Lib.hid (below_then HE1.out hb); have HK2 := Lib.hid (HK1.out.on hb)
    clear hb HE1 HK1 C2
    have z := HK2.out _ (.tail _ (.head _))
    have z0 := z.cell 0
    have zf0 := z.frozen 0
    have z1 := z.cell 1
    have zf1 := z.frozen 1
    have zl := z.lt
    simp at z0 zf0 z1 zf1
    clear z
    go_wp2
    refine bodyPost_ret (v := rt (ra, rb, re)) (by simp [results, Tryz.results121, go_sem, z0, z1]) rfl ⟨rfl, ?_⟩
    have hg := HG.out
    repeat (first | exact HE2.out | refine Below.setCell ?_ (by simp <;> omega) _)
  · have e : Q = (0, 0, E) := by rw [← HQ.out, if_neg g]
    subst e
    have C1 := Lib.hid (C1'.out g)
    clear HQ C1' C2
    go_enter Tryz.func121, Tryz.ntmps121
    go_wp2_with fail
    obtain ⟨W0, hW0⟩ : ∃ W0, (((w.alloc (.cells #[.int .i64 a, .int .i64 b] 23)).alloc (.cells #[.int .i64 c, .int .i64 d] 23)).alloc (.cells #[.int .i64 0, .int .i64 0] 23)) = W0 := ⟨_, rfl⟩
    rw [hW0] at HE HK ⊢
    clear hW0
    obtain ⟨G, hG⟩ : ∃ G, w.heap.size = G := ⟨_, rfl⟩
    rw [hG] at HK ⊢
    have HG := Lib.hid hG; clear hG
    refine (C1.out _).mono ?_
    rintro e w1 ⟨rfl, hb⟩
    have HE1 := Lib.hid (below_then (below_then HE.out hb) (below_alloc1 w1 (.cells #[.int .i64 0, .int .i64 0] 23))); have HK1 := Lib.hid ((HK.out.on hb).new 23 #[.int .i64 0, .int .i64 0])
    have hlt := (HK.out.on hb _ (.head _)).lt
    have hl : G + 1 + 1 ≠ w1.heap.size := Nat.ne_of_lt hlt
    have hl2 : w1.heap.size ≠ G + 1 + 1 := Nat.ne_of_gt hlt
    clear hb HE HK C1
    go_upto_region 3 with fail
    obtain ⟨W1, hW1⟩ : ∃ W1, w1.alloc (.cells #[.int .i64 0, .int .i64 0] 23) = W1 := ⟨_, rfl⟩
    rw [hW1] at HE1 HK1 ⊢
    clear hW1
    have z := HK1.out _ (.tail _ (.head _))
    have z0 := z.cell 0
    have zf0 := z.frozen 0
    have z1 := z.cell 1
    have zf1 := z.frozen 1
    have zl := z.lt
    simp at z0 zf0 z1 zf1
    clear z
    go_wp2
    refine bodyPost_ret (v := rt (0, 0, E)) (by simp [results, Tryz.results121, go_sem, z0, z1]) rfl ⟨rfl, ?_⟩
    have hg := HG.out
    repeat (first | exact HE1.out | refine Below.setCell ?_ (by simp <;> omega) _)

/-- Sounding -/
def SoundingS (h : TankD) (a b c d : Int) : Int × Int × Int := if tankErr h = 0 then (if massErr a b c d = 0 then sndS h.vol (litresS a b c d).1 (litresS a b c d).2 else (0, 0, massErr a b c d)) else (0, 0, tankErr h)
theorem tankErr_zero {h : TankD} (e : tankErr h = 0) : tankS h = true := by
  unfold tankErr at e
  split at e
  · assumption
  · omega

set_option maxRecDepth 100000 in
set_option maxHeartbeats 4000000 in
theorem hSounding_any (h : TankD) (m : HoldM) (a b e0 e1 : Int) (w : World) (hi : TankIn w h m) :
    Calls Tryz.prog 48 #[tankV h m, rv a b, rv e0 e1] w fun e w' => e = .returned (rt (SoundingS h a b e0 e1)) ∧ Below w.heap.size w w' := by
  obtain ⟨R, hR⟩ : ∃ R, SoundingS h a b e0 e1 = R := ⟨_, rfl⟩
  obtain ⟨E, hE⟩ : ∃ E, tankErr h = E := ⟨_, rfl⟩
  have C1 : Hid (∀ W, Below w.heap.size w W → Calls Tryz.prog 40 #[tankV h m] W fun e w' => e = .returned (.int .i64 E) ∧ Below W.heap.size W w') := Lib.hid fun W hW => int_to (checkTank_any h m W (hi.below hW)) hE
  have HR : Hid ((if E = 0 then (if massErr a b e0 e1 = 0 then sndS h.vol (litresS a b e0 e1).1 (litresS a b e0 e1).2 else (0, 0, massErr a b e0 e1)) else (0, 0, E)) = R) := Lib.hid (by rw [← hR]; unfold SoundingS; rw [hE])
  have HV : E = 0 → tabOk h.vol = true := fun e => tank_tab (tankErr_zero (hE.trans e))
  have h21 : E = 0 ∨ E = 21 := by
    rw [← hE]; unfold tankErr; split
    · exact .inl rfl
    · exact .inr rfl
  rw [hR]
  clear hR hE
  obtain ⟨id, al, ah, vol, mom, hei⟩ := h
  obtain ⟨A, n, c, B, mm, d, C, l, ee⟩ := m
  obtain ⟨i1, i2, i3⟩ := hi
  dsimp only at i1 i2 i3 HR HV
  have C2 : Hid (E = 0 → ∀ W Bh, Below w.heap.size w W → Blk W Bh 43 #[.int .i64 id, .int .i64 al, .int .i64 ah, .slice A n c, .slice B mm d, .slice C l ee] → Calls Tryz.prog 121 #[rv a b, rv e0 e1, .func (.func 124) #[] #[.pointer (some ⟨Bh, 0, none⟩)]] W fun e w' => e = .returned (rt (if massErr a b e0 e1 = 0 then sndS vol (litresS a b e0 e1).1 (litresS a b e0 e1).2 else (0, 0, massErr a b e0 e1))) ∧ Below W.heap.size W w') := Lib.hid fun e W Bh hW hB =>
    ofMass_snd a b e0 e1 Bh _ W fun _ V hV => sounding1_any vol id al ah A B C n c mm d l ee _ _ Bh V (blkOn hB hV) (i1.below (below_then hW hV)) (HV e) (first_le_last (HV e))
  have HE := Lib.hid (show Below w.heap.size w ((((w.alloc (.cells #[.int .i64 id, .int .i64 al, .int .i64 ah, .slice A n c, .slice B mm d, .slice C l ee] 43)).alloc (.cells #[.int .i64 a, .int .i64 b] 23)).alloc (.cells #[.int .i64 e0, .int .i64 e1] 23)).alloc (.cells #[.int .i64 0, .int .i64 0] 23)) from below_a4 (Below.refl _ _))
  have HK := Lib.hid (boxes4' w 43 23 23 23 #[.int .i64 id, .int .i64 al, .int .i64 ah, .slice A n c, .slice B mm d, .slice C l ee] #[.int .i64 a, .int .i64 b] #[.int .i64 e0, .int .i64 e1] #[.int .i64 0, .int .i64 0])
  clear i1 i2 i3 HV
  generalize (if massErr a b e0 e1 = 0 then sndS vol (litresS a b e0 e1).1 (litresS a b e0 e1).2 else (0, 0, massErr a b e0 e1)) = Q at *
  obtain ⟨qa, qb, qe⟩ := Q
  go_enter Tryz.func48, Tryz.ntmps48
  go_wp2_with fail
  obtain ⟨W0, hW0⟩ : ∃ W0, ((((w.alloc (.cells #[.int .i64 id, .int .i64 al, .int .i64 ah, .slice A n c, .slice B mm d, .slice C l ee] 43)).alloc (.cells #[.int .i64 a, .int .i64 b] 23)).alloc (.cells #[.int .i64 e0, .int .i64 e1] 23)).alloc (.cells #[.int .i64 0, .int .i64 0] 23)) = W0 := ⟨_, rfl⟩
  rw [hW0] at HE HK ⊢
  clear hW0
  obtain ⟨G, hG⟩ : ∃ G, w.heap.size = G := ⟨_, rfl⟩
  rw [hG] at HK ⊢
  have HG := Lib.hid hG; clear hG
  refine (C1.out _ HE.out).mono ?_
  rintro e w1 ⟨rfl, hb⟩
  have HE1 := Lib.hid (below_then HE.out hb); have HK1 := Lib.hid (HK.out.on hb)
  clear hb HE HK C1
  by_cases g : E = 0
  · have eR : R = (qa, qb, qe) := by rw [← HR.out, if_pos g]
    subst eR
    have D2 := Lib.hid (C2.out g)
    clear HR C2
    subst g
    have p := HK1.out _ (.tail _ (.tail _ (.head _)))
    have p0 := p.cell 0
    have p1 := p.cell 1
    simp at p0 p1
    clear p
    have q := HK1.out _ (.tail _ (.head _))
    have q0 := q.cell 0
    have q1 := q.cell 1
    simp at q0 q1
    clear q
    go_wp2_with fail
    refine (D2.out _ _ HE1.out (HK1.out _ (.tail _ (.tail _ (.tail _ (.head _)))))).mono ?_
    rintro e w2 ⟨rfl, hb⟩
    have HE2 := Lib.hid (below_then HE1.out hb); have HK2 := Lib.hid (HK1.out.on hb)
    clear hb HE1 HK1 D2 p0 p1 q0 q1
    have z := HK2.out _ (.head _)
    have z0 := z.cell 0
    have zf0 := z.frozen 0
    have z1 := z.cell 1
    have zf1 := z.frozen 1
    have zl := z.lt
    simp at z0 zf0 z1 zf1
    clear z
    go_wp2
    refine bodyPost_ret (v := rt (qa, qb, qe)) (by simp [results, Tryz.results48, go_sem, z0, z1]) rfl ⟨rfl, ?_⟩
    have hg := HG.out
    repeat (first | exact HE2.out | refine Below.setCell ?_ (by simp <;> omega) _)
  · have eR : R = (0, 0, E) := by rw [← HR.out, if_neg g]
    subst eR
    clear HR C2
    obtain rfl : E = 21 := h21.resolve_left g
    have z := HK1.out _ (.head _)
    have z0 := z.cell 0
    have zf0 := z.frozen 0
    have z1 := z.cell 1
    have zf1 := z.frozen 1
    have zl := z.lt
    simp at z0 zf0 z1 zf1
    clear z
    go_wp2
    refine bodyPost_ret (v := rt (0, 0, 21)) (by simp [results, Tryz.results48, go_sem, z0, z1]) rfl ⟨rfl, ?_⟩
    have hg := HG.out
    repeat (first | exact HE1.out | refine Below.setCell ?_ (by simp <;> omega) _)
end

end Go.Proofs.YtmdilbmgopggaaaGreat
