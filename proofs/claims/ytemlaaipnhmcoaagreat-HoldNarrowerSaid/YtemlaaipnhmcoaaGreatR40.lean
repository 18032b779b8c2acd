/- Plain, for HoldInverts, HoldPoured and HoldDrawn: a place that is not surely beside lies within the inverse; a value of a curve lies within At; litres of a mass; the least range that has a quotient. No conditions. -/
import Derived.Test.YtemlaaipnhmcoaaGreatR39
import Derived.Test.YtemlaaipnhmcoaaGreatR22
import Derived.Test.YtemlaaipnhmcoaaGreatR11
import Derived.Test.YtemlaaipnhmcoaaGreatR26
import Derived.Test.YtemlaaipnhmcoaaGreatR37
import Derived.Test.YtemlaaipnhmcoaaGreatR14
set_option linter.unusedVariables false
set_option linter.unusedSimpArgs false
set_option linter.constructorNameAsVariable false
namespace Go.Proofs.YtemlaaipnhmcoaaGreat

section
open Go.RowKit

theorem hold_falls {h : HoldD} (e : holdS h = true) : fallsS h.vol = true ∧ 2 ≤ h.vol.length := by
  unfold holdS amtRest ctRest at e
  simp only [Bool.and_eq_true] at e
  obtain ⟨_, _, _, _, _, hm, _, _, hf, _⟩ := e
  refine ⟨hf, ?_⟩
  unfold measuresS at hm
  simp only [Bool.and_eq_true, decide_eq_true_eq] at hm
  exact hm.1.2
theorem tank_rises {t : TankD} (e : tankS t = true) : risesS t.vol = true ∧ 2 ≤ t.vol.length := by
  unfold tankS ctRest at e
  simp only [Bool.and_eq_true] at e
  obtain ⟨_, hm, _, _, hf, _⟩ := e
  refine ⟨hf, ?_⟩
  unfold measuresS at hm
  simp only [Bool.and_eq_true, decide_eq_true_eq] at hm
  exact hm.1.2
def Turns (ps : List P3) (x y : Int) (fl : Bool) : Prop := (∀ u v, firstX ps ≤ u → u ≤ v → v ≤ lastX ps → besideS ps x y fl v = true → besideS ps x y fl u = true) ∧ (∀ u v, firstX ps ≤ u → u ≤ v → v ≤ lastX ps → besideS ps x y (!fl) u = true → besideS ps x y (!fl) v = true)
theorem turns_falls {ps : List P3} {x y : Int} (ht : tabOk ps = true) (h2 : 2 ≤ ps.length) (hf : fallsS ps = true) : Turns ps x y true := by
  refine ⟨fun u v a b c h => ?_, fun u v a b c h => ?_⟩
  · have q := at_falls ht h2 hf a b c
    simp only [besideS, moreF, if_true, decide_eq_true_eq] at h ⊢
    omega
  · have q := at_falls ht h2 hf a b c
    simp only [besideS, lessF, Bool.not_true, Bool.false_eq_true, if_false, decide_eq_true_eq] at h ⊢
    omega
theorem turns_rises {ps : List P3} {x y : Int} (ht : tabOk ps = true) (h2 : 2 ≤ ps.length) (hf : risesS ps = true) : Turns ps x y false := by
  refine ⟨fun u v a b c h => ?_, fun u v a b c h => ?_⟩
  · have q := at_rises ht h2 hf a b c
    simp only [besideS, lessF, Bool.false_eq_true, if_false, decide_eq_true_eq] at h ⊢
    omega
  · have q := at_rises ht h2 hf a b c
    simp only [besideS, moreF, Bool.not_false, if_true, decide_eq_true_eq] at h ⊢
    omega
end

section
open Go.RowKit
attribute [local go_sem ↓] run_minI run_maxI
set_option maxRecDepth 100000 in
set_option maxHeartbeats 4000000 in
theorem inverse_less (A : Option Addr) (n c : Nat) (ps : List P3) (v0 v1 : Int) (w : World) (hp : TabIn w A n ps) (ht : tabOk ps = true) (hle : firstX ps ≤ lastX ps) :
  Calls Tryz.prog 120 #[tv A n c, rv v0 v1, fnV 122, fnV 121] w fun e w' => e = .returned (rt (invS (lessF ps v0) (moreF ps v1) (firstX ps) (lastX ps))) ∧ Below w.heap.size w w' := by
 have HE := Lib.hid (show Below w.heap.size w (((((w.alloc (.cells #[.slice A n c] 33)).alloc (.cells #[.int .i64 v0, .int .i64 v1] 30)).alloc (.cells #[fnV 122] 59)).alloc (.cells #[fnV 121] 59)).alloc (.cells #[.int .i64 0, .int .i64 0] 30)) from below_a5 (Below.refl _ _))
 have HK := Lib.hid (boxes5' w 33 30 59 59 30 #[.slice A n c] #[.int .i64 v0, .int .i64 v1] #[fnV 122] #[fnV 121] #[.int .i64 0, .int .i64 0])
 obtain ⟨pl1, pl2⟩ := places_in ht
 obtain ⟨r1, hr1⟩ : ∃ r, firstX ps + bs (fun i => !((lessF ps v0) (firstX ps + i))) (lastX ps - firstX ps + 1).toNat 0 (lastX ps - firstX ps + 1) = r := ⟨_, rfl⟩
 obtain ⟨r2, hr2⟩ : ∃ r, firstX ps + bs (fun i => (moreF ps v1) (firstX ps + i)) (lastX ps - firstX ps + 1).toNat 0 (lastX ps - firstX ps + 1) = r := ⟨_, rfl⟩
 have hb1 := bs_range (fun i => !((lessF ps v0) (firstX ps + i))) (lastX ps - firstX ps + 1).toNat 0 (lastX ps - firstX ps + 1) (by omega)
 have hb2 := bs_range (fun i => (moreF ps v1) (firstX ps + i)) (lastX ps - firstX ps + 1).toNat 0 (lastX ps - firstX ps + 1) (by omega)
 have C0 : Hid (∀ W, Below w.heap.size w W → Calls Tryz.prog 77 #[tv A n c] W fun e w' => e = .returned (rv (firstX ps) (lastX ps)) ∧ Below W.heap.size W w') := Lib.hid fun W hW => hplaces_tab A n c ps W (hp.below hW) ht
 have C1 : Hid (∀ W Bt Ba Bv, InvIn W Bt Ba Bv A n c 122 v0 v1 ps → Calls Tryz.prog 160 #[.int .i64 (firstX ps), .int .i64 (lastX ps), inv1Fn Bt Ba Bv] W fun e w' => e = .returned (.int .i64 r1) ∧ Below W.heap.size W w') := Lib.hid fun W Bt Ba Bv hI =>
  first1_to Bt Ba Bv (fun x => !((lessF ps v0) x)) _ _ r1 W (fun V x t hV q1 q2 q3 => inv1_less A n c ps v0 v1 x t Bt Ba Bv V (hI.below hV) ht q1 q2 q3) pl1 hle pl2 hr1
 have C2 : Hid (∀ W Bt Ba Bv, InvIn W Bt Ba Bv A n c 121 v0 v1 ps → Calls Tryz.prog 160 #[.int .i64 (firstX ps), .int .i64 (lastX ps), inv2Fn Bt Ba Bv] W fun e w' => e = .returned (.int .i64 r2) ∧ Below W.heap.size W w') := Lib.hid fun W Bt Ba Bv hI =>
  first2_to Bt Ba Bv (moreF ps v1) _ _ r2 W (fun V x t hV q1 q2 q3 => inv2_more A n c ps v0 v1 x t Bt Ba Bv V (hI.below hV) ht q1 q2 q3) pl1 hle pl2 hr2
 obtain ⟨R, hR⟩ : ∃ R, invS (lessF ps v0) (moreF ps v1) (firstX ps) (lastX ps) = R := ⟨_, rfl⟩
 rw [hR]
 have HR : Hid ((if lastX ps < r1 ∨ r2 = firstX ps then (0, 0, 24) else (max (r1 - 1) (firstX ps), min r2 (lastX ps), 0)) = R) := Lib.hid (by rw [← hR]; unfold invS; rw [hr1, hr2])
 clear hR ht
 have HP := Lib.hid hp
 clear hp
 generalize firstX ps = f at *
 generalize lastX ps = l at *
 have k1 : f ≤ r1 ∧ r1 ≤ l + 1 := by omega
 have k2 : f ≤ r2 ∧ r2 ≤ l + 1 := by omega
 clear hr1 hr2 hb1 hb2
 have w1 : IntKind.i64.wrap (r1 - 1) = r1 - 1 := IntWalk.i64_in _ ⟨by omega, by omega⟩
 go_enter Tryz.func120, Tryz.ntmps120
 go_wp2_with fail
 obtain ⟨W0, hW0⟩ : ∃ W0, (((((w.alloc (.cells #[.slice A n c] 33)).alloc (.cells #[.int .i64 v0, .int .i64 v1] 30)).alloc (.cells #[fnV 122] 59)).alloc (.cells #[fnV 121] 59)).alloc (.cells #[.int .i64 0, .int .i64 0] 30)) = W0 := ⟨_, rfl⟩
 rw [hW0] at HE HK ⊢
 clear hW0
 obtain ⟨G, hG⟩ : ∃ G, w.heap.size = G := ⟨_, rfl⟩
 rw [hG] at HK ⊢
 have HG := Lib.hid hG; clear hG
 refine (C0.out _ HE.out).mono ?_
 rintro e w1 ⟨rfl, hb⟩
 have HE1 := Lib.hid (below_then (below_then HE.out hb) (below_alloc1 w1 (.cells #[.int .i64 f, .int .i64 l] 30)))
 have HK1 := Lib.hid ((HK.out.on hb).new 30 #[.int .i64 f, .int .i64 l])
 clear hb HE HK C0
 go_upto_region 2 with fail
 obtain ⟨W1, hW1⟩ : ∃ W1, w1.alloc (.cells #[.int .i64 f, .int .i64 l] 30) = W1 := ⟨_, rfl⟩
 rw [hW1] at HE1 HK1 ⊢
 clear hW1
 obtain ⟨N, hN⟩ : ∃ N, w1.heap.size = N := ⟨_, rfl⟩
 rw [hN] at HK1 ⊢
 clear hN
 have p := HK1.out _ (.head _)
 have p0 := p.cell 0
 have p1 := p.cell 1
 simp at p0 p1
 clear p
 go_wp2_with fail
 refine (C1.out _ _ _ _ ⟨HK1.out _ (.tail _ (.tail _ (.tail _ (.tail _ (.tail _ (.head _)))))), HK1.out _ (.tail _ (.tail _ (.tail _ (.head _)))), HK1.out _ (.tail _ (.tail _ (.tail _ (.tail _ (.head _))))), HP.out.below HE1.out⟩).mono ?_
 rintro e w2 ⟨rfl, hb⟩
 have HE2 := Lib.hid (below_then HE1.out hb)
 have HK2 := Lib.hid (HK1.out.on hb)
 clear hb HE1 HK1 p0 p1 C1
 have p := HK2.out _ (.head _)
 have p0 := p.cell 0
 have p1 := p.cell 1
 simp at p0 p1
 clear p
 go_wp2_with fail
 refine (C2.out _ _ _ _ ⟨HK2.out _ (.tail _ (.tail _ (.tail _ (.tail _ (.tail _ (.head _)))))), HK2.out _ (.tail _ (.tail _ (.head _))), HK2.out _ (.tail _ (.tail _ (.tail _ (.tail _ (.head _))))), HP.out.below HE2.out⟩).mono ?_
 rintro e w3 ⟨rfl, hb⟩
 have HE3 := Lib.hid (below_then HE2.out hb)
 have HK3 := Lib.hid (HK2.out.on hb)
 clear hb HE2 HK2 p0 p1 C2
 have p := HK3.out _ (.head _)
 have p0 := p.cell 0
 have p1 := p.cell 1
 have pl := p.lt
 simp at p0 p1
 clear p
 have z := HK3.out _ (.tail _ (.head _))
 have z0 := z.cell 0
 have zf0 := z.frozen 0
 have z1 := z.cell 1
 have zf1 := z.frozen 1
 have zl := z.lt
 simp at z0 zf0 z1 zf1
 clear z
 by_cases g1 : l < r1
 ·have e : R = (0, 0, 24) := by rw [← HR.out, if_pos (.inl g1)]
  subst e
  clear HR
  go_wp2
  refine bodyPost_ret (v := rt (0, 0, 24)) (by simp [results, Tryz.results120, go_sem, z0, z1]) rfl ⟨rfl, ?_⟩
  have hg := HG.out
  repeat (first | exact HE3.out | refine Below.setCell ?_ (by simp <;> omega) _)
 ·by_cases g2 : r2 = f
  ·have e : R = (0, 0, 24) := by rw [← HR.out, if_pos (.inr g2)]
   subst e
   have b2 : (r2 == f) = true := by simp [g2]
   clear g2 HR
   go_wp2
   refine bodyPost_ret (v := rt (0, 0, 24)) (by simp [results, Tryz.results120, go_sem, z0, z1]) rfl ⟨rfl, ?_⟩
   have hg := HG.out
   repeat (first | exact HE3.out | refine Below.setCell ?_ (by simp <;> omega) _)
  ·have e : R = (max (r1 - 1) f, min r2 l, 0) := by rw [← HR.out, if_neg (by omega)]
   have b2 : (r2 == f) = false := beq_eq_false_iff_ne.2 g2
   obtain ⟨m1, hm1⟩ : ∃ m, max (r1 - 1) f = m := ⟨_, rfl⟩
   obtain ⟨m2, hm2⟩ : ∃ m, min r2 l = m := ⟨_, rfl⟩
   rw [hm1, hm2] at e
   subst e
   clear g2 HR
   go_wp2
   refine bodyPost_ret (v := rt (m1, m2, 0)) (by simp [results, Tryz.results120, go_sem, z0, z1]) rfl ⟨rfl, ?_⟩
   have hg := HG.out
   repeat (first | exact HE3.out | refine Below.setCell ?_ (by simp <;> omega) _)

def sndS (ps : List P3) (x y : Int) : Int × Int × Int := invS (lessF ps x) (moreF ps y) (firstX ps) (lastX ps)

set_option maxRecDepth 100000 in
set_option maxHeartbeats 4000000 in
theorem soundings_any (ps : List P3) (id al ah : Int) (A B C : Option Addr) (n c mm d l ee : Nat) (x y : Int) (w : World) (hp : TabIn w A n ps) (ht : tabOk ps = true) (hle : firstX ps ≤ lastX ps) :
  Calls Tryz.prog 70 #[.agg #[.int .i64 id, .int .i64 al, .int .i64 ah, .slice A n c, .slice B mm d, .slice C l ee], rv x y] w fun e w' => e = .returned (rt (sndS ps x y)) ∧ Below w.heap.size w w' := by
 have HE := Lib.hid (show Below w.heap.size w (((w.alloc (.cells #[.int .i64 id, .int .i64 al, .int .i64 ah, .slice A n c, .slice B mm d, .slice C l ee] 38)).alloc (.cells #[.int .i64 x, .int .i64 y] 30)).alloc (.cells #[.int .i64 0, .int .i64 0] 30)) from below_a3 (Below.refl _ _))
 have HK := Lib.hid (boxes3' w 38 30 30 #[.int .i64 id, .int .i64 al, .int .i64 ah, .slice A n c, .slice B mm d, .slice C l ee] #[.int .i64 x, .int .i64 y] #[.int .i64 0, .int .i64 0])
 obtain ⟨R, hR⟩ : ∃ R, sndS ps x y = R := ⟨_, rfl⟩
 have CC : Hid (∀ W, Below w.heap.size w W → Calls Tryz.prog 120 #[tv A n c, rv x y, fnV 122, fnV 121] W fun e w' => e = .returned (rt R) ∧ Below W.heap.size W w') := Lib.hid fun W hW => by
  rw [← hR]; exact inverse_less A n c ps x y W (hp.below hW) ht hle
 rw [hR]
 clear hR hp ht hle
 obtain ⟨ra, rb, re⟩ := R
 go_enter Tryz.func70, Tryz.ntmps70
 go_wp2_with fail
 obtain ⟨W0, hW0⟩ : ∃ W0, (((w.alloc (.cells #[.int .i64 id, .int .i64 al, .int .i64 ah, .slice A n c, .slice B mm d, .slice C l ee] 38)).alloc (.cells #[.int .i64 x, .int .i64 y] 30)).alloc (.cells #[.int .i64 0, .int .i64 0] 30)) = W0 := ⟨_, rfl⟩
 rw [hW0] at HE HK ⊢
 clear hW0
 obtain ⟨G, hG⟩ : ∃ G, w.heap.size = G := ⟨_, rfl⟩
 rw [hG] at HK ⊢
 have HG := Lib.hid hG; clear hG
 refine (CC.out _ HE.out).mono ?_
 rintro e w1 ⟨rfl, hb⟩
 have HE1 := Lib.hid (below_then HE.out hb); have HK1 := Lib.hid (HK.out.on hb)
 clear hb HE HK CC
 have z := HK1.out _ (.head _)
 have z0 := z.cell 0
 have zf0 := z.frozen 0
 have z1 := z.cell 1
 have zf1 := z.frozen 1
 have zl := z.lt
 simp at z0 zf0 z1 zf1
 clear z
 go_wp2
 refine bodyPost_ret (v := rt (ra, rb, re)) (by simp [results, Tryz.results70, go_sem, z0, z1]) rfl ⟨rfl, ?_⟩
 have hg := HG.out
 repeat (first | exact HE1.out | refine Below.setCell ?_ (by simp <;> omega) _)

set_option maxRecDepth 100000 in
set_option maxHeartbeats 4000000 in
theorem sounding1_any (ps : List P3) (id al ah : Int) (A B C : Option Addr) (n c mm d l ee : Nat) (x y : Int) (Bh : Nat) (w : World) (hB : Blk w Bh 38 #[.int .i64 id, .int .i64 al, .int .i64 ah, .slice A n c, .slice B mm d, .slice C l ee]) (hp : TabIn w A n ps) (ht : tabOk ps = true) (hle : firstX ps ≤ lastX ps) :
  Calls Tryz.prog 69 #[rv x y, .pointer (some ⟨Bh, 0, none⟩)] w fun e w' => e = .returned (rt (sndS ps x y)) ∧ Below w.heap.size w w' := by
 have HE := Lib.hid (show Below w.heap.size w ((w.alloc (.cells #[.int .i64 x, .int .i64 y] 30)).alloc (.cells #[.int .i64 0, .int .i64 0] 30)) from below_a2 (Below.refl _ _))
 have HK := Lib.hid (boxes2' w 30 30 #[.int .i64 x, .int .i64 y] #[.int .i64 0, .int .i64 0])
 obtain ⟨R, hR⟩ : ∃ R, sndS ps x y = R := ⟨_, rfl⟩
 have CC : Hid (∀ W, Below w.heap.size w W → Calls Tryz.prog 70 #[.agg #[.int .i64 id, .int .i64 al, .int .i64 ah, .slice A n c, .slice B mm d, .slice C l ee], rv x y] W fun e w' => e = .returned (rt R) ∧ Below W.heap.size W w') := Lib.hid fun W hW => by
  rw [← hR]; exact soundings_any ps id al ah A B C n c mm d l ee x y W (hp.below hW) ht hle
 rw [hR]
 clear hR hp ht hle
 obtain ⟨ra, rb, re⟩ := R
 have HH := Lib.hid (blkOn hB HE.out)
 have HH0 := Lib.hid hB
 clear hB
 go_enter Tryz.func69, Tryz.ntmps69
 go_upto_region 1 with fail
 obtain ⟨W0, hW0⟩ : ∃ W0, ((w.alloc (.cells #[.int .i64 x, .int .i64 y] 30)).alloc (.cells #[.int .i64 0, .int .i64 0] 30)) = W0 := ⟨_, rfl⟩
 rw [hW0] at HE HK HH ⊢
 clear hW0
 obtain ⟨G, hG⟩ : ∃ G, w.heap.size = G := ⟨_, rfl⟩
 rw [hG] at HK ⊢
 have HG := Lib.hid hG; clear hG
 have hh := HH.out
 have s0 := hh.cell 0
 have s1 := hh.cell 1
 have s2 := hh.cell 2
 have s3 := hh.cell 3
 have s4 := hh.cell 4
 have s5 := hh.cell 5
 simp at s0 s1 s2 s3 s4 s5
 have p := HK.out _ (.tail _ (.head _))
 have p0 := p.cell 0
 have p1 := p.cell 1
 simp at p0 p1
 clear p
 clear hh HH HH0
 go_wp2_with fail
 refine (CC.out _ HE.out).mono ?_
 rintro e w1 ⟨rfl, hb⟩
 have HE1 := Lib.hid (below_then HE.out hb); have HK1 := Lib.hid (HK.out.on hb)
 clear hb HE HK CC p0 p1 s0 s1 s2 s3 s4 s5
 have z := HK1.out _ (.head _)
 have z0 := z.cell 0
 have zf0 := z.frozen 0
 have z1 := z.cell 1
 have zf1 := z.frozen 1
 have zl := z.lt
 simp at z0 zf0 z1 zf1
 clear z
 go_wp2
 refine bodyPost_ret (v := rt (ra, rb, re)) (by simp [results, Tryz.results69, go_sem, z0, z1]) rfl ⟨rfl, ?_⟩
 have hg := HG.out
 repeat (first | exact HE1.out | refine Below.setCell ?_ (by simp <;> omega) _)

set_option maxRecDepth 100000 in
set_option maxHeartbeats 4000000 in
theorem ofMass_snd (a b c d : Int) (Bh : Nat) (R : Int × Int × Int) (w : World) (hC : massErr a b c d = 0 → ∀ W, Below w.heap.size w W → Calls Tryz.prog 69 #[rv (litresS a b c d).1 (litresS a b c d).2, .pointer (some ⟨Bh, 0, none⟩)] W fun e w' => e = .returned (rt R) ∧ Below W.heap.size W w') :
  Calls Tryz.prog 65 #[rv a b, rv c d, .func (.func 69) #[] #[.pointer (some ⟨Bh, 0, none⟩)]] w fun e w' => e = .returned (rt (if massErr a b c d = 0 then R else (0, 0, massErr a b c d))) ∧ Below w.heap.size w w' := by
 have HE := Lib.hid (show Below w.heap.size w (((w.alloc (.cells #[.int .i64 a, .int .i64 b] 30)).alloc (.cells #[.int .i64 c, .int .i64 d] 30)).alloc (.cells #[.int .i64 0, .int .i64 0] 30)) from below_a3 (Below.refl _ _))
 have HK := Lib.hid (boxes3' w 30 30 30 #[.int .i64 a, .int .i64 b] #[.int .i64 c, .int .i64 d] #[.int .i64 0, .int .i64 0])
 obtain ⟨E, hE⟩ : ∃ E, massErr a b c d = E := ⟨_, rfl⟩
 obtain ⟨Q, hQ⟩ : ∃ Q, (if massErr a b c d = 0 then R else (0, 0, massErr a b c d)) = Q := ⟨_, rfl⟩
 rw [hQ]
 obtain ⟨p, hp⟩ : ∃ p, (litresS a b c d).1 = p := ⟨_, rfl⟩
 obtain ⟨q, hq⟩ : ∃ q, (litresS a b c d).2 = q := ⟨_, rfl⟩
 have HQ : Hid ((if E = 0 then R else (0, 0, E)) = Q) := Lib.hid (by rw [← hQ, hE])
 have C1 : Hid (E = 0 → ∀ W, Calls Tryz.prog 119 #[rv a b, rv c d] W fun e w' => e = .returned (.tuple #[rv p q, .int .i64 0]) ∧ Below W.heap.size W w') := Lib.hid fun h W => rt_to (hLitres_any a b c d W) (by unfold LitresS; rw [if_pos (hE.trans h), hp, hq])
 have C1' : Hid (¬ E = 0 → ∀ W, Calls Tryz.prog 119 #[rv a b, rv c d] W fun e w' => e = .returned (.tuple #[rv 0 0, .int .i64 E]) ∧ Below W.heap.size W w') := Lib.hid fun h W => rt_to (hLitres_any a b c d W) (by unfold LitresS; rw [if_neg (by rw [hE]; exact h), hE])
 have C2 : Hid (E = 0 → ∀ W, Below w.heap.size w W → Calls Tryz.prog 69 #[rv p q, .pointer (some ⟨Bh, 0, none⟩)] W fun e w' => e = .returned (rt R) ∧ Below W.heap.size W w') := Lib.hid fun h W hW => by
  have := hC (hE.trans h) W hW
  rw [hp, hq] at this; exact this
 clear hE hQ hp hq hC
 obtain ⟨ra, rb, re⟩ := R
 by_cases g : E = 0
 ·have e : Q = (ra, rb, re) := by rw [← HQ.out, if_pos g]
  subst e
  have C1 := Lib.hid (C1.out g)
  have C2 := Lib.hid (C2.out g)
  clear HQ C1' g
  go_enter Tryz.func65, Tryz.ntmps65
  go_wp2_with fail
  obtain ⟨W0, hW0⟩ : ∃ W0, (((w.alloc (.cells #[.int .i64 a, .int .i64 b] 30)).alloc (.cells #[.int .i64 c, .int .i64 d] 30)).alloc (.cells #[.int .i64 0, .int .i64 0] 30)) = W0 := ⟨_, rfl⟩
  rw [hW0] at HE HK ⊢
  clear hW0
  obtain ⟨G, hG⟩ : ∃ G, w.heap.size = G := ⟨_, rfl⟩
  rw [hG] at HK ⊢
  have HG := Lib.hid hG; clear hG
  refine (C1.out _).mono ?_
  rintro e w1 ⟨rfl, hb⟩
  have HE1 := Lib.hid (below_then (below_then HE.out hb) (below_alloc1 w1 (.cells #[.int .i64 p, .int .i64 q] 30))); have HK1 := Lib.hid ((HK.out.on hb).new 30 #[.int .i64 p, .int .i64 q])
  clear hb HE HK C1
  go_wp2_with fail
  refine (C2.out _ HE1.out).mono ?_
  rintro e w2 ⟨rfl, hb⟩
  have HE2 := Lib.hid (below_then HE1.out hb); have HK2 := Lib.hid (HK1.out.on hb)
  clear hb HE1 HK1 C2
  have z := HK2.out _ (.tail _ (.head _))
  have z0 := z.cell 0
  have zf0 := z.frozen 0
  have z1 := z.cell 1
  have zf1 := z.frozen 1
  have zl := z.lt
  simp at z0 zf0 z1 zf1
  clear z
  go_wp2
  refine bodyPost_ret (v := rt (ra, rb, re)) (by simp [results, Tryz.results65, go_sem, z0, z1]) rfl ⟨rfl, ?_⟩
  have hg := HG.out
  repeat (first | exact HE2.out | refine Below.setCell ?_ (by simp <;> omega) _)
 ·have e : Q = (0, 0, E) := by rw [← HQ.out, if_neg g]
  subst e
  have C1 := Lib.hid (C1'.out g)
  clear HQ C1' C2
  go_enter Tryz.func65, Tryz.ntmps65
  go_wp2_with fail
  obtain ⟨W0, hW0⟩ : ∃ W0, (((w.alloc (.cells #[.int .i64 a, .int .i64 b] 30)).alloc (.cells #[.int .i64 c, .int .i64 d] 30)).alloc (.cells #[.int .i64 0, .int .i64 0] 30)) = W0 := ⟨_, rfl⟩
  rw [hW0] at HE HK ⊢
  clear hW0
  obtain ⟨G, hG⟩ : ∃ G, w.heap.size = G := ⟨_, rfl⟩
  rw [hG] at HK ⊢
  have HG := Lib.hid hG; clear hG
  refine (C1.out _).mono ?_
  rintro e w1 ⟨rfl, hb⟩
  have HE1 := Lib.hid (below_then (below_then HE.out hb) (below_alloc1 w1 (.cells #[.int .i64 0, .int .i64 0] 30))); have HK1 := Lib.hid ((HK.out.on hb).new 30 #[.int .i64 0, .int .i64 0])
  have hlt := (HK.out.on hb _ (.head _)).lt
  have hl : G + 1 + 1 ≠ w1.heap.size := Nat.ne_of_lt hlt
  have hl2 : w1.heap.size ≠ G + 1 + 1 := Nat.ne_of_gt hlt
  clear hb HE HK C1
  go_upto_region 3 with fail
  obtain ⟨W1, hW1⟩ : ∃ W1, w1.alloc (.cells #[.int .i64 0, .int .i64 0] 30) = W1 := ⟨_, rfl⟩
  rw [hW1] at HE1 HK1 ⊢
  clear hW1
  have z := HK1.out _ (.tail _ (.head _))
  have z0 := z.cell 0
  have zf0 := z.frozen 0
  have z1 := z.cell 1
  have zf1 := z.frozen 1
  have zl := z.lt
  simp at z0 zf0 z1 zf1
  clear z
  go_wp2
  refine bodyPost_ret (v := rt (0, 0, E)) (by simp [results, Tryz.results65, go_sem, z0, z1]) rfl ⟨rfl, ?_⟩
  have hg := HG.out
  repeat (first | exact HE1.out | refine Below.setCell ?_ (by simp <;> omega) _)

def SoundingS (h : TankD) (a b c d : Int) : Int × Int × Int := if tankErr h = 0 then (if massErr a b c d = 0 then sndS h.vol (litresS a b c d).1 (litresS a b c d).2 else (0, 0, massErr a b c d)) else (0, 0, tankErr h)
theorem tankErr_zero {h : TankD} (e : tankErr h = 0) : tankS h = true := by
  unfold tankErr at e
  split at e
  · assumption
  · omega

set_option maxRecDepth 100000 in
set_option maxHeartbeats 4000000 in
theorem hSounding_any (h : TankD) (m : HoldM) (a b e0 e1 : Int) (w : World) (hi : TankIn w h m) :
  Calls Tryz.prog 25 #[tankV h m, rv a b, rv e0 e1] w fun e w' => e = .returned (rt (SoundingS h a b e0 e1)) ∧ Below w.heap.size w w' := by
 obtain ⟨R, hR⟩ : ∃ R, SoundingS h a b e0 e1 = R := ⟨_, rfl⟩
 obtain ⟨E, hE⟩ : ∃ E, tankErr h = E := ⟨_, rfl⟩
 have C1 : Hid (∀ W, Below w.heap.size w W → Calls Tryz.prog 68 #[tankV h m] W fun e w' => e = .returned (.int .i64 E) ∧ Below W.heap.size W w') := Lib.hid fun W hW => int_to (checkTank_any h m W (hi.below hW)) hE
 have HR : Hid ((if E = 0 then (if massErr a b e0 e1 = 0 then sndS h.vol (litresS a b e0 e1).1 (litresS a b e0 e1).2 else (0, 0, massErr a b e0 e1)) else (0, 0, E)) = R) := Lib.hid (by rw [← hR]; unfold SoundingS; rw [hE])
 have HV : E = 0 → tabOk h.vol = true := fun e => tank_tab (tankErr_zero (hE.trans e))
 have h21 : E = 0 ∨ E = 21 := by
  rw [← hE]; unfold tankErr; split
  ·exact .inl rfl
  ·exact .inr rfl
 rw [hR]
 clear hR hE
 obtain ⟨id, al, ah, vol, mom, hei⟩ := h
 obtain ⟨A, n, c, B, mm, d, C, l, ee⟩ := m
 obtain ⟨i1, i2, i3⟩ := hi
 dsimp only at i1 i2 i3 HR HV
 have C2 : Hid (E = 0 → ∀ W Bh, Below w.heap.size w W → Blk W Bh 38 #[.int .i64 id, .int .i64 al, .int .i64 ah, .slice A n c, .slice B mm d, .slice C l ee] → Calls Tryz.prog 65 #[rv a b, rv e0 e1, .func (.func 69) #[] #[.pointer (some ⟨Bh, 0, none⟩)]] W fun e w' => e = .returned (rt (if massErr a b e0 e1 = 0 then sndS vol (litresS a b e0 e1).1 (litresS a b e0 e1).2 else (0, 0, massErr a b e0 e1))) ∧ Below W.heap.size W w') := Lib.hid fun e W Bh hW hB =>
  ofMass_snd a b e0 e1 Bh _ W fun _ V hV => sounding1_any vol id al ah A B C n c mm d l ee _ _ Bh V (blkOn hB hV) (i1.below (below_then hW hV)) (HV e) (first_le_last (HV e))
 have HE := Lib.hid (show Below w.heap.size w ((((w.alloc (.cells #[.int .i64 id, .int .i64 al, .int .i64 ah, .slice A n c, .slice B mm d, .slice C l ee] 38)).alloc (.cells #[.int .i64 a, .int .i64 b] 30)).alloc (.cells #[.int .i64 e0, .int .i64 e1] 30)).alloc (.cells #[.int .i64 0, .int .i64 0] 30)) from below_a4 (Below.refl _ _))
 have HK := Lib.hid (boxes4' w 38 30 30 30 #[.int .i64 id, .int .i64 al, .int .i64 ah, .slice A n c, .slice B mm d, .slice C l ee] #[.int .i64 a, .int .i64 b] #[.int .i64 e0, .int .i64 e1] #[.int .i64 0, .int .i64 0])
 clear i1 i2 i3 HV
 generalize (if massErr a b e0 e1 = 0 then sndS vol (litresS a b e0 e1).1 (litresS a b e0 e1).2 else (0, 0, massErr a b e0 e1)) = Q at *
 obtain ⟨qa, qb, qe⟩ := Q
 go_enter Tryz.func25, Tryz.ntmps25
 go_wp2_with fail
 obtain ⟨W0, hW0⟩ : ∃ W0, ((((w.alloc (.cells #[.int .i64 id, .int .i64 al, .int .i64 ah, .slice A n c, .slice B mm d, .slice C l ee] 38)).alloc (.cells #[.int .i64 a, .int .i64 b] 30)).alloc (.cells #[.int .i64 e0, .int .i64 e1] 30)).alloc (.cells #[.int .i64 0, .int .i64 0] 30)) = W0 := ⟨_, rfl⟩
 rw [hW0] at HE HK ⊢
 clear hW0
 obtain ⟨G, hG⟩ : ∃ G, w.heap.size = G := ⟨_, rfl⟩
 rw [hG] at HK ⊢
 have HG := Lib.hid hG; clear hG
 refine (C1.out _ HE.out).mono ?_
 rintro e w1 ⟨rfl, hb⟩
 have HE1 := Lib.hid (below_then HE.out hb); have HK1 := Lib.hid (HK.out.on hb)
 clear hb HE HK C1
 by_cases g : E = 0
 ·have eR : R = (qa, qb, qe) := by rw [← HR.out, if_pos g]
  subst eR
  have D2 := Lib.hid (C2.out g)
  clear HR C2
  subst g
  have p := HK1.out _ (.tail _ (.tail _ (.head _)))
  have p0 := p.cell 0
  have p1 := p.cell 1
  simp at p0 p1
  clear p
  have q := HK1.out _ (.tail _ (.head _))
  have q0 := q.cell 0
  have q1 := q.cell 1
  simp at q0 q1
  clear q
  go_wp2_with fail
  refine (D2.out _ _ HE1.out (HK1.out _ (.tail _ (.tail _ (.tail _ (.head _)))))).mono ?_
  rintro e w2 ⟨rfl, hb⟩
  have HE2 := Lib.hid (below_then HE1.out hb); have HK2 := Lib.hid (HK1.out.on hb)
  clear hb HE1 HK1 D2 p0 p1 q0 q1
  have z := HK2.out _ (.head _)
  have z0 := z.cell 0
  have zf0 := z.frozen 0
  have z1 := z.cell 1
  have zf1 := z.frozen 1
  have zl := z.lt
  simp at z0 zf0 z1 zf1
  clear z
  go_wp2
  refine bodyPost_ret (v := rt (qa, qb, qe)) (by simp [results, Tryz.results25, go_sem, z0, z1]) rfl ⟨rfl, ?_⟩
  have hg := HG.out
  repeat (first | exact HE2.out | refine Below.setCell ?_ (by simp <;> omega) _)
 ·have eR : R = (0, 0, E) := by rw [← HR.out, if_neg g]
  subst eR
  clear HR C2
  obtain rfl : E = 21 := h21.resolve_left g
  have z := HK1.out _ (.head _)
  have z0 := z.cell 0
  have zf0 := z.frozen 0
  have z1 := z.cell 1
  have zf1 := z.frozen 1
  have zl := z.lt
  simp at z0 zf0 z1 zf1
  clear z
  go_wp2
  refine bodyPost_ret (v := rt (0, 0, 21)) (by simp [results, Tryz.results25, go_sem, z0, z1]) rfl ⟨rfl, ?_⟩
  have hg := HG.out
  repeat (first | exact HE1.out | refine Below.setCell ?_ (by simp <;> omega) _)
end

section
open Go.RowKit

theorem inv_has {ps : List P3} {x y : Int} {fl : Bool} (hT : Turns ps x y fl) {u : Int} (h1 : firstX ps ≤ u) (h2 : u ≤ lastX ps) (ha : besideS ps x y fl u = false) (hb : besideS ps x y (!fl) u = false) :
    ∃ a b, invS (besideS ps x y fl) (besideS ps x y (!fl)) (firstX ps) (lastX ps) = (a, b, 0) ∧ a ≤ u ∧ u ≤ b ∧ firstX ps ≤ a ∧ b ≤ lastX ps := by
  obtain ⟨lo, hlo⟩ : ∃ z, firstX ps = z := ⟨_, rfl⟩
  obtain ⟨hi, hhi⟩ : ∃ z, lastX ps = z := ⟨_, rfl⟩
  unfold Turns at hT
  rw [hlo, hhi] at hT ⊢
  rw [hlo] at h1
  rw [hhi] at h2
  obtain ⟨T1, T2⟩ := hT
  have b1 := bs_turn (fun i => !(besideS ps x y fl (lo + i))) (hi - lo + 1).toNat 0 (hi - lo + 1) (by omega) (by omega) (fun p q g1 g2 g3 hp => by
    have hp' : besideS ps x y fl (lo + p) = false := by simpa using hp
    cases hq : besideS ps x y fl (lo + q)
    · simp [hq]
    · have := T1 (lo + p) (lo + q) (by omega) (by omega) (by omega) hq
      rw [this] at hp'
      cases hp')
  have b2 := bs_turn (fun i => besideS ps x y (!fl) (lo + i)) (hi - lo + 1).toNat 0 (hi - lo + 1) (by omega) (by omega) (fun p q g1 g2 g3 hp => T2 (lo + p) (lo + q) (by omega) (by omega) (by omega) hp)
  unfold invS
  obtain ⟨i, hi1⟩ : ∃ z, bs (fun i => !(besideS ps x y fl (lo + i))) (hi - lo + 1).toNat 0 (hi - lo + 1) = z := ⟨_, rfl⟩
  obtain ⟨j, hj1⟩ : ∃ z, bs (fun i => besideS ps x y (!fl) (lo + i)) (hi - lo + 1).toNat 0 (hi - lo + 1) = z := ⟨_, rfl⟩
  rw [hi1] at b1 ⊢
  rw [hj1] at b2 ⊢
  have c1 : i ≤ u - lo := by
    refine Int.not_lt.1 fun g => ?_
    have := b1.2.1 (u - lo) (by omega) g
    rw [show lo + (u - lo) = u by omega, ha] at this
    cases this
  have c2 : u - lo < j := by
    refine Int.not_le.1 fun g => ?_
    have := b2.2.2 (u - lo) g (by omega)
    rw [show lo + (u - lo) = u by omega, hb] at this
    cases this
  rw [if_neg (by omega)]
  exact ⟨_, _, rfl, by omega, by omega, by omega, by omega⟩
theorem val_at {ps : List P3} {cs : List Int} {x num den : Int} (ht : tabOk ps = true) (hi : InTab ps cs) (h : ValOf ps cs x num den) :
    0 < den ∧ den ≤ 1000000 ∧ (atS ps x).1 * den ≤ num ∧ num ≤ (atS ps x).2 * den := by
  obtain ⟨i, p, q, y, z, hp, hq, g1, g2, hy, hz, rfl, rfl⟩ := h
  obtain ⟨hpq, okp, okq⟩ := pts_rise ht hp hq
  have h2l : 2 ≤ ps.length := by have := (List.getElem?_eq_some_iff.1 hq).1; omega
  have hpc := pcs_at h2l hp hq
  obtain ⟨y1, y2⟩ := hi.2 i p y hp hy
  obtain ⟨z1, z2⟩ := hi.2 (i + 1) q z hq hz
  have hat := atS_any ht hpc g1 g2
  rw [hat, pAt_lo, pAt_hi]
  dsimp only
  rw [show max (q.1 - p.1) 1 = q.1 - p.1 by omega]
  unfold Okp at okp okq
  have hden : q.1 - p.1 ≤ 1000000 := by omega
  obtain ⟨D, hD⟩ : ∃ D, q.1 - p.1 = D := ⟨_, rfl⟩
  obtain ⟨u, hu⟩ : ∃ u, x - p.1 = u := ⟨_, rfl⟩
  have hv : q.1 - x = D - u := by omega
  rw [hD] at hden
  rw [hD, hu, hv]
  have hD0 : 0 < D := by omega
  have hu0 : 0 ≤ u := by omega
  have hu1 : 0 ≤ D - u := by omega
  have m1 := Int.mul_le_mul_of_nonneg_right y1 hu1
  have m2 := Int.mul_le_mul_of_nonneg_right y2 hu1
  have m3 := Int.mul_le_mul_of_nonneg_right z1 hu0
  have m4 := Int.mul_le_mul_of_nonneg_right z2 hu0
  have lo := Int.ediv_mul_le (p.2.1 * (D - u) + q.2.1 * u) (show D ≠ 0 by omega)
  have hi' := Int.ediv_mul_le (-p.2.2 * (D - u) + -q.2.2 * u) (show D ≠ 0 by omega)
  simp only [Int.neg_mul] at hi' ⊢
  exact ⟨hD0, hden, by omega, by omega⟩
theorem litres_has {a b c d r num den : Int} (ha : 0 ≤ a) (h1 : a * (1000 * den) ≤ num * r) (h2 : num * r ≤ b * (1000 * den)) (hd : 0 < den) (hn : 0 ≤ num) (c0 : 100 ≤ c) (c1 : c ≤ r) (c2 : r ≤ d) :
    (litresS a b c d).1 * den ≤ num ∧ num ≤ (litresS a b c d).2 * den := by
  have hb : 0 ≤ b := by
    refine Int.not_lt.1 fun g => ?_
    have g1 := Int.mul_lt_mul_of_pos_right g (show 0 < 1000 * den by omega)
    have g2 := Int.mul_nonneg hn (show 0 ≤ r by omega)
    rw [Int.zero_mul] at g1
    omega
  unfold litresS
  dsimp only
  rw [if_neg (show ¬ a < 0 by omega), if_neg (show ¬ b < 0 by omega)]
  have e1 := Int.ediv_mul_le (1000 * a) (show d ≠ 0 by omega)
  have e2 := Int.ediv_mul_le (-1000 * b) (show c ≠ 0 by omega)
  obtain ⟨F, hF⟩ : ∃ F, 1000 * a / d = F := ⟨_, rfl⟩
  obtain ⟨C, hC⟩ : ∃ C, -1000 * b / c = C := ⟨_, rfl⟩
  rw [hF] at e1 ⊢
  rw [hC] at e2 ⊢
  have q1 : a * (1000 * den) = 1000 * a * den := by rw [← Int.mul_assoc, Int.mul_comm a 1000]
  have q2 : b * (1000 * den) = 1000 * b * den := by rw [← Int.mul_assoc, Int.mul_comm b 1000]
  constructor
  · have s1 := Int.mul_le_mul_of_nonneg_right e1 (Int.le_of_lt hd)
    have s2 := Int.mul_le_mul_of_nonneg_left c2 hn
    have s3 : F * d * den = F * den * d := by rw [Int.mul_assoc, Int.mul_comm d den, ← Int.mul_assoc]
    refine Int.le_of_mul_le_mul_right (?_ : F * den * d ≤ num * d) (show 0 < d by omega)
    omega
  · have s1 := Int.mul_le_mul_of_nonneg_right e2 (Int.le_of_lt hd)
    have s2 := Int.mul_le_mul_of_nonneg_left c1 hn
    have s3 : C * c * den = C * den * c := by rw [Int.mul_assoc, Int.mul_comm c den, ← Int.mul_assoc]
    have s4 : -1000 * b * den = -(1000 * b * den) := by simp [Int.neg_mul]
    refine Int.le_of_mul_le_mul_right (?_ : num * c ≤ -C * den * c) (show 0 < c by omega)
    have s5 : -C * den * c = -(C * den * c) := by simp [Int.neg_mul]
    omega
def aroundS (n d : Int) : Int × Int := (n / d, -(-n / d))
theorem around_has {n d : Int} (hd : 0 < d) : (aroundS n d).1 * d ≤ n ∧ n ≤ (aroundS n d).2 * d := by
  unfold aroundS
  have e1 := Int.ediv_mul_le n (show d ≠ 0 by omega)
  have e2 := Int.ediv_mul_le (-n) (show d ≠ 0 by omega)
  dsimp only
  rw [Int.neg_mul]
  omega
theorem around_hi {n d : Int} (hd : 0 < d) : (aroundS n d).2 = if n / d * d < n then n / d + 1 else n / d := by
  unfold aroundS
  dsimp only
  have e0 := Int.emod_add_mul_ediv n d
  have m0 := Int.emod_nonneg n (show d ≠ 0 by omega)
  have m1 := Int.emod_lt_of_pos n hd
  rw [Int.mul_comm] at e0
  obtain ⟨q, hq⟩ : ∃ q, n / d = q := ⟨_, rfl⟩
  obtain ⟨t, ht⟩ : ∃ t, n % d = t := ⟨_, rfl⟩
  rw [hq, ht] at e0
  rw [ht] at m0 m1
  rw [hq]
  split
  · have : -n / d = -(q + 1) := by
      have h : -n = (d - t) + d * -(q + 1) := by
        rw [Int.mul_neg, Int.mul_add, Int.mul_one, Int.mul_comm d q]; omega
      rw [h, Int.add_mul_ediv_left _ _ (show d ≠ 0 by omega), Int.ediv_eq_zero_of_lt (by omega) (by omega)]
      omega
    omega
  · have : -n / d = -q := by
      have h : -n = 0 + d * -q := by
        rw [Int.mul_neg, Int.mul_comm d q]; omega
      rw [h, Int.add_mul_ediv_left _ _ (show d ≠ 0 by omega), Int.zero_ediv]
      omega
    omega
theorem not_beside {ps : List P3} {cs : List Int} {u num den x y : Int} (ht : tabOk ps = true) (hi : InTab ps cs) (h : ValOf ps cs u num den) (h1 : x * den ≤ num) (h2 : num ≤ y * den) (fl : Bool) : besideS ps x y fl u = false := by
  obtain ⟨g1, g2, g3, g4⟩ := val_at ht hi h
  unfold besideS
  cases fl
  · simp only [Bool.false_eq_true, if_false, lessF, decide_eq_false_iff_not]
    intro g
    have := Int.mul_lt_mul_of_pos_right g g1
    omega
  · simp only [if_true, moreF, decide_eq_false_iff_not]
    intro g
    have := Int.mul_lt_mul_of_pos_right g g1
    omega
theorem ullage_has {h : HoldD} (e : holdS h = true) {cs : List Int} {u num den a b c d r : Int} (hi : InTab h.vol cs) (hv : ValOf h.vol cs u num den) (p1 : firstX h.vol ≤ u) (p2 : u ≤ lastX h.vol)
    (hm : massErr a b c d = 0) (ha : 0 ≤ a) (h1 : a * (1000 * den) ≤ num * r) (h2 : num * r ≤ b * (1000 * den)) (hn : 0 ≤ num) (c1 : c ≤ r) (c2 : r ≤ d) :
    ∃ p q, UllageS h a b c d = (p, q, 0) ∧ p ≤ u ∧ u ≤ q := by
  obtain ⟨hf, hl⟩ := hold_falls e
  have htv := hold_tab e
  have hc := dens_in (massErr_zero hm).2
  obtain ⟨g1, g2, _, _⟩ := val_at htv hi hv
  obtain ⟨k1, k2⟩ := litres_has ha h1 h2 g1 hn hc.1 c1 c2
  have hh : holdErr h = 0 := by unfold holdErr; rw [if_pos e]
  unfold UllageS
  rw [if_pos hh, if_pos hm]
  unfold ullS
  obtain ⟨p, q, e1, e2, e3, _, _⟩ := inv_has (turns_falls (x := (litresS a b c d).1) (y := (litresS a b c d).2) htv hl hf) p1 p2 (not_beside htv hi hv k1 k2 _) (not_beside htv hi hv k1 k2 _)
  exact ⟨p, q, e1, e2, e3⟩
theorem sounding_has {t : TankD} (e : tankS t = true) {cs : List Int} {u num den a b c d r : Int} (hi : InTab t.vol cs) (hv : ValOf t.vol cs u num den) (p1 : firstX t.vol ≤ u) (p2 : u ≤ lastX t.vol)
    (hm : massErr a b c d = 0) (ha : 0 ≤ a) (h1 : a * (1000 * den) ≤ num * r) (h2 : num * r ≤ b * (1000 * den)) (hn : 0 ≤ num) (c1 : c ≤ r) (c2 : r ≤ d) :
    ∃ p q, SoundingS t a b c d = (p, q, 0) ∧ p ≤ u ∧ u ≤ q := by
  obtain ⟨hf, hl⟩ := tank_rises e
  have htv := tank_tab e
  have hc := dens_in (massErr_zero hm).2
  obtain ⟨g1, g2, _, _⟩ := val_at htv hi hv
  obtain ⟨k1, k2⟩ := litres_has ha h1 h2 g1 hn hc.1 c1 c2
  have hh : tankErr t = 0 := by unfold tankErr; rw [if_pos e]
  unfold SoundingS
  rw [if_pos hh, if_pos hm]
  unfold sndS
  obtain ⟨p, q, e1, e2, e3, _, _⟩ := inv_has (turns_rises (x := (litresS a b c d).1) (y := (litresS a b c d).2) htv hl hf) p1 p2 (not_beside htv hi hv k1 k2 _) (not_beside htv hi hv k1 k2 _)
  exact ⟨p, q, e1, e2, e3⟩
end

end Go.Proofs.YtemlaaipnhmcoaaGreat
