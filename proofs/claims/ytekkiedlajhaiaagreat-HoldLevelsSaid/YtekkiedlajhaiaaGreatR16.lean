/- The contracts of floor, checkMass, litres, Litres, less and more (hold): for all ranges. -/
import Derived.Test.YtekkiedlajhaiaaGreatR14
import Derived.Test.YtekkiedlajhaiaaGreatR15
import Derived.Test.YtekkiedlajhaiaaGreatR09
import Derived.Test.YtekkiedlajhaiaaGreatR04
import Derived.Test.YtekkiedlajhaiaaGreatQ98
set_option linter.unusedVariables false
set_option linter.unusedSimpArgs false
set_option linter.constructorNameAsVariable false
namespace Go.Proofs.YtekkiedlajhaiaaGreat

section
open Go.RowKit
attribute [local go_sem ↓] run_minI run_maxI
theorem less_to (a b c d : Int) (t : Bool) (w : World) (h : decide (b < c) = t) :
  Calls Tryz.prog 127 #[rv a b, rv c d] w fun e w' => e = .returned (.bool t) ∧ Below w.heap.size w w' := by
 have hx : ((b < c) ∧ t = true) ∨ (¬ (b < c) ∧ t = false) := by
  by_cases q : b < c
  ·exact .inl ⟨q, by rw [← h]; exact decide_eq_true q⟩
  ·exact .inr ⟨q, by rw [← h]; exact decide_eq_false q⟩
 clear h
 rcases hx with ⟨h, rfl⟩ | ⟨h, rfl⟩
 all_goals
  go_enter Tryz.func127, Tryz.ntmps127
  go_wp2
  go_ret
  exact ⟨rfl, below_a2 (Below.refl _ _)⟩
theorem more_to (a b c d : Int) (t : Bool) (w : World) (h : decide (d < a) = t) :
  Calls Tryz.prog 126 #[rv a b, rv c d] w fun e w' => e = .returned (.bool t) ∧ Below w.heap.size w w' := by
 have C : Hid (∀ W, Calls Tryz.prog 127 #[rv c d, rv a b] W fun e w' => e = .returned (.bool t) ∧ Below W.heap.size W w') := Lib.hid fun W => less_to c d a b t W h
 clear h
 go_enter Tryz.func126, Tryz.ntmps126
 go_wp2_with fail
 refine (C.out _).mono ?_
 rintro e w1 ⟨rfl, hb⟩
 have HB := Lib.hid (below_a2 hb); clear hb
 go_wp2
 go_ret
 exact ⟨rfl, HB.out⟩
theorem at_in (A : Option Addr) (n c : Nat) (ps : List P3) (x : Int) (w : World) (hp : TabIn w A n ps) (ht : tabOk ps = true) (h1 : firstX ps ≤ x) (h2 : x ≤ lastX ps) :
    Calls Tryz.prog 107 #[tv A n c, .int .i64 x] w fun e w' => e = .returned (.tuple #[rv (atS ps x).1 (atS ps x).2, .int .i64 0]) ∧ Below w.heap.size w w' :=
  rt_to (at_all A n c ps x w hp.1 hp.2.1 hp.2.2) (by unfold AtS; rw [if_pos (by unfold placesS; rw [if_pos ht, if_pos (inB_yes (by omega) (by omega) (by omega))])])
def InvIn (w : World) (Bt Ba Bv : Nat) (A : Option Addr) (n c : Nat) (k : Nat) (v0 v1 : Int) (ps : List P3) : Prop := Blk w Bt 48 #[.slice A n c] ∧ Blk w Ba 148 #[fnV k] ∧ Blk w Bv 30 #[.int .i64 v0, .int .i64 v1] ∧ TabIn w A n ps
theorem InvIn.below {w w' : World} {Bt Ba Bv : Nat} {A : Option Addr} {n c k : Nat} {v0 v1 : Int} {ps : List P3} (h : InvIn w Bt Ba Bv A n c k v0 v1 ps) (hb : Below w.heap.size w w') : InvIn w' Bt Ba Bv A n c k v0 v1 ps :=
  ⟨blkOn h.1 hb, blkOn h.2.1 hb, blkOn h.2.2.1 hb, h.2.2.2.below hb⟩
def moreF (ps : List P3) (v1 : Int) (x : Int) : Bool := decide (v1 < (atS ps x).1)
def lessF (ps : List P3) (v0 : Int) (x : Int) : Bool := decide ((atS ps x).2 < v0)

set_option maxRecDepth 100000 in
set_option maxHeartbeats 2000000 in
theorem inv1_more (A : Option Addr) (n c : Nat) (ps : List P3) (v0 v1 x : Int) (t : Bool) (Bt Ba Bv : Nat) (w : World) (h : InvIn w Bt Ba Bv A n c 126 v0 v1 ps) (ht : tabOk ps = true) (h1 : firstX ps ≤ x) (h2 : x ≤ lastX ps) (hf : (!moreF ps v1 x) = t) :
  Calls Tryz.prog 169 #[.int .i64 x, .pointer (some ⟨Bt, 0, none⟩), .pointer (some ⟨Ba, 0, none⟩), .pointer (some ⟨Bv, 0, none⟩)] w fun e w' => e = .returned (.bool t) ∧ Below w.heap.size w w' := by
 have C1 : Hid (∀ W, Below w.heap.size w W → Calls Tryz.prog 107 #[tv A n c, .int .i64 x] W fun e w' => e = .returned (.tuple #[rv (atS ps x).1 (atS ps x).2, .int .i64 0]) ∧ Below W.heap.size W w') := Lib.hid fun W hW => at_in A n c ps x W (h.2.2.2.below hW) ht h1 h2
 obtain ⟨u, hu⟩ : ∃ u, decide (v1 < (atS ps x).1) = u := ⟨_, rfl⟩
 have C2 : Hid (∀ W, Calls Tryz.prog 126 #[rv (atS ps x).1 (atS ps x).2, rv v0 v1] W fun e w' => e = .returned (.bool u) ∧ Below W.heap.size W w') := Lib.hid fun W => more_to _ _ v0 v1 u W hu
 have hut : (!u) = t := by rw [← hf, ← hu]; rfl
 clear hf hu ht h1 h2
 generalize (atS ps x).1 = p at *
 generalize (atS ps x).2 = q at *
 have q1 := h.1.cell 0
 have l1 := h.1.lt
 simp at q1
 have HI := Lib.hid h
 clear h
 go_enter Tryz.func169, Tryz.ntmps169
 go_wp2_with fail
 refine (C1.out _ (Below.refl _ _)).mono ?_
 rintro e w1 ⟨rfl, hb⟩
 have HE := Lib.hid (below_then hb (below_alloc1 w1 (.cells #[.int .i64 p, .int .i64 q] 30)))
 have HI1 := Lib.hid (HI.out.below HE.out)
 have a0 := HI1.out.2.1.cell 0
 have b0 := HI1.out.2.2.1.cell 0
 have b1 := HI1.out.2.2.1.cell 1
 simp at a0 b0 b1
 have la := (HI.out.below hb).2.1.lt
 have lb := (HI.out.below hb).2.2.1.lt
 have a0' := (HI.out.below hb).2.1.cell 0
 have b0' := (HI.out.below hb).2.2.1.cell 0
 have b1' := (HI.out.below hb).2.2.1.cell 1
 simp at a0' b0' b1'
 clear hb HI C1 q1 l1
 go_wp2_with fail
 refine (C2.out _).mono ?_
 rintro e w2 ⟨rfl, hb⟩
 have HE2 := Lib.hid (below_then HE.out hb)
 clear hb HE HI1 a0 b0 b1 la lb a0' b0' b1' C2
 cases u
 all_goals
  simp only [Bool.not_false, Bool.not_true] at hut
  subst hut
  go_wp2
  go_ret
  exact ⟨rfl, HE2.out⟩

set_option maxRecDepth 100000 in
set_option maxHeartbeats 2000000 in
theorem inv2_less (A : Option Addr) (n c : Nat) (ps : List P3) (v0 v1 x : Int) (t : Bool) (Bt Ba Bv : Nat) (w : World) (h : InvIn w Bt Ba Bv A n c 127 v0 v1 ps) (ht : tabOk ps = true) (h1 : firstX ps ≤ x) (h2 : x ≤ lastX ps) (hf : lessF ps v0 x = t) :
  Calls Tryz.prog 170 #[.int .i64 x, .pointer (some ⟨Bt, 0, none⟩), .pointer (some ⟨Ba, 0, none⟩), .pointer (some ⟨Bv, 0, none⟩)] w fun e w' => e = .returned (.bool t) ∧ Below w.heap.size w w' := by
 have C1 : Hid (∀ W, Below w.heap.size w W → Calls Tryz.prog 107 #[tv A n c, .int .i64 x] W fun e w' => e = .returned (.tuple #[rv (atS ps x).1 (atS ps x).2, .int .i64 0]) ∧ Below W.heap.size W w') := Lib.hid fun W hW => at_in A n c ps x W (h.2.2.2.below hW) ht h1 h2
 obtain ⟨u, hu⟩ : ∃ u, decide ((atS ps x).2 < v0) = u := ⟨_, rfl⟩
 have C2 : Hid (∀ W, Calls Tryz.prog 127 #[rv (atS ps x).1 (atS ps x).2, rv v0 v1] W fun e w' => e = .returned (.bool u) ∧ Below W.heap.size W w') := Lib.hid fun W => less_to _ _ v0 v1 u W hu
 have hut : u = t := by rw [← hf, ← hu]; rfl
 clear hf hu ht h1 h2
 generalize (atS ps x).1 = p at *
 generalize (atS ps x).2 = q at *
 have q1 := h.1.cell 0
 have l1 := h.1.lt
 simp at q1
 have HI := Lib.hid h
 clear h
 go_enter Tryz.func170, Tryz.ntmps170
 go_wp2_with fail
 refine (C1.out _ (Below.refl _ _)).mono ?_
 rintro e w1 ⟨rfl, hb⟩
 have HE := Lib.hid (below_then hb (below_alloc1 w1 (.cells #[.int .i64 p, .int .i64 q] 30)))
 have HI1 := Lib.hid (HI.out.below HE.out)
 have a0 := HI1.out.2.1.cell 0
 have b0 := HI1.out.2.2.1.cell 0
 have b1 := HI1.out.2.2.1.cell 1
 simp at a0 b0 b1
 have la := (HI.out.below hb).2.1.lt
 have lb := (HI.out.below hb).2.2.1.lt
 have a0' := (HI.out.below hb).2.1.cell 0
 have b0' := (HI.out.below hb).2.2.1.cell 0
 have b1' := (HI.out.below hb).2.2.1.cell 1
 simp at a0' b0' b1'
 clear hb HI C1 q1 l1
 go_wp2_with fail
 refine (C2.out _).mono ?_
 rintro e w2 ⟨rfl, hb⟩
 have HE2 := Lib.hid (below_then HE.out hb)
 clear hb HE HI1 a0 b0 b1 la lb a0' b0' b1' C2
 cases u
 all_goals
  subst hut
  go_wp2
  go_ret
  exact ⟨rfl, HE2.out⟩

def invS (ahead behind : Int → Bool) (lo hi : Int) : Int × Int × Int :=
  if hi < lo + bs (fun i => !(ahead (lo + i))) (hi - lo + 1).toNat 0 (hi - lo + 1) ∨ lo + bs (fun i => behind (lo + i)) (hi - lo + 1).toNat 0 (hi - lo + 1) = lo then (0, 0, 24)
  else (max (lo + bs (fun i => !(ahead (lo + i))) (hi - lo + 1).toNat 0 (hi - lo + 1) - 1) lo, min (lo + bs (fun i => behind (lo + i)) (hi - lo + 1).toNat 0 (hi - lo + 1)) hi, 0)

set_option maxRecDepth 100000 in
set_option maxHeartbeats 4000000 in
theorem inverse_more (A : Option Addr) (n c : Nat) (ps : List P3) (v0 v1 : Int) (w : World) (hp : TabIn w A n ps) (ht : tabOk ps = true) (hle : firstX ps ≤ lastX ps) :
  Calls Tryz.prog 125 #[tv A n c, rv v0 v1, fnV 126, fnV 127] w fun e w' => e = .returned (rt (invS (moreF ps v1) (lessF ps v0) (firstX ps) (lastX ps))) ∧ Below w.heap.size w w' := by
 have HE := Lib.hid (show Below w.heap.size w (((((w.alloc (.cells #[.slice A n c] 48)).alloc (.cells #[.int .i64 v0, .int .i64 v1] 30)).alloc (.cells #[fnV 126] 148)).alloc (.cells #[fnV 127] 148)).alloc (.cells #[.int .i64 0, .int .i64 0] 30)) from below_a5 (Below.refl _ _))
 have HK := Lib.hid (boxes5' w 48 30 148 148 30 #[.slice A n c] #[.int .i64 v0, .int .i64 v1] #[fnV 126] #[fnV 127] #[.int .i64 0, .int .i64 0])
 obtain ⟨pl1, pl2⟩ := places_in ht
 obtain ⟨r1, hr1⟩ : ∃ r, firstX ps + bs (fun i => !((moreF ps v1) (firstX ps + i))) (lastX ps - firstX ps + 1).toNat 0 (lastX ps - firstX ps + 1) = r := ⟨_, rfl⟩
 obtain ⟨r2, hr2⟩ : ∃ r, firstX ps + bs (fun i => (lessF ps v0) (firstX ps + i)) (lastX ps - firstX ps + 1).toNat 0 (lastX ps - firstX ps + 1) = r := ⟨_, rfl⟩
 have hb1 := bs_range (fun i => !((moreF ps v1) (firstX ps + i))) (lastX ps - firstX ps + 1).toNat 0 (lastX ps - firstX ps + 1) (by omega)
 have hb2 := bs_range (fun i => (lessF ps v0) (firstX ps + i)) (lastX ps - firstX ps + 1).toNat 0 (lastX ps - firstX ps + 1) (by omega)
 have C0 : Hid (∀ W, Below w.heap.size w W → Calls Tryz.prog 86 #[tv A n c] W fun e w' => e = .returned (rv (firstX ps) (lastX ps)) ∧ Below W.heap.size W w') := Lib.hid fun W hW => hplaces_tab A n c ps W (hp.below hW) ht
 have C1 : Hid (∀ W Bt Ba Bv, InvIn W Bt Ba Bv A n c 126 v0 v1 ps → Calls Tryz.prog 168 #[.int .i64 (firstX ps), .int .i64 (lastX ps), inv1Fn Bt Ba Bv] W fun e w' => e = .returned (.int .i64 r1) ∧ Below W.heap.size W w') := Lib.hid fun W Bt Ba Bv hI =>
  first1_to Bt Ba Bv (fun x => !((moreF ps v1) x)) _ _ r1 W (fun V x t hV q1 q2 q3 => inv1_more A n c ps v0 v1 x t Bt Ba Bv V (hI.below hV) ht q1 q2 q3) pl1 hle pl2 hr1
 have C2 : Hid (∀ W Bt Ba Bv, InvIn W Bt Ba Bv A n c 127 v0 v1 ps → Calls Tryz.prog 168 #[.int .i64 (firstX ps), .int .i64 (lastX ps), inv2Fn Bt Ba Bv] W fun e w' => e = .returned (.int .i64 r2) ∧ Below W.heap.size W w') := Lib.hid fun W Bt Ba Bv hI =>
  first2_to Bt Ba Bv (lessF ps v0) _ _ r2 W (fun V x t hV q1 q2 q3 => inv2_less A n c ps v0 v1 x t Bt Ba Bv V (hI.below hV) ht q1 q2 q3) pl1 hle pl2 hr2
 obtain ⟨R, hR⟩ : ∃ R, invS (moreF ps v1) (lessF ps v0) (firstX ps) (lastX ps) = R := ⟨_, rfl⟩
 rw [hR]
 have HR : Hid ((if lastX ps < r1 ∨ r2 = firstX ps then (0, 0, 24) else (max (r1 - 1) (firstX ps), min r2 (lastX ps), 0)) = R) := Lib.hid (by rw [← hR]; unfold invS; rw [hr1, hr2])
 clear hR ht
 have HP := Lib.hid hp
 clear hp
 generalize firstX ps = f at *
 generalize lastX ps = l at *
 have k1 : f ≤ r1 ∧ r1 ≤ l + 1 := by omega
 have k2 : f ≤ r2 ∧ r2 ≤ l + 1 := by omega
 clear hr1 hr2 hb1 hb2
 have w1 : IntKind.i64.wrap (r1 - 1) = r1 - 1 := IntWalk.i64_in _ ⟨by omega, by omega⟩
 go_enter Tryz.func125, Tryz.ntmps125
 go_wp2_with fail
 obtain ⟨W0, hW0⟩ : ∃ W0, (((((w.alloc (.cells #[.slice A n c] 48)).alloc (.cells #[.int .i64 v0, .int .i64 v1] 30)).alloc (.cells #[fnV 126] 148)).alloc (.cells #[fnV 127] 148)).alloc (.cells #[.int .i64 0, .int .i64 0] 30)) = W0 := ⟨_, rfl⟩
 rw [hW0] at HE HK ⊢
 clear hW0
 obtain ⟨G, hG⟩ : ∃ G, w.heap.size = G := ⟨_, rfl⟩
 rw [hG] at HK ⊢
 have HG := Lib.hid hG; clear hG
 refine (C0.out _ HE.out).mono ?_
 rintro e w1 ⟨rfl, hb⟩
 have HE1 := Lib.hid (below_then (below_then HE.out hb) (below_alloc1 w1 (.cells #[.int .i64 f, .int .i64 l] 30)))
 have HK1 := Lib.hid ((HK.out.on hb).new 30 #[.int .i64 f, .int .i64 l])
 clear hb HE HK C0
 go_upto_region 2 with fail
 obtain ⟨W1, hW1⟩ : ∃ W1, w1.alloc (.cells #[.int .i64 f, .int .i64 l] 30) = W1 := ⟨_, rfl⟩
 rw [hW1] at HE1 HK1 ⊢
 clear hW1
 obtain ⟨N, hN⟩ : ∃ N, w1.heap.size = N := ⟨_, rfl⟩
 rw [hN] at HK1 ⊢
 clear hN
 have p := HK1.out _ (.head _)
 have p0 := p.cell 0
 have p1 := p.cell 1
 simp at p0 p1
 clear p
 go_wp2_with fail
 refine (C1.out _ _ _ _ ⟨HK1.out _ (.tail _ (.tail _ (.tail _ (.tail _ (.tail _ (.head _)))))), HK1.out _ (.tail _ (.tail _ (.tail _ (.head _)))), HK1.out _ (.tail _ (.tail _ (.tail _ (.tail _ (.head _))))), HP.out.below HE1.out⟩).mono ?_
 rintro e w2 ⟨rfl, hb⟩
 have HE2 := Lib.hid (below_then HE1.out hb)
 have HK2 := Lib.hid (HK1.out.on hb)
 clear hb HE1 HK1 p0 p1 C1
 have p := HK2.out _ (.head _)
 have p0 := p.cell 0
 have p1 := p.cell 1
 simp at p0 p1
 clear p
 go_wp2_with fail
 refine (C2.out _ _ _ _ ⟨HK2.out _ (.tail _ (.tail _ (.tail _ (.tail _ (.tail _ (.head _)))))), HK2.out _ (.tail _ (.tail _ (.head _))), HK2.out _ (.tail _ (.tail _ (.tail _ (.tail _ (.head _))))), HP.out.below HE2.out⟩).mono ?_
 rintro e w3 ⟨rfl, hb⟩
 have HE3 := Lib.hid (below_then HE2.out hb)
 have HK3 := Lib.hid (HK2.out.on hb)
 clear hb HE2 HK2 p0 p1 C2
 have p := HK3.out _ (.head _)
 have p0 := p.cell 0
 have p1 := p.cell 1
 have pl := p.lt
 simp at p0 p1
 clear p
 have z := HK3.out _ (.tail _ (.head _))
 have z0 := z.cell 0
 have zf0 := z.frozen 0
 have z1 := z.cell 1
 have zf1 := z.frozen 1
 have zl := z.lt
 simp at z0 zf0 z1 zf1
 clear z
 by_cases g1 : l < r1
 ·have e : R = (0, 0, 24) := by rw [← HR.out, if_pos (.inl g1)]
  subst e
  clear HR
  go_wp2
  refine bodyPost_ret (v := rt (0, 0, 24)) (by simp [results, Tryz.results125, go_sem, z0, z1]) rfl ⟨rfl, ?_⟩
  have hg := HG.out
  repeat (first | exact HE3.out | refine Below.setCell ?_ (by simp <;> omega) _)
 ·by_cases g2 : r2 = f
  ·have e : R = (0, 0, 24) := by rw [← HR.out, if_pos (.inr g2)]
   subst e
   have b2 : (r2 == f) = true := by simp [g2]
   clear g2 HR
   go_wp2
   refine bodyPost_ret (v := rt (0, 0, 24)) (by simp [results, Tryz.results125, go_sem, z0, z1]) rfl ⟨rfl, ?_⟩
   have hg := HG.out
   repeat (first | exact HE3.out | refine Below.setCell ?_ (by simp <;> omega) _)
  ·have e : R = (max (r1 - 1) f, min r2 l, 0) := by rw [← HR.out, if_neg (by omega)]
   have b2 : (r2 == f) = false := beq_eq_false_iff_ne.2 g2
   obtain ⟨m1, hm1⟩ : ∃ m, max (r1 - 1) f = m := ⟨_, rfl⟩
   obtain ⟨m2, hm2⟩ : ∃ m, min r2 l = m := ⟨_, rfl⟩
   rw [hm1, hm2] at e
   subst e
   clear g2 HR
   go_wp2
   refine bodyPost_ret (v := rt (m1, m2, 0)) (by simp [results, Tryz.results125, go_sem, z0, z1]) rfl ⟨rfl, ?_⟩
   have hg := HG.out
   repeat (first | exact HE3.out | refine Below.setCell ?_ (by simp <;> omega) _)
end

section
open Go.RowKit
attribute [local go_sem ↓] eqlRange neqRange
theorem hfloor_any (n d : Int) (w : World) (hd : 1 ≤ d) (hn : -4000000000000000000 ≤ n) (hn' : n ≤ 4000000000000000000) :
  Calls Tryz.prog 128 #[.int .i64 n, .int .i64 d] w fun e w' => e = .returned (.int .i64 (n / d)) ∧ w = w' := by
 have hf := tdiv_floor n d (by omega)
 have hb := ediv_between n d 4000000000000000000 hd (by omega) hn hn'
 have H := Lib.hid (And.intro hf hb)
 clear hf hb
 go_enter Tryz.func128, Tryz.ntmps128
 go_wp2
 ·have h : n.tmod d < 0 := by assumption
  go_ret
  obtain ⟨⟨h1, _⟩, h3, h4⟩ := H.out
  have h5 := h1 h
  exact ⟨ret_int (by rw [h5]; exact IntWalk.wrap64_in _ ⟨by omega, by omega⟩), rfl⟩
 ·have h : 0 ≤ n.tmod d := by assumption
  go_ret
  obtain ⟨⟨_, h2⟩, _⟩ := H.out
  exact ⟨ret_int (h2 h), rfl⟩

def massErr (a b c d : Int) : Int := if vR a b = true then (if densS c d = true then 0 else 22) else 10
theorem checkMass_any (a b c d : Int) (w : World) :
  Calls Tryz.prog 84 #[rv a b, rv c d] w fun e w' => e = .returned (.int .i64 (massErr a b c d)) ∧ Below w.heap.size w w' := by
 have HE := Lib.hid (show Below w.heap.size w ((w.alloc (.cells #[.int .i64 a, .int .i64 b] 30)).alloc (.cells #[.int .i64 c, .int .i64 d] 30)) from below_a2 (Below.refl _ _))
 have HK := Lib.hid (boxes2' w 30 30 #[.int .i64 a, .int .i64 b] #[.int .i64 c, .int .i64 d])
 obtain ⟨bv, ev⟩ : ∃ t, vR a b = t := ⟨_, rfl⟩
 obtain ⟨bd, ed⟩ : ∃ t, densS c d = t := ⟨_, rfl⟩
 have C1 : Hid (∀ W, bv = true → Calls Tryz.prog 99 #[rv a b] W fun e w' => e = .returned (.int .i64 0) ∧ Below W.heap.size W w') := Lib.hid fun W h => checkRange_ok a b W (ev.trans h)
 have C2 : Hid (∀ W, bv = false → Calls Tryz.prog 99 #[rv a b] W fun e w' => e = .returned (.int .i64 10) ∧ Below W.heap.size W w') := Lib.hid fun W h => checkRange_bad a b W (ev.trans h)
 have C3 : Hid (∀ W, Calls Tryz.prog 95 #[rv c d] W fun e w' => e = .returned (.bool bd) ∧ Below W.heap.size W w') := Lib.hid fun W => isDensity_to c d bd W ed
 unfold massErr
 rw [ev, ed]
 clear ev ed
 cases bv
 ·simp only [Bool.false_eq_true, if_false]
  go_enter Tryz.func84, Tryz.ntmps84
  go_wp2_with fail
  refine (C2.out _ (by trivial)).mono ?_
  rintro e w1 ⟨rfl, hb⟩
  have HE1 := Lib.hid (below_then HE.out hb)
  clear hb
  go_wp2
  go_ret
  exact ⟨rfl, HE1.out⟩
 ·simp only [if_true]
  go_enter Tryz.func84, Tryz.ntmps84
  go_wp2_with fail
  refine (C1.out _ (by trivial)).mono ?_
  rintro e w1 ⟨rfl, hb⟩
  have HE1 := Lib.hid (below_then HE.out hb)
  have z := HK.out.on hb _ (.head _)
  have z0 := z.cell 0
  have z1 := z.cell 1
  simp at z0 z1
  clear hb z
  go_wp2_with fail
  refine (C3.out _).mono ?_
  rintro e w2 ⟨rfl, hb⟩
  have HE2 := Lib.hid (below_then HE1.out hb)
  clear hb z0 z1
  cases bd
  all_goals
   simp only [Bool.false_eq_true, if_false, if_true]
   go_wp2
   go_ret
   exact ⟨rfl, HE2.out⟩

def litresS (a b c d : Int) : Int × Int := (1000 * a / (if a < 0 then c else d), -(-1000 * b / (if b < 0 then d else c)))
theorem vR_small {a b : Int} (h : vR a b = true) : -1000000000000000 ≤ a ∧ a ≤ b ∧ b ≤ 1000000000000000 := by
  have := (vR_iff a b).1 h; omega
theorem dens_in {c d : Int} (h : densS c d = true) : 100 ≤ c ∧ c ≤ d ∧ d ≤ 2000 := by
  unfold densS at h
  simp only [inB, decide_eq_true_eq] at h
  omega
set_option maxRecDepth 100000 in
set_option maxHeartbeats 4000000 in
theorem hlitres_any (a b c d : Int) (w : World) (h1 : -1000000000000000 ≤ a ∧ a ≤ b ∧ b ≤ 1000000000000000) (h2 : 100 ≤ c ∧ c ≤ d ∧ d ≤ 2000) :
  Calls Tryz.prog 85 #[rv a b, rv c d] w fun e w' => e = .returned (rv (litresS a b c d).1 (litresS a b c d).2) ∧ Below w.heap.size w w' := by
 have F1 : Hid (∀ n e W, 1 ≤ e → -1000000000000000000 ≤ n → n ≤ 1000000000000000000 → Calls Tryz.prog 128 #[.int .i64 n, .int .i64 e] W fun x w' => x = .returned (.int .i64 (n / e)) ∧ W = w') := Lib.hid fun n e W q1 q2 q3 => hfloor_any n e W q1 (by omega) (by omega)
 have k1 : IntKind.i64.wrap (1000 * a) = 1000 * a := IntWalk.i64_in _ ⟨by omega, by omega⟩
 have k2 : IntKind.i64.wrap (-1000 * b) = -1000 * b := IntWalk.i64_in _ ⟨by omega, by omega⟩
 have hA : (a < 0 ∧ (if a < 0 then c else d) = c) ∨ (¬ a < 0 ∧ (if a < 0 then c else d) = d) := by
  by_cases q : a < 0
  ·exact .inl ⟨q, if_pos q⟩
  ·exact .inr ⟨q, if_neg q⟩
 have hB : (b < 0 ∧ (if b < 0 then d else c) = d) ∨ (¬ b < 0 ∧ (if b < 0 then d else c) = c) := by
  by_cases q : b < 0
  ·exact .inl ⟨q, if_pos q⟩
  ·exact .inr ⟨q, if_neg q⟩
 unfold litresS
 have HE := Lib.hid (show Below w.heap.size w (((w.alloc (.cells #[.int .i64 a, .int .i64 b] 30)).alloc (.cells #[.int .i64 c, .int .i64 d] 30)).alloc (.cells #[.int .i64 0, .int .i64 0] 30)) from below_a3 (Below.refl _ _))
 have HK := Lib.hid (boxes3' w 30 30 30 #[.int .i64 a, .int .i64 b] #[.int .i64 c, .int .i64 d] #[.int .i64 0, .int .i64 0])
 have k3 : ∀ x, IntKind.i64.wrap (-(-1000 * b / x)) = -(-1000 * b / x) ∨ ¬ (100 ≤ x ∧ x ≤ 2000) := fun x => by
  by_cases q : 100 ≤ x ∧ x ≤ 2000
  ·have := ediv_between (-1000 * b) x 1000000000000000000 (by omega) (by omega) (by omega) (by omega)
   exact .inl (IntWalk.i64_in _ ⟨by omega, by omega⟩)
  ·exact .inr q
 rcases hA with ⟨qa, ea⟩ | ⟨qa, ea⟩ <;> rcases hB with ⟨qb, eb⟩ | ⟨qb, eb⟩
 ·rw [ea, eb]
  clear ea eb
  dsimp only
  have k4 := (k3 d).resolve_right (by omega)
  have F2 := Lib.hid (fun W => F1.out (1000 * a) c W (by omega) (by omega) (by omega))
  have F3 := Lib.hid (fun W => F1.out (-1000 * b) d W (by omega) (by omega) (by omega))
  clear k3 F1
  go_enter Tryz.func85, Tryz.ntmps85
  go_wp2_with fail
  obtain ⟨W0, hW0⟩ : ∃ W0, (((w.alloc (.cells #[.int .i64 a, .int .i64 b] 30)).alloc (.cells #[.int .i64 c, .int .i64 d] 30)).alloc (.cells #[.int .i64 0, .int .i64 0] 30)) = W0 := ⟨_, rfl⟩
  rw [hW0] at HE HK ⊢
  clear hW0
  obtain ⟨G, hG⟩ : ∃ G, w.heap.size = G := ⟨_, rfl⟩
  rw [hG] at HK ⊢
  have HG := Lib.hid hG; clear hG
  have p := HK.out _ (.tail _ (.tail _ (.head _)))
  have p0 := p.cell 0
  have p1 := p.cell 1
  simp at p0 p1
  clear p
  have q := HK.out _ (.tail _ (.head _))
  have q0 := q.cell 0
  have q1 := q.cell 1
  simp at q0 q1
  clear q
  go_region
  have p0 : W0.drew.cell? ⟨G, 0, none⟩ = some (.int .i64 a) := p0
  have p1 : W0.drew.cell? ⟨G, 1, none⟩ = some (.int .i64 b) := p1
  have q0 : W0.drew.cell? ⟨G + 1, 0, none⟩ = some (.int .i64 c) := q0
  have q1 : W0.drew.cell? ⟨G + 1, 1, none⟩ = some (.int .i64 d) := q1
  go_upto_region 6 with fail
  have HE1 := Lib.hid HE.out.drew.drew
  refine wp_region_held_drew (S := fun w' => w'.cell? ⟨G, 0, none⟩ = some (.int .i64 a) ∧ w'.cell? ⟨G, 1, none⟩ = some (.int .i64 b)) (by kernel_rfl) ⟨p0, p1⟩ (fun hHeld => ?_)
  refine tK 21 (i := 0) (v := .pointer (some ⟨G, 0, none⟩)) rfl rfl (by kernel_rfl) ?_ hHeld ?_
  ·intro w hSw; (try dsimp only at hSw); go_simp; try with_reducible rfl
  simp only [uZ, uS]
  refine tK 22 (i := 1) (v := .int .i64 a) rfl rfl (by kernel_rfl) ?_ hHeld ?_
  ·intro w hSw; (try dsimp only at hSw); go_simp; try with_reducible rfl
  simp only [uZ, uS]
  refine tK 23 (i := 2) (v := .int .i64 (1000 * a)) rfl rfl (by kernel_rfl) ?_ hHeld ?_
  ·intro w hSw; (try dsimp only at hSw); go_simp; try with_reducible rfl
  simp only [uZ, uS]
  refine tK 24 (i := 3) (v := .int .i64 c) rfl rfl (by kernel_rfl) ?_ hHeld ?_
  ·intro w hSw; (try dsimp only at hSw); go_simp; try with_reducible rfl
  simp only [uZ, uS]
  refine tK 26 (i := 5) (v := .pointer (some ⟨G, 1, none⟩)) rfl rfl (by kernel_rfl) ?_ hHeld ?_
  ·intro w hSw; (try dsimp only at hSw); go_simp; try with_reducible rfl
  simp only [uZ, uS]
  refine tK 27 (i := 6) (v := .int .i64 b) rfl rfl (by kernel_rfl) ?_ hHeld ?_
  ·intro w hSw; (try dsimp only at hSw); go_simp; try with_reducible rfl
  simp only [uZ, uS]
  refine tK 28 (i := 7) (v := .int .i64 (-1000 * b)) rfl rfl (by kernel_rfl) ?_ hHeld ?_
  ·intro w hSw; (try dsimp only at hSw); go_simp; try with_reducible rfl
  simp only [uZ, uS]
  refine tK 29 (i := 8) (v := .int .i64 d) rfl rfl (by kernel_rfl) ?_ hHeld ?_
  ·intro w hSw; (try dsimp only at hSw); go_simp; try with_reducible rfl
  simp only [uZ, uS]
  refine wpAnyH_ready (rs := [4]) (by kernel_rfl) (by simp) ?_
  refine AllReadyH.cons rfl (fun K hK => ?_) AllReadyH.nil
  go_simp
  (with_reducible refine (F2.out _).mono ?_)
  rintro e w2 ⟨rfl, rfl⟩
  refine hK.out _ _ (hHeld) (fun hHeld2 => ?_)
  try simp only [Act.put, uA, uZ, uS]
  clear hK K hHeld
  have hHeld := hHeld2
  clear hHeld2
  refine wpAnyH_ready (rs := [9]) (by kernel_rfl) (by simp) ?_
  refine AllReadyH.cons rfl (fun K hK => ?_) AllReadyH.nil
  go_simp
  (with_reducible refine (F3.out _).mono ?_)
  rintro e w2 ⟨rfl, rfl⟩
  refine hK.out _ _ (hHeld) (fun hHeld2 => ?_)
  try simp only [Act.put, uA, uZ, uS]
  clear hK K hHeld
  have hHeld := hHeld2
  clear hHeld2
  refine tK 31 (i := 10) (v := .int .i64 (-(-1000 * b / d))) rfl rfl (by kernel_rfl) ?_ hHeld ?_
  ·intro w hSw; (try dsimp only at hSw); go_simp; try with_reducible rfl
  simp only [uZ, uS]
  refine tK 32 (i := 11) (v := .agg #[.int .i64 (1000 * a / c), .int .i64 (-(-1000 * b / d))]) rfl rfl (by kernel_rfl) ?_ hHeld ?_
  ·intro w hSw; (try dsimp only at hSw); go_simp; try with_reducible rfl
  simp only [uZ, uS]
  refine wpAnyH_ready (rs := [12]) (by kernel_rfl) (by simp) ?_
  refine AllReadyH.cons rfl (fun K hK => ?_) AllReadyH.nil
  rw [if_pos (by kernel_rfl)]
  have HKR : Hid (Blk (W0.drew.drew.setRow (G + 1 + 1) #[.int .i64 (1000 * a / c), .int .i64 (-(-1000 * b / d))]) (G + 1 + 1) 30 #[.int .i64 (1000 * a / c), .int .i64 (-(-1000 * b / d))]) := Lib.hid (setRow_heap W0.drew.drew (G + 1 + 1) _ _ 30 _ ((HK.out _ (.head _)).drew.drew))
  have HE6 := Lib.hid (below_setRow HE1.out (show w.heap.size ≤ G + 1 + 1 by have := HG.out; omega) #[.int .i64 (1000 * a / c), .int .i64 (-(-1000 * b / d))])
  have hS6 := And.intro (((HK.out _ (.tail _ (.tail _ (.head _)))).drew.drew.farRow (show G ≠ G + 1 + 1 by omega) #[.int .i64 (1000 * a / c), .int .i64 (-(-1000 * b / d))]).cell 0) (((HK.out _ (.tail _ (.tail _ (.head _)))).drew.drew.farRow (show G ≠ G + 1 + 1 by omega) #[.int .i64 (1000 * a / c), .int .i64 (-(-1000 * b / d))]).cell 1)
  refine wp_store_row 30 (.tmp 4) (.tmp 32) rfl (G + 1 + 1) #[.int .i64 (1000 * a / c), .int .i64 (-(-1000 * b / d))] rfl rfl 30 _ ((HK.out _ (.head _)).drew.drew) (by kernel_rfl) rfl (by kernel_rfl) ?_
  obtain ⟨W6, hW6⟩ : ∃ W6, W0.drew.drew.setRow (G + 1 + 1) #[.int .i64 (1000 * a / c), .int .i64 (-(-1000 * b / d))] = W6 := ⟨_, rfl⟩
  rw [hW6] at HKR HE6 hS6 ⊢
  refine hK.out _ _ hS6 (fun hHeld2 => ?_)
  clear hW6 hK K hHeld hHeld2 hS6
  refine wpAnyH_done (by kernel_rfl) ?_ _
  go_wp2
  exact bodyPost_ret (v := .agg #[.int .i64 (1000 * a / c), .int .i64 (-(-1000 * b / d))]) (results_cell_row Tryz.results85 _ _ (G + 1 + 1) 30 #[.int .i64 (1000 * a / c), .int .i64 (-(-1000 * b / d))] (0, 0) _ rfl HKR.out Tryz.underlying30 rfl (by kernel_rfl)) rfl ⟨rfl, HE6.out⟩
 ·rw [ea, eb]
  clear ea eb
  dsimp only
  have k4 := (k3 c).resolve_right (by omega)
  have F2 := Lib.hid (fun W => F1.out (1000 * a) c W (by omega) (by omega) (by omega))
  have F3 := Lib.hid (fun W => F1.out (-1000 * b) c W (by omega) (by omega) (by omega))
  clear k3 F1
  go_enter Tryz.func85, Tryz.ntmps85
  go_wp2_with fail
  obtain ⟨W0, hW0⟩ : ∃ W0, (((w.alloc (.cells #[.int .i64 a, .int .i64 b] 30)).alloc (.cells #[.int .i64 c, .int .i64 d] 30)).alloc (.cells #[.int .i64 0, .int .i64 0] 30)) = W0 := ⟨_, rfl⟩
  rw [hW0] at HE HK ⊢
  clear hW0
  obtain ⟨G, hG⟩ : ∃ G, w.heap.size = G := ⟨_, rfl⟩
  rw [hG] at HK ⊢
  have HG := Lib.hid hG; clear hG
  have p := HK.out _ (.tail _ (.tail _ (.head _)))
  have p0 := p.cell 0
  have p1 := p.cell 1
  simp at p0 p1
  clear p
  have q := HK.out _ (.tail _ (.head _))
  have q0 := q.cell 0
  have q1 := q.cell 1
  simp at q0 q1
  clear q
  go_region
  have p0 : W0.drew.cell? ⟨G, 0, none⟩ = some (.int .i64 a) := p0
  have p1 : W0.drew.cell? ⟨G, 1, none⟩ = some (.int .i64 b) := p1
  have q0 : W0.drew.cell? ⟨G + 1, 0, none⟩ = some (.int .i64 c) := q0
  have q1 : W0.drew.cell? ⟨G + 1, 1, none⟩ = some (.int .i64 d) := q1
  go_upto_region 6 with fail
  have HE1 := Lib.hid HE.out.drew.drew
  refine wp_region_held_drew (S := fun w' => w'.cell? ⟨G, 0, none⟩ = some (.int .i64 a) ∧ w'.cell? ⟨G, 1, none⟩ = some (.int .i64 b)) (by kernel_rfl) ⟨p0, p1⟩ (fun hHeld => ?_)
  refine tK 21 (i := 0) (v := .pointer (some ⟨G, 0, none⟩)) rfl rfl (by kernel_rfl) ?_ hHeld ?_
  ·intro w hSw; (try dsimp only at hSw); go_simp; try with_reducible rfl
  simp only [uZ, uS]
  refine tK 22 (i := 1) (v := .int .i64 a) rfl rfl (by kernel_rfl) ?_ hHeld ?_
  ·intro w hSw; (try dsimp only at hSw); go_simp; try with_reducible rfl
  simp only [uZ, uS]
  refine tK 23 (i := 2) (v := .int .i64 (1000 * a)) rfl rfl (by kernel_rfl) ?_ hHeld ?_
  ·intro w hSw; (try dsimp only at hSw); go_simp; try with_reducible rfl
  simp only [uZ, uS]
  refine tK 24 (i := 3) (v := .int .i64 c) rfl rfl (by kernel_rfl) ?_ hHeld ?_
  ·intro w hSw; (try dsimp only at hSw); go_simp; try with_reducible rfl
  simp only [uZ, uS]
  refine tK 26 (i := 5) (v := .pointer (some ⟨G, 1, none⟩)) rfl rfl (by kernel_rfl) ?_ hHeld ?_
  ·intro w hSw; (try dsimp only at hSw); go_simp; try with_reducible rfl
  simp only [uZ, uS]
  refine tK 27 (i := 6) (v := .int .i64 b) rfl rfl (by kernel_rfl) ?_ hHeld ?_
  ·intro w hSw; (try dsimp only at hSw); go_simp; try with_reducible rfl
  simp only [uZ, uS]
  refine tK 28 (i := 7) (v := .int .i64 (-1000 * b)) rfl rfl (by kernel_rfl) ?_ hHeld ?_
  ·intro w hSw; (try dsimp only at hSw); go_simp; try with_reducible rfl
  simp only [uZ, uS]
  refine tK 29 (i := 8) (v := .int .i64 c) rfl rfl (by kernel_rfl) ?_ hHeld ?_
  ·intro w hSw; (try dsimp only at hSw); go_simp; try with_reducible rfl
  simp only [uZ, uS]
  refine wpAnyH_ready (rs := [4]) (by kernel_rfl) (by simp) ?_
  refine AllReadyH.cons rfl (fun K hK => ?_) AllReadyH.nil
  go_simp
  (with_reducible refine (F2.out _).mono ?_)
  rintro e w2 ⟨rfl, rfl⟩
  refine hK.out _ _ (hHeld) (fun hHeld2 => ?_)
  try simp only [Act.put, uA, uZ, uS]
  clear hK K hHeld
  have hHeld := hHeld2
  clear hHeld2
  refine wpAnyH_ready (rs := [9]) (by kernel_rfl) (by simp) ?_
  refine AllReadyH.cons rfl (fun K hK => ?_) AllReadyH.nil
  go_simp
  (with_reducible refine (F3.out _).mono ?_)
  rintro e w2 ⟨rfl, rfl⟩
  refine hK.out _ _ (hHeld) (fun hHeld2 => ?_)
  try simp only [Act.put, uA, uZ, uS]
  clear hK K hHeld
  have hHeld := hHeld2
  clear hHeld2
  refine tK 31 (i := 10) (v := .int .i64 (-(-1000 * b / c))) rfl rfl (by kernel_rfl) ?_ hHeld ?_
  ·intro w hSw; (try dsimp only at hSw); go_simp; try with_reducible rfl
  simp only [uZ, uS]
  refine tK 32 (i := 11) (v := .agg #[.int .i64 (1000 * a / c), .int .i64 (-(-1000 * b / c))]) rfl rfl (by kernel_rfl) ?_ hHeld ?_
  ·intro w hSw; (try dsimp only at hSw); go_simp; try with_reducible rfl
  simp only [uZ, uS]
  refine wpAnyH_ready (rs := [12]) (by kernel_rfl) (by simp) ?_
  refine AllReadyH.cons rfl (fun K hK => ?_) AllReadyH.nil
  rw [if_pos (by kernel_rfl)]
  have HKR : Hid (Blk (W0.drew.drew.setRow (G + 1 + 1) #[.int .i64 (1000 * a / c), .int .i64 (-(-1000 * b / c))]) (G + 1 + 1) 30 #[.int .i64 (1000 * a / c), .int .i64 (-(-1000 * b / c))]) := Lib.hid (setRow_heap W0.drew.drew (G + 1 + 1) _ _ 30 _ ((HK.out _ (.head _)).drew.drew))
  have HE6 := Lib.hid (below_setRow HE1.out (show w.heap.size ≤ G + 1 + 1 by have := HG.out; omega) #[.int .i64 (1000 * a / c), .int .i64 (-(-1000 * b / c))])
  have hS6 := And.intro (((HK.out _ (.tail _ (.tail _ (.head _)))).drew.drew.farRow (show G ≠ G + 1 + 1 by omega) #[.int .i64 (1000 * a / c), .int .i64 (-(-1000 * b / c))]).cell 0) (((HK.out _ (.tail _ (.tail _ (.head _)))).drew.drew.farRow (show G ≠ G + 1 + 1 by omega) #[.int .i64 (1000 * a / c), .int .i64 (-(-1000 * b / c))]).cell 1)
  refine wp_store_row 30 (.tmp 4) (.tmp 32) rfl (G + 1 + 1) #[.int .i64 (1000 * a / c), .int .i64 (-(-1000 * b / c))] rfl rfl 30 _ ((HK.out _ (.head _)).drew.drew) (by kernel_rfl) rfl (by kernel_rfl) ?_
  obtain ⟨W6, hW6⟩ : ∃ W6, W0.drew.drew.setRow (G + 1 + 1) #[.int .i64 (1000 * a / c), .int .i64 (-(-1000 * b / c))] = W6 := ⟨_, rfl⟩
  rw [hW6] at HKR HE6 hS6 ⊢
  refine hK.out _ _ hS6 (fun hHeld2 => ?_)
  clear hW6 hK K hHeld hHeld2 hS6
  refine wpAnyH_done (by kernel_rfl) ?_ _
  go_wp2
  exact bodyPost_ret (v := .agg #[.int .i64 (1000 * a / c), .int .i64 (-(-1000 * b / c))]) (results_cell_row Tryz.results85 _ _ (G + 1 + 1) 30 #[.int .i64 (1000 * a / c), .int .i64 (-(-1000 * b / c))] (0, 0) _ rfl HKR.out Tryz.underlying30 rfl (by kernel_rfl)) rfl ⟨rfl, HE6.out⟩
 ·omega
 ·rw [ea, eb]
  clear ea eb
  dsimp only
  have k4 := (k3 c).resolve_right (by omega)
  have F2 := Lib.hid (fun W => F1.out (1000 * a) d W (by omega) (by omega) (by omega))
  have F3 := Lib.hid (fun W => F1.out (-1000 * b) c W (by omega) (by omega) (by omega))
  clear k3 F1
  go_enter Tryz.func85, Tryz.ntmps85
  go_wp2_with fail
  obtain ⟨W0, hW0⟩ : ∃ W0, (((w.alloc (.cells #[.int .i64 a, .int .i64 b] 30)).alloc (.cells #[.int .i64 c, .int .i64 d] 30)).alloc (.cells #[.int .i64 0, .int .i64 0] 30)) = W0 := ⟨_, rfl⟩
  rw [hW0] at HE HK ⊢
  clear hW0
  obtain ⟨G, hG⟩ : ∃ G, w.heap.size = G := ⟨_, rfl⟩
  rw [hG] at HK ⊢
  have HG := Lib.hid hG; clear hG
  have p := HK.out _ (.tail _ (.tail _ (.head _)))
  have p0 := p.cell 0
  have p1 := p.cell 1
  simp at p0 p1
  clear p
  have q := HK.out _ (.tail _ (.head _))
  have q0 := q.cell 0
  have q1 := q.cell 1
  simp at q0 q1
  clear q
  go_region
  have p0 : W0.drew.cell? ⟨G, 0, none⟩ = some (.int .i64 a) := p0
  have p1 : W0.drew.cell? ⟨G, 1, none⟩ = some (.int .i64 b) := p1
  have q0 : W0.drew.cell? ⟨G + 1, 0, none⟩ = some (.int .i64 c) := q0
  have q1 : W0.drew.cell? ⟨G + 1, 1, none⟩ = some (.int .i64 d) := q1
  go_upto_region 6 with fail
  have HE1 := Lib.hid HE.out.drew.drew
  refine wp_region_held_drew (S := fun w' => w'.cell? ⟨G, 0, none⟩ = some (.int .i64 a) ∧ w'.cell? ⟨G, 1, none⟩ = some (.int .i64 b)) (by kernel_rfl) ⟨p0, p1⟩ (fun hHeld => ?_)
  refine tK 21 (i := 0) (v := .pointer (some ⟨G, 0, none⟩)) rfl rfl (by kernel_rfl) ?_ hHeld ?_
  ·intro w hSw; (try dsimp only at hSw); go_simp; try with_reducible rfl
  simp only [uZ, uS]
  refine tK 22 (i := 1) (v := .int .i64 a) rfl rfl (by kernel_rfl) ?_ hHeld ?_
  ·intro w hSw; (try dsimp only at hSw); go_simp; try with_reducible rfl
  simp only [uZ, uS]
  refine tK 23 (i := 2) (v := .int .i64 (1000 * a)) rfl rfl (by kernel_rfl) ?_ hHeld ?_
  ·intro w hSw; (try dsimp only at hSw); go_simp; try with_reducible rfl
  simp only [uZ, uS]
  refine tK 24 (i := 3) (v := .int .i64 d) rfl rfl (by kernel_rfl) ?_ hHeld ?_
  ·intro w hSw; (try dsimp only at hSw); go_simp; try with_reducible rfl
  simp only [uZ, uS]
  refine tK 26 (i := 5) (v := .pointer (some ⟨G, 1, none⟩)) rfl rfl (by kernel_rfl) ?_ hHeld ?_
  ·intro w hSw; (try dsimp only at hSw); go_simp; try with_reducible rfl
  simp only [uZ, uS]
  refine tK 27 (i := 6) (v := .int .i64 b) rfl rfl (by kernel_rfl) ?_ hHeld ?_
  ·intro w hSw; (try dsimp only at hSw); go_simp; try with_reducible rfl
  simp only [uZ, uS]
  refine tK 28 (i := 7) (v := .int .i64 (-1000 * b)) rfl rfl (by kernel_rfl) ?_ hHeld ?_
  ·intro w hSw; (try dsimp only at hSw); go_simp; try with_reducible rfl
  simp only [uZ, uS]
  refine tK 29 (i := 8) (v := .int .i64 c) rfl rfl (by kernel_rfl) ?_ hHeld ?_
  ·intro w hSw; (try dsimp only at hSw); go_simp; try with_reducible rfl
  simp only [uZ, uS]
  refine wpAnyH_ready (rs := [4]) (by kernel_rfl) (by simp) ?_
  refine AllReadyH.cons rfl (fun K hK => ?_) AllReadyH.nil
  go_simp
  (with_reducible refine (F2.out _).mono ?_)
  rintro e w2 ⟨rfl, rfl⟩
  refine hK.out _ _ (hHeld) (fun hHeld2 => ?_)
  try simp only [Act.put, uA, uZ, uS]
  clear hK K hHeld
  have hHeld := hHeld2
  clear hHeld2
  refine wpAnyH_ready (rs := [9]) (by kernel_rfl) (by simp) ?_
  refine AllReadyH.cons rfl (fun K hK => ?_) AllReadyH.nil
  go_simp
  (with_reducible refine (F3.out _).mono ?_)
  rintro e w2 ⟨rfl, rfl⟩
  refine hK.out _ _ (hHeld) (fun hHeld2 => ?_)
  try simp only [Act.put, uA, uZ, uS]
  clear hK K hHeld
  have hHeld := hHeld2
  clear hHeld2
  refine tK 31 (i := 10) (v := .int .i64 (-(-1000 * b / c))) rfl rfl (by kernel_rfl) ?_ hHeld ?_
  ·intro w hSw; (try dsimp only at hSw); go_simp; try with_reducible rfl
  simp only [uZ, uS]
  refine tK 32 (i := 11) (v := .agg #[.int .i64 (1000 * a / d), .int .i64 (-(-1000 * b / c))]) rfl rfl (by kernel_rfl) ?_ hHeld ?_
  ·intro w hSw; (try dsimp only at hSw); go_simp; try with_reducible rfl
  simp only [uZ, uS]
  refine wpAnyH_ready (rs := [12]) (by kernel_rfl) (by simp) ?_
  refine AllReadyH.cons rfl (fun K hK => ?_) AllReadyH.nil
  rw [if_pos (by kernel_rfl)]
  have HKR : Hid (Blk (W0.drew.drew.setRow (G + 1 + 1) #[.int .i64 (1000 * a / d), .int .i64 (-(-1000 * b / c))]) (G + 1 + 1) 30 #[.int .i64 (1000 * a / d), .int .i64 (-(-1000 * b / c))]) := Lib.hid (setRow_heap W0.drew.drew (G + 1 + 1) _ _ 30 _ ((HK.out _ (.head _)).drew.drew))
  have HE6 := Lib.hid (below_setRow HE1.out (show w.heap.size ≤ G + 1 + 1 by have := HG.out; omega) #[.int .i64 (1000 * a / d), .int .i64 (-(-1000 * b / c))])
  have hS6 := And.intro (((HK.out _ (.tail _ (.tail _ (.head _)))).drew.drew.farRow (show G ≠ G + 1 + 1 by omega) #[.int .i64 (1000 * a / d), .int .i64 (-(-1000 * b / c))]).cell 0) (((HK.out _ (.tail _ (.tail _ (.head _)))).drew.drew.farRow (show G ≠ G + 1 + 1 by omega) #[.int .i64 (1000 * a / d), .int .i64 (-(-1000 * b / c))]).cell 1)
  refine wp_store_row 30 (.tmp 4) (.tmp 32) rfl (G + 1 + 1) #[.int .i64 (1000 * a / d), .int .i64 (-(-1000 * b / c))] rfl rfl 30 _ ((HK.out _ (.head _)).drew.drew) (by kernel_rfl) rfl (by kernel_rfl) ?_
  obtain ⟨W6, hW6⟩ : ∃ W6, W0.drew.drew.setRow (G + 1 + 1) #[.int .i64 (1000 * a / d), .int .i64 (-(-1000 * b / c))] = W6 := ⟨_, rfl⟩
  rw [hW6] at HKR HE6 hS6 ⊢
  refine hK.out _ _ hS6 (fun hHeld2 => ?_)
  clear hW6 hK K hHeld hHeld2 hS6
  refine wpAnyH_done (by kernel_rfl) ?_ _
  go_wp2
  exact bodyPost_ret (v := .agg #[.int .i64 (1000 * a / d), .int .i64 (-(-1000 * b / c))]) (results_cell_row Tryz.results85 _ _ (G + 1 + 1) 30 #[.int .i64 (1000 * a / d), .int .i64 (-(-1000 * b / c))] (0, 0) _ rfl HKR.out Tryz.underlying30 rfl (by kernel_rfl)) rfl ⟨rfl, HE6.out⟩
end

end Go.Proofs.YtekkiedlajhaiaaGreat
