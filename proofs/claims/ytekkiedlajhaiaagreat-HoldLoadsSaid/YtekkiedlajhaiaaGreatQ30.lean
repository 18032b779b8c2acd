/- Fills and levels in memory; slices.ContainsFunc as checkEach calls it; the first error of a list. Their conditions: the lists lie in memory, the closure's variables are boxes. -/
import Derived.Test.YtekkiedlajhaiaaGreatQ20
import Derived.Test.YtekkiedlajhaiaaGreatQ29
import Derived.Test.YtekkiedlajhaiaaGreatQ14
import Derived.Test.YtekkiedlajhaiaaGreatQ16
import Derived.Test.YtekkiedlajhaiaaGreatQ98
set_option linter.unusedVariables false
set_option linter.unusedSimpArgs false
set_option linter.constructorNameAsVariable false
namespace Go.Proofs.YtekkiedlajhaiaaGreat

section
open Go.RowKit
attribute [local go_sem ↓] eqlRange neqRange
def sumH (a b c d : Int) : Int × Int := ((addS a b c d).1, (addS a b c d).2.1)

set_option maxRecDepth 100000 in
set_option maxHeartbeats 4000000 in
theorem hsum_any (a b c d : Int) (w : World) :
  Calls Tryz.prog 33 #[rv a b, rv c d] w fun e w' => e = .returned (rv (sumH a b c d).1 (sumH a b c d).2) ∧ Below w.heap.size w w' := by
 have HE := Lib.hid (show Below w.heap.size w (((w.alloc (.cells #[.int .i64 a, .int .i64 b] 30)).alloc (.cells #[.int .i64 c, .int .i64 d] 30)).alloc (.cells #[.int .i64 0, .int .i64 0] 30)) from below_a3 (Below.refl _ _))
 have HK := Lib.hid (boxes3' w 30 30 30 #[.int .i64 a, .int .i64 b] #[.int .i64 c, .int .i64 d] #[.int .i64 0, .int .i64 0])
 have CC : Hid (∀ W, Calls Tryz.prog 70 #[rv a b, rv c d] W fun e w' => e = .returned (rt (addS a b c d)) ∧ Below W.heap.size W w') := Lib.hid fun W => add_any a b c d W
 unfold sumH
 generalize addS a b c d = R at *
 obtain ⟨p, q, r⟩ := R
 go_enter Tryz.func33, Tryz.ntmps33
 go_wp2_with fail
 obtain ⟨W0, hW0⟩ : ∃ W0, (((w.alloc (.cells #[.int .i64 a, .int .i64 b] 30)).alloc (.cells #[.int .i64 c, .int .i64 d] 30)).alloc (.cells #[.int .i64 0, .int .i64 0] 30)) = W0 := ⟨_, rfl⟩
 rw [hW0] at HE HK ⊢
 clear hW0
 obtain ⟨G, hG⟩ : ∃ G, w.heap.size = G := ⟨_, rfl⟩
 rw [hG] at HK ⊢
 have HG := Lib.hid hG; clear hG
 refine (CC.out _).mono ?_
 rintro e w1 ⟨rfl, hb⟩
 have HE1 := Lib.hid (below_then (below_then HE.out hb) (below_alloc1 w1 (.cells #[.int .i64 p, .int .i64 q] 30))); have HK1 := Lib.hid ((HK.out.on hb).new 30 #[.int .i64 p, .int .i64 q])
 clear hb HE HK CC
 go_upto_region 2 with fail
 obtain ⟨W1, hW1⟩ : ∃ W1, w1.alloc (.cells #[.int .i64 p, .int .i64 q] 30) = W1 := ⟨_, rfl⟩
 rw [hW1] at HE1 HK1 ⊢
 clear hW1
 obtain ⟨N, hN⟩ : ∃ N, w1.heap.size = N := ⟨_, rfl⟩
 rw [hN] at HK1 ⊢
 clear hN
 have p := HK1.out _ (.head _)
 have p0 := p.cell 0
 have p1 := p.cell 1
 simp at p0 p1
 clear p
 have z := HK1.out _ (.tail _ (.head _))
 have z0 := z.cell 0
 have zf0 := z.frozen 0
 have z1 := z.cell 1
 have zf1 := z.frozen 1
 have zl := z.lt
 simp at z0 zf0 z1 zf1
 clear z
 go_wp2
 refine bodyPost_ret (v := rv p q) (by simp [results, Tryz.results33, go_sem, z0, z1]) rfl ⟨rfl, ?_⟩
 have hg := HG.out
 repeat (first | exact HE1.out | refine Below.setCell ?_ (by simp <;> omega) _)

section
attribute [local go_sem ↓] eqRange9
set_option maxRecDepth 100000 in
set_option maxHeartbeats 4000000 in
theorem eqWeightV (a b c e f g : Int) (w : World) : (Op.equalIn 10000 63 (.agg #[.int .i64 a, .int .i64 b, .int .i64 c, .int .i64 e, .int .i64 f, .int .i64 g]) (.agg #[.int .i64 a, .int .i64 b, .int .i64 c, .int .i64 e, .int .i64 f, .int .i64 g])).run Tryz.prog w = .ok true w := by
  have u3 := Tryz.underlying3
  have hS : Tryz.prog.underlying 63 = some (.struct (Tryz.prog.fieldsOf 63)) := by kernel_rfl
  have hp : Tryz.prog.stoodInHeld 63 = false := by kernel_rfl
  rw [show (10000 : Nat) = 9999 + 1 from rfl, run_equalIn_agg w 9999 63 _ _ hS hp]
  clear hS hp
  simp only [Program.fieldsOf, Tryz.underlying63]
  go_simp
end
@[go_sem] theorem eqGuardWeightV (op : BinOp) (x y : Operand) (xs ys : Array Value) (w : World) : (eqGuard op 63 x y (.agg xs) (.agg ys)).run Tryz.prog w = .ok () w :=
  run_eqGuard_agg w op 63 x y xs ys (by kernel_rfl)
theorem neqWeightSame (a b c e f g : Int) (w : World) : (binOp .neq 63 (.agg #[.int .i64 a, .int .i64 b, .int .i64 c, .int .i64 e, .int .i64 f, .int .i64 g]) (.agg #[.int .i64 a, .int .i64 b, .int .i64 c, .int .i64 e, .int .i64 f, .int .i64 g])).run Tryz.prog w = .ok (.bool false) w := by
  rw [run_neq_struct, eqWeightV]; rfl
attribute [local go_sem ↓] neqWeightSame
structure WD where
  m0 : Int
  m1 : Int
  a0 : Int
  a1 : Int
  z0 : Int
  z1 : Int
def WsMem (w : World) (b : Nat) (L : List WD) : Prop := ∀ k r, L[k]? = some r → w.cell? ⟨b, k * 6, none⟩ = some (.int .i64 r.m0) ∧ w.cell? ⟨b, k * 6 + 1, none⟩ = some (.int .i64 r.m1) ∧ w.cell? ⟨b, k * 6 + 2, none⟩ = some (.int .i64 r.a0) ∧ w.cell? ⟨b, k * 6 + 3, none⟩ = some (.int .i64 r.a1) ∧ w.cell? ⟨b, k * 6 + 4, none⟩ = some (.int .i64 r.z0) ∧ w.cell? ⟨b, k * 6 + 5, none⟩ = some (.int .i64 r.z1)
theorem WsMem.below {w w' : World} {b : Nat} {L : List WD} (h : WsMem w b L) (hB : Below w.heap.size w w') (hb : b < w.heap.size) : WsMem w' b L := fun k r hr => by
  have e := fun i => (bcell hB).1 b i hb
  rw [e, e, e, e, e, e]; exact h k r hr
def SlWs (w : World) (v : Value) (L : List WD) : Prop := (v = .slice none 0 0 ∧ L = []) ∨ ∃ b c, v = .slice (some ⟨b, 0, none⟩) L.length c ∧ b < w.heap.size ∧ WsMem w b L
theorem SlWs.below {w w' : World} {v : Value} {L : List WD} (h : SlWs w v L) (hB : Below w.heap.size w w') : SlWs w' v L := by
  rcases h with h | ⟨b, c, h1, h2, h3⟩
  · exact .inl h
  · exact .inr ⟨b, c, h1, Nat.lt_of_lt_of_le h2 hB.size, h3.below hB h2⟩

set_option maxRecDepth 100000 in
set_option maxHeartbeats 4000000 in
theorem sameWeights_mem (b b' n c c' : Nat) (L : List WD) (w : World) (hn : n = L.length) (hm : n ≤ 40) (hb : b < w.heap.size) (hb' : b' < w.heap.size) (h : WsMem w b L) (h' : WsMem w b' L) :
  Calls Tryz.prog 38 #[.slice (some ⟨b, 0, none⟩) n c, .slice (some ⟨b', 0, none⟩) n c'] w fun e w' => e = .returned (.bool true) ∧ Below w.heap.size w w' := by
 have HN := Lib.hid hn; clear hn
 have HC := Lib.hid h; have HC' := Lib.hid h'; clear h h'
 go_enter Tryz.func38, Tryz.ntmps38
 go_wp2_with fail
 go_loopw [5] (fun i wr => ∃ k : Nat, k ≤ n ∧ i = .int .i64 k ∧ Below w.heap.size w wr) (fun i _ => n - (intOf i).toNat)
 case atStart => exact ⟨0, by omega, rfl, Below.refl _ _⟩
 case round =>
  obtain ⟨k, hk, rfl, hB⟩ := hrel
  by_cases hlt : k < n
  ·have hp : ∃ p, L[k]? = some p := ⟨_, List.getElem?_eq_getElem (show k < L.length by rw [← HN.out]; exact hlt)⟩
   obtain ⟨⟨r1, r2, r3, r4, r5, r6⟩, hp⟩ := hp
   obtain ⟨c0, c1, c2, c3, c4, c5⟩ := HC.out k _ hp
   obtain ⟨d0, d1, d2, d3, d4, d5⟩ := HC'.out k _ hp
   rw [← hB.cell (p := ⟨b, k * 6, none⟩) hb] at c0
   rw [← hB.cell (p := ⟨b, k * 6 + 1, none⟩) hb] at c1
   rw [← hB.cell (p := ⟨b, k * 6 + 2, none⟩) hb] at c2
   rw [← hB.cell (p := ⟨b, k * 6 + 3, none⟩) hb] at c3
   rw [← hB.cell (p := ⟨b, k * 6 + 4, none⟩) hb] at c4
   rw [← hB.cell (p := ⟨b, k * 6 + 5, none⟩) hb] at c5
   rw [← hB.cell (p := ⟨b', k * 6, none⟩) hb'] at d0
   rw [← hB.cell (p := ⟨b', k * 6 + 1, none⟩) hb'] at d1
   rw [← hB.cell (p := ⟨b', k * 6 + 2, none⟩) hb'] at d2
   rw [← hB.cell (p := ⟨b', k * 6 + 3, none⟩) hb'] at d3
   rw [← hB.cell (p := ⟨b', k * 6 + 4, none⟩) hb'] at d4
   rw [← hB.cell (p := ⟨b', k * 6 + 5, none⟩) hb'] at d5
   clear hp
   dsimp only at c0 c1 c2 c3 c4 c5 d0 d1 d2 d3 d4 d5
   go_wp2_with fail
   go_quiet (fail)
   go_wp2
   go_roundw
   case rel => exact ⟨k + 1, by omega, by go_num, below_drewM hB _⟩
   case measure => simp [intOf]; omega
  ·go_wp2
   go_ret
   exact ⟨rfl, hB⟩
set_option maxRecDepth 100000 in
theorem sameWeights_nil (w : World) : Calls Tryz.prog 38 #[.slice none 0 0, .slice none 0 0] w fun e w' => e = .returned (.bool true) ∧ Below w.heap.size w w' := by
 go_enter Tryz.func38, Tryz.ntmps38
 go_wp2_with fail
 go_loopw [5] (fun i wr => i = .int .i64 0 ∧ Below w.heap.size w wr) (fun i _ => 0)
 case atStart => exact ⟨rfl, Below.refl _ _⟩
 case round =>
  obtain ⟨rfl, hB⟩ := hrel
  go_wp2
  go_ret
  exact ⟨rfl, hB⟩
theorem sameWeights_any (x y : Value) (L : List WD) (w : World) (hm : L.length ≤ 40) (h : SlWs w x L) (h' : SlWs w y L) (hne : L = [] ↔ x = .slice none 0 0) (hne' : L = [] ↔ y = .slice none 0 0) :
    Calls Tryz.prog 38 #[x, y] w fun e w' => e = .returned (.bool true) ∧ Below w.heap.size w w' := by
  rcases h with ⟨rfl, e⟩ | ⟨b, c, rfl, h1, h2⟩
  · have := hne'.1 e
    subst this
    exact sameWeights_nil w
  · rcases h' with ⟨rfl, e⟩ | ⟨b', c', rfl, h3, h4⟩
    · have := hne.1 e
      simp at this
    · exact sameWeights_mem b b' _ c c' L w rfl hm h1 h3 h2 h4

set_option maxRecDepth 100000 in
set_option maxHeartbeats 4000000 in
theorem sameLoad_any (x y : Value) (L : List WD) (a b c d : Int) (w : World) (hm : L.length ≤ 40) (h : SlWs w x L) (h' : SlWs w y L) (hne : L = [] ↔ x = .slice none 0 0) (hne' : L = [] ↔ y = .slice none 0 0) :
  Calls Tryz.prog 9 #[.agg #[x, .int .i64 a, .int .i64 b, .int .i64 c, .int .i64 d], .agg #[y, .int .i64 a, .int .i64 b, .int .i64 c, .int .i64 d]] w fun e w' => e = .returned (.bool true) ∧ Below w.heap.size w w' := by
 have C1 : Hid (∀ W, Below w.heap.size w W → Calls Tryz.prog 38 #[x, y] W fun e w' => e = .returned (.bool true) ∧ Below W.heap.size W w') := Lib.hid fun W hW => sameWeights_any x y L W hm (h.below hW) (h'.below hW) hne hne'
 have hx : (∃ A n c, x = .slice A n c) := by
  rcases h with ⟨rfl, _⟩ | ⟨b, c, rfl, _⟩ <;> exact ⟨_, _, _, rfl⟩
 have hy : (∃ A n c, y = .slice A n c) := by
  rcases h' with ⟨rfl, _⟩ | ⟨b, c, rfl, _⟩ <;> exact ⟨_, _, _, rfl⟩
 clear h h' hne hne' hm
 obtain ⟨A, n, q, rfl⟩ := hx
 obtain ⟨B, l, r, rfl⟩ := hy
 have HE := Lib.hid (show Below w.heap.size w ((w.alloc (.cells #[.slice A n q, .int .i64 a, .int .i64 b, .int .i64 c, .int .i64 d] 32)).alloc (.cells #[.slice B l r, .int .i64 a, .int .i64 b, .int .i64 c, .int .i64 d] 32)) from below_a2 (Below.refl _ _))
 have HK := Lib.hid (boxes2' w 32 32 #[.slice A n q, .int .i64 a, .int .i64 b, .int .i64 c, .int .i64 d] #[.slice B l r, .int .i64 a, .int .i64 b, .int .i64 c, .int .i64 d])
 go_enter Tryz.func9, Tryz.ntmps9
 go_upto_region 1 with fail
 obtain ⟨W0, hW0⟩ : ∃ W0, ((w.alloc (.cells #[.slice A n q, .int .i64 a, .int .i64 b, .int .i64 c, .int .i64 d] 32)).alloc (.cells #[.slice B l r, .int .i64 a, .int .i64 b, .int .i64 c, .int .i64 d] 32)) = W0 := ⟨_, rfl⟩
 rw [hW0] at HE HK ⊢
 clear hW0
 obtain ⟨G, hG⟩ : ∃ G, w.heap.size = G := ⟨_, rfl⟩
 rw [hG] at HK ⊢
 have HG := Lib.hid hG; clear hG
 have ha := HK.out _ (.tail _ (.head _))
 have ha0 := ha.cell 0
 have ha1 := ha.cell 1
 have ha2 := ha.cell 2
 have ha3 := ha.cell 3
 have ha4 := ha.cell 4
 simp at ha0 ha1 ha2 ha3 ha4
 clear ha
 have fa := HK.out _ (.head _)
 have fa0 := fa.cell 0
 have fa1 := fa.cell 1
 have fa2 := fa.cell 2
 have fa3 := fa.cell 3
 have fa4 := fa.cell 4
 simp at fa0 fa1 fa2 fa3 fa4
 clear fa
 go_wp2_with fail
 refine (C1.out _ HE.out).mono ?_
 rintro e w2 ⟨rfl, hq⟩
 have HE2 := Lib.hid (below_then HE.out hq)
 clear hq HE HK C1
 go_wp2
 go_ret
 exact ⟨rfl, HE2.out⟩
end

section
open Go.RowKit

def HoldsMem (w : World) (b o : Nat) (L : List (HoldD × HoldM)) : Prop := ∀ k r, L[k]? = some r → w.cell? ⟨b, o + k * 14, none⟩ = some (.int .i64 r.1.id) ∧ w.cell? ⟨b, o + k * 14 + 1, none⟩ = some (.int .i64 r.1.al) ∧ w.cell? ⟨b, o + k * 14 + 2, none⟩ = some (.int .i64 r.1.ah) ∧ w.cell? ⟨b, o + k * 14 + 3, none⟩ = some (.slice r.2.A r.2.n r.2.c) ∧ w.cell? ⟨b, o + k * 14 + 4, none⟩ = some (.slice r.2.B r.2.m r.2.d) ∧ w.cell? ⟨b, o + k * 14 + 5, none⟩ = some (.slice r.2.C r.2.l r.2.e) ∧ w.cell? ⟨b, o + k * 14 + 6, none⟩ = some (.int .i64 r.1.t0) ∧ w.cell? ⟨b, o + k * 14 + 7, none⟩ = some (.int .i64 r.1.t1) ∧ w.cell? ⟨b, o + k * 14 + 8, none⟩ = some (.int .i64 r.1.u0) ∧ w.cell? ⟨b, o + k * 14 + 9, none⟩ = some (.int .i64 r.1.u1) ∧ w.cell? ⟨b, o + k * 14 + 10, none⟩ = some (.int .i64 r.1.v0) ∧ w.cell? ⟨b, o + k * 14 + 11, none⟩ = some (.int .i64 r.1.v1) ∧ w.cell? ⟨b, o + k * 14 + 12, none⟩ = some (.int .i64 r.1.h0) ∧ w.cell? ⟨b, o + k * 14 + 13, none⟩ = some (.int .i64 r.1.h1)
theorem HoldsMem.below {w w' : World} {b o : Nat} {L : List (HoldD × HoldM)} (h : HoldsMem w b o L) (hB : Below w.heap.size w w') (hb : b < w.heap.size) : HoldsMem w' b o L := fun k r hr => by
  have e := fun i => (bcell hB).1 b i hb
  rw [e, e, e, e, e, e, e, e, e, e, e, e, e, e]; exact h k r hr
theorem HoldsMem.take {w : World} {b o j : Nat} {L : List (HoldD × HoldM)} (h : HoldsMem w b o L) : HoldsMem w b o (L.take j) := fun k r hr => h k r (by
  rw [List.getElem?_take] at hr; split at hr
  · exact hr
  · cases hr)
def HoldsIn (w : World) (A : Option Addr) (n : Nat) (L : List (HoldD × HoldM)) : Prop := n = L.length ∧ n ≤ maxLen ∧ (L = [] ∨ ∃ b o, A = some ⟨b, o, none⟩ ∧ b < w.heap.size ∧ HoldsMem w b o L)
theorem HoldsIn.below {w w' : World} {A : Option Addr} {n : Nat} {L : List (HoldD × HoldM)} (h : HoldsIn w A n L) (hB : Below w.heap.size w w') : HoldsIn w' A n L :=
  ⟨h.1, h.2.1, h.2.2.imp id fun ⟨b, o, h1, h2, h3⟩ => ⟨b, o, h1, Nat.lt_of_lt_of_le h2 hB.size, h3.below hB h2⟩⟩

set_option maxRecDepth 100000 in
set_option maxHeartbeats 4000000 in
theorem idOfHold_to (pid pal pah pt0 pt1 pu0 pu1 pv0 pv1 ph0 ph1 : Int) (pA pB pC : Option Addr) (pn pc pm pd pl pe : Nat) (w : World) :
  Calls Tryz.prog 67 #[.agg #[.int .i64 pid, .int .i64 pal, .int .i64 pah, .slice pA pn pc, .slice pB pm pd, .slice pC pl pe, .int .i64 pt0, .int .i64 pt1, .int .i64 pu0, .int .i64 pu1, .int .i64 pv0, .int .i64 pv1, .int .i64 ph0, .int .i64 ph1]] w fun e w' => e = .returned (.int .i64 pid) ∧ Below w.heap.size w w' := by
 go_enter Tryz.func67, Tryz.ntmps67
 go_wp2
 go_ret
 exact ⟨rfl, below_alloc1 _ _⟩

set_option maxRecDepth 100000 in
set_option maxHeartbeats 4000000 in
theorem sameHold_to (pid pal pah pt0 pt1 pu0 pu1 pv0 pv1 ph0 ph1 : Int) (pA pB pC : Option Addr) (pn pc pm pd pl pe : Nat) (qid qal qah qt0 qt1 qu0 qu1 qv0 qv1 qh0 qh1 : Int) (qA qB qC : Option Addr) (qn qc qm qd ql qe : Nat) (F H : Nat) (w : World) (hF : Blk w F 115 #[fnV 67]) (hH : Blk w H 50 #[.int .i64 qid, .int .i64 qal, .int .i64 qah, .slice qA qn qc, .slice qB qm qd, .slice qC ql qe, .int .i64 qt0, .int .i64 qt1, .int .i64 qu0, .int .i64 qu1, .int .i64 qv0, .int .i64 qv1, .int .i64 qh0, .int .i64 qh1]) :
  Calls Tryz.prog 110 #[.agg #[.int .i64 pid, .int .i64 pal, .int .i64 pah, .slice pA pn pc, .slice pB pm pd, .slice pC pl pe, .int .i64 pt0, .int .i64 pt1, .int .i64 pu0, .int .i64 pu1, .int .i64 pv0, .int .i64 pv1, .int .i64 ph0, .int .i64 ph1], .pointer (some ⟨F, 0, none⟩), .pointer (some ⟨H, 0, none⟩)] w fun e w' => e = .returned (.bool (pid == qid)) ∧ Below w.heap.size w w' := by
 have HK : Hid (Boxes (w.alloc (.cells #[.int .i64 pid, .int .i64 pal, .int .i64 pah, .slice pA pn pc, .slice pB pm pd, .slice pC pl pe, .int .i64 pt0, .int .i64 pt1, .int .i64 pu0, .int .i64 pu1, .int .i64 pv0, .int .i64 pv1, .int .i64 ph0, .int .i64 ph1] 50)) [(w.heap.size, 50, #[.int .i64 pid, .int .i64 pal, .int .i64 pah, .slice pA pn pc, .slice pB pm pd, .slice pC pl pe, .int .i64 pt0, .int .i64 pt1, .int .i64 pu0, .int .i64 pu1, .int .i64 pv0, .int .i64 pv1, .int .i64 ph0, .int .i64 ph1]), (F, 115, #[fnV 67]), (H, 50, #[.int .i64 qid, .int .i64 qal, .int .i64 qah, .slice qA qn qc, .slice qB qm qd, .slice qC ql qe, .int .i64 qt0, .int .i64 qt1, .int .i64 qu0, .int .i64 qu1, .int .i64 qv0, .int .i64 qv1, .int .i64 qh0, .int .i64 qh1])]) := Lib.hid ((show Boxes w [(F, 115, #[fnV 67]), (H, 50, #[.int .i64 qid, .int .i64 qal, .int .i64 qah, .slice qA qn qc, .slice qB qm qd, .slice qC ql qe, .int .i64 qt0, .int .i64 qt1, .int .i64 qu0, .int .i64 qu1, .int .i64 qv0, .int .i64 qv1, .int .i64 qh0, .int .i64 qh1])] from fun p hp => by
  rcases List.mem_cons.1 hp with rfl | hp
  ·exact hF
  ·rcases List.mem_cons.1 hp with rfl | hp
   ·exact hH
   ·cases hp).new 50 #[.int .i64 pid, .int .i64 pal, .int .i64 pah, .slice pA pn pc, .slice pB pm pd, .slice pC pl pe, .int .i64 pt0, .int .i64 pt1, .int .i64 pu0, .int .i64 pu1, .int .i64 pv0, .int .i64 pv1, .int .i64 ph0, .int .i64 ph1])
 have HE := Lib.hid (show Below w.heap.size w (w.alloc (.cells #[.int .i64 pid, .int .i64 pal, .int .i64 pah, .slice pA pn pc, .slice pB pm pd, .slice pC pl pe, .int .i64 pt0, .int .i64 pt1, .int .i64 pu0, .int .i64 pu1, .int .i64 pv0, .int .i64 pv1, .int .i64 ph0, .int .i64 ph1] 50)) from below_alloc1 w _)
 clear hF hH
 go_enter Tryz.func110, Tryz.ntmps110
 go_upto_region 1 with fail
 obtain ⟨W0, hW0⟩ : ∃ W0 : World, (w.alloc (.cells #[.int .i64 pid, .int .i64 pal, .int .i64 pah, .slice pA pn pc, .slice pB pm pd, .slice pC pl pe, .int .i64 pt0, .int .i64 pt1, .int .i64 pu0, .int .i64 pu1, .int .i64 pv0, .int .i64 pv1, .int .i64 ph0, .int .i64 ph1] 50)) = W0 := ⟨_, rfl⟩
 rw [hW0] at HE HK ⊢
 clear hW0
 obtain ⟨G, hG⟩ : ∃ G, w.heap.size = G := ⟨_, rfl⟩
 rw [hG] at HK ⊢
 have HG := Lib.hid hG; clear hG
 have hS0 : Boxes W0.drew [(G, 50, #[.int .i64 pid, .int .i64 pal, .int .i64 pah, .slice pA pn pc, .slice pB pm pd, .slice pC pl pe, .int .i64 pt0, .int .i64 pt1, .int .i64 pu0, .int .i64 pu1, .int .i64 pv0, .int .i64 pv1, .int .i64 ph0, .int .i64 ph1]), (F, 115, #[fnV 67]), (H, 50, #[.int .i64 qid, .int .i64 qal, .int .i64 qah, .slice qA qn qc, .slice qB qm qd, .slice qC ql qe, .int .i64 qt0, .int .i64 qt1, .int .i64 qu0, .int .i64 qu1, .int .i64 qv0, .int .i64 qv1, .int .i64 qh0, .int .i64 qh1])] := HK.out
 have HEd := Lib.hid HE.out.drew
 refine wp_region_held_drew (S := fun w' => Boxes w' [(G, 50, #[.int .i64 pid, .int .i64 pal, .int .i64 pah, .slice pA pn pc, .slice pB pm pd, .slice pC pl pe, .int .i64 pt0, .int .i64 pt1, .int .i64 pu0, .int .i64 pu1, .int .i64 pv0, .int .i64 pv1, .int .i64 ph0, .int .i64 ph1]), (F, 115, #[fnV 67]), (H, 50, #[.int .i64 qid, .int .i64 qal, .int .i64 qah, .slice qA qn qc, .slice qB qm qd, .slice qC ql qe, .int .i64 qt0, .int .i64 qt1, .int .i64 qu0, .int .i64 qu1, .int .i64 qv0, .int .i64 qv1, .int .i64 qh0, .int .i64 qh1])]) (by kernel_rfl) hS0 (fun hHeld => ?_)
 obtain ⟨W1, hW⟩ : ∃ W', W0.drew = W' := ⟨_, rfl⟩
 rw [hW] at HEd hHeld ⊢
 clear hW hS0 HE HK
 refine tK 5 (i := 0) (v := fnV 67) rfl rfl (by kernel_rfl) ?_ hHeld ?_
 ·intro w hSw; have hz := (hSw _ (.tail _ (.head _))); have c0 := hz.cell 0; simp at c0; clear hz hSw; go_simp; try with_reducible rfl
 simp only [uZ, uS]
 refine tK 6 (i := 1) (v := .agg #[.int .i64 pid, .int .i64 pal, .int .i64 pah, .slice pA pn pc, .slice pB pm pd, .slice pC pl pe, .int .i64 pt0, .int .i64 pt1, .int .i64 pu0, .int .i64 pu1, .int .i64 pv0, .int .i64 pv1, .int .i64 ph0, .int .i64 ph1]) rfl rfl (by kernel_rfl) ?_ hHeld ?_
 ·intro w hSw; have hz := (hSw _ (.head _)); have c0 := hz.cell 0; have c1 := hz.cell 1; have c2 := hz.cell 2; have c3 := hz.cell 3; have c4 := hz.cell 4; have c5 := hz.cell 5; have c6 := hz.cell 6; have c7 := hz.cell 7; have c8 := hz.cell 8; have c9 := hz.cell 9; have c10 := hz.cell 10; have c11 := hz.cell 11; have c12 := hz.cell 12; have c13 := hz.cell 13; simp at c0 c1 c2 c3 c4 c5 c6 c7 c8 c9 c10 c11 c12 c13; clear hz hSw; go_simp; try with_reducible rfl
 simp only [uZ, uS]
 refine tK 8 (i := 3) (v := fnV 67) rfl rfl (by kernel_rfl) ?_ hHeld ?_
 ·intro w hSw; have hz := (hSw _ (.tail _ (.head _))); have c0 := hz.cell 0; simp at c0; clear hz hSw; go_simp; try with_reducible rfl
 simp only [uZ, uS]
 refine tK 9 (i := 4) (v := .agg #[.int .i64 qid, .int .i64 qal, .int .i64 qah, .slice qA qn qc, .slice qB qm qd, .slice qC ql qe, .int .i64 qt0, .int .i64 qt1, .int .i64 qu0, .int .i64 qu1, .int .i64 qv0, .int .i64 qv1, .int .i64 qh0, .int .i64 qh1]) rfl rfl (by kernel_rfl) ?_ hHeld ?_
 ·intro w hSw; have hz := (hSw _ (.tail _ (.tail _ (.head _)))); have c0 := hz.cell 0; have c1 := hz.cell 1; have c2 := hz.cell 2; have c3 := hz.cell 3; have c4 := hz.cell 4; have c5 := hz.cell 5; have c6 := hz.cell 6; have c7 := hz.cell 7; have c8 := hz.cell 8; have c9 := hz.cell 9; have c10 := hz.cell 10; have c11 := hz.cell 11; have c12 := hz.cell 12; have c13 := hz.cell 13; simp at c0 c1 c2 c3 c4 c5 c6 c7 c8 c9 c10 c11 c12 c13; clear hz hSw; go_simp; try with_reducible rfl
 simp only [uZ, uS]
 refine wpAnyH_ready (rs := [2]) (by kernel_rfl) (by simp) ?_
 refine AllReadyH.cons rfl (fun K hK => ?_) AllReadyH.nil
 go_simp
 (with_reducible refine (idOfHold_to pid pal pah pt0 pt1 pu0 pu1 pv0 pv1 ph0 ph1 pA pB pC pn pc pm pd pl pe _).mono ?_)
 rintro e z1 ⟨rfl, hq⟩
 have HE_1 := Lib.hid (below_then HEd.out hq)
 have hS := hHeld.on hq
 clear hq
 refine hK.out _ _ (hS) (fun hHeld2 => ?_)
 try simp only [Act.put, uA, uZ, uS]
 clear hK K hHeld
 have hHeld := hHeld2
 clear hHeld2
 clear hS HEd
 refine wpAnyH_ready (rs := [5]) (by kernel_rfl) (by simp) ?_
 refine AllReadyH.cons rfl (fun K hK => ?_) AllReadyH.nil
 go_simp
 (with_reducible refine (idOfHold_to qid qal qah qt0 qt1 qu0 qu1 qv0 qv1 qh0 qh1 qA qB qC qn qc qm qd ql qe _).mono ?_)
 rintro e z2 ⟨rfl, hq⟩
 have HE_2 := Lib.hid (below_then HE_1.out hq)
 have hS := hHeld.on hq
 clear hq
 refine hK.out _ _ (hS) (fun hHeld2 => ?_)
 try simp only [Act.put, uA, uZ, uS]
 clear hK K hHeld
 have hHeld := hHeld2
 clear hHeld2
 clear hS HE_1
 refine tK 11 (i := 6) (v := .bool (pid == qid)) rfl rfl (by kernel_rfl) ?_ hHeld ?_
 ·intro w hSw; clear hSw; go_simp; try with_reducible rfl
 simp only [uZ, uS]
 refine tK 4 (i := 7) (v := .bool (pid == qid)) rfl rfl (by kernel_rfl) ?_ hHeld ?_
 ·intro w hSw; clear hSw; go_simp; try with_reducible rfl
 simp only [uZ, uS]
 refine wpAnyH_done (by kernel_rfl) ?_ _
 clear hHeld
 go_wp2
 go_ret
 exact ⟨rfl, HE_2.out⟩

def hasHold (L : List (HoldD × HoldM)) (x : Int) : Bool := L.any fun r => r.1.id == x

set_option maxRecDepth 100000 in
set_option maxHeartbeats 4000000 in
theorem indexHold (b o n c : Nat) (L : List (HoldD × HoldM)) (qid qal qah qt0 qt1 qu0 qu1 qv0 qv1 qh0 qh1 : Int) (qA qB qC : Option Addr) (qn qc qm qd ql qe : Nat) (F H : Nat) (w : World) (hn : n = L.length) (h40 : n ≤ 1000000) (hb : b < w.heap.size) (hc : HoldsMem w b o L) (hF : Blk w F 115 #[fnV 67]) (hH : Blk w H 50 #[.int .i64 qid, .int .i64 qal, .int .i64 qah, .slice qA qn qc, .slice qB qm qd, .slice qC ql qe, .int .i64 qt0, .int .i64 qt1, .int .i64 qu0, .int .i64 qu1, .int .i64 qv0, .int .i64 qv1, .int .i64 qh0, .int .i64 qh1]) :
  Calls Tryz.prog 154 #[.slice (some ⟨b, o, none⟩) n c, .func (.func 110) #[] #[.pointer (some ⟨F, 0, none⟩), .pointer (some ⟨H, 0, none⟩)]] w fun e w' => (∃ j : Int, e = .returned (.int .i64 j) ∧ decide (0 ≤ j) = hasHold L qid) ∧ Below w.heap.size w w' := by
 have HN := Lib.hid hn; have HC := Lib.hid hc; have HF := Lib.hid hF; have HH := Lib.hid hH
 clear hn hc hF hH
 go_enter Tryz.func154, Tryz.ntmps154
 go_wp2_with fail
 go_loopw [8] (fun i wr => ∃ j : Nat, j ≤ n ∧ i = .int .i64 j ∧ Below w.heap.size w wr ∧ hasHold (L.take j) qid = false) (fun i _ => n - (intOf i).toNat)
 case atStart => exact ⟨0, by omega, rfl, Below.refl _ _, rfl⟩
 case round =>
  obtain ⟨k, hj, rfl, hB, hno⟩ := hrel
  by_cases hlt : k < n
  rotate_left
  ·obtain rfl : k = n := by omega
   have hall : hasHold L qid = false := by rw [HN.out, List.take_length] at hno; exact hno
   have HA := Lib.hid hall
   have HB := Lib.hid hB
   clear hno hall hB hj hlt
   go_wp2
   go_ret
   exact ⟨⟨_, rfl, by rw [HA.out]; rfl⟩, HB.out⟩
  have k1 : (k : Int) < (n : Int) := by omega
  obtain ⟨z, hz⟩ : ∃ z, L[k]? = some z := ⟨_, List.getElem?_eq_getElem (show k < L.length by rw [← HN.out]; omega)⟩
  obtain ⟨c0, c1, c2, c3, c4, c5, c6, c7, c8, c9, c10, c11, c12, c13⟩ := HC.out k z hz
  rw [← hB.cell (p := ⟨b, o + k * 14, none⟩) hb] at c0
  rw [← hB.cell (p := ⟨b, o + k * 14 + 1, none⟩) hb] at c1
  rw [← hB.cell (p := ⟨b, o + k * 14 + 2, none⟩) hb] at c2
  rw [← hB.cell (p := ⟨b, o + k * 14 + 3, none⟩) hb] at c3
  rw [← hB.cell (p := ⟨b, o + k * 14 + 4, none⟩) hb] at c4
  rw [← hB.cell (p := ⟨b, o + k * 14 + 5, none⟩) hb] at c5
  rw [← hB.cell (p := ⟨b, o + k * 14 + 6, none⟩) hb] at c6
  rw [← hB.cell (p := ⟨b, o + k * 14 + 7, none⟩) hb] at c7
  rw [← hB.cell (p := ⟨b, o + k * 14 + 8, none⟩) hb] at c8
  rw [← hB.cell (p := ⟨b, o + k * 14 + 9, none⟩) hb] at c9
  rw [← hB.cell (p := ⟨b, o + k * 14 + 10, none⟩) hb] at c10
  rw [← hB.cell (p := ⟨b, o + k * 14 + 11, none⟩) hb] at c11
  rw [← hB.cell (p := ⟨b, o + k * 14 + 12, none⟩) hb] at c12
  rw [← hB.cell (p := ⟨b, o + k * 14 + 13, none⟩) hb] at c13
  have lb : b < wr.heap.size := Nat.lt_of_lt_of_le hb hB.size
  have HB := Lib.hid hB
  have hnext : hasHold (L.take (k + 1)) qid = (z.1.id == qid) := by
   unfold hasHold at hno ⊢
   rw [List.take_add_one, hz, List.any_append, hno]; simp
  have hhas : (z.1.id == qid) = true → hasHold L qid = true := fun e => List.any_eq_true.2 ⟨z, List.mem_of_getElem? hz, e⟩
  obtain ⟨⟨rid, ral, rah, vol, mom, hei, rt0, rt1, ru0, ru1, rv0, rv1, rh0, rh1⟩, ⟨rA, rn, rc, rB, rm, rd, rC, rl, re⟩⟩ := z
  dsimp only at c0 c1 c2 c3 c4 c5 c6 c7 c8 c9 c10 c11 c12 c13 hnext hhas
  have HX := Lib.hid hnext
  have HY := Lib.hid hhas
  clear hnext hhas hz hno
  have CC := Lib.hid (sameHold_to rid ral rah rt0 rt1 ru0 ru1 rv0 rv1 rh0 rh1 rA rB rC rn rc rm rd rl re qid qal qah qt0 qt1 qu0 qu1 qv0 qv1 qh0 qh1 qA qB qC qn qc qm qd ql qe F H wr (blkOn HF.out hB) (blkOn HH.out hB))
  clear hB
  generalize gt : (rid == qid) = t at CC
  have HT := Lib.hid gt
  clear gt
  cases t
  ·go_wp2_with fail
   refine CC.out.mono ?_
   rintro e w1 ⟨rfl, hb1⟩
   have HB1 := Lib.hid (below_then HB.out hb1)
   clear hb1 CC
   go_wp2
   go_roundw
   case rel => exact ⟨k + 1, by omega, by go_num, HB1.out, by rw [HX.out, HT.out]⟩
   case measure => simp [intOf]; omega
  ·go_wp2_with fail
   refine CC.out.mono ?_
   rintro e w1 ⟨rfl, hb1⟩
   have HB1 := Lib.hid (below_then HB.out hb1)
   clear hb1 CC
   go_wp2
   go_ret
   exact ⟨⟨_, rfl, by rw [HY.out HT.out]; simp⟩, HB1.out⟩

def TanksMem (w : World) (b o : Nat) (L : List (TankD × HoldM)) : Prop := ∀ k r, L[k]? = some r → w.cell? ⟨b, o + k * 6, none⟩ = some (.int .i64 r.1.id) ∧ w.cell? ⟨b, o + k * 6 + 1, none⟩ = some (.int .i64 r.1.al) ∧ w.cell? ⟨b, o + k * 6 + 2, none⟩ = some (.int .i64 r.1.ah) ∧ w.cell? ⟨b, o + k * 6 + 3, none⟩ = some (.slice r.2.A r.2.n r.2.c) ∧ w.cell? ⟨b, o + k * 6 + 4, none⟩ = some (.slice r.2.B r.2.m r.2.d) ∧ w.cell? ⟨b, o + k * 6 + 5, none⟩ = some (.slice r.2.C r.2.l r.2.e)
theorem TanksMem.below {w w' : World} {b o : Nat} {L : List (TankD × HoldM)} (h : TanksMem w b o L) (hB : Below w.heap.size w w') (hb : b < w.heap.size) : TanksMem w' b o L := fun k r hr => by
  have e := fun i => (bcell hB).1 b i hb
  rw [e, e, e, e, e, e]; exact h k r hr
theorem TanksMem.take {w : World} {b o j : Nat} {L : List (TankD × HoldM)} (h : TanksMem w b o L) : TanksMem w b o (L.take j) := fun k r hr => h k r (by
  rw [List.getElem?_take] at hr; split at hr
  · exact hr
  · cases hr)
def TanksIn (w : World) (A : Option Addr) (n : Nat) (L : List (TankD × HoldM)) : Prop := n = L.length ∧ n ≤ maxLen ∧ (L = [] ∨ ∃ b o, A = some ⟨b, o, none⟩ ∧ b < w.heap.size ∧ TanksMem w b o L)
theorem TanksIn.below {w w' : World} {A : Option Addr} {n : Nat} {L : List (TankD × HoldM)} (h : TanksIn w A n L) (hB : Below w.heap.size w w') : TanksIn w' A n L :=
  ⟨h.1, h.2.1, h.2.2.imp id fun ⟨b, o, h1, h2, h3⟩ => ⟨b, o, h1, Nat.lt_of_lt_of_le h2 hB.size, h3.below hB h2⟩⟩

set_option maxRecDepth 100000 in
set_option maxHeartbeats 4000000 in
theorem idOfTank_to (pid pal pah : Int) (pA pB pC : Option Addr) (pn pc pm pd pl pe : Nat) (w : World) :
  Calls Tryz.prog 69 #[.agg #[.int .i64 pid, .int .i64 pal, .int .i64 pah, .slice pA pn pc, .slice pB pm pd, .slice pC pl pe]] w fun e w' => e = .returned (.int .i64 pid) ∧ Below w.heap.size w w' := by
 go_enter Tryz.func69, Tryz.ntmps69
 go_wp2
 go_ret
 exact ⟨rfl, below_alloc1 _ _⟩

set_option maxRecDepth 100000 in
set_option maxHeartbeats 4000000 in
theorem sameTank_to (pid pal pah : Int) (pA pB pC : Option Addr) (pn pc pm pd pl pe : Nat) (qid qal qah : Int) (qA qB qC : Option Addr) (qn qc qm qd ql qe : Nat) (F H : Nat) (w : World) (hF : Blk w F 117 #[fnV 69]) (hH : Blk w H 69 #[.int .i64 qid, .int .i64 qal, .int .i64 qah, .slice qA qn qc, .slice qB qm qd, .slice qC ql qe]) :
  Calls Tryz.prog 112 #[.agg #[.int .i64 pid, .int .i64 pal, .int .i64 pah, .slice pA pn pc, .slice pB pm pd, .slice pC pl pe], .pointer (some ⟨F, 0, none⟩), .pointer (some ⟨H, 0, none⟩)] w fun e w' => e = .returned (.bool (pid == qid)) ∧ Below w.heap.size w w' := by
 have HK : Hid (Boxes (w.alloc (.cells #[.int .i64 pid, .int .i64 pal, .int .i64 pah, .slice pA pn pc, .slice pB pm pd, .slice pC pl pe] 69)) [(w.heap.size, 69, #[.int .i64 pid, .int .i64 pal, .int .i64 pah, .slice pA pn pc, .slice pB pm pd, .slice pC pl pe]), (F, 117, #[fnV 69]), (H, 69, #[.int .i64 qid, .int .i64 qal, .int .i64 qah, .slice qA qn qc, .slice qB qm qd, .slice qC ql qe])]) := Lib.hid ((show Boxes w [(F, 117, #[fnV 69]), (H, 69, #[.int .i64 qid, .int .i64 qal, .int .i64 qah, .slice qA qn qc, .slice qB qm qd, .slice qC ql qe])] from fun p hp => by
  rcases List.mem_cons.1 hp with rfl | hp
  ·exact hF
  ·rcases List.mem_cons.1 hp with rfl | hp
   ·exact hH
   ·cases hp).new 69 #[.int .i64 pid, .int .i64 pal, .int .i64 pah, .slice pA pn pc, .slice pB pm pd, .slice pC pl pe])
 have HE := Lib.hid (show Below w.heap.size w (w.alloc (.cells #[.int .i64 pid, .int .i64 pal, .int .i64 pah, .slice pA pn pc, .slice pB pm pd, .slice pC pl pe] 69)) from below_alloc1 w _)
 clear hF hH
 go_enter Tryz.func112, Tryz.ntmps112
 go_upto_region 1 with fail
 obtain ⟨W0, hW0⟩ : ∃ W0 : World, (w.alloc (.cells #[.int .i64 pid, .int .i64 pal, .int .i64 pah, .slice pA pn pc, .slice pB pm pd, .slice pC pl pe] 69)) = W0 := ⟨_, rfl⟩
 rw [hW0] at HE HK ⊢
 clear hW0
 obtain ⟨G, hG⟩ : ∃ G, w.heap.size = G := ⟨_, rfl⟩
 rw [hG] at HK ⊢
 have HG := Lib.hid hG; clear hG
 have hS0 : Boxes W0.drew [(G, 69, #[.int .i64 pid, .int .i64 pal, .int .i64 pah, .slice pA pn pc, .slice pB pm pd, .slice pC pl pe]), (F, 117, #[fnV 69]), (H, 69, #[.int .i64 qid, .int .i64 qal, .int .i64 qah, .slice qA qn qc, .slice qB qm qd, .slice qC ql qe])] := HK.out
 have HEd := Lib.hid HE.out.drew
 refine wp_region_held_drew (S := fun w' => Boxes w' [(G, 69, #[.int .i64 pid, .int .i64 pal, .int .i64 pah, .slice pA pn pc, .slice pB pm pd, .slice pC pl pe]), (F, 117, #[fnV 69]), (H, 69, #[.int .i64 qid, .int .i64 qal, .int .i64 qah, .slice qA qn qc, .slice qB qm qd, .slice qC ql qe])]) (by kernel_rfl) hS0 (fun hHeld => ?_)
 obtain ⟨W1, hW⟩ : ∃ W', W0.drew = W' := ⟨_, rfl⟩
 rw [hW] at HEd hHeld ⊢
 clear hW hS0 HE HK
 refine tK 5 (i := 0) (v := fnV 69) rfl rfl (by kernel_rfl) ?_ hHeld ?_
 ·intro w hSw; have hz := (hSw _ (.tail _ (.head _))); have c0 := hz.cell 0; simp at c0; clear hz hSw; go_simp; try with_reducible rfl
 simp only [uZ, uS]
 refine tK 6 (i := 1) (v := .agg #[.int .i64 pid, .int .i64 pal, .int .i64 pah, .slice pA pn pc, .slice pB pm pd, .slice pC pl pe]) rfl rfl (by kernel_rfl) ?_ hHeld ?_
 ·intro w hSw; have hz := (hSw _ (.head _)); have c0 := hz.cell 0; have c1 := hz.cell 1; have c2 := hz.cell 2; have c3 := hz.cell 3; have c4 := hz.cell 4; have c5 := hz.cell 5; simp at c0 c1 c2 c3 c4 c5; clear hz hSw; go_simp; try with_reducible rfl
 simp only [uZ, uS]
 refine tK 8 (i := 3) (v := fnV 69) rfl rfl (by kernel_rfl) ?_ hHeld ?_
 ·intro w hSw; have hz := (hSw _ (.tail _ (.head _))); have c0 := hz.cell 0; simp at c0; clear hz hSw; go_simp; try with_reducible rfl
 simp only [uZ, uS]
 refine tK 9 (i := 4) (v := .agg #[.int .i64 qid, .int .i64 qal, .int .i64 qah, .slice qA qn qc, .slice qB qm qd, .slice qC ql qe]) rfl rfl (by kernel_rfl) ?_ hHeld ?_
 ·intro w hSw; have hz := (hSw _ (.tail _ (.tail _ (.head _)))); have c0 := hz.cell 0; have c1 := hz.cell 1; have c2 := hz.cell 2; have c3 := hz.cell 3; have c4 := hz.cell 4; have c5 := hz.cell 5; simp at c0 c1 c2 c3 c4 c5; clear hz hSw; go_simp; try with_reducible rfl
 simp only [uZ, uS]
 refine wpAnyH_ready (rs := [2]) (by kernel_rfl) (by simp) ?_
 refine AllReadyH.cons rfl (fun K hK => ?_) AllReadyH.nil
 go_simp
 (with_reducible refine (idOfTank_to pid pal pah pA pB pC pn pc pm pd pl pe _).mono ?_)
 rintro e z1 ⟨rfl, hq⟩
 have HE_1 := Lib.hid (below_then HEd.out hq)
 have hS := hHeld.on hq
 clear hq
 refine hK.out _ _ (hS) (fun hHeld2 => ?_)
 try simp only [Act.put, uA, uZ, uS]
 clear hK K hHeld
 have hHeld := hHeld2
 clear hHeld2
 clear hS HEd
 refine wpAnyH_ready (rs := [5]) (by kernel_rfl) (by simp) ?_
 refine AllReadyH.cons rfl (fun K hK => ?_) AllReadyH.nil
 go_simp
 (with_reducible refine (idOfTank_to qid qal qah qA qB qC qn qc qm qd ql qe _).mono ?_)
 rintro e z2 ⟨rfl, hq⟩
 have HE_2 := Lib.hid (below_then HE_1.out hq)
 have hS := hHeld.on hq
 clear hq
 refine hK.out _ _ (hS) (fun hHeld2 => ?_)
 try simp only [Act.put, uA, uZ, uS]
 clear hK K hHeld
 have hHeld := hHeld2
 clear hHeld2
 clear hS HE_1
 refine tK 11 (i := 6) (v := .bool (pid == qid)) rfl rfl (by kernel_rfl) ?_ hHeld ?_
 ·intro w hSw; clear hSw; go_simp; try with_reducible rfl
 simp only [uZ, uS]
 refine tK 4 (i := 7) (v := .bool (pid == qid)) rfl rfl (by kernel_rfl) ?_ hHeld ?_
 ·intro w hSw; clear hSw; go_simp; try with_reducible rfl
 simp only [uZ, uS]
 refine wpAnyH_done (by kernel_rfl) ?_ _
 clear hHeld
 go_wp2
 go_ret
 exact ⟨rfl, HE_2.out⟩

def hasTank (L : List (TankD × HoldM)) (x : Int) : Bool := L.any fun r => r.1.id == x

set_option maxRecDepth 100000 in
set_option maxHeartbeats 4000000 in
theorem indexTank (b o n c : Nat) (L : List (TankD × HoldM)) (qid qal qah : Int) (qA qB qC : Option Addr) (qn qc qm qd ql qe : Nat) (F H : Nat) (w : World) (hn : n = L.length) (h40 : n ≤ 1000000) (hb : b < w.heap.size) (hc : TanksMem w b o L) (hF : Blk w F 117 #[fnV 69]) (hH : Blk w H 69 #[.int .i64 qid, .int .i64 qal, .int .i64 qah, .slice qA qn qc, .slice qB qm qd, .slice qC ql qe]) :
  Calls Tryz.prog 155 #[.slice (some ⟨b, o, none⟩) n c, .func (.func 112) #[] #[.pointer (some ⟨F, 0, none⟩), .pointer (some ⟨H, 0, none⟩)]] w fun e w' => (∃ j : Int, e = .returned (.int .i64 j) ∧ decide (0 ≤ j) = hasTank L qid) ∧ Below w.heap.size w w' := by
 have HN := Lib.hid hn; have HC := Lib.hid hc; have HF := Lib.hid hF; have HH := Lib.hid hH
 clear hn hc hF hH
 go_enter Tryz.func155, Tryz.ntmps155
 go_wp2_with fail
 go_loopw [8] (fun i wr => ∃ j : Nat, j ≤ n ∧ i = .int .i64 j ∧ Below w.heap.size w wr ∧ hasTank (L.take j) qid = false) (fun i _ => n - (intOf i).toNat)
 case atStart => exact ⟨0, by omega, rfl, Below.refl _ _, rfl⟩
 case round =>
  obtain ⟨k, hj, rfl, hB, hno⟩ := hrel
  by_cases hlt : k < n
  rotate_left
  ·obtain rfl : k = n := by omega
   have hall : hasTank L qid = false := by rw [HN.out, List.take_length] at hno; exact hno
   have HA := Lib.hid hall
   have HB := Lib.hid hB
   clear hno hall hB hj hlt
   go_wp2
   go_ret
   exact ⟨⟨_, rfl, by rw [HA.out]; rfl⟩, HB.out⟩
  have k1 : (k : Int) < (n : Int) := by omega
  obtain ⟨z, hz⟩ : ∃ z, L[k]? = some z := ⟨_, List.getElem?_eq_getElem (show k < L.length by rw [← HN.out]; omega)⟩
  obtain ⟨c0, c1, c2, c3, c4, c5⟩ := HC.out k z hz
  rw [← hB.cell (p := ⟨b, o + k * 6, none⟩) hb] at c0
  rw [← hB.cell (p := ⟨b, o + k * 6 + 1, none⟩) hb] at c1
  rw [← hB.cell (p := ⟨b, o + k * 6 + 2, none⟩) hb] at c2
  rw [← hB.cell (p := ⟨b, o + k * 6 + 3, none⟩) hb] at c3
  rw [← hB.cell (p := ⟨b, o + k * 6 + 4, none⟩) hb] at c4
  rw [← hB.cell (p := ⟨b, o + k * 6 + 5, none⟩) hb] at c5
  have lb : b < wr.heap.size := Nat.lt_of_lt_of_le hb hB.size
  have HB := Lib.hid hB
  have hnext : hasTank (L.take (k + 1)) qid = (z.1.id == qid) := by
   unfold hasTank at hno ⊢
   rw [List.take_add_one, hz, List.any_append, hno]; simp
  have hhas : (z.1.id == qid) = true → hasTank L qid = true := fun e => List.any_eq_true.2 ⟨z, List.mem_of_getElem? hz, e⟩
  obtain ⟨⟨rid, ral, rah, vol, sur, hei⟩, ⟨rA, rn, rc, rB, rm, rd, rC, rl, re⟩⟩ := z
  dsimp only at c0 c1 c2 c3 c4 c5 hnext hhas
  have HX := Lib.hid hnext
  have HY := Lib.hid hhas
  clear hnext hhas hz hno
  have CC := Lib.hid (sameTank_to rid ral rah rA rB rC rn rc rm rd rl re qid qal qah qA qB qC qn qc qm qd ql qe F H wr (blkOn HF.out hB) (blkOn HH.out hB))
  clear hB
  generalize gt : (rid == qid) = t at CC
  have HT := Lib.hid gt
  clear gt
  cases t
  ·go_wp2_with fail
   refine CC.out.mono ?_
   rintro e w1 ⟨rfl, hb1⟩
   have HB1 := Lib.hid (below_then HB.out hb1)
   clear hb1 CC
   go_wp2
   go_roundw
   case rel => exact ⟨k + 1, by omega, by go_num, HB1.out, by rw [HX.out, HT.out]⟩
   case measure => simp [intOf]; omega
  ·go_wp2_with fail
   refine CC.out.mono ?_
   rintro e w1 ⟨rfl, hb1⟩
   have HB1 := Lib.hid (below_then HB.out hb1)
   clear hb1 CC
   go_wp2
   go_ret
   exact ⟨⟨_, rfl, by rw [HY.out HT.out]; simp⟩, HB1.out⟩
end

section
open Go.RowKit
def firstErr (g : Nat → Int) : Nat → Nat → Int
  | _, 0 => 0
  | k, m + 1 => if g k = 0 then firstErr g (k + 1) m else g k

def FillsAt (w : World) (b o : Nat) (L : List FillD) : Prop := ∀ k r, L[k]? = some r → w.cell? ⟨b, o + k * 6, none⟩ = some (.int .i64 r.hold) ∧ w.cell? ⟨b, o + k * 6 + 1, none⟩ = some (.int .i64 r.st) ∧ w.cell? ⟨b, o + k * 6 + 2, none⟩ = some (.int .i64 r.x0) ∧ w.cell? ⟨b, o + k * 6 + 3, none⟩ = some (.int .i64 r.x1) ∧ w.cell? ⟨b, o + k * 6 + 4, none⟩ = some (.int .i64 r.d0) ∧ w.cell? ⟨b, o + k * 6 + 5, none⟩ = some (.int .i64 r.d1)
theorem FillsAt.below {w w' : World} {b o : Nat} {L : List FillD} (h : FillsAt w b o L) (hB : Below w.heap.size w w') (hb : b < w.heap.size) : FillsAt w' b o L := fun k r hr => by
  have e := fun i => (bcell hB).1 b i hb
  rw [e, e, e, e, e, e]; exact h k r hr
def FillsIn (w : World) (A : Option Addr) (n : Nat) (L : List FillD) : Prop := n = L.length ∧ n ≤ maxLen ∧ (L = [] ∨ ∃ b o, A = some ⟨b, o, none⟩ ∧ b < w.heap.size ∧ FillsAt w b o L)
theorem FillsIn.below {w w' : World} {A : Option Addr} {n : Nat} {L : List FillD} (h : FillsIn w A n L) (hB : Below w.heap.size w w') : FillsIn w' A n L :=
  ⟨h.1, h.2.1, h.2.2.imp id fun ⟨b, o, h1, h2, h3⟩ => ⟨b, o, h1, Nat.lt_of_lt_of_le h2 hB.size, h3.below hB h2⟩⟩

set_option maxRecDepth 100000 in
set_option maxHeartbeats 4000000 in
theorem indexHold_nil (A : Option Addr) (c : Nat) (f : Value) (w : World) :
  Calls Tryz.prog 154 #[.slice A 0 c, f] w fun e w' => (∃ j : Int, e = .returned (.int .i64 j) ∧ decide (0 ≤ j) = false) ∧ Below w.heap.size w w' := by
 go_enter Tryz.func154, Tryz.ntmps154
 go_wp2_with fail
 go_loopw [8] (fun i wr => i = .int .i64 0 ∧ Below w.heap.size w wr) (fun i _ => 0)
 case atStart => exact ⟨rfl, Below.refl _ _⟩
 case round =>
  obtain ⟨rfl, hB⟩ := hrel
  go_wp2
  go_ret
  exact ⟨⟨_, rfl, rfl⟩, hB⟩

set_option maxRecDepth 100000 in
set_option maxHeartbeats 4000000 in
theorem contHold (A : Option Addr) (n c : Nat) (L : List (HoldD × HoldM)) (qid qal qah qt0 qt1 qu0 qu1 qv0 qv1 qh0 qh1 : Int) (qA qB qC : Option Addr) (qn qc qm qd ql qe : Nat) (F H : Nat) (w : World) (h : HoldsIn w A n L) (h9 : n ≤ 1000000) (hF : Blk w F 115 #[fnV 67]) (hH : Blk w H 50 #[.int .i64 qid, .int .i64 qal, .int .i64 qah, .slice qA qn qc, .slice qB qm qd, .slice qC ql qe, .int .i64 qt0, .int .i64 qt1, .int .i64 qu0, .int .i64 qu1, .int .i64 qv0, .int .i64 qv1, .int .i64 qh0, .int .i64 qh1]) :
  Calls Tryz.prog 109 #[.slice A n c, .func (.func 110) #[] #[.pointer (some ⟨F, 0, none⟩), .pointer (some ⟨H, 0, none⟩)]] w fun e w' => e = .returned (.bool (hasHold L qid)) ∧ Below w.heap.size w w' := by
 have CI : Hid (∀ W, Below w.heap.size w W → Calls Tryz.prog 154 #[.slice A n c, .func (.func 110) #[] #[.pointer (some ⟨F, 0, none⟩), .pointer (some ⟨H, 0, none⟩)]] W fun e w' => (∃ j : Int, e = .returned (.int .i64 j) ∧ decide (0 ≤ j) = hasHold L qid) ∧ Below W.heap.size W w') := Lib.hid fun W hW => by
  obtain ⟨h1, h2, h3⟩ := h.below hW
  rcases h3 with rfl | ⟨b, o, rfl, h4, h5⟩
  ·obtain rfl : n = 0 := h1
   exact indexHold_nil A c _ W
  ·exact indexHold b o n c L qid qal qah qt0 qt1 qu0 qu1 qv0 qv1 qh0 qh1 qA qB qC qn qc qm qd ql qe F H W h1 h9 h4 h5 (blkOn hF hW) (blkOn hH hW)
 clear h hF hH
 generalize hasHold L qid = t at *
 go_enter Tryz.func109, Tryz.ntmps109
 go_wp2_with fail
 refine (CI.out _ (Below.refl _ _)).mono ?_
 rintro e w2 ⟨⟨j, rfl, hj⟩, hq⟩
 have HJ := Lib.hid hj
 have HE2 := Lib.hid hq
 clear hj hq CI
 go_wp2
 go_ret
 exact ⟨by rw [← HJ.out]; rfl, HE2.out⟩

def LevelsAt (w : World) (b o : Nat) (L : List LevelD) : Prop := ∀ k r, L[k]? = some r → w.cell? ⟨b, o + k * 6, none⟩ = some (.int .i64 r.tank) ∧ w.cell? ⟨b, o + k * 6 + 1, none⟩ = some (.bool r.pr) ∧ w.cell? ⟨b, o + k * 6 + 2, none⟩ = some (.int .i64 r.s0) ∧ w.cell? ⟨b, o + k * 6 + 3, none⟩ = some (.int .i64 r.s1) ∧ w.cell? ⟨b, o + k * 6 + 4, none⟩ = some (.int .i64 r.d0) ∧ w.cell? ⟨b, o + k * 6 + 5, none⟩ = some (.int .i64 r.d1)
theorem LevelsAt.below {w w' : World} {b o : Nat} {L : List LevelD} (h : LevelsAt w b o L) (hB : Below w.heap.size w w') (hb : b < w.heap.size) : LevelsAt w' b o L := fun k r hr => by
  have e := fun i => (bcell hB).1 b i hb
  rw [e, e, e, e, e, e]; exact h k r hr
def LevelsIn (w : World) (A : Option Addr) (n : Nat) (L : List LevelD) : Prop := n = L.length ∧ n ≤ maxLen ∧ (L = [] ∨ ∃ b o, A = some ⟨b, o, none⟩ ∧ b < w.heap.size ∧ LevelsAt w b o L)
theorem LevelsIn.below {w w' : World} {A : Option Addr} {n : Nat} {L : List LevelD} (h : LevelsIn w A n L) (hB : Below w.heap.size w w') : LevelsIn w' A n L :=
  ⟨h.1, h.2.1, h.2.2.imp id fun ⟨b, o, h1, h2, h3⟩ => ⟨b, o, h1, Nat.lt_of_lt_of_le h2 hB.size, h3.below hB h2⟩⟩

set_option maxRecDepth 100000 in
set_option maxHeartbeats 4000000 in
theorem indexTank_nil (A : Option Addr) (c : Nat) (f : Value) (w : World) :
  Calls Tryz.prog 155 #[.slice A 0 c, f] w fun e w' => (∃ j : Int, e = .returned (.int .i64 j) ∧ decide (0 ≤ j) = false) ∧ Below w.heap.size w w' := by
 go_enter Tryz.func155, Tryz.ntmps155
 go_wp2_with fail
 go_loopw [8] (fun i wr => i = .int .i64 0 ∧ Below w.heap.size w wr) (fun i _ => 0)
 case atStart => exact ⟨rfl, Below.refl _ _⟩
 case round =>
  obtain ⟨rfl, hB⟩ := hrel
  go_wp2
  go_ret
  exact ⟨⟨_, rfl, rfl⟩, hB⟩

set_option maxRecDepth 100000 in
set_option maxHeartbeats 4000000 in
theorem contTank (A : Option Addr) (n c : Nat) (L : List (TankD × HoldM)) (qid qal qah : Int) (qA qB qC : Option Addr) (qn qc qm qd ql qe : Nat) (F H : Nat) (w : World) (h : TanksIn w A n L) (h9 : n ≤ 1000000) (hF : Blk w F 117 #[fnV 69]) (hH : Blk w H 69 #[.int .i64 qid, .int .i64 qal, .int .i64 qah, .slice qA qn qc, .slice qB qm qd, .slice qC ql qe]) :
  Calls Tryz.prog 111 #[.slice A n c, .func (.func 112) #[] #[.pointer (some ⟨F, 0, none⟩), .pointer (some ⟨H, 0, none⟩)]] w fun e w' => e = .returned (.bool (hasTank L qid)) ∧ Below w.heap.size w w' := by
 have CI : Hid (∀ W, Below w.heap.size w W → Calls Tryz.prog 155 #[.slice A n c, .func (.func 112) #[] #[.pointer (some ⟨F, 0, none⟩), .pointer (some ⟨H, 0, none⟩)]] W fun e w' => (∃ j : Int, e = .returned (.int .i64 j) ∧ decide (0 ≤ j) = hasTank L qid) ∧ Below W.heap.size W w') := Lib.hid fun W hW => by
  obtain ⟨h1, h2, h3⟩ := h.below hW
  rcases h3 with rfl | ⟨b, o, rfl, h4, h5⟩
  ·obtain rfl : n = 0 := h1
   exact indexTank_nil A c _ W
  ·exact indexTank b o n c L qid qal qah qA qB qC qn qc qm qd ql qe F H W h1 h9 h4 h5 (blkOn hF hW) (blkOn hH hW)
 clear h hF hH
 generalize hasTank L qid = t at *
 go_enter Tryz.func111, Tryz.ntmps111
 go_wp2_with fail
 refine (CI.out _ (Below.refl _ _)).mono ?_
 rintro e w2 ⟨⟨j, rfl, hj⟩, hq⟩
 have HJ := Lib.hid hj
 have HE2 := Lib.hid hq
 clear hj hq CI
 go_wp2
 go_ret
 exact ⟨by rw [← HJ.out]; rfl, HE2.out⟩
end

end Go.Proofs.YtekkiedlajhaiaaGreat
