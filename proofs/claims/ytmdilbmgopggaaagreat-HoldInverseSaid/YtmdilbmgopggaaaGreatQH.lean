/- The contracts of Ullage and Sounding (the specification of layer 2). Their conditions: the tables of the hold, of the tank, lie in memory. -/
import Derived.Test.YtmdilbmgopggaaaGreatQ41
import Derived.Test.YtmdilbmgopggaaaGreatQ10
import Derived.Test.YtmdilbmgopggaaaGreatQ17
import Derived.Test.YtmdilbmgopggaaaGreatQ16
import Derived.Test.YtmdilbmgopggaaaGreatQ26
import Derived.Test.YtmdilbmgopggaaaGreatQ45
import Derived.Test.YtmdilbmgopggaaaGreatQ22
import Derived.Test.YtmdilbmgopggaaaGreatQ23
import Derived.Test.YtmdilbmgopggaaaGreatQG
import Derived.Test.YtmdilbmgopggaaaGreatQE
set_option linter.unusedVariables false
set_option linter.unusedSimpArgs false
set_option linter.constructorNameAsVariable false
namespace Go.Proofs.YtmdilbmgopggaaaGreat

section
open Go.RowKit

/-- A hold's volumes fall. -/
theorem hold_falls {h : HoldD} (e : holdS h = true) : fallsS h.vol = true ∧ 2 ≤ h.vol.length := by
  unfold holdS amtRest ctRest at e
  simp only [Bool.and_eq_true] at e
  obtain ⟨_, _, _, _, _, hm, _, _, hf, _⟩ := e
  refine ⟨hf, ?_⟩
  unfold measuresS at hm
  simp only [Bool.and_eq_true, decide_eq_true_eq] at hm
  exact hm.1.2
/-- A tank's volumes rise. -/
theorem tank_rises {t : TankD} (e : tankS t = true) : risesS t.vol = true ∧ 2 ≤ t.vol.length := by
  unfold tankS ctRest at e
  simp only [Bool.and_eq_true] at e
  obtain ⟨_, hm, _, _, hf, _⟩ := e
  refine ⟨hf, ?_⟩
  unfold measuresS at hm
  simp only [Bool.and_eq_true, decide_eq_true_eq] at hm
  exact hm.1.2
/-- What lies ahead lies ahead, what lies behind lies behind. -/
def Turns (ps : List P3) (x y : Int) (fl : Bool) : Prop := (∀ u v, firstX ps ≤ u → u ≤ v → v ≤ lastX ps → besideS ps x y fl v = true → besideS ps x y fl u = true) ∧ (∀ u v, firstX ps ≤ u → u ≤ v → v ≤ lastX ps → besideS ps x y (!fl) u = true → besideS ps x y (!fl) v = true)
theorem turns_falls {ps : List P3} {x y : Int} (ht : tabOk ps = true) (h2 : 2 ≤ ps.length) (hf : fallsS ps = true) : Turns ps x y true := by
  refine ⟨fun u v a b c h => ?_, fun u v a b c h => ?_⟩
  · have q := at_falls ht h2 hf a b c
    simp only [besideS, moreF, if_true, decide_eq_true_eq] at h ⊢
    omega
  · have q := at_falls ht h2 hf a b c
    simp only [besideS, lessF, Bool.not_true, Bool.false_eq_true, if_false, decide_eq_true_eq] at h ⊢
    omega
theorem turns_rises {ps : List P3} {x y : Int} (ht : tabOk ps = true) (h2 : 2 ≤ ps.length) (hf : risesS ps = true) : Turns ps x y false := by
  refine ⟨fun u v a b c h => ?_, fun u v a b c h => ?_⟩
  · have q := at_rises ht h2 hf a b c
    simp only [besideS, lessF, Bool.false_eq_true, if_false, decide_eq_true_eq] at h ⊢
    omega
  · have q := at_rises ht h2 hf a b c
    simp only [besideS, moreF, Bool.not_false, if_true, decide_eq_true_eq] at h ⊢
    omega
/-- the result of Inverse -/
def invV (R : Int × Int × Int) : Value := .tuple #[rv R.1 R.2.1, .bool (decide (R.2.2 = 0))]
theorem sInverse_tab (A : Option Addr) (n c : Nat) (ps : List P3) (x y : Int) (fl : Bool) (w : World) (hp : TabIn w A n ps) (ht : tabOk ps = true) (hle : firstX ps ≤ lastX ps) (hT : Turns ps x y fl) :
    Calls Tryz.prog 115 #[tv A n c, rv x y, .bool fl] w fun e w' => e = .returned (invV (invS (besideS ps x y fl) (besideS ps x y (!fl)) (firstX ps) (lastX ps))) ∧ Below w.heap.size w w' := by
  obtain ⟨pl1, pl2⟩ := places_in ht
  obtain ⟨a, b, e, ha, hf1, hf2, hb, hg1, hg2⟩ := inv_facts hle hT.1 hT.2
  rw [e]
  have CF : Hid (∀ W z t, Below w.heap.size w W → firstX ps ≤ z → z ≤ lastX ps → besideS ps x y fl z = t → Calls Tryz.prog 165 #[tv A n c, rv x y, .int .i64 z, .bool fl] W fun e w' => e = .returned (.bool t) ∧ Below W.heap.size W w') := Lib.hid fun W z t hW q1 q2 q3 => sbeside_tab A n c ps x y z fl t W (hp.below hW) ht q1 q2 q3
  have CG : Hid (∀ W z t, Below w.heap.size w W → firstX ps ≤ z → z ≤ lastX ps → besideS ps x y (!fl) z = t → Calls Tryz.prog 165 #[tv A n c, rv x y, .int .i64 z, .bool (!fl)] W fun e w' => e = .returned (.bool t) ∧ Below W.heap.size W w') := Lib.hid fun W z t hW q1 q2 q3 => sbeside_tab A n c ps x y z (!fl) t W (hp.below hW) ht q1 q2 q3
  have P1 : Hid (∀ W, Below w.heap.size w W → Calls Tryz.prog 76 #[tv A n c] W fun e w' => e = .returned (.int .i64 (firstX ps)) ∧ Below W.heap.size W w') := Lib.hid fun W hW => sFirst_tab A n c ps W (hp.below hW) ht
  have P2 : Hid (∀ W, Below w.heap.size w W → Calls Tryz.prog 77 #[tv A n c] W fun e w' => e = .returned (.int .i64 (lastX ps)) ∧ Below W.heap.size W w') := Lib.hid fun W hW => sLast_tab A n c ps W (hp.below hW) ht
  by_cases h : lastX ps < a
  · rw [if_pos (.inl h)]
    exact sInverse_ahead A n c x y _ _ a b fl _ _ w CF CG P1 P2 pl1 hle pl2 ha hb hf1 hf2 hg1 hg2 h
  by_cases h' : b = firstX ps
  · rw [if_pos (.inr h')]
    exact sInverse_behind A n c x y _ _ a b fl _ _ w CF CG P1 P2 pl1 hle pl2 ha hb hf1 hf2 hg1 hg2 h h'
  rw [if_neg (by omega)]
  by_cases j : firstX ps < a <;> by_cases j' : b ≤ lastX ps
  · rw [show max (a - 1) (firstX ps) = a - 1 by omega, show min b (lastX ps) = b by omega]
    exact sInverse_both A n c x y _ _ a b fl _ _ w CF CG P1 P2 pl1 hle pl2 ha hb hf1 hf2 hg1 hg2 h h' j j'
  · rw [show max (a - 1) (firstX ps) = a - 1 by omega, show min b (lastX ps) = lastX ps by omega]
    exact sInverse_left A n c x y _ _ a b fl _ _ w CF CG P1 P2 pl1 hle pl2 ha hb hf1 hf2 hg1 hg2 h h' j j'
  · rw [show max (a - 1) (firstX ps) = firstX ps by omega, show min b (lastX ps) = b by omega]
    exact sInverse_right A n c x y _ _ a b fl _ _ w CF CG P1 P2 pl1 hle pl2 ha hb hf1 hf2 hg1 hg2 h h' j j'
  · rw [show max (a - 1) (firstX ps) = firstX ps by omega, show min b (lastX ps) = lastX ps by omega]
    exact sInverse_none A n c x y _ _ a b fl _ _ w CF CG P1 P2 pl1 hle pl2 ha hb hf1 hf2 hg1 hg2 h h' j j'
end

section
open Go.RowKit

/-- The error of an inverse is 24 or none. -/
theorem invS_err (f g : Int → Bool) (lo hi : Int) : (invS f g lo hi = (0, 0, 24)) ∨ (invS f g lo hi).2.2 = 0 := by
  unfold invS
  split
  · exact .inl rfl
  · exact .inr rfl

set_option maxRecDepth 100000 in
set_option maxHeartbeats 4000000 in
theorem sUllage_any (h : HoldD) (m : HoldM) (a b e0 e1 : Int) (w : World) (hi : HoldIn w h m) :
    Calls Tryz.prog 47 #[holdV h m, rv a b, rv e0 e1] w fun e w' => e = .returned (rt (UllageS h a b e0 e1)) ∧ Below w.heap.size w w' := by
  obtain ⟨R, hR⟩ : ∃ R, UllageS h a b e0 e1 = R := ⟨_, rfl⟩
  obtain ⟨E, hE⟩ : ∃ E, holdErr h = E := ⟨_, rfl⟩
  have C1 : Hid (∀ W, Below w.heap.size w W → Calls Tryz.prog 28 #[holdV h m] W fun e w' => e = .returned (.int .i64 E) ∧ Below W.heap.size W w') := Lib.hid fun W hW => int_to (sCheckHold_any h m W (hi.below hW)) hE
  have HR : Hid ((if E = 0 then (if massErr a b e0 e1 = 0 then ullS h.vol (litresS a b e0 e1).1 (litresS a b e0 e1).2 else (0, 0, massErr a b e0 e1)) else (0, 0, E)) = R) := Lib.hid (by rw [← hR]; unfold UllageS; rw [hE])
  have C3 : Hid (E = 0 → ∀ x y W, Below w.heap.size w W → Calls Tryz.prog 115 #[tv m.A m.n m.c, rv x y, .bool true] W fun e w' => e = .returned (invV (ullS h.vol x y)) ∧ Below W.heap.size W w') := Lib.hid fun e x y W hW => by
    have q := holdErr_zero (hE.trans e)
    obtain ⟨f1, f2⟩ := hold_falls q
    exact sInverse_tab m.A m.n m.c h.vol x y true W (hi.1.below hW) (hold_tab q) (first_le_last (hold_tab q)) (turns_falls (hold_tab q) f2 f1)
  have C2 : Hid (∀ W, Calls Tryz.prog 45 #[rv a b, rv e0 e1] W fun e w' => e = .returned (rt (LitresS a b e0 e1)) ∧ Below W.heap.size W w') := Lib.hid fun W => sLitres_any a b e0 e1 W
  have hN : ∀ x y, (ullS h.vol x y = (0, 0, 24)) ∨ (ullS h.vol x y).2.2 = 0 := fun x y => invS_err _ _ _ _
  have HQ : E = 0 ∨ E = 20 := by
    rw [← hE]; unfold holdErr; split
    · exact .inl rfl
    · exact .inr rfl
  rw [hR]
  clear hR hE
  unfold LitresS at C2
  generalize (litresS a b e0 e1).1 = p at *
  generalize (litresS a b e0 e1).2 = q at *
  generalize massErr a b e0 e1 = M at *
  have HN := Lib.hid (hN p q)
  have D3 : Hid (E = 0 → ∀ W, Below w.heap.size w W → Calls Tryz.prog 115 #[tv m.A m.n m.c, rv p q, .bool true] W fun e w' => e = .returned (invV (ullS h.vol p q)) ∧ Below W.heap.size W w') := Lib.hid fun e W hW => C3.out e p q W hW
  clear C3 hN hi
  generalize ullS h.vol p q = Q at *
  obtain ⟨id, al, ah, vol, mom, hei, t0, t1, u0, u1, v0, v1, h0, h1⟩ := h
  obtain ⟨A, n, c, B, mm, d, C, l, ee⟩ := m
  obtain ⟨qa, qb, qe⟩ := Q
  dsimp only at D3
  have HE := Lib.hid (show Below w.heap.size w ((((w.alloc (.cells #[.int .i64 id, .int .i64 al, .int .i64 ah, .slice A n c, .slice B mm d, .slice C l ee, .int .i64 t0, .int .i64 t1, .int .i64 u0, .int .i64 u1, .int .i64 v0, .int .i64 v1, .int .i64 h0, .int .i64 h1] 28)).alloc (.cells #[.int .i64 a, .int .i64 b] 23)).alloc (.cells #[.int .i64 e0, .int .i64 e1] 23)).alloc (.cells #[.int .i64 0, .int .i64 0] 23)) from below_a4 (Below.refl _ _))
  have HK := Lib.hid (boxes4' w 28 23 23 23 #[.int .i64 id, .int .i64 al, .int .i64 ah, .slice A n c, .slice B mm d, .slice C l ee, .int .i64 t0, .int .i64 t1, .int .i64 u0, .int .i64 u1, .int .i64 v0, .int .i64 v1, .int .i64 h0, .int .i64 h1] #[.int .i64 a, .int .i64 b] #[.int .i64 e0, .int .i64 e1] #[.int .i64 0, .int .i64 0])
  rcases HQ with rfl | rfl
  rotate_left
  · skip
    have eR : R = (0, 0, 20) := by rw [← HR.out]; rfl
    subst eR
    clear HR C2 D3 HN
    go_enter Tryz.func47, Tryz.ntmps47
    go_wp2_with fail
    obtain ⟨W0, hW0⟩ : ∃ W0, ((((w.alloc (.cells #[.int .i64 id, .int .i64 al, .int .i64 ah, .slice A n c, .slice B mm d, .slice C l ee, .int .i64 t0, .int .i64 t1, .int .i64 u0, .int .i64 u1, .int .i64 v0, .int .i64 v1, .int .i64 h0, .int .i64 h1] 28)).alloc (.cells #[.int .i64 a, .int .i64 b] 23)).alloc (.cells #[.int .i64 e0, .int .i64 e1] 23)).alloc (.cells #[.int .i64 0, .int .i64 0] 23)) = W0 := ⟨_, rfl⟩
    rw [hW0] at HE HK ⊢
    clear hW0
    obtain ⟨G, hG⟩ : ∃ G, w.heap.size = G := ⟨_, rfl⟩
    rw [hG] at HK ⊢
    have HG := Lib.hid hG; clear hG
    have r := HK.out _ (.tail _ (.tail _ (.tail _ (.head _))))
    have r0 := r.cell 0
    have r1 := r.cell 1
    have r2 := r.cell 2
    have r3 := r.cell 3
    have r4 := r.cell 4
    have r5 := r.cell 5
    have r6 := r.cell 6
    have r7 := r.cell 7
    have r8 := r.cell 8
    have r9 := r.cell 9
    have r10 := r.cell 10
    have r11 := r.cell 11
    have r12 := r.cell 12
    have r13 := r.cell 13
    simp at r0 r1 r2 r3 r4 r5 r6 r7 r8 r9 r10 r11 r12 r13
    clear r
    go_upto_region 1 with fail
    refine (C1.out _ HE.out).mono ?_
    rintro e y1 ⟨rfl, hz⟩
    have HE1 := Lib.hid (below_then HE.out hz); have HK1 := Lib.hid (HK.out.on hz)
    clear hz HE HK C1 r0 r1 r2 r3 r4 r5 r6 r7 r8 r9 r10 r11 r12 r13
    have z := HK1.out _ (.head _)
    have z0 := z.cell 0
    have zf0 := z.frozen 0
    have z1 := z.cell 1
    have zf1 := z.frozen 1
    have zl := z.lt
    simp at z0 zf0 z1 zf1
    clear z
    go_wp2
    refine bodyPost_ret (v := rt (0, 0, 20)) (by simp [results, Tryz.results47, go_sem, z0, z1]) rfl ⟨rfl, ?_⟩
    have hg := HG.out
    repeat (first | exact HE1.out | refine Below.setCell ?_ (by simp <;> omega) _)
  have D4 := Lib.hid (D3.out rfl)
  clear D3
  by_cases g : M = 0
  rotate_left
  · skip
    have eR : R = (0, 0, M) := by rw [← HR.out, if_pos rfl, if_neg g]
    subst eR
    clear HR D4 HN
    rw [if_neg g] at C2
    go_enter Tryz.func47, Tryz.ntmps47
    go_wp2_with fail
    obtain ⟨W0, hW0⟩ : ∃ W0, ((((w.alloc (.cells #[.int .i64 id, .int .i64 al, .int .i64 ah, .slice A n c, .slice B mm d, .slice C l ee, .int .i64 t0, .int .i64 t1, .int .i64 u0, .int .i64 u1, .int .i64 v0, .int .i64 v1, .int .i64 h0, .int .i64 h1] 28)).alloc (.cells #[.int .i64 a, .int .i64 b] 23)).alloc (.cells #[.int .i64 e0, .int .i64 e1] 23)).alloc (.cells #[.int .i64 0, .int .i64 0] 23)) = W0 := ⟨_, rfl⟩
    rw [hW0] at HE HK ⊢
    clear hW0
    obtain ⟨G, hG⟩ : ∃ G, w.heap.size = G := ⟨_, rfl⟩
    rw [hG] at HK ⊢
    have HG := Lib.hid hG; clear hG
    have r := HK.out _ (.tail _ (.tail _ (.tail _ (.head _))))
    have r0 := r.cell 0
    have r1 := r.cell 1
    have r2 := r.cell 2
    have r3 := r.cell 3
    have r4 := r.cell 4
    have r5 := r.cell 5
    have r6 := r.cell 6
    have r7 := r.cell 7
    have r8 := r.cell 8
    have r9 := r.cell 9
    have r10 := r.cell 10
    have r11 := r.cell 11
    have r12 := r.cell 12
    have r13 := r.cell 13
    simp at r0 r1 r2 r3 r4 r5 r6 r7 r8 r9 r10 r11 r12 r13
    clear r
    go_upto_region 1 with fail
    refine (C1.out _ HE.out).mono ?_
    rintro e y1 ⟨rfl, hz⟩
    have HE1 := Lib.hid (below_then HE.out hz); have HK1 := Lib.hid (HK.out.on hz)
    clear hz HE HK C1 r0 r1 r2 r3 r4 r5 r6 r7 r8 r9 r10 r11 r12 r13
    have p := HK1.out _ (.tail _ (.tail _ (.head _)))
    have p0 := p.cell 0
    have p1 := p.cell 1
    simp at p0 p1
    clear p
    have q := HK1.out _ (.tail _ (.head _))
    have q0 := q.cell 0
    have q1 := q.cell 1
    simp at q0 q1
    clear q
    go_wp2_with fail
    refine (C2.out _).mono ?_
    rintro e y2 ⟨rfl, hz⟩
    have HE9 := Lib.hid (below_then (below_then HE1.out hz) (below_alloc1 y2 (.cells #[.int .i64 0, .int .i64 0] 23))); have HK9 := Lib.hid ((HK1.out.on hz).new 23 #[.int .i64 0, .int .i64 0])
    clear hz HE1 HK1 C2 p0 p1 q0 q1
    go_upto_region 4 with fail
    obtain ⟨W9, hW⟩ : ∃ W9, y2.alloc (.cells #[.int .i64 0, .int .i64 0] 23) = W9 := ⟨_, rfl⟩
    rw [hW] at HE9 HK9 ⊢
    clear hW
    obtain ⟨N9, hN9⟩ : ∃ N, y2.heap.size = N := ⟨_, rfl⟩
    rw [hN9] at HK9 ⊢
    clear hN9
    have z := HK9.out _ (.tail _ (.head _))
    have z0 := z.cell 0
    have zf0 := z.frozen 0
    have z1 := z.cell 1
    have zf1 := z.frozen 1
    have zl := z.lt
    simp at z0 zf0 z1 zf1
    clear z
    go_wp2
    refine bodyPost_ret (v := rt (0, 0, M)) (by simp [results, Tryz.results47, go_sem, z0, z1]) rfl ⟨rfl, ?_⟩
    have hg := HG.out
    repeat (first | exact HE9.out | refine Below.setCell ?_ (by simp <;> omega) _)
  subst g
  rw [if_pos rfl] at C2
  have eR : R = (qa, qb, qe) := by rw [← HR.out]; rfl
  subst eR
  clear HR
  go_enter Tryz.func47, Tryz.ntmps47
  go_wp2_with fail
  obtain ⟨W0, hW0⟩ : ∃ W0, ((((w.alloc (.cells #[.int .i64 id, .int .i64 al, .int .i64 ah, .slice A n c, .slice B mm d, .slice C l ee, .int .i64 t0, .int .i64 t1, .int .i64 u0, .int .i64 u1, .int .i64 v0, .int .i64 v1, .int .i64 h0, .int .i64 h1] 28)).alloc (.cells #[.int .i64 a, .int .i64 b] 23)).alloc (.cells #[.int .i64 e0, .int .i64 e1] 23)).alloc (.cells #[.int .i64 0, .int .i64 0] 23)) = W0 := ⟨_, rfl⟩
  rw [hW0] at HE HK ⊢
  clear hW0
  obtain ⟨G, hG⟩ : ∃ G, w.heap.size = G := ⟨_, rfl⟩
  rw [hG] at HK ⊢
  have HG := Lib.hid hG; clear hG
  have r := HK.out _ (.tail _ (.tail _ (.tail _ (.head _))))
  have r0 := r.cell 0
  have r1 := r.cell 1
  have r2 := r.cell 2
  have r3 := r.cell 3
  have r4 := r.cell 4
  have r5 := r.cell 5
  have r6 := r.cell 6
  have r7 := r.cell 7
  have r8 := r.cell 8
  have r9 := r.cell 9
  have r10 := r.cell 10
  have r11 := r.cell 11
  have r12 := r.cell 12
  have r13 := r.cell 13
  simp at r0 r1 r2 r3 r4 r5 r6 r7 r8 r9 r10 r11 r12 r13
  clear r
  go_upto_region 1 with fail
  refine (C1.out _ HE.out).mono ?_
  rintro e y1 ⟨rfl, hz⟩
  have HE1 := Lib.hid (below_then HE.out hz); have HK1 := Lib.hid (HK.out.on hz)
  clear hz HE HK C1 r0 r1 r2 r3 r4 r5 r6 r7 r8 r9 r10 r11 r12 r13
  have p := HK1.out _ (.tail _ (.tail _ (.head _)))
  have p0 := p.cell 0
  have p1 := p.cell 1
  simp at p0 p1
  clear p
  have q := HK1.out _ (.tail _ (.head _))
  have q0 := q.cell 0
  have q1 := q.cell 1
  simp at q0 q1
  clear q
  go_wp2_with fail
  refine (C2.out _).mono ?_
  rintro e y2 ⟨rfl, hz⟩
  have HE9 := Lib.hid (below_then (below_then HE1.out hz) (below_alloc1 y2 (.cells #[.int .i64 p, .int .i64 q] 23))); have HK9 := Lib.hid ((HK1.out.on hz).new 23 #[.int .i64 p, .int .i64 q])
  clear hz HE1 HK1 C2 p0 p1 q0 q1
  go_upto_region 4 with fail
  obtain ⟨W9, hW⟩ : ∃ W9, y2.alloc (.cells #[.int .i64 p, .int .i64 q] 23) = W9 := ⟨_, rfl⟩
  rw [hW] at HE9 HK9 ⊢
  clear hW
  obtain ⟨N9, hN9⟩ : ∃ N, y2.heap.size = N := ⟨_, rfl⟩
  rw [hN9] at HK9 ⊢
  clear hN9
  have x := HK9.out _ (.head _)
  have x0 := x.cell 0
  have x1 := x.cell 1
  simp at x0 x1
  clear x
  have r := HK9.out _ (.tail _ (.tail _ (.tail _ (.tail _ (.head _)))))
  have r3 := r.cell 3
  simp at r3
  clear r
  go_wp2_with fail
  refine (D4.out _ HE9.out).mono ?_
  rintro e y3 ⟨rfl, hz⟩
  unfold invV
  have HE8 := Lib.hid (below_then (below_then HE9.out hz) (below_alloc1 y3 (.cells #[.int .i64 qa, .int .i64 qb] 23))); have HK8 := Lib.hid ((HK9.out.on hz).new 23 #[.int .i64 qa, .int .i64 qb])
  clear hz HE9 HK9 D4 x0 x1 r3
  obtain ⟨bt, hbt⟩ : ∃ t, decide (qe = 0) = t := ⟨_, rfl⟩
  dsimp only
  rw [hbt]
  go_upto_region 7 with fail
  obtain ⟨W8, hW⟩ : ∃ W8, y3.alloc (.cells #[.int .i64 qa, .int .i64 qb] 23) = W8 := ⟨_, rfl⟩
  rw [hW] at HE8 HK8 ⊢
  clear hW
  obtain ⟨N8, hN8⟩ : ∃ N, y3.heap.size = N := ⟨_, rfl⟩
  rw [hN8] at HK8 ⊢
  clear hN8
  rcases HN.out with hn | hn
  · injection hn with n1 n2
    injection n2 with n2 n3
    subst n1 n2 n3
    obtain rfl : bt = false := by rw [← hbt]; rfl
    clear hbt
    have z := HK8.out _ (.tail _ (.tail _ (.head _)))
    have z0 := z.cell 0
    have zf0 := z.frozen 0
    have z1 := z.cell 1
    have zf1 := z.frozen 1
    have zl := z.lt
    simp at z0 zf0 z1 zf1
    clear z
    go_wp2
    refine bodyPost_ret (v := rt (0, 0, 24)) (by simp [results, Tryz.results47, go_sem, z0, z1]) rfl ⟨rfl, ?_⟩
    have hg := HG.out
    repeat (first | exact HE8.out | refine Below.setCell ?_ (by simp <;> omega) _)
  · have hn : qe = 0 := hn
    subst hn
    obtain rfl : bt = true := by rw [← hbt]; rfl
    clear hbt
    have x := HK8.out _ (.head _)
    have x0 := x.cell 0
    have x1 := x.cell 1
    simp at x0 x1
    clear x
    have z := HK8.out _ (.tail _ (.tail _ (.head _)))
    have z0 := z.cell 0
    have zf0 := z.frozen 0
    have z1 := z.cell 1
    have zf1 := z.frozen 1
    have zl := z.lt
    simp at z0 zf0 z1 zf1
    clear z
    go_wp2
    refine bodyPost_ret (v := rt (qa, qb, 0)) (by simp [results, Tryz.results47, go_sem, z0, z1]) rfl ⟨rfl, ?_⟩
    have hg := HG.out
    repeat (first | exact HE8.out | refine Below.setCell ?_ (by simp <;> omega) _)

set_option maxRecDepth 100000 in
set_option maxHeartbeats 4000000 in
theorem sSounding_any (h : TankD) (m : HoldM) (a b e0 e1 : Int) (w : World) (hi : TankIn w h m) :
    Calls Tryz.prog 49 #[tankV h m, rv a b, rv e0 e1] w fun e w' => e = .returned (rt (SoundingS h a b e0 e1)) ∧ Below w.heap.size w w' := by
  obtain ⟨R, hR⟩ : ∃ R, SoundingS h a b e0 e1 = R := ⟨_, rfl⟩
  obtain ⟨E, hE⟩ : ∃ E, tankErr h = E := ⟨_, rfl⟩
  have C1 : Hid (∀ W, Below w.heap.size w W → Calls Tryz.prog 41 #[tankV h m] W fun e w' => e = .returned (.int .i64 E) ∧ Below W.heap.size W w') := Lib.hid fun W hW => int_to (sCheckTank_any h m W (hi.below hW)) hE
  have HR : Hid ((if E = 0 then (if massErr a b e0 e1 = 0 then sndS h.vol (litresS a b e0 e1).1 (litresS a b e0 e1).2 else (0, 0, massErr a b e0 e1)) else (0, 0, E)) = R) := Lib.hid (by rw [← hR]; unfold SoundingS; rw [hE])
  have C3 : Hid (E = 0 → ∀ x y W, Below w.heap.size w W → Calls Tryz.prog 115 #[tv m.A m.n m.c, rv x y, .bool false] W fun e w' => e = .returned (invV (sndS h.vol x y)) ∧ Below W.heap.size W w') := Lib.hid fun e x y W hW => by
    have q := tankErr_zero (hE.trans e)
    obtain ⟨f1, f2⟩ := tank_rises q
    exact sInverse_tab m.A m.n m.c h.vol x y false W (hi.1.below hW) (tank_tab q) (first_le_last (tank_tab q)) (turns_rises (tank_tab q) f2 f1)
  have C2 : Hid (∀ W, Calls Tryz.prog 45 #[rv a b, rv e0 e1] W fun e w' => e = .returned (rt (LitresS a b e0 e1)) ∧ Below W.heap.size W w') := Lib.hid fun W => sLitres_any a b e0 e1 W
  have hN : ∀ x y, (sndS h.vol x y = (0, 0, 24)) ∨ (sndS h.vol x y).2.2 = 0 := fun x y => invS_err _ _ _ _
  have HQ : E = 0 ∨ E = 21 := by
    rw [← hE]; unfold tankErr; split
    · exact .inl rfl
    · exact .inr rfl
  rw [hR]
  clear hR hE
  unfold LitresS at C2
  generalize (litresS a b e0 e1).1 = p at *
  generalize (litresS a b e0 e1).2 = q at *
  generalize massErr a b e0 e1 = M at *
  have HN := Lib.hid (hN p q)
  have D3 : Hid (E = 0 → ∀ W, Below w.heap.size w W → Calls Tryz.prog 115 #[tv m.A m.n m.c, rv p q, .bool false] W fun e w' => e = .returned (invV (sndS h.vol p q)) ∧ Below W.heap.size W w') := Lib.hid fun e W hW => C3.out e p q W hW
  clear C3 hN hi
  generalize sndS h.vol p q = Q at *
  obtain ⟨id, al, ah, vol, sur, hei⟩ := h
  obtain ⟨A, n, c, B, mm, d, C, l, ee⟩ := m
  obtain ⟨qa, qb, qe⟩ := Q
  dsimp only at D3
  have HE := Lib.hid (show Below w.heap.size w ((((w.alloc (.cells #[.int .i64 id, .int .i64 al, .int .i64 ah, .slice A n c, .slice B mm d, .slice C l ee] 43)).alloc (.cells #[.int .i64 a, .int .i64 b] 23)).alloc (.cells #[.int .i64 e0, .int .i64 e1] 23)).alloc (.cells #[.int .i64 0, .int .i64 0] 23)) from below_a4 (Below.refl _ _))
  have HK := Lib.hid (boxes4' w 43 23 23 23 #[.int .i64 id, .int .i64 al, .int .i64 ah, .slice A n c, .slice B mm d, .slice C l ee] #[.int .i64 a, .int .i64 b] #[.int .i64 e0, .int .i64 e1] #[.int .i64 0, .int .i64 0])
  rcases HQ with rfl | rfl
  rotate_left
  · skip
    have eR : R = (0, 0, 21) := by rw [← HR.out]; rfl
    subst eR
    clear HR C2 D3 HN
    go_enter Tryz.func49, Tryz.ntmps49
    go_wp2_with fail
    obtain ⟨W0, hW0⟩ : ∃ W0, ((((w.alloc (.cells #[.int .i64 id, .int .i64 al, .int .i64 ah, .slice A n c, .slice B mm d, .slice C l ee] 43)).alloc (.cells #[.int .i64 a, .int .i64 b] 23)).alloc (.cells #[.int .i64 e0, .int .i64 e1] 23)).alloc (.cells #[.int .i64 0, .int .i64 0] 23)) = W0 := ⟨_, rfl⟩
    rw [hW0] at HE HK ⊢
    clear hW0
    obtain ⟨G, hG⟩ : ∃ G, w.heap.size = G := ⟨_, rfl⟩
    rw [hG] at HK ⊢
    have HG := Lib.hid hG; clear hG
    have r := HK.out _ (.tail _ (.tail _ (.tail _ (.head _))))
    have r0 := r.cell 0
    have r1 := r.cell 1
    have r2 := r.cell 2
    have r3 := r.cell 3
    have r4 := r.cell 4
    have r5 := r.cell 5
    simp at r0 r1 r2 r3 r4 r5
    clear r
    go_upto_region 1 with fail
    refine (C1.out _ HE.out).mono ?_
    rintro e y1 ⟨rfl, hz⟩
    have HE1 := Lib.hid (below_then HE.out hz); have HK1 := Lib.hid (HK.out.on hz)
    clear hz HE HK C1 r0 r1 r2 r3 r4 r5
    have z := HK1.out _ (.head _)
    have z0 := z.cell 0
    have zf0 := z.frozen 0
    have z1 := z.cell 1
    have zf1 := z.frozen 1
    have zl := z.lt
    simp at z0 zf0 z1 zf1
    clear z
    go_wp2
    refine bodyPost_ret (v := rt (0, 0, 21)) (by simp [results, Tryz.results49, go_sem, z0, z1]) rfl ⟨rfl, ?_⟩
    have hg := HG.out
    repeat (first | exact HE1.out | refine Below.setCell ?_ (by simp <;> omega) _)
  have D4 := Lib.hid (D3.out rfl)
  clear D3
  by_cases g : M = 0
  rotate_left
  · skip
    have eR : R = (0, 0, M) := by rw [← HR.out, if_pos rfl, if_neg g]
    subst eR
    clear HR D4 HN
    rw [if_neg g] at C2
    go_enter Tryz.func49, Tryz.ntmps49
    go_wp2_with fail
    obtain ⟨W0, hW0⟩ : ∃ W0, ((((w.alloc (.cells #[.int .i64 id, .int .i64 al, .int .i64 ah, .slice A n c, .slice B mm d, .slice C l ee] 43)).alloc (.cells #[.int .i64 a, .int .i64 b] 23)).alloc (.cells #[.int .i64 e0, .int .i64 e1] 23)).alloc (.cells #[.int .i64 0, .int .i64 0] 23)) = W0 := ⟨_, rfl⟩
    rw [hW0] at HE HK ⊢
    clear hW0
    obtain ⟨G, hG⟩ : ∃ G, w.heap.size = G := ⟨_, rfl⟩
    rw [hG] at HK ⊢
    have HG := Lib.hid hG; clear hG
    have r := HK.out _ (.tail _ (.tail _ (.tail _ (.head _))))
    have r0 := r.cell 0
    have r1 := r.cell 1
    have r2 := r.cell 2
    have r3 := r.cell 3
    have r4 := r.cell 4
    have r5 := r.cell 5
    simp at r0 r1 r2 r3 r4 r5
    clear r
    go_upto_region 1 with fail
    refine (C1.out _ HE.out).mono ?_
    rintro e y1 ⟨rfl, hz⟩
    have HE1 := Lib.hid (below_then HE.out hz); have HK1 := Lib.hid (HK.out.on hz)
    clear hz HE HK C1 r0 r1 r2 r3 r4 r5
    have p := HK1.out _ (.tail _ (.tail _ (.head _)))
    have p0 := p.cell 0
    have p1 := p.cell 1
    simp at p0 p1
    clear p
    have q := HK1.out _ (.tail _ (.head _))
    have q0 := q.cell 0
    have q1 := q.cell 1
    simp at q0 q1
    clear q
    go_wp2_with fail
    refine (C2.out _).mono ?_
    rintro e y2 ⟨rfl, hz⟩
    have HE9 := Lib.hid (below_then (below_then HE1.out hz) (below_alloc1 y2 (.cells #[.int .i64 0, .int .i64 0] 23))); have HK9 := Lib.hid ((HK1.out.on hz).new 23 #[.int .i64 0, .int .i64 0])
    clear hz HE1 HK1 C2 p0 p1 q0 q1
    go_upto_region 4 with fail
    obtain ⟨W9, hW⟩ : ∃ W9, y2.alloc (.cells #[.int .i64 0, .int .i64 0] 23) = W9 := ⟨_, rfl⟩
    rw [hW] at HE9 HK9 ⊢
    clear hW
    obtain ⟨N9, hN9⟩ : ∃ N, y2.heap.size = N := ⟨_, rfl⟩
    rw [hN9] at HK9 ⊢
    clear hN9
    have z := HK9.out _ (.tail _ (.head _))
    have z0 := z.cell 0
    have zf0 := z.frozen 0
    have z1 := z.cell 1
    have zf1 := z.frozen 1
    have zl := z.lt
    simp at z0 zf0 z1 zf1
    clear z
    go_wp2
    refine bodyPost_ret (v := rt (0, 0, M)) (by simp [results, Tryz.results49, go_sem, z0, z1]) rfl ⟨rfl, ?_⟩
    have hg := HG.out
    repeat (first | exact HE9.out | refine Below.setCell ?_ (by simp <;> omega) _)
  subst g
  rw [if_pos rfl] at C2
  have eR : R = (qa, qb, qe) := by rw [← HR.out]; rfl
  subst eR
  clear HR
  go_enter Tryz.func49, Tryz.ntmps49
  go_wp2_with fail
  obtain ⟨W0, hW0⟩ : ∃ W0, ((((w.alloc (.cells #[.int .i64 id, .int .i64 al, .int .i64 ah, .slice A n c, .slice B mm d, .slice C l ee] 43)).alloc (.cells #[.int .i64 a, .int .i64 b] 23)).alloc (.cells #[.int .i64 e0, .int .i64 e1] 23)).alloc (.cells #[.int .i64 0, .int .i64 0] 23)) = W0 := ⟨_, rfl⟩
  rw [hW0] at HE HK ⊢
  clear hW0
  obtain ⟨G, hG⟩ : ∃ G, w.heap.size = G := ⟨_, rfl⟩
  rw [hG] at HK ⊢
  have HG := Lib.hid hG; clear hG
  have r := HK.out _ (.tail _ (.tail _ (.tail _ (.head _))))
  have r0 := r.cell 0
  have r1 := r.cell 1
  have r2 := r.cell 2
  have r3 := r.cell 3
  have r4 := r.cell 4
  have r5 := r.cell 5
  simp at r0 r1 r2 r3 r4 r5
  clear r
  go_upto_region 1 with fail
  refine (C1.out _ HE.out).mono ?_
  rintro e y1 ⟨rfl, hz⟩
  have HE1 := Lib.hid (below_then HE.out hz); have HK1 := Lib.hid (HK.out.on hz)
  clear hz HE HK C1 r0 r1 r2 r3 r4 r5
  have p := HK1.out _ (.tail _ (.tail _ (.head _)))
  have p0 := p.cell 0
  have p1 := p.cell 1
  simp at p0 p1
  clear p
  have q := HK1.out _ (.tail _ (.head _))
  have q0 := q.cell 0
  have q1 := q.cell 1
  simp at q0 q1
  clear q
  go_wp2_with fail
  refine (C2.out _).mono ?_
  rintro e y2 ⟨rfl, hz⟩
  have HE9 := Lib.hid (below_then (below_then HE1.out hz) (below_alloc1 y2 (.cells #[.int .i64 p, .int .i64 q] 23))); have HK9 := Lib.hid ((HK1.out.on hz).new 23 #[.int .i64 p, .int .i64 q])
  clear hz HE1 HK1 C2 p0 p1 q0 q1
  go_upto_region 4 with fail
  obtain ⟨W9, hW⟩ : ∃ W9, y2.alloc (.cells #[.int .i64 p, .int .i64 q] 23) = W9 := ⟨_, rfl⟩
  rw [hW] at HE9 HK9 ⊢
  clear hW
  obtain ⟨N9, hN9⟩ : ∃ N, y2.heap.size = N := ⟨_, rfl⟩
  rw [hN9] at HK9 ⊢
  clear hN9
  have x := HK9.out _ (.head _)
  have x0 := x.cell 0
  have x1 := x.cell 1
  simp at x0 x1
  clear x
  have r := HK9.out _ (.tail _ (.tail _ (.tail _ (.tail _ (.head _)))))
  have r3 := r.cell 3
  simp at r3
  clear r
  go_wp2_with fail
  refine (D4.out _ HE9.out).mono ?_
  rintro e y3 ⟨rfl, hz⟩
  unfold invV
  have HE8 := Lib.hid (below_then (below_then HE9.out hz) (below_alloc1 y3 (.cells #[.int .i64 qa, .int .i64 qb] 23))); have HK8 := Lib.hid ((HK9.out.on hz).new 23 #[.int .i64 qa, .int .i64 qb])
  clear hz HE9 HK9 D4 x0 x1 r3
  obtain ⟨bt, hbt⟩ : ∃ t, decide (qe = 0) = t := ⟨_, rfl⟩
  dsimp only
  rw [hbt]
  go_upto_region 7 with fail
  obtain ⟨W8, hW⟩ : ∃ W8, y3.alloc (.cells #[.int .i64 qa, .int .i64 qb] 23) = W8 := ⟨_, rfl⟩
  rw [hW] at HE8 HK8 ⊢
  clear hW
  obtain ⟨N8, hN8⟩ : ∃ N, y3.heap.size = N := ⟨_, rfl⟩
  rw [hN8] at HK8 ⊢
  clear hN8
  rcases HN.out with hn | hn
  · injection hn with n1 n2
    injection n2 with n2 n3
    subst n1 n2 n3
    obtain rfl : bt = false := by rw [← hbt]; rfl
    clear hbt
    have z := HK8.out _ (.tail _ (.tail _ (.head _)))
    have z0 := z.cell 0
    have zf0 := z.frozen 0
    have z1 := z.cell 1
    have zf1 := z.frozen 1
    have zl := z.lt
    simp at z0 zf0 z1 zf1
    clear z
    go_wp2
    refine bodyPost_ret (v := rt (0, 0, 24)) (by simp [results, Tryz.results49, go_sem, z0, z1]) rfl ⟨rfl, ?_⟩
    have hg := HG.out
    repeat (first | exact HE8.out | refine Below.setCell ?_ (by simp <;> omega) _)
  · have hn : qe = 0 := hn
    subst hn
    obtain rfl : bt = true := by rw [← hbt]; rfl
    clear hbt
    have x := HK8.out _ (.head _)
    have x0 := x.cell 0
    have x1 := x.cell 1
    simp at x0 x1
    clear x
    have z := HK8.out _ (.tail _ (.tail _ (.head _)))
    have z0 := z.cell 0
    have zf0 := z.frozen 0
    have z1 := z.cell 1
    have zf1 := z.frozen 1
    have zl := z.lt
    simp at z0 zf0 z1 zf1
    clear z
    go_wp2
    refine bodyPost_ret (v := rt (qa, qb, 0)) (by simp [results, Tryz.results49, go_sem, z0, z1]) rfl ⟨rfl, ?_⟩
    have hg := HG.out
    repeat (first | exact HE8.out | refine Below.setCell ?_ (by simp <;> omega) _)
end

end Go.Proofs.YtmdilbmgopggaaaGreat
