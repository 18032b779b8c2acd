/- The contract of CheckLevel (the specification of layer 2), over that of places. Its condition: the tank's tables lie in memory. -/
import Derived.Test.YtbcefdaflnlhoaaGreatQ28
import Derived.Test.YtbcefdaflnlhoaaGreatQ21
import Derived.Test.YtbcefdaflnlhoaaGreatQ08
import Derived.Test.YtbcefdaflnlhoaaGreatQ13
set_option linter.unusedVariables false
set_option linter.unusedSimpArgs false
set_option linter.constructorNameAsVariable false
namespace Go.Proofs.YtbcefdaflnlhoaaGreat

section
open Go.RowKit

theorem foldG_all {lo hi : Int} : ∀ (l : List (Int × Int)) (s : Int × Int × Bool), s.2.2 = true → lo ≤ s.1 → s.1 ≤ s.2.1 → s.2.1 ≤ hi → (∀ r ∈ l, lo ≤ r.1 ∧ r.1 ≤ r.2 ∧ r.2 ≤ hi) →
    lo ≤ (l.foldl stepG s).1 ∧ (l.foldl stepG s).1 ≤ (l.foldl stepG s).2.1 ∧ (l.foldl stepG s).2.1 ≤ hi
  | [], s, _, h1, h2, h3, _ => ⟨h1, h2, h3⟩
  | z :: l, s, h, h1, h2, h3, hl => by
    rw [List.foldl_cons]
    have e : stepG s z = (min s.1 z.1, max s.2.1 z.2, true) := by unfold stepG; rw [if_pos h]
    rw [e]
    have hz := hl z (by simp)
    exact foldG_all l _ rfl (by dsimp only; omega) (by dsimp only; omega) (by dsimp only; omega) (fun r hr => hl r (by simp [hr]))
theorem foldG_in {lo hi : Int} {l : List (Int × Int)} (hne : l ≠ []) (hl : ∀ r ∈ l, lo ≤ r.1 ∧ r.1 ≤ r.2 ∧ r.2 ≤ hi) : lo ≤ (foldG l).1 ∧ (foldG l).1 ≤ (foldG l).2.1 ∧ (foldG l).2.1 ≤ hi := by
  cases l with
  | nil => exact absurd rfl hne
  | cons z l =>
    unfold foldG
    rw [List.foldl_cons]
    have e : stepG (0, 0, false) z = (z.1, z.2, true) := rfl
    rw [e]
    have hz := hl z (by simp)
    exact foldG_all l _ rfl hz.1 hz.2.1 hz.2.2 (fun r hr => hl r (by simp [hr]))
theorem atS_nonneg {ps : List P3} {x : Int} (hm : measuresS ps = true) (h1 : firstX ps ≤ x) (h2 : x ≤ lastX ps) : 0 ≤ (atS ps x).1 := by
  have ht := measures_ok hm
  have hp : ∀ p ∈ ps, 0 ≤ p.2.1 := by
    unfold measuresS at hm
    simp only [Bool.and_eq_true, List.all_eq_true, decide_eq_true_eq] at hm
    exact hm.2
  obtain ⟨i, pq, hi, b1, b2, _⟩ := piece_at ht h1 h2
  obtain ⟨m1, m2, m3⟩ := piece_mem ht hi
  have e := atS_any ht hi b1 b2
  have e1 := pAt_start pq.1 pq.2
  have e2 := atS_any ht hi m3 (Int.le_refl _)
  rw [atS_point ht m2] at e2
  have q1 := hp _ m1
  have q2 := hp _ m2
  rw [e]
  rcases pAt_low_way pq.1 pq.2 with w | w
  · have := w _ _ b1; rw [e1] at this; dsimp only at this; omega
  · have := w _ _ b2; rw [← e2] at this; dsimp only at this; omega
theorem over_in {ps : List P3} {a b : Int} (hm : measuresS ps = true) (h : inB a b (firstX ps) (lastX ps) = true) : 0 ≤ (overS ps a b).1 ∧ (overS ps a b).1 ≤ (overS ps a b).2.1 ∧ (overS ps a b).2.1 ≤ 1000000000 := by
  have ht := measures_ok hm
  simp only [inB, decide_eq_true_eq] at h
  have hall : ∀ r ∈ (cornersS ps a b).map (atS ps), (0 : Int) ≤ r.1 ∧ r.1 ≤ r.2 ∧ r.2 ≤ 1000000000 := by
    intro r hr
    obtain ⟨c, hc, rfl⟩ := List.mem_map.1 hr
    have hcb : a ≤ c ∧ c ≤ b := by
      rcases corners_mem hc with q | q <;> omega
    have q1 := atS_in ht (show firstX ps ≤ c by omega) (show c ≤ lastX ps by omega)
    have q2 := atS_nonneg hm (show firstX ps ≤ c by omega) (show c ≤ lastX ps by omega)
    simp only [inB, decide_eq_true_eq] at q1
    omega
  have hg := foldG_in (by simpa using corners_ne ps a b) hall
  unfold overS
  split
  · exact hg
  · dsimp only; omega
def Amt (p : Int × Int) : Prop := 0 ≤ p.1 ∧ p.1 ≤ p.2 ∧ p.2 ≤ 1000000000
theorem along_in {ps qs : List P3} {a b : Int} (h : alongS ps qs = true) (g : inB a b (firstX ps) (lastX ps) = true) : inB a b (firstX qs) (lastX qs) = true := by
  unfold alongS at h
  simp only [Bool.and_eq_true, decide_eq_true_eq] at h
  rw [← h.1, ← h.2]; exact g
theorem heavy_small {a d : Int} (h1 : 0 ≤ a) (h2 : a ≤ 1000000000) (h3 : 0 ≤ d) (h4 : d ≤ 2000) : 0 ≤ a * d ∧ a * d ≤ 1000000000000000 := by
  refine ⟨Int.mul_nonneg h1 h3, ?_⟩
  have := Int.mul_le_mul h2 h4 h3 (by omega)
  omega
end

section
open Go.RowKit
attribute [local go_sem ↓] eqlRange neqRange
/-- the contract of places of the specification -/
def SPlaces : Prop := ∀ (A : Option Addr) (n c : Nat) (ps : List P3) (x y : Int) (t : Bool) (w : World), TabIn w A n ps → tabOk ps = true → inB x y (firstX ps) (lastX ps) = t →
  Calls Tryz.prog 59 #[tv A n c, rv x y] w fun e w' => e = .returned (.bool t) ∧ Below w.heap.size w w'
set_option maxRecDepth 100000 in
set_option maxHeartbeats 8000000 in
theorem sCheckLevel_of (HSP : SPlaces) (t : TankD) (m : HoldM) (lv : LevelD) (w : World) (hi : TankIn w t m) :
    Calls Tryz.prog 19 #[tankV t m, levelV lv] w fun e w' => e = .returned (.int .i64 (levelErr t lv)) ∧ Below w.heap.size w w' := by
  have CC : Hid (∀ W, Below w.heap.size w W → Calls Tryz.prog 17 #[tankV t m] W fun e w' => e = .returned (.int .i64 (tankErr t)) ∧ Below W.heap.size W w') := Lib.hid fun W hW => sCheckTank_any t m W (hi.below hW)
  obtain ⟨bt, hbt⟩ : ∃ b, tankS t = b := ⟨_, rfl⟩
  obtain ⟨bl, hbl⟩ : ∃ b, levelS t lv = b := ⟨_, rfl⟩
  rw [levelErr_of hbt hbl]
  rw [tankErr_of hbt] at CC
  have HV : Hid (bt = true → tabOk t.vol = true) := Lib.hid fun x => tank_tab (hbt.trans x)
  obtain ⟨id, al, ah, vol, sur, hei⟩ := t
  obtain ⟨A, n, c, B, mm, d, C, l, ee⟩ := m
  obtain ⟨tk, pr, s0, s1, d0, d1⟩ := lv
  obtain ⟨i1, i2, i3⟩ := hi
  dsimp only at i1 i2 i3 HV
  have HE := Lib.hid (show Below w.heap.size w ((w.alloc (.cells #[.int .i64 id, .int .i64 al, .int .i64 ah, .slice A n c, .slice B mm d, .slice C l ee] 28)).alloc (.cells #[.int .i64 tk, .bool pr, .int .i64 s0, .int .i64 s1, .int .i64 d0, .int .i64 d1] 30)) from below_a2 (Below.refl _ _))
  have HK := Lib.hid (boxes2' w 28 30 #[.int .i64 id, .int .i64 al, .int .i64 ah, .slice A n c, .slice B mm d, .slice C l ee] #[.int .i64 tk, .bool pr, .int .i64 s0, .int .i64 s1, .int .i64 d0, .int .i64 d1])
  obtain ⟨bd, ebd⟩ : ∃ b, densS d0 d1 = b := ⟨_, rfl⟩
  obtain ⟨bi, ebi⟩ : ∃ b, inB s0 s1 (firstX vol) (lastX vol) = b := ⟨_, rfl⟩
  have C1 : Hid (∀ W, Calls Tryz.prog 58 #[rv d0 d1] W fun e w' => e = .returned (.bool bd) ∧ Below W.heap.size W w') := Lib.hid fun W => sdensity_to d0 d1 bd W ebd
  have C2 : Hid (bt = true → ∀ W, Below w.heap.size w W → Calls Tryz.prog 59 #[tv A n c, rv s0 s1] W fun e w' => e = .returned (.bool bi) ∧ Below W.heap.size W w') := Lib.hid fun x W hW => HSP A n c vol s0 s1 bi W (i1.below hW) (HV.out x) ebi
  have C3 : Hid (bt = true → ∀ W, Below w.heap.size w W → Calls Tryz.prog 60 #[tv A n c] W fun e w' => e = .returned (.int .i64 (lastX vol)) ∧ Below W.heap.size W w') := Lib.hid fun x W hW => sLast_tab A n c vol W (i1.below hW) (HV.out x)
  have e0 : levelS ⟨id, al, ah, vol, sur, hei⟩ ⟨tk, pr, s0, s1, d0, d1⟩ = (decide (tk = id) && (bd && (bi && (!pr || decide (s0 = lastX vol))))) := by rw [← ebd, ← ebi]; rfl
  have HR := Lib.hid (e0.symm.trans hbl)
  have HB : Hid (bi = true → s0 ≤ s1 ∧ s1 ≤ lastX vol) := Lib.hid fun x => by
    rcases inB_cases ebi with ⟨_, g⟩ | ⟨_, _, g⟩ | ⟨_, _, _, g⟩ | ⟨_, g1, g2, _⟩
    · rw [g] at x; cases x
    · rw [g] at x; cases x
    · rw [g] at x; cases x
    · exact ⟨g1, g2⟩
  clear e0 hbl hbt i1 i2 i3 HV ebd ebi
  generalize firstX vol = f1 at *
  generalize lastX vol = f2 at *
  go_enter Tryz.func19, Tryz.ntmps19
  go_wp2_with fail
  obtain ⟨W0, hW0⟩ : ∃ W0, ((w.alloc (.cells #[.int .i64 id, .int .i64 al, .int .i64 ah, .slice A n c, .slice B mm d, .slice C l ee] 28)).alloc (.cells #[.int .i64 tk, .bool pr, .int .i64 s0, .int .i64 s1, .int .i64 d0, .int .i64 d1] 30)) = W0 := ⟨_, rfl⟩
  rw [hW0] at HE HK ⊢
  clear hW0
  obtain ⟨G, hG⟩ : ∃ G, w.heap.size = G := ⟨_, rfl⟩
  rw [hG] at HK ⊢
  have HG := Lib.hid hG; clear hG
  refine (CC.out _ HE.out).mono ?_
  rintro e w1 ⟨rfl, hb⟩
  have HE1 := Lib.hid (below_then HE.out hb); have HK1 := Lib.hid (HK.out.on hb)
  clear hb HE HK
  cases bt
  · simp only [Bool.false_eq_true, if_false]
    clear HR
    go_wp2
    go_ret
    exact ⟨rfl, HE1.out⟩
  simp only [if_true]
  have y := HK1.out _ (.tail _ (.head _))
  have y0 := y.cell 0
  have z := HK1.out _ (.head _)
  have z0 := z.cell 0
  have z4 := z.cell 4
  have z5 := z.cell 5
  simp at y0 z0 z4 z5
  clear y z
  by_cases hk : tk = id
  · subst hk
    have x1 : (tk == tk) = true := by simp
    go_wp2_with fail
    refine (C1.out _).mono ?_
    rintro e w2 ⟨rfl, hb⟩
    have HE2 := Lib.hid (below_then HE1.out hb); have HK2 := Lib.hid (HK1.out.on hb)
    clear hb HE1 HK1 y0 z0 z4 z5
    cases bd
    · have hf : bl = false := by rw [← HR.out]; simp
      subst hf
      clear HR
      go_wp2
      go_ret
      exact ⟨rfl, HE2.out⟩
    have y3 := (HK2.out _ (.tail _ (.head _))).cell 3
    have z2 := (HK2.out _ (.head _)).cell 2
    have z3 := (HK2.out _ (.head _)).cell 3
    simp at y3 z2 z3
    go_wp2_with fail
    refine (C2.out (by trivial) _ HE2.out).mono ?_
    rintro e w3 ⟨rfl, hb⟩
    have HE3 := Lib.hid (below_then HE2.out hb); have HK3 := Lib.hid (HK2.out.on hb)
    clear hb HE2 HK2 y3 z2 z3
    cases bi
    · have hf : bl = false := by rw [← HR.out]; simp
      subst hf
      clear HR
      go_wp2
      go_ret
      exact ⟨rfl, HE3.out⟩
    have y3 := (HK3.out _ (.tail _ (.head _))).cell 3
    simp at y3
    go_wp2_with fail
    refine (C3.out (by trivial) _ HE3.out).mono ?_
    rintro e w4 ⟨rfl, hb⟩
    have HE4 := Lib.hid (below_then HE3.out hb); have HK4 := Lib.hid (HK3.out.on hb)
    clear hb HE3 HK3 y3
    obtain ⟨hb1, hb2⟩ := HB.out (by trivial)
    have z1 := (HK4.out _ (.head _)).cell 1
    have z2 := (HK4.out _ (.head _)).cell 2
    have z3 := (HK4.out _ (.head _)).cell 3
    simp at z1 z2 z3
    cases pr
    · have hf : bl = true := by rw [← HR.out]; simp
      subst hf
      clear HR hb1 hb2
      go_wp2
      go_ret
      exact ⟨rfl, HE4.out⟩
    by_cases hs : s0 = f2
    · have hf : bl = true := by rw [← HR.out]; simp [hs]
      subst hf
      have hs1 : s1 = f2 := by omega
      have x2 : (s0 == f2 && s1 == f2) = true := by simp [hs, hs1]
      clear HR hb1 hb2 hs hs1
      go_wp2
      go_ret
      exact ⟨rfl, HE4.out⟩
    · have hf : bl = false := by rw [← HR.out]; simp [hs]
      subst hf
      have x2 : (s0 == f2 && s1 == f2) = false := by simp [hs]
      clear HR hb1 hb2 hs
      go_wp2
      go_ret
      exact ⟨rfl, HE4.out⟩
  · have hf : bl = false := by rw [← HR.out]; simp [hk]
    subst hf
    have x1 : (tk == id) = false := beq_eq_false_iff_ne.2 hk
    clear HR
    go_wp2
    go_ret
    exact ⟨rfl, HE1.out⟩
end

end Go.Proofs.YtbcefdaflnlhoaaGreat
