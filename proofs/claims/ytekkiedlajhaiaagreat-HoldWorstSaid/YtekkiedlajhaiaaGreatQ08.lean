/- The contract of Lines (the specification). Its condition: the table's points lie in memory, 40 of them at most. -/
import Derived.BigQuiet
import Derived.Test.YtekkiedlajhaiaaGreatQ03
import Derived.Test.YtekkiedlajhaiaaGreatQ07
import Derived.Deep.AppendLies
set_option linter.unusedVariables false
set_option linter.unusedSimpArgs false
set_option linter.constructorNameAsVariable false
namespace Go.Proofs.YtekkiedlajhaiaaGreat

section
open Go.RowKit

theorem rFirst_any (b o m c : Nat) (x : Int) (w : World) (hb : b < w.heap.size) (h0 : w.cell? ⟨b, o, none⟩ = some (.int .i64 x)) :
  Calls Tryz.prog 189 #[tv (some ⟨b, o, none⟩) (m + 1) c] w fun e w' => e = .returned (.int .i64 x) ∧ Below w.heap.size w w' := by
 have k2 : (0 : Int) < (m : Int) + 1 := by omega
 have z1 : (w.alloc (.cells #[.slice (some ⟨b, o, none⟩) (m + 1) c] 48)).cell? ⟨b, o, none⟩ = some (.int .i64 x) := by
  rw [World.cell?_alloc_lt _ _ _ hb]; exact h0
 go_enter Tryz.func189, Tryz.ntmps189
 go_wp2
 go_ret
 exact ⟨rfl, (Below.refl _ _).alloc (Nat.le_refl _) _⟩
theorem rLast_any (b o m c : Nat) (x : Int) (w : World) (hm : (m : Int) ≤ 1000000) (hb : b < w.heap.size) (h0 : w.cell? ⟨b, o + m * 3, none⟩ = some (.int .i64 x)) :
  Calls Tryz.prog 190 #[tv (some ⟨b, o, none⟩) (m + 1) c] w fun e w' => e = .returned (.int .i64 x) ∧ Below w.heap.size w w' := by
 have k1 : (0 : Int) ≤ (m : Int) := by omega
 have k2 : (m : Int) < (m : Int) + 1 := by omega
 have k3 : IntKind.i64.wrap ((m : Int) + 1 - 1) = (m : Int) := by rw [IntWalk.i64_in _ ⟨by omega, by omega⟩]; omega
 have z1 : (w.alloc (.cells #[.slice (some ⟨b, o, none⟩) (m + 1) c] 48)).cell? ⟨b, o + m * 3, none⟩ = some (.int .i64 x) := by
  rw [World.cell?_alloc_lt _ _ _ hb]; exact h0
 go_enter Tryz.func190, Tryz.ntmps190
 go_wp2
 go_ret
 exact ⟨rfl, (Below.refl _ _).alloc (Nat.le_refl _) _⟩

theorem first_at {w : World} {b o : Nat} {ps : List P3} (h : PtsAt w b o ps) (hl : 1 ≤ ps.length) : w.cell? ⟨b, o, none⟩ = some (.int .i64 (firstX ps)) := by
  have e0 : ps[0]? = some (ps[0]'(by omega)) := List.getElem?_eq_getElem (by omega)
  have f0 : firstX ps = (ps[0]'(by omega)).1 := by unfold firstX; rw [List.head?_eq_getElem?, e0]; rfl
  have g0 := (h 0 _ e0).1
  rw [Nat.zero_mul, Nat.add_zero] at g0
  rw [f0]; exact g0
theorem last_at {w : World} {b o m : Nat} {ps : List P3} (h : PtsAt w b o ps) (hl : ps.length = m + 1) : w.cell? ⟨b, o + m * 3, none⟩ = some (.int .i64 (lastX ps)) := by
  have em : ps[m]? = some (ps[m]'(by omega)) := List.getElem?_eq_getElem (by omega)
  have fm : lastX ps = (ps[m]'(by omega)).1 := by
    unfold lastX
    rw [List.getLast?_eq_getElem?, show ps.length - 1 = m by omega, em]; rfl
  rw [fm]; exact (h m _ em).1
theorem rFirst_tab (b o n c : Nat) (ps : List P3) (w : World) (hn : n = ps.length) (h1 : 1 ≤ n) (hb : b < w.heap.size) (hc : PtsAt w b o ps) :
    Calls Tryz.prog 189 #[tv (some ⟨b, o, none⟩) n c] w fun e w' => e = .returned (.int .i64 (firstX ps)) ∧ Below w.heap.size w w' := by
  obtain ⟨m, rfl⟩ : ∃ m, n = m + 1 := ⟨n - 1, by omega⟩
  exact rFirst_any b o m c _ w hb (first_at hc (by omega))
theorem rLast_tab (b o n c : Nat) (ps : List P3) (w : World) (hn : n = ps.length) (h1 : 1 ≤ n) (h40 : n ≤ 40) (hb : b < w.heap.size) (hc : PtsAt w b o ps) :
    Calls Tryz.prog 190 #[tv (some ⟨b, o, none⟩) n c] w fun e w' => e = .returned (.int .i64 (lastX ps)) ∧ Below w.heap.size w w' := by
  obtain ⟨m, rfl⟩ : ∃ m, n = m + 1 := ⟨n - 1, by omega⟩
  exact rLast_any b o m c _ w (by omega) hb (last_at hc (by omega))

def insideS (ps : List P3) (x : Int) : Bool := decide (firstX ps ≤ x) && decide (x ≤ lastX ps)
set_option maxRecDepth 100000 in
set_option maxHeartbeats 1000000 in
theorem inside_any (b o n c : Nat) (ps : List P3) (x : Int) (w : World) (hn : n = ps.length) (h1 : 1 ≤ n) (h40 : n ≤ 40) (hb : b < w.heap.size) (hc : PtsAt w b o ps) :
  Calls Tryz.prog 163 #[tv (some ⟨b, o, none⟩) n c, .int .i64 x] w fun e w' => e = .returned (.bool (insideS ps x)) ∧ Below w.heap.size w w' := by
 obtain ⟨X0, hX0⟩ : ∃ X, firstX ps = X := ⟨_, rfl⟩
 obtain ⟨X1, hX1⟩ : ∃ X, lastX ps = X := ⟨_, rfl⟩
 have CF : Hid (∀ W, Below w.heap.size w W → Calls Tryz.prog 189 #[tv (some ⟨b, o, none⟩) n c] W fun e w' => e = .returned (.int .i64 X0) ∧ Below W.heap.size W w') :=
  Lib.hid fun W hW => by rw [← hX0]; exact rFirst_tab b o n c ps W hn h1 (Nat.lt_of_lt_of_le hb hW.size) (hc.below hW hb)
 have CL : Hid (∀ W, Below w.heap.size w W → Calls Tryz.prog 190 #[tv (some ⟨b, o, none⟩) n c] W fun e w' => e = .returned (.int .i64 X1) ∧ Below W.heap.size W w') :=
  Lib.hid fun W hW => by rw [← hX1]; exact rLast_tab b o n c ps W hn h1 h40 (Nat.lt_of_lt_of_le hb hW.size) (hc.below hW hb)
 have hv : insideS ps x = (decide (X0 ≤ x) && decide (x ≤ X1)) := by unfold insideS; rw [hX0, hX1]
 have HV := Lib.hid hv; clear hv hX0 hX1 hc hn
 have hE : Below w.heap.size w (w.alloc (.cells #[.slice (some ⟨b, o, none⟩) n c] 48)) := (Below.refl _ _).alloc (Nat.le_refl _) _
 have bT := Blk.new w 48 #[.slice (some ⟨b, o, none⟩) n c]
 have HE := Lib.hid hE; have HT := Lib.hid bT; clear hE bT
 by_cases c1 : X0 ≤ x
 ·by_cases c2 : x ≤ X1
  all_goals
   go_enter Tryz.func163, Tryz.ntmps163
   go_wp2_with fail
   refine (CF.out _ HE.out).mono ?_
   rintro e w1 ⟨rfl, hb1⟩
   have t0 := (HT.out.below hb1 HT.out.lt).cell 0
   simp at t0
   have HE1 := Lib.hid (below_then HE.out hb1)
   clear hb1
   go_wp2_with fail
   refine (CL.out _ HE1.out).mono ?_
   rintro e w2 ⟨rfl, hb2⟩
   have HE2 := Lib.hid (below_then HE1.out hb2)
   clear hb2 t0
   go_wp2
   go_ret
   exact ⟨by rw [HV.out]; simp [c1, c2], HE2.out⟩
 ·go_enter Tryz.func163, Tryz.ntmps163
  go_wp2_with fail
  refine (CF.out _ HE.out).mono ?_
  rintro e w1 ⟨rfl, hb1⟩
  have HE1 := Lib.hid (below_then HE.out hb1)
  clear hb1
  go_wp2
  go_ret
  exact ⟨by rw [HV.out, decide_eq_false (show ¬ X0 ≤ x by omega)]; rfl, HE1.out⟩

def upS (W N : Int) : Int := if 0 < N then W + 1 else W
set_option maxRecDepth 100000 in
theorem up_any (W N D : Int) (w : World) (h1 : -9000000000000000000 ≤ W) (h2 : W ≤ 9000000000000000000) :
  Calls Tryz.prog 193 #[.agg #[.int .i64 W, .int .i64 N, .int .i64 D]] w fun e w' => e = .returned (.int .i64 (upS W N)) ∧ Below w.heap.size w w' := by
 have k1 : IntKind.i64.wrap (W + 1) = W + 1 := IntWalk.i64_in _ ⟨by omega, by omega⟩
 unfold upS
 by_cases h : 0 < N
 ·rw [if_pos h]
  go_enter Tryz.func193, Tryz.ntmps193
  go_wp2
  go_ret
  exact ⟨rfl, (Below.refl _ _).alloc (Nat.le_refl _) _⟩
 ·rw [if_neg h]
  go_enter Tryz.func193, Tryz.ntmps193
  go_wp2
  go_ret
  exact ⟨rfl, (Below.refl _ _).alloc (Nat.le_refl _) _⟩
end

section
open Go.RowKit

def prevX (ps : List P3) : Nat → Int
  | 0 => -1
  | k + 1 => (ps[k]?.map (·.1)).getD (-1)
theorem ptOk_no {last x lo hi : Int} (h0 : -1 ≤ last) (h : x < 0 ∨ 1000000 < x ∨ x ≤ last ∨ lo < -1000000000 ∨ hi < lo ∨ 1000000000 < hi) : ptOk last (x, lo, hi) = false := by
  simp [ptOk, inB]; omega
theorem ptOk_yes {last x lo hi : Int} (h1 : x ≤ 1000000) (h2 : last < x) (h3 : -1000000000 ≤ lo) (h4 : lo ≤ hi) (h5 : hi ≤ 1000000000) : ptOk last (x, lo, hi) = true := by
  simp [ptOk, inB, h1, h2, h3, h4, h5]

set_option maxRecDepth 100000 in
set_option maxHeartbeats 4000000 in
theorem validTable_loop (b o n c : Nat) (ps : List P3) (w : World) (hb : b < w.heap.size) (hn : n = ps.length) (h1 : 1 ≤ n) (h2 : n ≤ 40) (hc : PtsAt w b o ps) :
  Calls Tryz.prog 161 #[tv (some ⟨b, o, none⟩) n c] w fun e w' => e = .returned (.bool (ptsOk (-1) ps)) ∧ Below w.heap.size w w' := by
 have HN := Lib.hid hn; clear hn
 have hE : Below w.heap.size w (w.alloc (.cells #[.slice (some ⟨b, o, none⟩) n c] 48)) := (Below.refl _ _).alloc (Nat.le_refl _) _
 have HC := Lib.hid (hc.below hE hb); clear hc
 have bT := Blk.new w 48 #[.slice (some ⟨b, o, none⟩) n c]
 have t1 : ¬ (n : Int) < 1 := by omega
 have t2 : ¬ (40 : Int) < (n : Int) := by omega
 generalize hr : ptsOk (-1) ps = r
 have HR := Lib.hid hr; clear hr
 have HE := Lib.hid hE; have HT := Lib.hid bT; clear hE bT
 go_enter Tryz.func161, Tryz.ntmps161
 go_wp2_with fail
 obtain ⟨A, hA⟩ : ∃ A, w.heap.size = A := ⟨_, rfl⟩
 obtain ⟨W0, hW0⟩ : ∃ W0, w.alloc (.cells #[.slice (some ⟨b, o, none⟩) n c] 48) = W0 := ⟨_, rfl⟩
 have hbW : b < W0.heap.size := by rw [← hW0]; simp; omega
 rw [hW0] at HC HE HT ⊢
 rw [hA] at HT ⊢
 clear hW0
 go_loopw [18] (fun i wr => ∃ k : Nat, k ≤ n ∧ i = .int .i64 k ∧ Below W0.heap.size W0 wr ∧ Hid (ptsOk (prevX ps k) (ps.drop k) = r ∧ -1 ≤ prevX ps k ∧ (0 < k → 0 ≤ prevX ps k))) (fun i _ => n - (intOf i).toNat)
 case atStart => exact ⟨0, by omega, rfl, Below.refl _ _, HR.out, by simp [prevX], by omega⟩
 case round =>
  obtain ⟨k, hk, rfl, hB, HP⟩ := hrel
  by_cases hlt : k < n
  ·obtain ⟨p, hp⟩ : ∃ p, ps[k]? = some p := ⟨_, List.getElem?_eq_getElem (show k < ps.length by rw [← HN.out]; exact hlt)⟩
   obtain ⟨c0, c1, c2⟩ := HC.out k p hp
   rw [← hB.cell (p := ⟨b, o + k * 3, none⟩) hbW] at c0
   rw [← hB.cell (p := ⟨b, o + k * 3 + 1, none⟩) hbW] at c1
   rw [← hB.cell (p := ⟨b, o + k * 3 + 2, none⟩) hbW] at c2
   have HA := Lib.hid (ptsOk_at (last := prevX ps k) hp)
   have hT := HT.out.below hB HT.out.lt
   have v0 := hT.cell 0
   have lA := hT.lt
   simp at v0
   have HPX := Lib.hid (show prevX ps (k + 1) = p.1 by simp [prevX, hp])
   obtain ⟨x, lo, hi⟩ := p
   dsimp only at c0 c1 c2
   have hbw : b < wr.heap.size := Nat.lt_of_lt_of_le hbW hB.size
   have HB := Lib.hid hB; clear hB hT
   -- the point ahead
   have hprev : k = 0 ∨ ∃ j, k = j + 1 := by cases k with
    | zero => exact .inl rfl
    | succ j => exact .inr ⟨j, rfl⟩
   rcases hprev with rfl | ⟨j, rfl⟩
   ·clear hp
    simp only [Nat.zero_mul, Nat.add_zero] at c0 c1 c2
    have e0 : prevX ps 0 = -1 := rfl
    have hd : (x < 0) ∨ (¬ x < 0 ∧ 1000000 < x) ∨ (¬ x < 0 ∧ ¬ 1000000 < x ∧ lo < -1000000000) ∨ (¬ x < 0 ∧ ¬ 1000000 < x ∧ ¬ lo < -1000000000 ∧ hi < lo) ∨ (¬ x < 0 ∧ ¬ 1000000 < x ∧ ¬ lo < -1000000000 ∧ ¬ hi < lo ∧ 1000000000 < hi) ∨ (¬ x < 0 ∧ ¬ 1000000 < x ∧ ¬ lo < -1000000000 ∧ ¬ hi < lo ∧ ¬ 1000000000 < hi) := by omega
    rcases hd with h | ⟨h, h'⟩ | ⟨h, h', h''⟩ | ⟨h, h', h'', h3⟩ | ⟨h, h', h'', h3, h4⟩ | ⟨h, h', h'', h3, h4⟩
    case inr.inr.inr.inr.inr =>
     have hP : ptsOk (prevX ps 1) (ps.drop 1) = r := by
      have q1 := HP.out.1; have q2 := HA.out
      rw [← q1, q2, ptOk_yes (by omega) (by rw [e0]; omega) (by omega) (by omega) (by omega), HPX.out]; rfl
     have HP2 := Lib.hid (And.intro hP (And.intro (show -1 ≤ prevX ps 1 by rw [HPX.out]; dsimp only; omega) (show 0 < 1 → 0 ≤ prevX ps 1 by intro _; rw [HPX.out]; dsimp only; omega)))
     clear hP HP HA HR e0
     (first | have B0 := decide_eq_true (show x < 0 by assumption) | have B0 := decide_eq_false (show ¬ (x < 0) by assumption) | skip)
     (first | have B1 := decide_eq_true (show 1000000 < x by assumption) | have B1 := decide_eq_false (show ¬ (1000000 < x) by assumption) | skip)
     (first | have B2 := decide_eq_true (show lo < -1000000000 by assumption) | have B2 := decide_eq_false (show ¬ (lo < -1000000000) by assumption) | skip)
     (first | have B3 := decide_eq_true (show hi < lo by assumption) | have B3 := decide_eq_false (show ¬ (hi < lo) by assumption) | skip)
     (first | have B4 := decide_eq_true (show 1000000000 < hi by assumption) | have B4 := decide_eq_false (show ¬ (1000000000 < hi) by assumption) | skip)
     go_wp2_with fail
     go_quiet (fail)
     go_wp2
     go_roundw
     case rel => exact ⟨1, by omega, by go_num, below_drewM (HB.out.alloc HB.out.size _) _, HP2⟩
     case measure => simp [intOf]; omega
    all_goals
     have hf : r = false := by
      have q1 := HP.out.1; have q2 := HA.out
      rw [← q1, q2, ptOk_no (by rw [e0]; omega) (by omega)]; rfl
     subst hf
     clear HP HA HR e0
     (first | have B0 := decide_eq_true (show x < 0 by assumption) | have B0 := decide_eq_false (show ¬ (x < 0) by assumption) | skip)
     (first | have B1 := decide_eq_true (show 1000000 < x by assumption) | have B1 := decide_eq_false (show ¬ (1000000 < x) by assumption) | skip)
     (first | have B2 := decide_eq_true (show lo < -1000000000 by assumption) | have B2 := decide_eq_false (show ¬ (lo < -1000000000) by assumption) | skip)
     (first | have B3 := decide_eq_true (show hi < lo by assumption) | have B3 := decide_eq_false (show ¬ (hi < lo) by assumption) | skip)
     (first | have B4 := decide_eq_true (show 1000000000 < hi by assumption) | have B4 := decide_eq_false (show ¬ (1000000000 < hi) by assumption) | skip)
     go_wp2_with fail
     go_quiet (fail)
     go_wp2
     go_ret
     exact ⟨rfl, below_then HE.out (below_drewM (HB.out.alloc HB.out.size _) _)⟩
   ·obtain ⟨q, hq⟩ : ∃ q, ps[j]? = some q := ⟨_, List.getElem?_eq_getElem (by have := (List.getElem?_eq_some_iff.1 hp).1; omega)⟩
    have d0 := (HC.out j q hq).1
    rw [← HB.out.cell (p := ⟨b, o + j * 3, none⟩) hbW] at d0
    have e0 : prevX ps (j + 1) = q.1 := by simp [prevX, hq]
    obtain ⟨y, lo', hi'⟩ := q
    dsimp only at d0 e0
    clear hp hq
    have hy : 0 ≤ y := by have := HP.out.2.2 (by omega); rw [e0] at this; exact this
    have s1 : IntKind.i64.wrap ((j : Int) + 1 - 1) = (j : Int) := by rw [IntWalk.i64_in _ ⟨by omega, by omega⟩]; omega
    have s2 : (0 : Int) < (j : Int) + 1 := by omega
    have s3 : (0 : Int) ≤ (j : Int) := by omega
    have s5 : decide ((0 : Int) < (j : Int) + 1) = true := decide_eq_true (by omega)
    have s4 : (j : Int) < (n : Int) := by omega
    have HY := Lib.hid (And.intro hy e0); clear hy e0
    have hd : (x < 0) ∨ (¬ x < 0 ∧ 1000000 < x) ∨ (¬ x < 0 ∧ ¬ 1000000 < x ∧ x ≤ y) ∨ (¬ x < 0 ∧ ¬ 1000000 < x ∧ ¬ x ≤ y ∧ lo < -1000000000) ∨ (¬ x < 0 ∧ ¬ 1000000 < x ∧ ¬ x ≤ y ∧ ¬ lo < -1000000000 ∧ hi < lo) ∨ (¬ x < 0 ∧ ¬ 1000000 < x ∧ ¬ x ≤ y ∧ ¬ lo < -1000000000 ∧ ¬ hi < lo ∧ 1000000000 < hi) ∨ (¬ x < 0 ∧ ¬ 1000000 < x ∧ ¬ x ≤ y ∧ ¬ lo < -1000000000 ∧ ¬ hi < lo ∧ ¬ 1000000000 < hi) := by omega
    rcases hd with h | ⟨h, h'⟩ | ⟨h, h', h''⟩ | ⟨h, h', h'', h3⟩ | ⟨h, h', h'', h3, h4⟩ | ⟨h, h', h'', h3, h4, h5⟩ | ⟨h, h', h'', h3, h4, h5⟩
    case inr.inr.inr.inr.inr.inr =>
     have hP : ptsOk (prevX ps (j + 1 + 1)) (ps.drop (j + 1 + 1)) = r := by
      have q1 := HP.out.1; have q2 := HA.out
      rw [← q1, q2, ptOk_yes (by omega) (by rw [HY.out.2]; omega) (by omega) (by omega) (by omega), HPX.out]; rfl
     have HP2 := Lib.hid (And.intro hP (And.intro (show -1 ≤ prevX ps (j + 1 + 1) by rw [HPX.out]; dsimp only; omega) (show 0 < j + 1 + 1 → 0 ≤ prevX ps (j + 1 + 1) by intro _; rw [HPX.out]; dsimp only; omega)))
     clear hP HP HA HR
     (first | have B0 := decide_eq_true (show x < 0 by assumption) | have B0 := decide_eq_false (show ¬ (x < 0) by assumption) | skip)
     (first | have B1 := decide_eq_true (show 1000000 < x by assumption) | have B1 := decide_eq_false (show ¬ (1000000 < x) by assumption) | skip)
     (first | have B2 := decide_eq_true (show x ≤ y by assumption) | have B2 := decide_eq_false (show ¬ (x ≤ y) by assumption) | skip)
     (first | have B3 := decide_eq_true (show lo < -1000000000 by assumption) | have B3 := decide_eq_false (show ¬ (lo < -1000000000) by assumption) | skip)
     (first | have B4 := decide_eq_true (show hi < lo by assumption) | have B4 := decide_eq_false (show ¬ (hi < lo) by assumption) | skip)
     (first | have B5 := decide_eq_true (show 1000000000 < hi by assumption) | have B5 := decide_eq_false (show ¬ (1000000000 < hi) by assumption) | skip)
     go_wp2_with fail
     go_quiet (fail)
     go_wp2
     go_roundw
     case rel => exact ⟨j + 1 + 1, by omega, by go_num, below_drewM (HB.out.alloc HB.out.size _) _, HP2⟩
     case measure => simp [intOf]; omega
    all_goals
     have hf : r = false := by
      have q1 := HP.out.1; have q2 := HA.out
      rw [← q1, q2, ptOk_no (by rw [HY.out.2]; have := HY.out.1; omega) (by rw [HY.out.2]; omega)]; rfl
     subst hf
     clear HP HA HR
     (first | have B0 := decide_eq_true (show x < 0 by assumption) | have B0 := decide_eq_false (show ¬ (x < 0) by assumption) | skip)
     (first | have B1 := decide_eq_true (show 1000000 < x by assumption) | have B1 := decide_eq_false (show ¬ (1000000 < x) by assumption) | skip)
     (first | have B2 := decide_eq_true (show x ≤ y by assumption) | have B2 := decide_eq_false (show ¬ (x ≤ y) by assumption) | skip)
     (first | have B3 := decide_eq_true (show lo < -1000000000 by assumption) | have B3 := decide_eq_false (show ¬ (lo < -1000000000) by assumption) | skip)
     (first | have B4 := decide_eq_true (show hi < lo by assumption) | have B4 := decide_eq_false (show ¬ (hi < lo) by assumption) | skip)
     (first | have B5 := decide_eq_true (show 1000000000 < hi by assumption) | have B5 := decide_eq_false (show ¬ (1000000000 < hi) by assumption) | skip)
     go_wp2_with fail
     go_quiet (fail)
     go_wp2
     go_ret
     exact ⟨rfl, below_then HE.out (below_drewM (HB.out.alloc HB.out.size _) _)⟩
  ·have hf : r = true := by
    have h1 := HP.out.1
    rw [← h1, List.drop_eq_nil_of_le (by have := HN.out; omega)]; rfl
   subst hf
   clear HP HR
   go_wp2
   go_ret
   exact ⟨rfl, below_then HE.out hB⟩

theorem validTable_any (A : Option Addr) (n c : Nat) (ps : List P3) (w : World) (hn : n = ps.length) (hm : n ≤ maxLen) (hp : Pts w A ps) :
  Calls Tryz.prog 161 #[tv A n c] w fun e w' => e = .returned (.bool (tabOk ps)) ∧ Below w.heap.size w w' := by
 unfold maxLen at hm
 by_cases h : 1 ≤ n ∧ n ≤ 40
 ·have e : tabOk ps = ptsOk (-1) ps := by unfold tabOk; rw [← hn]; simp [h]
  rw [e]
  rcases hp with hp | ⟨b, o, rfl, hb, hc⟩
  ·exfalso; rw [hp] at hn; simp at hn; omega
  ·exact validTable_loop b o n c ps w hb hn h.1 h.2 hc
 ·have e : tabOk ps = false := by unfold tabOk; rw [← hn]; simp; omega
  rw [e]
  clear e hn hp
  have h2 : (n : Int) < 1 ∨ (¬ (n : Int) < 1 ∧ (40 : Int) < (n : Int)) := by omega
  clear h
  rcases h2 with h2 | ⟨h2, h3⟩
  all_goals
   go_enter Tryz.func161, Tryz.ntmps161
   go_wp2
   go_ret
   exact ⟨rfl, (Below.refl _ _).alloc (Nat.le_refl _) _⟩
end

section
theorem rising_pts : ∀ (ps : List P3) (last : Int), ptsOk last ps = true → -1 ≤ last → ps.Pairwise (fun p q => p.1 < q.1)
  | [], _, _, _ => .nil
  | p :: ps, last, h, hl => by
    have h1 := (okp_of (p :: ps) last h hl p (by simp))
    simp only [ptsOk, Bool.and_eq_true] at h
    refine .cons (fun q hq => ?_) (rising_pts ps p.1 h.2 (by have := h1.2; omega))
    exact (okp_of ps p.1 h.2 (by have := h1.2; omega) q hq).2
theorem rising_at {ps : List P3} (ht : tabOk ps = true) {i j : Nat} {p q : P3} (hi : ps[i]? = some p) (hj : ps[j]? = some q) (h : i < j) : p.1 < q.1 := by
  obtain ⟨li, rfl⟩ := List.getElem?_eq_some_iff.1 hi
  obtain ⟨lj, rfl⟩ := List.getElem?_eq_some_iff.1 hj
  exact List.pairwise_iff_getElem.1 (rising_pts ps (-1) (tabOk_pts ht) (by omega)) i j li lj h
theorem rising_le {ps : List P3} (ht : tabOk ps = true) {i j : Nat} {p q : P3} (hi : ps[i]? = some p) (hj : ps[j]? = some q) (h : i ≤ j) : p.1 ≤ q.1 := by
  rcases Nat.lt_or_ge i j with c | c
  · exact Int.le_of_lt (rising_at ht hi hj c)
  · have : i = j := by omega
    subst this
    rw [hi] at hj; injection hj with hj; subst hj; exact Int.le_refl _

theorem ceil_eq (m d : Int) (hd : 0 < d) : -(-m / d) = m / d + (if 0 < m % d then 1 else 0) := by
  have h1 := Int.mul_ediv_add_emod m d
  have h2 := Int.emod_nonneg m (show d ≠ 0 by omega)
  have h3 := Int.emod_lt_of_pos m hd
  by_cases hz : 0 < m % d
  · rw [if_pos hz]
    have : -m / d = -(m / d) - 1 := by
      refine ((Int.ediv_emod_unique (r := d - m % d) hd).2 ⟨?_, by omega, by omega⟩).1
      rw [Int.mul_sub, Int.mul_neg]; omega
    omega
  · rw [if_neg hz]
    have : -m / d = -(m / d) := by
      refine ((Int.ediv_emod_unique (r := 0) hd).2 ⟨?_, by omega, by omega⟩).1
      rw [Int.mul_neg]; omega
    omega

theorem atS_piece {ps : List P3} {i : Nat} {pq : P3 × P3} {x : Int} (hi : (pcs ps)[i]? = some pq) (hx : x ≤ pq.2.1) (hb : ∀ j, j < i → ∀ r, (pcs ps)[j]? = some r → r.2.1 < x) : atS ps x = pAt pq.1 pq.2 x := by
  obtain ⟨li, hi'⟩ := List.getElem?_eq_some_iff.1 hi
  have hf : (pcs ps).find? (fun r => decide (x ≤ r.2.1)) = some pq := by
    rw [List.find?_eq_some_iff_getElem]
    refine ⟨by simpa using hx, i, li, hi', fun j hj => ?_⟩
    have := hb j hj _ (List.getElem?_eq_getElem (by omega))
    simp; omega
  unfold atS
  rw [hf]
theorem pcs_at {ps : List P3} {i : Nat} {p q : P3} (h2 : 2 ≤ ps.length) (hp : ps[i]? = some p) (hq : ps[i + 1]? = some q) : (pcs ps)[i]? = some (p, q) := by
  rw [pcs_two h2, List.getElem?_zip_eq_some]
  exact ⟨hp, by rw [List.getElem?_tail]; exact hq⟩
theorem pcs_before {ps : List P3} {j : Nat} {r : P3 × P3} (h2 : 2 ≤ ps.length) (h : (pcs ps)[j]? = some r) : ps[j + 1]? = some r.2 := by
  rw [pcs_two h2, List.getElem?_zip_eq_some, List.getElem?_tail] at h
  exact h.2

theorem ref_at {ps : List P3} (ht : tabOk ps = true) {k : Nat} {p : P3} {x : Int} (hp : ps[k]? = some p) (h1 : p.1 ≤ x) (hl : x ≤ lastX ps) (hn : ∀ q, ps[k + 1]? = some q → x < q.1) :
    (p.1 = x → atS ps x = (p.2.1, p.2.2)) ∧
    (p.1 ≠ x → ∃ q, ps[k + 1]? = some q ∧ p.1 < x ∧ x < q.1 ∧ atS ps x = (p.2.1 + (q.2.1 - p.2.1) * (x - p.1) / (q.1 - p.1), upS (p.2.2 + (q.2.2 - p.2.2) * (x - p.1) / (q.1 - p.1)) ((q.2.2 - p.2.2) * (x - p.1) % (q.1 - p.1)))) := by
  have hk : k < ps.length := (List.getElem?_eq_some_iff.1 hp).1
  constructor
  · rintro rfl
    by_cases h2 : 2 ≤ ps.length
    · cases k with
      | zero =>
        obtain ⟨q, hq⟩ : ∃ q, ps[1]? = some q := ⟨_, List.getElem?_eq_getElem (by omega)⟩
        rw [atS_piece (pcs_at h2 hp hq) (Int.le_of_lt (rising_at ht hp hq (by omega))) (fun j hj => by omega)]
        simp [pAt, riseS]
      | succ k =>
        obtain ⟨q, hq⟩ : ∃ q, ps[k]? = some q := ⟨_, List.getElem?_eq_getElem (by omega)⟩
        have hlt := rising_at ht hq hp (by omega)
        rw [atS_piece (pcs_at h2 hq hp) (Int.le_refl _) (fun j hj r hr => rising_at ht (pcs_before h2 hr) hp (by omega))]
        have hm : max (p.1 - q.1) 1 = p.1 - q.1 := by omega
        simp only [pAt, riseS, hm]
        rw [Int.mul_ediv_cancel_left _ (by omega), Int.mul_ediv_cancel_left _ (by omega)]
        ext <;> dsimp only <;> omega
    · have h1 : ps.length = 1 := by omega
      obtain ⟨p', rfl⟩ := List.length_eq_one_iff.1 h1
      have : k = 0 := by simp at hk; exact hk
      subst this
      simp at hp; subst hp
      simp [atS, pcs, pAt, riseS]
  · intro hne
    have hlt : p.1 < x := by omega
    have hk1 : k + 1 < ps.length := by
      rcases Nat.lt_or_ge (k + 1) ps.length with c | c
      · exact c
      · have e : ps[ps.length - 1]? = some p := by rw [show ps.length - 1 = k by omega]; exact hp
        have : lastX ps = p.1 := by unfold lastX; rw [List.getLast?_eq_getElem?, e]; rfl
        omega
    obtain ⟨q, hq⟩ : ∃ q, ps[k + 1]? = some q := ⟨_, List.getElem?_eq_getElem hk1⟩
    have hxq := hn q hq
    refine ⟨q, hq, hlt, hxq, ?_⟩
    have h2 : 2 ≤ ps.length := by omega
    rw [atS_piece (pcs_at h2 hp hq) (Int.le_of_lt hxq) (fun j hj r hr => by have := rising_le ht (pcs_before h2 hr) hp (by omega); omega)]
    have hm : max (q.1 - p.1) 1 = q.1 - p.1 := by omega
    have hc := ceil_eq ((q.2.2 - p.2.2) * (x - p.1)) (q.1 - p.1) (by omega)
    have e1 : (x - p.1) * (q.2.1 - p.2.1) = (q.2.1 - p.2.1) * (x - p.1) := Int.mul_comm _ _
    have e2 : (x - p.1) * (p.2.2 - q.2.2) = -((q.2.2 - p.2.2) * (x - p.1)) := by rw [Int.mul_comm, ← Int.neg_mul]; congr 1; omega
    simp only [pAt, riseS, hm, e1, e2]
    ext
    · rfl
    · dsimp only
      unfold upS
      split at hc <;> rename_i hz
      · rw [if_pos hz]; omega
      · rw [if_neg hz]; omega
end

section
open Go.RowKit

def Apart (v v' : Value) : Prop := ∀ g, v.ownBlock = some g → v'.ownBlock = some g → False
theorem Apart.symm {v v' : Value} (h : Apart v v') : Apart v' v := fun g a b => h g b a
theorem apart_keep {base : Nat} {W w1 : World} {v1 v2 : Value} {L : List Int} (h : OwnInts base W v2 L) (hg : W.grownBy w1 v1.ownBlock) (ha : Apart v1 v2) : OwnInts base w1 v2 L :=
  World.ownsRow.kept (show W.ownsRow base 3 1 v2 _ _ from h) hg (by
    cases hv : v2.ownBlock with
    | none => exact .inl rfl
    | some g => exact .inr fun e => ha g e.symm hv)
theorem apart_new {base : Nat} {W : World} {v1 v2 : Value} {L : List Int} {g n cap : Nat} (h2 : OwnInts base W v2 L) (ha : Apart v1 v2) (hat : v1.ownBlock = some g ∨ g = W.heap.size) : Apart (.slice (some ⟨g, 0, none⟩) n cap) v2 := by
  intro g' e e'
  have : g = g' := by simpa [Value.ownBlock] using e
  subst this
  rcases hat with hat | hat
  · exact ha g hat e'
  · have := (World.ownsRow.lt (show W.ownsRow base 3 1 v2 _ _ from h2) g e').2
    omega
theorem apart_nil (v : Value) : Apart (.slice none 0 0) v := fun g e => by simp [Value.ownBlock] at e

def LinesAt (base : Nat) (W : World) (v1 v2 v3 : Value) (L : List P3) : Prop :=
  OwnInts base W v1 (L.map (·.1)) ∧ OwnInts base W v2 (L.map (·.2.1)) ∧ OwnInts base W v3 (L.map (·.2.2)) ∧ Apart v1 v2 ∧ Apart v1 v3 ∧ Apart v2 v3
theorem LinesAt.alloc {base : Nat} {W : World} {v1 v2 v3 : Value} {L : List P3} (h : LinesAt base W v1 v2 v3 L) (o : Obj) : LinesAt base (W.alloc o) v1 v2 v3 L :=
  ⟨h.1.alloc o, h.2.1.alloc o, h.2.2.1.alloc o, h.2.2.2⟩
set_option maxRecDepth 100000 in
set_option maxHeartbeats 2000000 in
theorem lines_any (b o n c : Nat) (ps : List P3) (w : World) (hn : n = ps.length) (h40 : n ≤ 40) (hb : b < w.heap.size) (hc : PtsAt w b o ps) :
  Calls Tryz.prog 191 #[tv (some ⟨b, o, none⟩) n c] w fun e w' => ∃ v1 v2 v3, e = .returned (.tuple #[v1, v2, v3]) ∧ LinesAt w.heap.size w' v1 v2 v3 ps ∧ Below w.heap.size w w' := by
 obtain ⟨i0, hi, hz0, hz1, hz2⟩ := info_parts Tryz.info3
 have HN := Lib.hid hn; clear hn
 have HC := Lib.hid hc; clear hc
 go_enter Tryz.func191, Tryz.ntmps191
 go_wp2_with fail
 go_loopw [5, 6, 7, 13] (fun v1 v2 v3 i wr => ∃ k : Nat, k ≤ n ∧ i = .int .i64 k ∧ LinesAt w.heap.size wr v1 v2 v3 (ps.take k) ∧ Below w.heap.size w wr) (fun _ _ _ i _ => n - (intOf i).toNat)
 case atStart => exact ⟨0, by omega, rfl, ⟨World.ownsRow_nil _ _ _ _, World.ownsRow_nil _ _ _ _, World.ownsRow_nil _ _ _ _, apart_nil _, apart_nil _, apart_nil _⟩, (Below.refl _ _).alloc (Nat.le_refl _) _⟩
 case round =>
  obtain ⟨k, hk, rfl, hL, hB⟩ := hrel
  by_cases hlt : k < n
  ·obtain ⟨p, hp⟩ : ∃ p, ps[k]? = some p := ⟨_, List.getElem?_eq_getElem (show k < ps.length by rw [← HN.out]; exact hlt)⟩
   obtain ⟨c0, c1, c2⟩ := HC.out k p hp
   rw [← hB.cell (p := ⟨b, o + k * 3, none⟩) hb] at c0
   rw [← hB.cell (p := ⟨b, o + k * 3 + 1, none⟩) hb] at c1
   rw [← hB.cell (p := ⟨b, o + k * 3 + 2, none⟩) hb] at c2
   have hS := take_snocP' hp
   have hlen : (ps.take k).length = k := by rw [List.length_take]; have := HN.out; omega
   obtain ⟨x, lo, hi'⟩ := p
   dsimp only at c0 c1 c2
   clear hp
   have HS := Lib.hid hS; clear hS
   obtain ⟨L, hLL⟩ : ∃ L, ps.take k = L := ⟨_, rfl⟩
   rw [hLL] at HS hlen hL
   clear hLL
   have HZ0 := Lib.hid (And.intro hL.1 (And.intro hL.2.1 hL.2.2.1))
   obtain ⟨q1, q2, q3, a12, a13, a23⟩ := (hL.alloc (.cells #[.int .i64 x, .int .i64 lo, .int .i64 hi'] 93)).alloc (.cells #[.int .i64 x] 3)
   have hcell := cell_one (wr.alloc (.cells #[.int .i64 x, .int .i64 lo, .int .i64 hi'] 93)) x 3
   rw [World.size_alloc] at hcell
   have bP := (Blk.new wr 93 #[.int .i64 x, .int .i64 lo, .int .i64 hi']).alloc (.cells #[.int .i64 x] 3)
   have hBB := (hB.alloc hB.size (.cells #[.int .i64 x, .int .i64 lo, .int .i64 hi'] 93)).alloc (by have := hB.size; simp; omega) (.cells #[.int .i64 x] 3)
   have H1 := Lib.hid q1; have H2 := Lib.hid q2; have H3 := Lib.hid q3; have HA := Lib.hid (And.intro a12 (And.intro a13 a23)); have HCE := Lib.hid hcell; have HP := Lib.hid bP; have HB := Lib.hid hBB; have HL := Lib.hid hlen; have HS0 := Lib.hid hB.size
   clear q1 q2 q3 a12 a13 a23 hcell bP hBB hlen hL hB
   -- the places
   go_wp2_with (at_builtin; refine wpList_append_lies _ rfl (.tmp 17) (.tmp 20) 39 rfl w.heap.size 3 i0 (.int .i64 0) 1 8 Tryz.underlying39 hi hz0 hz1 hz2 rfl (by decide) _ _ _ rfl H1.out ⟨wr.heap.size + 1, 0, none⟩ 1 1 [.int .i64 x] rfl rfl HCE.out (by simp [Value.oneCell']) (by omega) (by simp [maxLen]; rw [HL.out]; omega) (by simp; rw [HL.out]; omega) (by have := HS0.out; simp; omega) _ rfl ?_)
   intro g1 cap1 w1 o1 hg1 hat1 hl1
   have r1 : OwnInts w.heap.size w1 (.slice (some ⟨g1, 0, none⟩) (L.length + 1) cap1) (L.map (·.1) ++ [x]) := by unfold OwnInts; simpa using o1
   have r2 := apart_keep H2.out hg1 HA.out.1
   have r3 := apart_keep H3.out hg1 HA.out.2.1
   have b12 := apart_new (g := g1) (n := L.length + 1) (cap := cap1) H2.out HA.out.1 (by simpa using hat1)
   have b13 := apart_new (g := g1) (n := L.length + 1) (cap := cap1) H3.out HA.out.2.1 (by simpa using hat1)
   have b23 := HA.out.2.2
   have hP1 := HP.out.grown hg1 (fun e => by have := (World.ownsRow.lt HZ0.out.1 _ e.symm).2; omega)
   have hB1 := HB.out.grown hg1 HB.out.size (fun j hj => (World.ownsRow.lt HZ0.out.1 j hj).1)
   have p1 := hP1.cell 1
   have lP := hP1.lt
   simp at p1
   have G1 := Lib.hid (r1.alloc (.cells #[.int .i64 lo] 3)); have G2 := Lib.hid (r2.alloc (.cells #[.int .i64 lo] 3)); have G3 := Lib.hid (r3.alloc (.cells #[.int .i64 lo] 3))
   have GA := Lib.hid (And.intro b12 (And.intro b13 b23)); have GCE := Lib.hid (cell_one w1 lo 3); have GP := Lib.hid (hP1.alloc (.cells #[.int .i64 lo] 3)); have GB := Lib.hid (hB1.alloc hB1.size (.cells #[.int .i64 lo] 3)); have GS := Lib.hid hB1.size
   clear o1 hg1 hat1 hl1 r1 r2 r3 b12 b13 b23 hP1 hB1 H1 H2 H3 HA HCE HP HB
   -- the lower line
   go_wp2_with (at_builtin; refine wpList_append_lies _ rfl (.tmp 22) (.tmp 25) 39 rfl w.heap.size 3 i0 (.int .i64 0) 1 8 Tryz.underlying39 hi hz0 hz1 hz2 rfl (by decide) _ _ _ rfl G2.out ⟨w1.heap.size, 0, none⟩ 1 1 [.int .i64 lo] rfl rfl GCE.out (by simp [Value.oneCell']) (by omega) (by simp [maxLen]; rw [HL.out]; omega) (by simp; rw [HL.out]; omega) (by have := GS.out; simp; omega) _ rfl ?_)
   intro g2 cap2 w2 o2 hg2 hat2 hl2
   have r2 : OwnInts w.heap.size w2 (.slice (some ⟨g2, 0, none⟩) (L.length + 1) cap2) (L.map (·.2.1) ++ [lo]) := by unfold OwnInts; simpa using o2
   have r1 := apart_keep G1.out hg2 GA.out.1.symm
   have r3 := apart_keep G3.out hg2 GA.out.2.2
   have b21 := apart_new (g := g2) (n := L.length + 1) (cap := cap2) G1.out GA.out.1.symm (by simpa using hat2)
   have b23 := apart_new (g := g2) (n := L.length + 1) (cap := cap2) G3.out GA.out.2.2 (by simpa using hat2)
   have b13 := GA.out.2.1
   have hP2 := GP.out.grown hg2 (fun e => by have := (World.ownsRow.lt HZ0.out.2.1 _ e.symm).2; omega)
   have hB2 := GB.out.grown hg2 GB.out.size (fun j hj => (World.ownsRow.lt HZ0.out.2.1 j hj).1)
   clear p1 lP
   have p2 := hP2.cell 2
   have lP := hP2.lt
   simp at p2
   have K1 := Lib.hid (r1.alloc (.cells #[.int .i64 hi'] 3)); have K2 := Lib.hid (r2.alloc (.cells #[.int .i64 hi'] 3)); have K3 := Lib.hid (r3.alloc (.cells #[.int .i64 hi'] 3))
   have KA := Lib.hid (And.intro b21 (And.intro b13 b23)); have KCE := Lib.hid (cell_one w2 hi' 3); have KB := Lib.hid (hB2.alloc hB2.size (.cells #[.int .i64 hi'] 3)); have KS := Lib.hid hB2.size
   clear o2 hg2 hat2 hl2 r1 r2 r3 b21 b13 b23 hP2 hB2 G1 G2 G3 GA GCE GP GB
   -- the upper line
   go_wp2_with (at_builtin; refine wpList_append_lies _ rfl (.tmp 27) (.tmp 30) 39 rfl w.heap.size 3 i0 (.int .i64 0) 1 8 Tryz.underlying39 hi hz0 hz1 hz2 rfl (by decide) _ _ _ rfl K3.out ⟨w2.heap.size, 0, none⟩ 1 1 [.int .i64 hi'] rfl rfl KCE.out (by simp [Value.oneCell']) (by omega) (by simp [maxLen]; rw [HL.out]; omega) (by simp; rw [HL.out]; omega) (by have := KS.out; simp; omega) _ rfl ?_)
   intro g3 cap3 w3 o3 hg3 hat3 hl3
   have r3 : OwnInts w.heap.size w3 (.slice (some ⟨g3, 0, none⟩) (L.length + 1) cap3) (L.map (·.2.2) ++ [hi']) := by unfold OwnInts; simpa using o3
   have r1 := apart_keep K1.out hg3 KA.out.2.1.symm
   have r2 := apart_keep K2.out hg3 KA.out.2.2.symm
   have b31 := apart_new (g := g3) (n := L.length + 1) (cap := cap3) K1.out KA.out.2.1.symm (by simpa using hat3)
   have b32 := apart_new (g := g3) (n := L.length + 1) (cap := cap3) K2.out KA.out.2.2.symm (by simpa using hat3)
   have b21 := KA.out.1
   have hB3 := KB.out.grown hg3 KB.out.size (fun j hj => (World.ownsRow.lt HZ0.out.2.2 j hj).1)
   have hR : LinesAt w.heap.size w3 (.slice (some ⟨g1, 0, none⟩) (L.length + 1) cap1) (.slice (some ⟨g2, 0, none⟩) (L.length + 1) cap2) (.slice (some ⟨g3, 0, none⟩) (L.length + 1) cap3) (ps.take (k + 1)) := by
    rw [HS.out]
    exact ⟨by simpa using r1, by simpa using r2, by simpa using r3, b21.symm, b31.symm, b32.symm⟩
   have HR := Lib.hid hR; have HB3 := Lib.hid hB3
   clear o3 hg3 hat3 hl3 r1 r2 r3 b31 b32 b21 hB3 hR p2 lP
   go_wp2
   go_roundw
   case rel => exact ⟨k + 1, by omega, by go_num, HR.out, HB3.out⟩
   case measure => simp [intOf]; omega
  ·have hkn : ps.take k = ps := List.take_of_length_le (by have := HN.out; omega)
   rw [hkn] at hL
   have HL := Lib.hid hL; have HB := Lib.hid hB; clear hL hB hkn
   go_wp2
   go_ret3
   exact ⟨_, _, _, rfl, HL.out, HB.out⟩
end

end Go.Proofs.YtekkiedlajhaiaaGreat
