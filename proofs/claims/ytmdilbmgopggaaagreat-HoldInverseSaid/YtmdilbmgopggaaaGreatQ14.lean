/- The contracts of First, Last, inside and up (the specification). Their conditions: the table has a point, its points lie in memory. The contract of ValidTable (the specification). Its condition: the table's points lie in memory. -/
import Derived.BigQuiet
import Derived.Test.YtmdilbmgopggaaaGreatQ07
import Derived.Test.YtmdilbmgopggaaaGreatQ13
set_option linter.unusedVariables false
set_option linter.unusedSimpArgs false
set_option linter.constructorNameAsVariable false
namespace Go.Proofs.YtmdilbmgopggaaaGreat

section
open Go.RowKit

theorem rFirst_any (b o m c : Nat) (x : Int) (w : World) (hb : b < w.heap.size) (h0 : w.cell? ⟨b, o, none⟩ = some (.int .i64 x)) :
    Calls Tryz.prog 227 #[tv (some ⟨b, o, none⟩) (m + 1) c] w fun e w' => e = .returned (.int .i64 x) ∧ Below w.heap.size w w' := by
  have k2 : (0 : Int) < (m : Int) + 1 := by omega
  have z1 : (w.alloc (.cells #[.slice (some ⟨b, o, none⟩) (m + 1) c] 26)).cell? ⟨b, o, none⟩ = some (.int .i64 x) := by
    rw [World.cell?_alloc_lt _ _ _ hb]; exact h0
  go_enter Tryz.func227, Tryz.ntmps227
  go_wp2
  go_ret
  exact ⟨rfl, (Below.refl _ _).alloc (Nat.le_refl _) _⟩
theorem rLast_any (b o m c : Nat) (x : Int) (w : World) (hm : (m : Int) ≤ 1000000) (hb : b < w.heap.size) (h0 : w.cell? ⟨b, o + m * 3, none⟩ = some (.int .i64 x)) :
    Calls Tryz.prog 228 #[tv (some ⟨b, o, none⟩) (m + 1) c] w fun e w' => e = .returned (.int .i64 x) ∧ Below w.heap.size w w' := by
  have k1 : (0 : Int) ≤ (m : Int) := by omega
  have k2 : (m : Int) < (m : Int) + 1 := by omega
  have k3 : IntKind.i64.wrap ((m : Int) + 1 - 1) = (m : Int) := by rw [IntWalk.i64_in _ ⟨by omega, by omega⟩]; omega
  have z1 : (w.alloc (.cells #[.slice (some ⟨b, o, none⟩) (m + 1) c] 26)).cell? ⟨b, o + m * 3, none⟩ = some (.int .i64 x) := by
    rw [World.cell?_alloc_lt _ _ _ hb]; exact h0
  go_enter Tryz.func228, Tryz.ntmps228
  go_wp2
  go_ret
  exact ⟨rfl, (Below.refl _ _).alloc (Nat.le_refl _) _⟩

theorem first_at {w : World} {b o : Nat} {ps : List P3} (h : PtsAt w b o ps) (hl : 1 ≤ ps.length) : w.cell? ⟨b, o, none⟩ = some (.int .i64 (firstX ps)) := by
  have e0 : ps[0]? = some (ps[0]'(by omega)) := List.getElem?_eq_getElem (by omega)
  have f0 : firstX ps = (ps[0]'(by omega)).1 := by unfold firstX; rw [List.head?_eq_getElem?, e0]; rfl
  have g0 := (h 0 _ e0).1
  rw [Nat.zero_mul, Nat.add_zero] at g0
  rw [f0]; exact g0
theorem last_at {w : World} {b o m : Nat} {ps : List P3} (h : PtsAt w b o ps) (hl : ps.length = m + 1) : w.cell? ⟨b, o + m * 3, none⟩ = some (.int .i64 (lastX ps)) := by
  have em : ps[m]? = some (ps[m]'(by omega)) := List.getElem?_eq_getElem (by omega)
  have fm : lastX ps = (ps[m]'(by omega)).1 := by
    unfold lastX
    rw [List.getLast?_eq_getElem?, show ps.length - 1 = m by omega, em]; rfl
  rw [fm]; exact (h m _ em).1
theorem rFirst_tab (b o n c : Nat) (ps : List P3) (w : World) (hn : n = ps.length) (h1 : 1 ≤ n) (hb : b < w.heap.size) (hc : PtsAt w b o ps) :
    Calls Tryz.prog 227 #[tv (some ⟨b, o, none⟩) n c] w fun e w' => e = .returned (.int .i64 (firstX ps)) ∧ Below w.heap.size w w' := by
  obtain ⟨m, rfl⟩ : ∃ m, n = m + 1 := ⟨n - 1, by omega⟩
  exact rFirst_any b o m c _ w hb (first_at hc (by omega))
theorem rLast_tab (b o n c : Nat) (ps : List P3) (w : World) (hn : n = ps.length) (h1 : 1 ≤ n) (h40 : n ≤ 40) (hb : b < w.heap.size) (hc : PtsAt w b o ps) :
    Calls Tryz.prog 228 #[tv (some ⟨b, o, none⟩) n c] w fun e w' => e = .returned (.int .i64 (lastX ps)) ∧ Below w.heap.size w w' := by
  obtain ⟨m, rfl⟩ : ∃ m, n = m + 1 := ⟨n - 1, by omega⟩
  exact rLast_any b o m c _ w (by omega) hb (last_at hc (by omega))

/-- inside -/
def insideS (ps : List P3) (x : Int) : Bool := decide (firstX ps ≤ x) && decide (x ≤ lastX ps)
set_option maxRecDepth 100000 in
set_option maxHeartbeats 1000000 in
theorem inside_any (b o n c : Nat) (ps : List P3) (x : Int) (w : World) (hn : n = ps.length) (h1 : 1 ≤ n) (h40 : n ≤ 40) (hb : b < w.heap.size) (hc : PtsAt w b o ps) :
    Calls Tryz.prog 207 #[tv (some ⟨b, o, none⟩) n c, .int .i64 x] w fun e w' => e = .returned (.bool (insideS ps x)) ∧ Below w.heap.size w w' := by
  obtain ⟨X0, hX0⟩ : ∃ X, firstX ps = X := ⟨_, rfl⟩
  obtain ⟨X1, hX1⟩ : ∃ X, lastX ps = X := ⟨_, rfl⟩
  have CF : Hid (∀ W, Below w.heap.size w W → Calls Tryz.prog 227 #[tv (some ⟨b, o, none⟩) n c] W fun e w' => e = .returned (.int .i64 X0) ∧ Below W.heap.size W w') :=
    Lib.hid fun W hW => by rw [← hX0]; exact rFirst_tab b o n c ps W hn h1 (Nat.lt_of_lt_of_le hb hW.size) (hc.below hW hb)
  have CL : Hid (∀ W, Below w.heap.size w W → Calls Tryz.prog 228 #[tv (some ⟨b, o, none⟩) n c] W fun e w' => e = .returned (.int .i64 X1) ∧ Below W.heap.size W w') :=
    Lib.hid fun W hW => by rw [← hX1]; exact rLast_tab b o n c ps W hn h1 h40 (Nat.lt_of_lt_of_le hb hW.size) (hc.below hW hb)
  have hv : insideS ps x = (decide (X0 ≤ x) && decide (x ≤ X1)) := by unfold insideS; rw [hX0, hX1]
  have HV := Lib.hid hv; clear hv hX0 hX1 hc hn
  have hE : Below w.heap.size w (w.alloc (.cells #[.slice (some ⟨b, o, none⟩) n c] 26)) := (Below.refl _ _).alloc (Nat.le_refl _) _
  have bT := Blk.new w 26 #[.slice (some ⟨b, o, none⟩) n c]
  have HE := Lib.hid hE; have HT := Lib.hid bT; clear hE bT
  by_cases c1 : X0 ≤ x
  · by_cases c2 : x ≤ X1
    all_goals
      go_enter Tryz.func207, Tryz.ntmps207
      go_wp2_with fail
      refine (CF.out _ HE.out).mono ?_
      rintro e w1 ⟨rfl, hb1⟩
      have t0 := (HT.out.below hb1 HT.out.lt).cell 0
      simp at t0
      have HE1 := Lib.hid (below_then HE.out hb1)
      clear hb1
      go_wp2_with fail
      refine (CL.out _ HE1.out).mono ?_
      rintro e w2 ⟨rfl, hb2⟩
      have HE2 := Lib.hid (below_then HE1.out hb2)
      clear hb2 t0
      go_wp2
      go_ret
      exact ⟨by rw [HV.out]; simp [c1, c2], HE2.out⟩
  · go_enter Tryz.func207, Tryz.ntmps207
    go_wp2_with fail
    refine (CF.out _ HE.out).mono ?_
    rintro e w1 ⟨rfl, hb1⟩
    have HE1 := Lib.hid (below_then HE.out hb1)
    clear hb1
    go_wp2
    go_ret
    exact ⟨by rw [HV.out, decide_eq_false (show ¬ X0 ≤ x by omega)]; rfl, HE1.out⟩

/-- up -/
def upS (W N : Int) : Int := if 0 < N then W + 1 else W
set_option maxRecDepth 100000 in
theorem up_any (W N D : Int) (w : World) (h1 : -9000000000000000000 ≤ W) (h2 : W ≤ 9000000000000000000) :
    Calls Tryz.prog 231 #[.agg #[.int .i64 W, .int .i64 N, .int .i64 D]] w fun e w' => e = .returned (.int .i64 (upS W N)) ∧ Below w.heap.size w w' := by
  have k1 : IntKind.i64.wrap (W + 1) = W + 1 := IntWalk.i64_in _ ⟨by omega, by omega⟩
  unfold upS
  by_cases h : 0 < N
  · rw [if_pos h]
    go_enter Tryz.func231, Tryz.ntmps231
    go_wp2
    go_ret
    exact ⟨rfl, (Below.refl _ _).alloc (Nat.le_refl _) _⟩
  · rw [if_neg h]
    go_enter Tryz.func231, Tryz.ntmps231
    go_wp2
    go_ret
    exact ⟨rfl, (Below.refl _ _).alloc (Nat.le_refl _) _⟩
end

section
open Go.RowKit

/-- The place of the point ahead. -/
def prevX (ps : List P3) : Nat → Int
  | 0 => -1
  | k + 1 => (ps[k]?.map (·.1)).getD (-1)
theorem ptOk_no {last x lo hi : Int} (h0 : -1 ≤ last) (h : x < 0 ∨ 1000000 < x ∨ x ≤ last ∨ lo < -1000000000 ∨ hi < lo ∨ 1000000000 < hi) : ptOk last (x, lo, hi) = false := by
  simp [ptOk, inB]; omega
theorem ptOk_yes {last x lo hi : Int} (h1 : x ≤ 1000000) (h2 : last < x) (h3 : -1000000000 ≤ lo) (h4 : lo ≤ hi) (h5 : hi ≤ 1000000000) : ptOk last (x, lo, hi) = true := by
  simp [ptOk, inB, h1, h2, h3, h4, h5]

set_option maxRecDepth 100000 in
set_option maxHeartbeats 4000000 in
theorem validTable_loop (b o n c : Nat) (ps : List P3) (w : World) (hb : b < w.heap.size) (hn : n = ps.length) (h1 : 1 ≤ n) (h2 : n ≤ 40) (hc : PtsAt w b o ps) :
    Calls Tryz.prog 192 #[tv (some ⟨b, o, none⟩) n c] w fun e w' => e = .returned (.bool (ptsOk (-1) ps)) ∧ Below w.heap.size w w' := by
  have HN := Lib.hid hn; clear hn
  have hE : Below w.heap.size w (w.alloc (.cells #[.slice (some ⟨b, o, none⟩) n c] 26)) := (Below.refl _ _).alloc (Nat.le_refl _) _
  have HC := Lib.hid (hc.below hE hb); clear hc
  have bT := Blk.new w 26 #[.slice (some ⟨b, o, none⟩) n c]
  have t1 : ¬ (n : Int) < 1 := by omega
  have t2 : ¬ (40 : Int) < (n : Int) := by omega
  generalize hr : ptsOk (-1) ps = r
  have HR := Lib.hid hr; clear hr
  have HE := Lib.hid hE; have HT := Lib.hid bT; clear hE bT
  go_enter Tryz.func192, Tryz.ntmps192
  go_wp2_with fail
  obtain ⟨A, hA⟩ : ∃ A, w.heap.size = A := ⟨_, rfl⟩
  obtain ⟨W0, hW0⟩ : ∃ W0, w.alloc (.cells #[.slice (some ⟨b, o, none⟩) n c] 26) = W0 := ⟨_, rfl⟩
  have hbW : b < W0.heap.size := by rw [← hW0]; simp; omega
  rw [hW0] at HC HE HT ⊢
  rw [hA] at HT ⊢
  clear hW0
  go_loopw [18] (fun i wr => ∃ k : Nat, k ≤ n ∧ i = .int .i64 k ∧ Below W0.heap.size W0 wr ∧ Hid (ptsOk (prevX ps k) (ps.drop k) = r ∧ -1 ≤ prevX ps k ∧ (0 < k → 0 ≤ prevX ps k))) (fun i _ => n - (intOf i).toNat)
  case atStart => exact ⟨0, by omega, rfl, Below.refl _ _, HR.out, by simp [prevX], by omega⟩
  case round =>
    obtain ⟨k, hk, rfl, hB, HP⟩ := hrel
    by_cases hlt : k < n
    · obtain ⟨p, hp⟩ : ∃ p, ps[k]? = some p := ⟨_, List.getElem?_eq_getElem (show k < ps.length by rw [← HN.out]; exact hlt)⟩
      obtain ⟨c0, c1, c2⟩ := HC.out k p hp
      rw [← hB.cell (p := ⟨b, o + k * 3, none⟩) hbW] at c0
      rw [← hB.cell (p := ⟨b, o + k * 3 + 1, none⟩) hbW] at c1
      rw [← hB.cell (p := ⟨b, o + k * 3 + 2, none⟩) hbW] at c2
      have HA := Lib.hid (ptsOk_at (last := prevX ps k) hp)
      have hT := HT.out.below hB HT.out.lt
      have v0 := hT.cell 0
      have lA := hT.lt
      simp at v0
      have HPX := Lib.hid (show prevX ps (k + 1) = p.1 by simp [prevX, hp])
      obtain ⟨x, lo, hi⟩ := p
      dsimp only at c0 c1 c2
      have hbw : b < wr.heap.size := Nat.lt_of_lt_of_le hbW hB.size
      have HB := Lib.hid hB; clear hB hT
      -- the point ahead
      have hprev : k = 0 ∨ ∃ j, k = j + 1 := by cases k with
        | zero => exact .inl rfl
        | succ j => exact .inr ⟨j, rfl⟩
      rcases hprev with rfl | ⟨j, rfl⟩
      · clear hp
        simp only [Nat.zero_mul, Nat.add_zero] at c0 c1 c2
        have e0 : prevX ps 0 = -1 := rfl
        have hd : (x < 0) ∨ (¬ x < 0 ∧ 1000000 < x) ∨ (¬ x < 0 ∧ ¬ 1000000 < x ∧ lo < -1000000000) ∨ (¬ x < 0 ∧ ¬ 1000000 < x ∧ ¬ lo < -1000000000 ∧ hi < lo) ∨ (¬ x < 0 ∧ ¬ 1000000 < x ∧ ¬ lo < -1000000000 ∧ ¬ hi < lo ∧ 1000000000 < hi) ∨ (¬ x < 0 ∧ ¬ 1000000 < x ∧ ¬ lo < -1000000000 ∧ ¬ hi < lo ∧ ¬ 1000000000 < hi) := by omega
        rcases hd with h | ⟨h, h'⟩ | ⟨h, h', h''⟩ | ⟨h, h', h'', h3⟩ | ⟨h, h', h'', h3, h4⟩ | ⟨h, h', h'', h3, h4⟩
        case inr.inr.inr.inr.inr =>
          have hP : ptsOk (prevX ps 1) (ps.drop 1) = r := by
            have q1 := HP.out.1; have q2 := HA.out
            rw [← q1, q2, ptOk_yes (by omega) (by rw [e0]; omega) (by omega) (by omega) (by omega), HPX.out]; rfl
          have HP2 := Lib.hid (And.intro hP (And.intro (show -1 ≤ prevX ps 1 by rw [HPX.out]; dsimp only; omega) (show 0 < 1 → 0 ≤ prevX ps 1 by intro _; rw [HPX.out]; dsimp only; omega)))
          clear hP HP HA HR e0
          (first | have B0 := decide_eq_true (show x < 0 by assumption) | have B0 := decide_eq_false (show ¬ (x < 0) by assumption) | skip)
          (first | have B1 := decide_eq_true (show 1000000 < x by assumption) | have B1 := decide_eq_false (show ¬ (1000000 < x) by assumption) | skip)
          (first | have B2 := decide_eq_true (show lo < -1000000000 by assumption) | have B2 := decide_eq_false (show ¬ (lo < -1000000000) by assumption) | skip)
          (first | have B3 := decide_eq_true (show hi < lo by assumption) | have B3 := decide_eq_false (show ¬ (hi < lo) by assumption) | skip)
          (first | have B4 := decide_eq_true (show 1000000000 < hi by assumption) | have B4 := decide_eq_false (show ¬ (1000000000 < hi) by assumption) | skip)
          go_wp2_with fail
          go_quiet (fail)
          go_wp2
          go_roundw
          case rel => exact ⟨1, by omega, by go_num, below_drewM (HB.out.alloc HB.out.size _) _, HP2⟩
          case measure => simp [intOf]; omega
        all_goals
          have hf : r = false := by
            have q1 := HP.out.1; have q2 := HA.out
            rw [← q1, q2, ptOk_no (by rw [e0]; omega) (by omega)]; rfl
          subst hf
          clear HP HA HR e0
          (first | have B0 := decide_eq_true (show x < 0 by assumption) | have B0 := decide_eq_false (show ¬ (x < 0) by assumption) | skip)
          (first | have B1 := decide_eq_true (show 1000000 < x by assumption) | have B1 := decide_eq_false (show ¬ (1000000 < x) by assumption) | skip)
          (first | have B2 := decide_eq_true (show lo < -1000000000 by assumption) | have B2 := decide_eq_false (show ¬ (lo < -1000000000) by assumption) | skip)
          (first | have B3 := decide_eq_true (show hi < lo by assumption) | have B3 := decide_eq_false (show ¬ (hi < lo) by assumption) | skip)
          (first | have B4 := decide_eq_true (show 1000000000 < hi by assumption) | have B4 := decide_eq_false (show ¬ (1000000000 < hi) by assumption) | skip)
          go_wp2_with fail
          go_quiet (fail)
          go_wp2
          go_ret
          exact ⟨rfl, below_then HE.out (below_drewM (HB.out.alloc HB.out.size _) _)⟩
      · obtain ⟨q, hq⟩ : ∃ q, ps[j]? = some q := ⟨_, List.getElem?_eq_getElem (by have := (List.getElem?_eq_some_iff.1 hp).1; omega)⟩
        have d0 := (HC.out j q hq).1
        rw [← HB.out.cell (p := ⟨b, o + j * 3, none⟩) hbW] at d0
        have e0 : prevX ps (j + 1) = q.1 := by simp [prevX, hq]
        obtain ⟨y, lo', hi'⟩ := q
        dsimp only at d0 e0
        clear hp hq
        have hy : 0 ≤ y := by have := HP.out.2.2 (by omega); rw [e0] at this; exact this
        have s1 : IntKind.i64.wrap ((j : Int) + 1 - 1) = (j : Int) := by rw [IntWalk.i64_in _ ⟨by omega, by omega⟩]; omega
        have s2 : (0 : Int) < (j : Int) + 1 := by omega
        have s3 : (0 : Int) ≤ (j : Int) := by omega
        have s5 : decide ((0 : Int) < (j : Int) + 1) = true := decide_eq_true (by omega)
        have s4 : (j : Int) < (n : Int) := by omega
        have HY := Lib.hid (And.intro hy e0); clear hy e0
        have hd : (x < 0) ∨ (¬ x < 0 ∧ 1000000 < x) ∨ (¬ x < 0 ∧ ¬ 1000000 < x ∧ x ≤ y) ∨ (¬ x < 0 ∧ ¬ 1000000 < x ∧ ¬ x ≤ y ∧ lo < -1000000000) ∨ (¬ x < 0 ∧ ¬ 1000000 < x ∧ ¬ x ≤ y ∧ ¬ lo < -1000000000 ∧ hi < lo) ∨ (¬ x < 0 ∧ ¬ 1000000 < x ∧ ¬ x ≤ y ∧ ¬ lo < -1000000000 ∧ ¬ hi < lo ∧ 1000000000 < hi) ∨ (¬ x < 0 ∧ ¬ 1000000 < x ∧ ¬ x ≤ y ∧ ¬ lo < -1000000000 ∧ ¬ hi < lo ∧ ¬ 1000000000 < hi) := by omega
        rcases hd with h | ⟨h, h'⟩ | ⟨h, h', h''⟩ | ⟨h, h', h'', h3⟩ | ⟨h, h', h'', h3, h4⟩ | ⟨h, h', h'', h3, h4, h5⟩ | ⟨h, h', h'', h3, h4, h5⟩
        case inr.inr.inr.inr.inr.inr =>
          have hP : ptsOk (prevX ps (j + 1 + 1)) (ps.drop (j + 1 + 1)) = r := by
            have q1 := HP.out.1; have q2 := HA.out
            rw [← q1, q2, ptOk_yes (by omega) (by rw [HY.out.2]; omega) (by omega) (by omega) (by omega), HPX.out]; rfl
          have HP2 := Lib.hid (And.intro hP (And.intro (show -1 ≤ prevX ps (j + 1 + 1) by rw [HPX.out]; dsimp only; omega) (show 0 < j + 1 + 1 → 0 ≤ prevX ps (j + 1 + 1) by intro _; rw [HPX.out]; dsimp only; omega)))
          clear hP HP HA HR
          (first | have B0 := decide_eq_true (show x < 0 by assumption) | have B0 := decide_eq_false (show ¬ (x < 0) by assumption) | skip)
          (first | have B1 := decide_eq_true (show 1000000 < x by assumption) | have B1 := decide_eq_false (show ¬ (1000000 < x) by assumption) | skip)
          (first | have B2 := decide_eq_true (show x ≤ y by assumption) | have B2 := decide_eq_false (show ¬ (x ≤ y) by assumption) | skip)
          (first | have B3 := decide_eq_true (show lo < -1000000000 by assumption) | have B3 := decide_eq_false (show ¬ (lo < -1000000000) by assumption) | skip)
          (first | have B4 := decide_eq_true (show hi < lo by assumption) | have B4 := decide_eq_false (show ¬ (hi < lo) by assumption) | skip)
          (first | have B5 := decide_eq_true (show 1000000000 < hi by assumption) | have B5 := decide_eq_false (show ¬ (1000000000 < hi) by assumption) | skip)
          go_wp2_with fail
          go_quiet (fail)
          go_wp2
          go_roundw
          case rel => exact ⟨j + 1 + 1, by omega, by go_num, below_drewM (HB.out.alloc HB.out.size _) _, HP2⟩
          case measure => simp [intOf]; omega
        all_goals
          have hf : r = false := by
            have q1 := HP.out.1; have q2 := HA.out
            rw [← q1, q2, ptOk_no (by rw [HY.out.2]; have := HY.out.1; omega) (by rw [HY.out.2]; omega)]; rfl
          subst hf
          clear HP HA HR
          (first | have B0 := decide_eq_true (show x < 0 by assumption) | have B0 := decide_eq_false (show ¬ (x < 0) by assumption) | skip)
          (first | have B1 := decide_eq_true (show 1000000 < x by assumption) | have B1 := decide_eq_false (show ¬ (1000000 < x) by assumption) | skip)
          (first | have B2 := decide_eq_true (show x ≤ y by assumption) | have B2 := decide_eq_false (show ¬ (x ≤ y) by assumption) | skip)
          (first | have B3 := decide_eq_true (show lo < -1000000000 by assumption) | have B3 := decide_eq_false (show ¬ (lo < -1000000000) by assumption) | skip)
          (first | have B4 := decide_eq_true (show hi < lo by assumption) | have B4 := decide_eq_false (show ¬ (hi < lo) by assumption) | skip)
          (first | have B5 := decide_eq_true (show 1000000000 < hi by assumption) | have B5 := decide_eq_false (show ¬ (1000000000 < hi) by assumption) | skip)
          go_wp2_with fail
          go_quiet (fail)
          go_wp2
          go_ret
          exact ⟨rfl, below_then HE.out (below_drewM (HB.out.alloc HB.out.size _) _)⟩
    · have hf : r = true := by
        have h1 := HP.out.1
        rw [← h1, List.drop_eq_nil_of_le (by have := HN.out; omega)]; rfl
      subst hf
      clear HP HR
      go_wp2
      go_ret
      exact ⟨rfl, below_then HE.out hB⟩

theorem validTable_any (A : Option Addr) (n c : Nat) (ps : List P3) (w : World) (hn : n = ps.length) (hm : n ≤ maxLen) (hp : Pts w A ps) :
    Calls Tryz.prog 192 #[tv A n c] w fun e w' => e = .returned (.bool (tabOk ps)) ∧ Below w.heap.size w w' := by
  unfold maxLen at hm
  by_cases h : 1 ≤ n ∧ n ≤ 40
  · have e : tabOk ps = ptsOk (-1) ps := by unfold tabOk; rw [← hn]; simp [h]
    rw [e]
    rcases hp with hp | ⟨b, o, rfl, hb, hc⟩
    · exfalso; rw [hp] at hn; simp at hn; omega
    · exact validTable_loop b o n c ps w hb hn h.1 h.2 hc
  · have e : tabOk ps = false := by unfold tabOk; rw [← hn]; simp; omega
    rw [e]
    clear e hn hp
    have h2 : (n : Int) < 1 ∨ (¬ (n : Int) < 1 ∧ (40 : Int) < (n : Int)) := by omega
    clear h
    rcases h2 with h2 | ⟨h2, h3⟩
    all_goals
      go_enter Tryz.func192, Tryz.ntmps192
      go_wp2
      go_ret
      exact ⟨rfl, (Below.refl _ _).alloc (Nat.le_refl _) _⟩
end

end Go.Proofs.YtmdilbmgopggaaaGreat
