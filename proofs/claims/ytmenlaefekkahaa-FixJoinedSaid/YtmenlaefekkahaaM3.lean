/- The contracts of CheckTable (the specification) and CheckCurve (fix and the specification). Their condition: the points and the numbers lie in memory. The contract of CheckCurve (fix), for all tables and numbers. Its condition: the points and the numbers lie in memory. -/
import Derived.Test.YtmenlaefekkahaaM2
import Derived.Test.YtmenlaefekkahaaU0
set_option linter.unusedVariables false
set_option linter.unusedSimpArgs false
set_option linter.constructorNameAsVariable false
namespace Go.Proofs.Ytmenlaefekkahaa
open Go.RowKit

theorem rCheckTable_any (A : Option Addr) (n c : Nat) (ps : List P3) (w : World) (hn : n = ps.length) (hm : n ≤ maxLen) (hp : Pts w A ps) :
    Calls Try.prog 41 #[tv A n c] w fun e w' => e = .returned (.int .i64 (if tabOk ps = true then 0 else 11)) ∧ Below w.heap.size w w' := by
  have hE : Below w.heap.size w (w.alloc (.cells #[.slice A n c] 43)) := below_alloc1 _ _
  have CE := Lib.hid (validTable_any A n c ps _ hn hm (hp.below hE))
  have HE := Lib.hid hE
  clear hn hp hE
  cases ht : tabOk ps
  · rw [ht] at CE
    go_enter Try.func41, Try.ntmps41
    go_wp2_with fail
    refine (CE.out).mono ?_
    rintro e w1 ⟨rfl, hb1⟩
    have HE1 := Lib.hid (below_then HE.out hb1)
    clear hb1
    go_wp2
    go_ret
    exact ⟨rfl, HE1.out⟩
  · rw [ht] at CE
    go_enter Try.func41, Try.ntmps41
    go_wp2_with fail
    refine (CE.out).mono ?_
    rintro e w1 ⟨rfl, hb1⟩
    have HE1 := Lib.hid (below_then HE.out hb1)
    clear hb1
    go_wp2
    go_ret
    exact ⟨rfl, HE1.out⟩

/-- Whether numbers lie between the lines at the points. -/
def curveOk : List P3 → List Int → Bool
  | p :: ps, c :: cs => (decide (p.2.1 ≤ c) && decide (c ≤ p.2.2)) && curveOk ps cs
  | _, _ => true
theorem curveOk_at {ps : List P3} {cs : List Int} {k : Nat} {p : P3} {z : Int} (hp : ps[k]? = some p) (hz : cs[k]? = some z) : curveOk (ps.drop k) (cs.drop k) = ((decide (p.2.1 ≤ z) && decide (z ≤ p.2.2)) && curveOk (ps.drop (k + 1)) (cs.drop (k + 1))) := by
  have h1 : k < ps.length := (List.getElem?_eq_some_iff.1 hp).1
  have h2 : k < cs.length := (List.getElem?_eq_some_iff.1 hz).1
  rw [List.drop_eq_getElem_cons h1, List.drop_eq_getElem_cons h2]
  rw [List.getElem?_eq_getElem h1] at hp; injection hp with hp
  rw [List.getElem?_eq_getElem h2] at hz; injection hz with hz
  rw [hp, hz]; rfl
def curveS (ps : List P3) (cs : List Int) : Int := if tabOk ps = true then (if cs.length = ps.length then (if curveOk ps cs = true then 0 else 4) else 4) else 11
theorem keep5 {W2 w0 w1 : World} {x0 x1 x2 z : Value} {A b o : Nat} (hb : Below w0.heap.size w0 w1)
    (h : w0.cell? ⟨A, 0, none⟩ = some x0 ∧ w0.cell? ⟨A, 1, none⟩ = some x1 ∧ w0.cell? ⟨A, 2, none⟩ = some x2 ∧ w0.cell? ⟨b, o, none⟩ = some z ∧ Below W2.heap.size W2 w0) (h1 : A < W2.heap.size) (h2 : b < W2.heap.size) :
    w1.cell? ⟨A, 0, none⟩ = some x0 ∧ w1.cell? ⟨A, 1, none⟩ = some x1 ∧ w1.cell? ⟨A, 2, none⟩ = some x2 ∧ w1.cell? ⟨b, o, none⟩ = some z ∧ Below W2.heap.size W2 w1 := by
  obtain ⟨q0, q1, q2, q3, q4⟩ := h
  have hl := Nat.lt_of_lt_of_le h1 q4.size
  have hm := Nat.lt_of_lt_of_le h2 q4.size
  obtain ⟨p, _⟩ := bcell hb
  exact ⟨(p _ _ hl).trans q0, (p _ _ hl).trans q1, (p _ _ hl).trans q2, (p _ _ hm).trans q3, below_then q4 hb⟩

set_option maxRecDepth 100000 in
set_option maxHeartbeats 4000000 in
theorem checkCurve_loop (b o n c b' o' c' : Nat) (ps : List P3) (cs : List Int) (w : World) (hn : n = ps.length) (hn' : n = cs.length) (hb : b < w.heap.size) (hb' : b' < w.heap.size) (hc : PtsAt w b o ps) (hc' : IntsMem w b' o' cs) (ht : tabOk ps = true) :
    Calls Try.prog 42 #[tv (some ⟨b, o, none⟩) n c, .slice (some ⟨b', o', none⟩) n c'] w fun e w' => e = .returned (.int .i64 (if curveOk ps cs = true then 0 else 4)) ∧ Below w.heap.size w w' := by
  have hl := (tabOk_len ht).1
  have h40 := (tabOk_len ht).2
  have hn40 : n ≤ 40 := by omega
  have hok := okp_of ps (-1) (tabOk_pts ht) (by omega)
  have hE : Below w.heap.size w (w.alloc (.cells #[.slice (some ⟨b, o, none⟩) n c] 43)) := below_alloc1 _ _
  have bT := Blk.new w 43 #[.slice (some ⟨b, o, none⟩) n c]
  have CT : Hid (∀ W, Pts W (some ⟨b, o, none⟩) ps → Calls Try.prog 40 #[tv (some ⟨b, o, none⟩) n c] W fun e w' => e = .returned (.int .i64 0) ∧ Below W.heap.size W w') := Lib.hid fun W hW => by
    have h := checkTable_any _ n c ps W hn (by unfold maxLen; omega) hW
    rw [if_pos ht] at h; exact h
  have HN := Lib.hid (And.intro hn hn'); have HC := Lib.hid hc; have HC' := Lib.hid hc'; have HO := Lib.hid hok
  have HP := Lib.hid ((hc.below hE hb).pts (Nat.lt_of_lt_of_le hb hE.size)); have HE := Lib.hid hE; have HT := Lib.hid bT
  clear hc hc' hok hE bT ht hn hn' hl h40
  generalize hr : curveOk ps cs = r
  have HR := Lib.hid hr; clear hr
  go_enter Try.func42, Try.ntmps42
  go_wp2_with fail
  refine (CT.out _ HP.out).mono ?_
  rintro e w1 ⟨rfl, hb1⟩
  have HE1 := Lib.hid (below_then HE.out hb1)
  have t0 := (blkOn HT.out hb1).cell 0
  simp at t0
  clear hb1 HP HE HT CT
  go_wp2_with fail
  go_loopw [19] (fun i wr => ∃ k : Nat, k ≤ n ∧ i = .int .i64 k ∧ Below w.heap.size w wr ∧ Hid (curveOk (ps.drop k) (cs.drop k) = r)) (fun i _ => n - (intOf i).toNat)
  case atStart => exact ⟨0, by omega, rfl, HE1.out, HR.out⟩
  case round =>
    obtain ⟨k, hk, rfl, hB, HK⟩ := hrel
    by_cases hlt : k < n
    · obtain ⟨p, hp⟩ : ∃ p, ps[k]? = some p := ⟨_, List.getElem?_eq_getElem (by have := HN.out.1; omega)⟩
      obtain ⟨z, hz⟩ : ∃ z, cs[k]? = some z := ⟨_, List.getElem?_eq_getElem (by have := HN.out.2; omega)⟩
      obtain ⟨c0, c1, c2⟩ := HC.out.below hB hb k p hp
      have d0 := HC'.out.below hB hb' k z hz
      have HA := Lib.hid (curveOk_at hp hz)
      have ho := (HO.out p (List.mem_of_getElem? hp)).1
      obtain ⟨x, lo, hi⟩ := p
      dsimp only at c0 c1 c2
      obtain ⟨_, _, g1, g2, g3, g4⟩ := ho
      dsimp only at g1 g2 g3 g4
      clear hp hz
      have lb : b' < (wr.alloc (.cells #[.int .i64 x, .int .i64 lo, .int .i64 hi] 87)).heap.size := Nat.lt_of_lt_of_le (Nat.lt_of_lt_of_le hb' hB.size) (below_alloc1 _ _).size
      have bP := Blk.new wr 87 #[.int .i64 x, .int .i64 lo, .int .i64 hi]
      have e0 := bP.cell 0
      have e1 := bP.cell 1
      have e2 := bP.cell 2
      have lA := bP.lt
      simp only [List.getElem?_toArray, List.getElem?_cons_zero, List.getElem?_cons_succ] at e0 e1 e2
      have d1 := ((bcell (below_alloc1 wr (.cells #[.int .i64 x, .int .i64 lo, .int .i64 hi] 87))).1 b' (o' + k) (Nat.lt_of_lt_of_le hb' hB.size)).trans d0
      have HB := Lib.hid (below_then hB (below_alloc1 wr (.cells #[.int .i64 x, .int .i64 lo, .int .i64 hi] 87)))
      have hv : hasS lo hi z = (decide (lo ≤ z) && decide (z ≤ hi)) := by
        by_cases hlh : lo ≤ hi
        · unfold hasS; rw [(vR_iff lo hi).2 ⟨hlh, by omega, by omega⟩]; rfl
        · rw [has_no (by omega)]
          by_cases q1 : lo ≤ z <;> by_cases q2 : z ≤ hi <;> simp [q1, q2]; omega
      cases hh : (decide (lo ≤ z) && decide (z ≤ hi))
      · have hf : r = false := by rw [← HK.out, HA.out]; dsimp only; rw [hh]; rfl
        have HV := Lib.hid (hv.trans hh)
        subst hf
        clear HK HA HR hv hh hB bP
        go_wp2_with fail
        obtain ⟨B, hB1⟩ : ∃ B, wr.heap.size = B := ⟨_, rfl⟩
        obtain ⟨W1, hW1⟩ : ∃ W1, wr.alloc (.cells #[.int .i64 x, .int .i64 lo, .int .i64 hi] 87) = W1 := ⟨_, rfl⟩
        rw [hW1] at e0 e1 e2 lA d1 HB lb ⊢
        rw [hB1] at e0 e1 e2 lA ⊢
        clear hW1 hB1
        go_region_held3 (fun w' => w'.cell? ⟨B, 0, none⟩ = some (.int .i64 x) ∧ w'.cell? ⟨B, 1, none⟩ = some (.int .i64 lo) ∧ w'.cell? ⟨B, 2, none⟩ = some (.int .i64 hi) ∧ w'.cell? ⟨b', o' + k, none⟩ = some (.int .i64 z) ∧ Below W1.heap.size W1 w')
          (first | exact ⟨e0, e1, e2, d1, (Below.refl _ _).drew⟩ | exact keep5 (by assumption) (by assumption) lA lb)
          (first
            | (go_at_call 97; refine (bounds_any _ _ _ _).mono ?_; rintro e w5 ⟨rfl, hb5⟩)
            | (go_at_call 28; refine (bool_to (has_any lo hi z _) HV.out).mono ?_; rintro e w6 ⟨rfl, hb6⟩; have T6 := keep5 (W2 := W1) (A := B) (b := b') (o := o' + k) hb6 (by assumption) lA lb)
            | fail)
        all_goals go_wp2
        all_goals go_ret
        all_goals exact ⟨rfl, below_then HB.out T6.2.2.2.2⟩
      · have hP : curveOk (ps.drop (k + 1)) (cs.drop (k + 1)) = r := by rw [← HK.out, HA.out]; dsimp only; rw [hh]; rfl
        have HV := Lib.hid (hv.trans hh); have HP2 := Lib.hid hP
        clear HK HA HR hv hh hB bP hP
        go_wp2_with fail
        obtain ⟨B, hB1⟩ : ∃ B, wr.heap.size = B := ⟨_, rfl⟩
        obtain ⟨W1, hW1⟩ : ∃ W1, wr.alloc (.cells #[.int .i64 x, .int .i64 lo, .int .i64 hi] 87) = W1 := ⟨_, rfl⟩
        rw [hW1] at e0 e1 e2 lA d1 HB lb ⊢
        rw [hB1] at e0 e1 e2 lA ⊢
        clear hW1 hB1
        go_region_held3 (fun w' => w'.cell? ⟨B, 0, none⟩ = some (.int .i64 x) ∧ w'.cell? ⟨B, 1, none⟩ = some (.int .i64 lo) ∧ w'.cell? ⟨B, 2, none⟩ = some (.int .i64 hi) ∧ w'.cell? ⟨b', o' + k, none⟩ = some (.int .i64 z) ∧ Below W1.heap.size W1 w')
          (first | exact ⟨e0, e1, e2, d1, (Below.refl _ _).drew⟩ | exact keep5 (by assumption) (by assumption) lA lb)
          (first
            | (go_at_call 97; refine (bounds_any _ _ _ _).mono ?_; rintro e w5 ⟨rfl, hb5⟩)
            | (go_at_call 28; refine (bool_to (has_any lo hi z _) HV.out).mono ?_; rintro e w6 ⟨rfl, hb6⟩; have T6 := keep5 (W2 := W1) (A := B) (b := b') (o := o' + k) hb6 (by assumption) lA lb)
            | fail)
        all_goals go_wp2
        all_goals go_roundw
        case rel => exact ⟨k + 1, by omega, by go_num, below_then HB.out T6.2.2.2.2, HP2⟩
        case measure => simp [intOf]; omega
    · have hf : r = true := by
        rw [← HK.out, List.drop_eq_nil_of_le (by have := HN.out.1; omega)]; rfl
      subst hf
      clear HK HR
      go_wp2
      go_ret
      exact ⟨rfl, hB⟩
end Go.Proofs.Ytmenlaefekkahaa
namespace Go.Proofs.Ytmenlaefekkahaa
open Go.RowKit

set_option maxRecDepth 100000 in
set_option maxHeartbeats 2000000 in
theorem checkCurve_any (A A' : Option Addr) (n n' c c' : Nat) (ps : List P3) (cs : List Int) (w : World) (hn : n = ps.length) (hn' : n' = cs.length) (hm : n ≤ maxLen) (hm' : n' ≤ maxLen) (hp : Pts w A ps) (hq : IntsP w A' cs) :
    Calls Try.prog 42 #[tv A n c, .slice A' n' c'] w fun e w' => e = .returned (.int .i64 (curveS ps cs)) ∧ Below w.heap.size w w' := by
  have hE : Below w.heap.size w (w.alloc (.cells #[.slice A n c] 43)) := below_alloc1 _ _
  by_cases ht : tabOk ps = true
  · by_cases hl : n' = n
    · subst hl
      have h1 := (tabOk_len ht).1
      obtain ⟨b, o, rfl, hb, hc⟩ := hp.block h1
      rcases hq with rfl | ⟨b', o', rfl, hb', hc'⟩
      · simp at hn'; omega
      · have hv : curveS ps cs = if curveOk ps cs = true then 0 else 4 := by unfold curveS; rw [if_pos ht, if_pos (by omega)]
        rw [hv]
        exact checkCurve_loop b o n' c b' o' c' ps cs w hn hn' hb hb' hc hc' ht
    · have hv : curveS ps cs = 4 := by unfold curveS; rw [if_pos ht, if_neg (by omega)]
      rw [hv]
      have CT : Hid (∀ W, Pts W A ps → Calls Try.prog 40 #[tv A n c] W fun e w' => e = .returned (.int .i64 0) ∧ Below W.heap.size W w') := Lib.hid fun W hW => by
        have h := checkTable_any _ n c ps W hn hm hW
        rw [if_pos ht] at h; exact h
      have HP := Lib.hid (hp.below hE); have HE := Lib.hid hE; have HT := Lib.hid (Blk.new w 43 #[.slice A n c])
      have t1 : ((n' : Int) == (n : Int)) = false := beq_eq_false_iff_ne.2 (by omega)
      clear hp hq hn hn' ht hv hE hl
      go_enter Try.func42, Try.ntmps42
      go_wp2_with fail
      refine (CT.out _ HP.out).mono ?_
      rintro e w1 ⟨rfl, hb1⟩
      have HE1 := Lib.hid (below_then HE.out hb1)
      have t0 := (blkOn HT.out hb1).cell 0
      simp at t0
      clear hb1
      go_wp2
      go_ret
      exact ⟨rfl, HE1.out⟩
  · have hv : curveS ps cs = 11 := by unfold curveS; rw [if_neg ht]
    rw [hv]
    have CT : Hid (∀ W, Pts W A ps → Calls Try.prog 40 #[tv A n c] W fun e w' => e = .returned (.int .i64 11) ∧ Below W.heap.size W w') := Lib.hid fun W hW => by
      have h := checkTable_any _ n c ps W hn hm hW
      rw [if_neg ht] at h; exact h
    have HP := Lib.hid (hp.below hE); have HE := Lib.hid hE
    clear hp hq hn hn' ht hv hE
    go_enter Try.func42, Try.ntmps42
    go_wp2_with fail
    refine (CT.out _ HP.out).mono ?_
    rintro e w1 ⟨rfl, hb1⟩
    have HE1 := Lib.hid (below_then HE.out hb1)
    clear hb1
    go_wp2
    go_ret
    exact ⟨rfl, HE1.out⟩

set_option maxRecDepth 100000 in
set_option maxHeartbeats 4000000 in
theorem rCheckCurve_loop (b o n c b' o' c' : Nat) (ps : List P3) (cs : List Int) (w : World) (hn : n = ps.length) (hn' : n = cs.length) (hb : b < w.heap.size) (hb' : b' < w.heap.size) (hc : PtsAt w b o ps) (hc' : IntsMem w b' o' cs) (ht : tabOk ps = true) :
    Calls Try.prog 43 #[tv (some ⟨b, o, none⟩) n c, .slice (some ⟨b', o', none⟩) n c'] w fun e w' => e = .returned (.int .i64 (if curveOk ps cs = true then 0 else 4)) ∧ Below w.heap.size w w' := by
  have hl := (tabOk_len ht).1
  have h40 := (tabOk_len ht).2
  have hn40 : n ≤ 40 := by omega
  have hE : Below w.heap.size w (w.alloc (.cells #[.slice (some ⟨b, o, none⟩) n c] 43)) := below_alloc1 _ _
  have bT := Blk.new w 43 #[.slice (some ⟨b, o, none⟩) n c]
  have CT : Hid (∀ W, Pts W (some ⟨b, o, none⟩) ps → Calls Try.prog 63 #[tv (some ⟨b, o, none⟩) n c] W fun e w' => e = .returned (.bool true) ∧ Below W.heap.size W w') := Lib.hid fun W hW => by
    have h := validTable_any _ n c ps W hn (by unfold maxLen; omega) hW
    rw [ht] at h; exact h
  have HN := Lib.hid (And.intro hn hn'); have HC := Lib.hid hc; have HC' := Lib.hid hc'
  have HP := Lib.hid ((hc.below hE hb).pts (Nat.lt_of_lt_of_le hb hE.size)); have HE := Lib.hid hE; have HT := Lib.hid bT
  clear hc hc' hE bT ht hn hn' hl h40
  generalize hr : curveOk ps cs = r
  have HR := Lib.hid hr; clear hr
  go_enter Try.func43, Try.ntmps43
  go_wp2_with fail
  refine (CT.out _ HP.out).mono ?_
  rintro e w1 ⟨rfl, hb1⟩
  have HE1 := Lib.hid (below_then HE.out hb1)
  have HT1 := Lib.hid (blkOn HT.out hb1)
  have t0 := HT1.out.cell 0
  simp at t0
  have q1 := HC.out.below HE1.out hb
  have q2 := HC'.out.below HE1.out hb'
  have l1 : b < w1.heap.size := Nat.lt_of_lt_of_le hb HE1.out.size
  have l2 : b' < w1.heap.size := Nat.lt_of_lt_of_le hb' HE1.out.size
  have Q1 := Lib.hid q1; have Q2 := Lib.hid q2
  clear hb1 HP HE HT CT q1 q2
  go_wp2_with fail
  clear t0
  go_loopw [18] (fun i wr => ∃ k : Nat, k ≤ n ∧ i = .int .i64 k ∧ Below w1.heap.size w1 wr ∧ Hid (curveOk (ps.drop k) (cs.drop k) = r)) (fun i _ => n - (intOf i).toNat)
  case atStart => exact ⟨0, by omega, rfl, Below.refl _ _, HR.out⟩
  case round =>
    obtain ⟨k, hk, rfl, hB, HK⟩ := hrel
    by_cases hlt : k < n
    · obtain ⟨p, hp⟩ : ∃ p, ps[k]? = some p := ⟨_, List.getElem?_eq_getElem (by have := HN.out.1; omega)⟩
      obtain ⟨z, hz⟩ : ∃ z, cs[k]? = some z := ⟨_, List.getElem?_eq_getElem (by have := HN.out.2; omega)⟩
      obtain ⟨c0, c1, c2⟩ := Q1.out.below hB l1 k p hp
      have d0 := Q2.out.below hB l2 k z hz
      have hT := blkOn HT1.out hB
      have t0 := hT.cell 0
      simp at t0
      have HA := Lib.hid (curveOk_at hp hz)
      obtain ⟨x, lo, hi⟩ := p
      dsimp only at c0 c1 c2
      have HB := Lib.hid hB
      clear hp hz hT hB
      by_cases g1 : z < lo
      · have hf : r = false := by rw [← HK.out, HA.out]; dsimp only; rw [decide_eq_false (by omega)]; rfl
        subst hf
        clear HK HA HR
        go_wp2
        go_ret
        exact ⟨rfl, below_then HE1.out HB.out⟩
      · by_cases g2 : hi < z
        · have hf : r = false := by rw [← HK.out, HA.out]; dsimp only; rw [decide_eq_false (show ¬ z ≤ hi by omega)]; simp
          subst hf
          clear HK HA HR
          go_wp2
          go_ret
          exact ⟨rfl, below_then HE1.out HB.out⟩
        · have hP : curveOk (ps.drop (k + 1)) (cs.drop (k + 1)) = r := by rw [← HK.out, HA.out]; dsimp only; rw [decide_eq_true (show lo ≤ z by omega), decide_eq_true (show z ≤ hi by omega)]; rfl
          have HP2 := Lib.hid hP
          clear HK HA HR hP
          go_wp2
          go_roundw
          case rel => exact ⟨k + 1, by omega, by go_num, HB.out, HP2⟩
          case measure => simp [intOf]; omega
    · have hf : r = true := by
        rw [← HK.out, List.drop_eq_nil_of_le (by have := HN.out.1; omega)]; rfl
      subst hf
      clear HK HR
      go_wp2
      go_ret
      exact ⟨rfl, below_then HE1.out hB⟩

set_option maxRecDepth 100000 in
set_option maxHeartbeats 2000000 in
theorem rCheckCurve_any (A A' : Option Addr) (n n' c c' : Nat) (ps : List P3) (cs : List Int) (w : World) (hn : n = ps.length) (hn' : n' = cs.length) (hm : n ≤ maxLen) (hm' : n' ≤ maxLen) (hp : Pts w A ps) (hq : IntsP w A' cs) :
    Calls Try.prog 43 #[tv A n c, .slice A' n' c'] w fun e w' => e = .returned (.int .i64 (curveS ps cs)) ∧ Below w.heap.size w w' := by
  have hE : Below w.heap.size w (w.alloc (.cells #[.slice A n c] 43)) := below_alloc1 _ _
  by_cases ht : tabOk ps = true
  · by_cases hl : n' = n
    · subst hl
      have h1 := (tabOk_len ht).1
      obtain ⟨b, o, rfl, hb, hc⟩ := hp.block h1
      rcases hq with rfl | ⟨b', o', rfl, hb', hc'⟩
      · simp at hn'; omega
      · have hv : curveS ps cs = if curveOk ps cs = true then 0 else 4 := by unfold curveS; rw [if_pos ht, if_pos (by omega)]
        rw [hv]
        exact rCheckCurve_loop b o n' c b' o' c' ps cs w hn hn' hb hb' hc hc' ht
    · have hv : curveS ps cs = 4 := by unfold curveS; rw [if_pos ht, if_neg (by omega)]
      rw [hv]
      have CT : Hid (∀ W, Pts W A ps → Calls Try.prog 63 #[tv A n c] W fun e w' => e = .returned (.bool true) ∧ Below W.heap.size W w') := Lib.hid fun W hW => by
        have h := validTable_any _ n c ps W hn hm hW
        rw [ht] at h; exact h
      have HP := Lib.hid (hp.below hE); have HE := Lib.hid hE; have HT := Lib.hid (Blk.new w 43 #[.slice A n c])
      have t1 : ((n' : Int) == (n : Int)) = false := beq_eq_false_iff_ne.2 (by omega)
      clear hp hq hn hn' ht hv hE hl
      go_enter Try.func43, Try.ntmps43
      go_wp2_with fail
      refine (CT.out _ HP.out).mono ?_
      rintro e w1 ⟨rfl, hb1⟩
      have HE1 := Lib.hid (below_then HE.out hb1)
      have t0 := (blkOn HT.out hb1).cell 0
      simp at t0
      clear hb1
      go_wp2
      go_ret
      exact ⟨rfl, HE1.out⟩
  · have hv : curveS ps cs = 11 := by unfold curveS; rw [if_neg ht]
    rw [hv]
    have CT : Hid (∀ W, Pts W A ps → Calls Try.prog 63 #[tv A n c] W fun e w' => e = .returned (.bool false) ∧ Below W.heap.size W w') := Lib.hid fun W hW => by
      have h := validTable_any _ n c ps W hn hm hW
      rw [show tabOk ps = false by simpa using ht] at h; exact h
    have HP := Lib.hid (hp.below hE); have HE := Lib.hid hE
    clear hp hq hn hn' ht hv hE
    go_enter Try.func43, Try.ntmps43
    go_wp2_with fail
    refine (CT.out _ HP.out).mono ?_
    rintro e w1 ⟨rfl, hb1⟩
    have HE1 := Lib.hid (below_then HE.out hb1)
    clear hb1
    go_wp2
    go_ret
    exact ⟨rfl, HE1.out⟩
end Go.Proofs.Ytmenlaefekkahaa
