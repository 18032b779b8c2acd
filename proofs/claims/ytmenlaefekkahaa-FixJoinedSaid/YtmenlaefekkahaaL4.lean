/- The contract of Value (the specification). Its conditions: both rows lie in memory, 40 numbers at most, within the bounds of tables; the place is at or behind the first, and not behind the last. -/
import Derived.Test.YtmenlaefekkahaaG2
import Derived.Test.YtmenlaefekkahaaF3
set_option linter.unusedVariables false
set_option linter.unusedSimpArgs false
set_option linter.constructorNameAsVariable false
namespace Go.Proofs.Ytmenlaefekkahaa
open Go.RowKit

/-- What Value gives: the line at a place, as a whole number and a fraction. -/
def GivesVal (xs ys : List Int) (x : Int) (w : World) (e : Ending) (w' : World) : Prop :=
  ∃ k xk yk, xs[k]? = some xk ∧ ys[k]? = some yk ∧ xk ≤ x ∧ (∀ z, xs[k + 1]? = some z → x < z) ∧ Below w.heap.size w w' ∧
    ((xk = x ∧ e = .returned (.agg #[.int .i64 yk, .int .i64 0, .int .i64 1])) ∨
     (xk ≠ x ∧ ∃ z yz, xs[k + 1]? = some z ∧ ys[k + 1]? = some yz ∧ e = .returned (.agg #[.int .i64 (yk + (yz - yk) * (x - xk) / (z - xk)), .int .i64 ((yz - yk) * (x - xk) % (z - xk)), .int .i64 (z - xk)])))

set_option maxRecDepth 100000 in
set_option maxHeartbeats 4000000 in
theorem value_any (b o b' o' n c c' : Nat) (xs ys : List Int) (x : Int) (w : World) (hn : n = xs.length) (hn' : n = ys.length) (h1 : 1 ≤ n) (h40 : n ≤ 40) (hb : b < w.heap.size) (hb' : b' < w.heap.size) (hc : IntsMem w b o xs) (hc' : IntsMem w b' o' ys)
    (hxs : ∀ z ∈ xs, 0 ≤ z ∧ z ≤ 1000000) (hys : ∀ z ∈ ys, -1000000000 ≤ z ∧ z ≤ 1000000000) (hx : 0 ≤ x) (hx' : x ≤ 1000000) (hf : ∀ z, xs[0]? = some z → z ≤ x) (hl : ∀ z, xs[n - 1]? = some z → x ≤ z) :
    Calls Try.prog 66 #[.slice (some ⟨b, o, none⟩) n c, .slice (some ⟨b', o', none⟩) n c', .int .i64 x] w (GivesVal xs ys x w) := by
  have HN := Lib.hid (And.intro hn (And.intro hn' (And.intro hf hl))); clear hn hn' hf hl
  have HC := Lib.hid hc; have HC' := Lib.hid hc'; clear hc hc'
  have HX := Lib.hid (And.intro hxs hys); clear hxs hys
  have HXX := Lib.hid (And.intro hx hx'); clear hx hx'
  have bF := Blk.new w 71 #[.int .i64 0, .int .i64 0, .int .i64 0]
  have hE : Below w.heap.size w (w.alloc (.cells #[.int .i64 0, .int .i64 0, .int .i64 0] 71)) := (Below.refl _ _).alloc (Nat.le_refl _) _
  have HF := Lib.hid bF; have HE := Lib.hid hE; clear bF hE
  go_enter Try.func66, Try.ntmps66
  go_wp2_with fail
  obtain ⟨A, hA⟩ : ∃ A, w.heap.size = A := ⟨_, rfl⟩
  obtain ⟨W0, hW0⟩ : ∃ W0, w.alloc (.cells #[.int .i64 0, .int .i64 0, .int .i64 0] 71) = W0 := ⟨_, rfl⟩
  have hA' : A ≤ W0.heap.size := by rw [← hW0, ← hA]; simp
  have hbA : b < A := by omega
  have hbA' : b' < A := by omega
  rw [hW0] at HF HE ⊢
  rw [hA] at HF ⊢
  clear hW0
  have HIL := Lib.hid hA; clear hA
  go_loopw [7] (fun i wr => ∃ k : Nat, k < n ∧ i = .int .i64 k ∧ Below W0.heap.size W0 wr ∧ Hid (∀ z, xs[k]? = some z → z ≤ x)) (fun i _ => n - (intOf i).toNat)
  case atStart => exact ⟨0, by omega, rfl, Below.refl _ _, HN.out.2.2.1⟩
  case round =>
    obtain ⟨k, hk, rfl, hB, HK⟩ := hrel
    obtain ⟨xk, hxk⟩ : ∃ z, xs[k]? = some z := ⟨_, List.getElem?_eq_getElem (show k < xs.length by rw [← HN.out.1]; exact hk)⟩
    obtain ⟨yk, hyk⟩ : ∃ z, ys[k]? = some z := ⟨_, List.getElem?_eq_getElem (show k < ys.length by rw [← HN.out.2.1]; exact hk)⟩
    have hle := HK.out xk hxk
    have bx := HX.out.1 xk (List.mem_of_getElem? hxk)
    have by' := HX.out.2 yk (List.mem_of_getElem? hyk)
    have hBw : Below w.heap.size w wr := below_then HE.out hB
    have c0 := HC.out k xk hxk
    have d0 := HC'.out k yk hyk
    rw [← hBw.cell (p := ⟨b, o + k, none⟩) hb] at c0
    rw [← hBw.cell (p := ⟨b', o' + k, none⟩) hb'] at d0
    have hF := HF.out.below hB HF.out.lt
    have f0 := hF.frozen 0
    have f1 := hF.frozen 1
    have f2 := hF.frozen 2
    have r0 := hF.cell 0
    have r1 := hF.cell 1
    have r2 := hF.cell 2
    simp at r0 r1 r2
    have hdone : ∀ u v t : Value, Below w.heap.size w (((wr.setCell ⟨A, 0, none⟩ u).setCell ⟨A, 1, none⟩ v).setCell ⟨A, 2, none⟩ t) := fun u v t =>
      ((hBw.setCell (p := ⟨A, 0, none⟩) (by rw [HIL.out]; exact Nat.le_refl _) _).setCell (p := ⟨A, 1, none⟩) (by rw [HIL.out]; exact Nat.le_refl _) _).setCell (p := ⟨A, 2, none⟩) (by rw [HIL.out]; exact Nat.le_refl _) _
    have HDO := Lib.hid hdone; clear hdone hF
    by_cases hlt : k + 1 < n
    · obtain ⟨z, hz⟩ : ∃ z, xs[k + 1]? = some z := ⟨_, List.getElem?_eq_getElem (show k + 1 < xs.length by rw [← HN.out.1]; exact hlt)⟩
      obtain ⟨yz, hyz⟩ : ∃ z, ys[k + 1]? = some z := ⟨_, List.getElem?_eq_getElem (show k + 1 < ys.length by rw [← HN.out.2.1]; exact hlt)⟩
      have bz := HX.out.1 z (List.mem_of_getElem? hz)
      have byz := HX.out.2 yz (List.mem_of_getElem? hyz)
      have c1 := HC.out (k + 1) z hz
      have d1 := HC'.out (k + 1) yz hyz
      rw [← hBw.cell (p := ⟨b, o + (k + 1), none⟩) hb] at c1
      rw [← hBw.cell (p := ⟨b', o' + (k + 1), none⟩) hb'] at d1
      have s1 : (k : Int) + 1 < (n : Int) := by omega
      have s2 : IntKind.i64.wrap ((k : Int) + 1) = (k : Int) + 1 := IntWalk.i64_in _ ⟨by omega, by omega⟩
      by_cases hzx : z ≤ x
      · have HB := Lib.hid hB
        have HK2 : Hid (∀ z', xs[k + 1]? = some z' → z' ≤ x) := Lib.hid fun z' h => by rw [hz] at h; injection h with h; omega
        clear hxk hyk hz hyz hle bx by' hBw hB f0 f1 f2 r0 r1 r2 HDO bz byz
        go_wp2
        go_roundw
        case rel => exact ⟨k + 1, by omega, by go_num, HB.out, HK2⟩
        case measure => simp [intOf]; omega
      · by_cases he : xk = x
        · have HG : Hid (∀ w' e, Below w.heap.size w w' → e = .returned (.agg #[.int .i64 yk, .int .i64 0, .int .i64 1]) → GivesVal xs ys x w e w') := Lib.hid fun w' e h1 h2 =>
            ⟨k, xk, yk, hxk, hyk, hle, (fun z' h => by rw [hz] at h; injection h with h; omega), h1, .inl ⟨he, h2⟩⟩
          subst he
          clear hxk hyk hz hyz hle bx by' hBw hB bz byz
          go_wp2
          refine bodyPost_ret (v := .agg #[.int .i64 yk, .int .i64 0, .int .i64 1]) (by simp [results, Try.results66, go_sem, r0, r1, r2]) rfl (HG.out _ _ (HDO.out _ _ _) rfl)
        · have hbx := HXX.out
          have dpos : 0 < z - xk := by omega
          have hmb := mul_between2 (yz - yk) (x - xk) 2000000000 1000000 (by omega) (by omega) (by omega) (by omega)
          obtain ⟨dd, w1⟩ : ∃ r, IntKind.i64.wrap (z - xk) = r := ⟨_, rfl⟩
          have e1 : z - xk = dd := by rw [← w1, IntWalk.i64_in _ ⟨by omega, by omega⟩]
          obtain ⟨dy, w2⟩ : ∃ r, IntKind.i64.wrap (yz - yk) = r := ⟨_, rfl⟩
          have e2 : yz - yk = dy := by rw [← w2, IntWalk.i64_in _ ⟨by omega, by omega⟩]
          obtain ⟨dx, w3⟩ : ∃ r, IntKind.i64.wrap (x - xk) = r := ⟨_, rfl⟩
          have e3 : x - xk = dx := by rw [← w3, IntWalk.i64_in _ ⟨by omega, by omega⟩]
          rw [e2, e3] at hmb
          obtain ⟨m, w4⟩ : ∃ r, IntKind.i64.wrap (dy * dx) = r := ⟨_, rfl⟩
          have e4 : dy * dx = m := by rw [← w4, IntWalk.i64_in _ ⟨by omega, by omega⟩]
          rw [e4] at hmb
          have hq := ediv_between m dd 2000000000000000 (by omega) (by omega) (by omega) (by omega)
          have hqd1 := Int.mul_ediv_add_emod m dd
          have hqd2 := Int.emod_nonneg m (show dd ≠ 0 by omega)
          have hqd3 := Int.emod_lt_of_pos m (show 0 < dd by omega)
          rw [Int.mul_comm] at hqd1
          obtain ⟨q, hqq⟩ : ∃ q, m / dd = q := ⟨_, rfl⟩
          rw [hqq] at hq hqd1
          obtain ⟨V, w5⟩ : ∃ r, IntKind.i64.wrap (yk + q) = r := ⟨_, rfl⟩
          have e5 : yk + q = V := by rw [← w5, IntWalk.i64_in _ ⟨by omega, by omega⟩]
          obtain ⟨qd, w6⟩ : ∃ r, IntKind.i64.wrap (q * dd) = r := ⟨_, rfl⟩
          have e6 : q * dd = qd := by rw [← w6, IntWalk.i64_in _ ⟨by omega, by omega⟩]
          obtain ⟨R, w7⟩ : ∃ r, IntKind.i64.wrap (m - qd) = r := ⟨_, rfl⟩
          have e7 : m - qd = R := by rw [← w7, IntWalk.i64_in _ ⟨by omega, by omega⟩]
          have CF : Hid (∀ W, Calls Try.prog 120 #[.int .i64 m, .int .i64 dd] W fun e w' => e = .returned (.int .i64 q) ∧ W = w') := Lib.hid fun W => by
            have h := rFloor_any m dd W (by omega) (by omega) (by omega)
            rw [hqq] at h; exact h
          have hR : m % dd = R := by omega
          have HG : Hid (∀ w' e, Below w.heap.size w w' → e = .returned (.agg #[.int .i64 V, .int .i64 R, .int .i64 dd]) → GivesVal xs ys x w e w') := Lib.hid fun w' e h1 h2 =>
            ⟨k, xk, yk, hxk, hyk, hle, (fun z' h => by rw [hz] at h; injection h with h; omega), h1, .inr ⟨he, z, yz, hz, hyz, by rw [e1, e2, e3, e4, hqq, e5, hR]; exact h2⟩⟩
          have t0 : (xk == x) = false := beq_eq_false_iff_ne.2 he
          have t1 : ¬ z ≤ x := hzx
          have HDR : Hid (∀ (j : Nat) (u v t : Value), Below w.heap.size w ((((wr.drewN j).setCell ⟨A, 0, none⟩ u).setCell ⟨A, 1, none⟩ v).setCell ⟨A, 2, none⟩ t)) := Lib.hid fun j u v t =>
            (((below_drewM hBw j).setCell (p := ⟨A, 0, none⟩) (by rw [HIL.out]; exact Nat.le_refl _) _).setCell (p := ⟨A, 1, none⟩) (by rw [HIL.out]; exact Nat.le_refl _) _).setCell (p := ⟨A, 2, none⟩) (by rw [HIL.out]; exact Nat.le_refl _) _
          clear hxk hyk hz hyz hle bx by' hBw hB bz byz he hbx dpos hmb e1 e2 e3 e4 e5 e6 e7 hq hqd1 hqd2 hqd3 hqq hR HDO hzx
          go_wp2_with fail
          go_region
          go_wp2_with fail
          go_region
          go_wp2_with fail
          refine (CF.out _).mono ?_
          rintro e w' ⟨rfl, rfl⟩
          go_wp2
          refine bodyPost_ret (v := .agg #[.int .i64 V, .int .i64 R, .int .i64 dd]) (by simp [results, Try.results66, go_sem, r0, r1, r2]) rfl (HG.out _ _ (HDR.out 2 _ _ _) rfl)
    · have hkn : k + 1 = n := by omega
      have he : xk = x := by
        have := HN.out.2.2.2 xk (by rw [show n - 1 = k by omega]; exact hxk)
        omega
      have HG : Hid (∀ w' e, Below w.heap.size w w' → e = .returned (.agg #[.int .i64 yk, .int .i64 0, .int .i64 1]) → GivesVal xs ys x w e w') := Lib.hid fun w' e h1 h2 =>
        ⟨k, xk, yk, hxk, hyk, hle, (fun z' h => by rw [List.getElem?_eq_none (by have := HN.out.1; omega)] at h; cases h), h1, .inl ⟨he, h2⟩⟩
      subst he
      have s1 : ¬ (k : Int) + 1 < (n : Int) := by omega
      have s2 : IntKind.i64.wrap ((k : Int) + 1) = (k : Int) + 1 := IntWalk.i64_in _ ⟨by omega, by omega⟩
      clear hxk hyk hle bx by' hBw hB hkn
      go_wp2
      refine bodyPost_ret (v := .agg #[.int .i64 yk, .int .i64 0, .int .i64 1]) (by simp [results, Try.results66, go_sem, r0, r1, r2]) rfl (HG.out _ _ (HDO.out _ _ _) rfl)
end Go.Proofs.Ytmenlaefekkahaa
