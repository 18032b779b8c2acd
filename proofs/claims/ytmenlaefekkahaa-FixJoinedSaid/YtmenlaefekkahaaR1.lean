/- The contracts of piece and plain (the specification), and of place (the law package). Their conditions: the numbers are those of tables; the fractions' denominators fit. -/
import Derived.Test.YtmenlaefekkahaaL4
import Derived.Test.YtmenlaefekkahaaL1
import Derived.Test.YtmenlaefekkahaaN1
import Derived.Test.YtmenlaefekkahaaH2
import Derived.Test.YtmenlaefekkahaaQ2
import Derived.Test.YtmenlaefekkahaaF1
set_option linter.unusedVariables false
set_option linter.unusedSimpArgs false
set_option linter.constructorNameAsVariable false
namespace Go.Proofs.Ytmenlaefekkahaa
open Go.RowKit

/-- a whole number and a fraction as a value -/
abbrev fv (W N D : Int) : Value := .agg #[.int .i64 W, .int .i64 N, .int .i64 D]

set_option maxRecDepth 100000 in
set_option maxHeartbeats 2000000 in
theorem piece_any (x0 y0 x1 y1 a b : Int) (w : World) (hx0 : 0 ≤ x0) (hx1 : x1 ≤ 1000000) (h0 : x0 ≤ a) (h1 : a < b) (h2 : b ≤ x1) (a1 : -1000000000 ≤ y0) (a2 : y0 ≤ 1000000000) (b1 : -1000000000 ≤ y1) (b2 : y1 ≤ 1000000000) :
    Calls Try.prog 121 #[.int .i64 x0, .int .i64 y0, .int .i64 x1, .int .i64 y1, .int .i64 a, .int .i64 b] w fun e w' => e = .returned (fv (arE x0 x1 y0 y1 a b / (x1 - x0)) (arE x0 x1 y0 y1 a b % (x1 - x0)) (x1 - x0)) ∧ Below w.heap.size w w' := by
  obtain ⟨D, w1⟩ : ∃ r, IntKind.i64.wrap (x1 - x0) = r := ⟨_, rfl⟩
  have e1 : x1 - x0 = D := by rw [← w1, IntWalk.i64_in _ ⟨by omega, by omega⟩]
  obtain ⟨RI, w2⟩ : ∃ r, IntKind.i64.wrap (y1 - y0) = r := ⟨_, rfl⟩
  have e2 : y1 - y0 = RI := by rw [← w2, IntWalk.i64_in _ ⟨by omega, by omega⟩]
  have hq := ediv_between RI D 2000000000 (by omega) (by omega) (by omega) (by omega)
  have hr := rest_bounds RI D (by omega)
  have hqd := mul_between2 (RI / D) D 2000000000 1000000 (by omega) (by omega) (by omega) (by omega)
  have CF1 : Hid (∀ W, Calls Try.prog 120 #[.int .i64 RI, .int .i64 D] W fun e w' => e = .returned (.int .i64 (RI / D)) ∧ W = w') := Lib.hid fun W => rFloor_any RI D W (by omega) (by omega) (by omega)
  generalize RI / D = q at *
  obtain ⟨QD, w3⟩ : ∃ r, IntKind.i64.wrap (q * D) = r := ⟨_, rfl⟩
  have e3 : q * D = QD := by rw [← w3, IntWalk.i64_in _ ⟨by omega, by omega⟩]
  obtain ⟨M, w4⟩ : ∃ r, IntKind.i64.wrap (RI - QD) = r := ⟨_, rfl⟩
  have e4 : RI - QD = M := by rw [← w4, IntWalk.i64_in _ ⟨by omega, by omega⟩]
  rw [e3, e4] at hr
  obtain ⟨BA, w5⟩ : ∃ r, IntKind.i64.wrap (b - a) = r := ⟨_, rfl⟩
  have e5 : b - a = BA := by rw [← w5, IntWalk.i64_in _ ⟨by omega, by omega⟩]
  obtain ⟨S, w6⟩ : ∃ r, IntKind.i64.wrap (a + b) = r := ⟨_, rfl⟩
  have e6 : a + b = S := by rw [← w6, IntWalk.i64_in _ ⟨by omega, by omega⟩]
  obtain ⟨X2, w7⟩ : ∃ r, IntKind.i64.wrap (2 * x0) = r := ⟨_, rfl⟩
  have e7 : 2 * x0 = X2 := by rw [← w7, IntWalk.i64_in _ ⟨by omega, by omega⟩]
  obtain ⟨T, w8⟩ : ∃ r, IntKind.i64.wrap (S - X2) = r := ⟨_, rfl⟩
  have e8 : S - X2 = T := by rw [← w8, IntWalk.i64_in _ ⟨by omega, by omega⟩]
  have k0 : 0 ≤ BA * T := Int.mul_nonneg (by omega) (by omega)
  have k1 : BA * T ≤ D * (2 * D) := Int.mul_le_mul (by omega) (by omega) (by omega) (by omega)
  have k2 : D * (2 * D) ≤ 1000000 * 2000000 := Int.mul_le_mul (by omega) (by omega) (by omega) (by omega)
  obtain ⟨K, w9⟩ : ∃ r, IntKind.i64.wrap (BA * T) = r := ⟨_, rfl⟩
  have e9 : BA * T = K := by rw [← w9, IntWalk.i64_in _ ⟨by omega, by omega⟩]
  rw [e9] at k0 k1
  have n0 : 0 ≤ M * K := Int.mul_nonneg hr.1 k0
  have n1 : M * K ≤ 1000000 * 2000000000000 := Int.mul_le_mul (by omega) (by omega) (by omega) (by omega)
  have n2 : M * K ≤ D * K := Int.mul_le_mul_of_nonneg_right (by omega) k0
  obtain ⟨NN, w10⟩ : ∃ r, IntKind.i64.wrap (M * K) = r := ⟨_, rfl⟩
  have e10 : M * K = NN := by rw [← w10, IntWalk.i64_in _ ⟨by omega, by omega⟩]
  rw [e10] at n0 n1 n2
  have f0 : 0 ≤ NN / D := Int.ediv_nonneg n0 (by omega)
  have f1 : NN / D ≤ K := Int.ediv_le_of_le_mul (by omega) (by rw [Int.mul_comm K D]; exact n2)
  have f2 := rest_bounds NN D (by omega)
  have CF2 : Hid (∀ W, Calls Try.prog 120 #[.int .i64 NN, .int .i64 D] W fun e w' => e = .returned (.int .i64 (NN / D)) ∧ W = w') := Lib.hid fun W => rFloor_any NN D W (by omega) (by omega) (by omega)
  generalize NN / D = f at *
  obtain ⟨Y2, w11⟩ : ∃ r, IntKind.i64.wrap (2 * y0) = r := ⟨_, rfl⟩
  have e11 : 2 * y0 = Y2 := by rw [← w11, IntWalk.i64_in _ ⟨by omega, by omega⟩]
  have p1 := mul_between2 Y2 BA 2000000000 1000000 (by omega) (by omega) (by omega) (by omega)
  obtain ⟨P1, w12⟩ : ∃ r, IntKind.i64.wrap (Y2 * BA) = r := ⟨_, rfl⟩
  have e12 : Y2 * BA = P1 := by rw [← w12, IntWalk.i64_in _ ⟨by omega, by omega⟩]
  rw [e12] at p1
  have p2 : -4002000000000000 ≤ q * K ∧ q * K ≤ 4002000000000000 := by
    have z1 : q * (D * (2 * D)) = QD * (2 * D) := by rw [← e3]; grind
    have z2 := mul_between2 QD (2 * D) 2001000000 2000000 (by omega) (by omega) (by omega) (by omega)
    rcases Int.lt_or_le q 0 with c | c
    · have := Int.mul_le_mul_of_nonneg_left k1 (show 0 ≤ -q by omega)
      rw [Int.neg_mul, Int.neg_mul] at this
      have := Int.mul_nonneg (show 0 ≤ -q by omega) k0
      rw [Int.neg_mul] at this
      omega
    · have := Int.mul_le_mul_of_nonneg_left k1 c
      have := Int.mul_nonneg c k0
      omega
  obtain ⟨P2, w13⟩ : ∃ r, IntKind.i64.wrap (q * K) = r := ⟨_, rfl⟩
  have e13 : q * K = P2 := by rw [← w13, IntWalk.i64_in _ ⟨by omega, by omega⟩]
  rw [e13] at p2
  obtain ⟨P3, w14⟩ : ∃ r, IntKind.i64.wrap (P1 + P2) = r := ⟨_, rfl⟩
  have e14 : P1 + P2 = P3 := by rw [← w14, IntWalk.i64_in _ ⟨by omega, by omega⟩]
  obtain ⟨P4, w15⟩ : ∃ r, IntKind.i64.wrap (P3 + f) = r := ⟨_, rfl⟩
  have e15 : P3 + f = P4 := by rw [← w15, IntWalk.i64_in _ ⟨by omega, by omega⟩]
  have g1 := mul_between2 f D 2000000000000 1000000 (by omega) (by omega) (by omega) (by omega)
  obtain ⟨FD, w16⟩ : ∃ r, IntKind.i64.wrap (f * D) = r := ⟨_, rfl⟩
  have e16 : f * D = FD := by rw [← w16, IntWalk.i64_in _ ⟨by omega, by omega⟩]
  rw [e16] at f2
  obtain ⟨R, w17⟩ : ∃ r, IntKind.i64.wrap (NN - FD) = r := ⟨_, rfl⟩
  have e17 : NN - FD = R := by rw [← w17, IntWalk.i64_in _ ⟨by omega, by omega⟩]
  rw [e17] at f2
  have hE : D * P4 + R = arE x0 x1 y0 y1 a b := by
    have u1 : arE x0 x1 y0 y1 a b = Y2 * BA * D + BA * T * RI := by rw [← e11, ← e5, ← e1, ← e8, ← e6, ← e7, ← e2]; unfold arE; grind
    have u2 : RI = q * D + M := by omega
    rw [u1, e9, u2, ← e15, ← e14, ← e12, ← e13, ← e17, ← e10, ← e16]
    grind
  have hv := (Int.ediv_emod_unique (a := arE x0 x1 y0 y1 a b) (r := R) (q := P4) (show 0 < D by omega)).2 ⟨by omega, by omega, by omega⟩
  have HV : Hid (fv (arE x0 x1 y0 y1 a b / (x1 - x0)) (arE x0 x1 y0 y1 a b % (x1 - x0)) (x1 - x0) = fv P4 R D) := Lib.hid (by rw [e1, hv.1, hv.2])
  rw [HV.out]
  clear e1 e2 e3 e4 e5 e6 e7 e8 e9 e10 e11 e12 e13 e14 e15 e16 e17 hq hr hqd k0 k1 k2 n0 n1 n2 f0 f1 f2 p1 p2 g1 hE hv HV hx0 hx1 h0 h1 h2 a1 a2 b1 b2
  go_enter Try.func121, Try.ntmps121
  go_wp2_with fail
  refine (CF1.out _).mono ?_
  rintro e w' ⟨rfl, rfl⟩
  go_wp2_with fail
  refine (CF2.out _).mono ?_
  rintro e w' ⟨rfl, rfl⟩
  go_wp2
  refine bodyPost_ret (v := fv P4 R D) (by simp [results, Try.results121, go_sem]) rfl ⟨rfl, ?_⟩
  exact below_alloc1 _ _

set_option maxRecDepth 100000 in
set_option maxHeartbeats 2000000 in
theorem plain_any (W1 N1 D1 W2 N2 D2 : Int) (w : World) (hW1 : -3000000000000000 ≤ W1) (hW1' : W1 ≤ 3000000000000000) (hW2 : -3000000000000000 ≤ W2) (hW2' : W2 ≤ 3000000000000000) (hN1 : 0 ≤ N1) (hN1' : N1 < D1) (hN2 : 0 ≤ N2) (hN2' : N2 < D2) (hD2 : D2 ≤ 1000000) (hD1 : D1 ≤ 1000000) :
    Calls Try.prog 122 #[fv W1 N1 D1, fv W2 N2 D2] w fun e w' => e = .returned (fv (W1 + W2 + (N1 * D2 + N2 * D1) / (D1 * D2)) ((N1 * D2 + N2 * D1) % (D1 * D2)) (D1 * D2)) ∧ Below w.heap.size w w' := by
  have p1 : N1 * D2 ≤ 1000000 * 1000000 := Int.mul_le_mul (by omega) (by omega) (by omega) (by omega)
  have p1' : 0 ≤ N1 * D2 := Int.mul_nonneg (by omega) (by omega)
  have p2 : N2 * D1 ≤ 1000000 * 1000000 := Int.mul_le_mul (by omega) (by omega) (by omega) (by omega)
  have p2' : 0 ≤ N2 * D1 := Int.mul_nonneg (by omega) (by omega)
  have p3 : D1 * D2 ≤ 1000000 * 1000000 := Int.mul_le_mul (by omega) (by omega) (by omega) (by omega)
  have p3' : 1 * 1 ≤ D1 * D2 := Int.mul_le_mul (by omega) (by omega) (by omega) (by omega)
  obtain ⟨A, w1⟩ : ∃ r, IntKind.i64.wrap (N1 * D2) = r := ⟨_, rfl⟩
  have e1 : N1 * D2 = A := by rw [← w1, IntWalk.i64_in _ ⟨by omega, by omega⟩]
  obtain ⟨B, w2⟩ : ∃ r, IntKind.i64.wrap (N2 * D1) = r := ⟨_, rfl⟩
  have e2 : N2 * D1 = B := by rw [← w2, IntWalk.i64_in _ ⟨by omega, by omega⟩]
  obtain ⟨N, w3⟩ : ∃ r, IntKind.i64.wrap (A + B) = r := ⟨_, rfl⟩
  have e3 : A + B = N := by rw [← w3, IntWalk.i64_in _ ⟨by omega, by omega⟩]
  obtain ⟨D, w4⟩ : ∃ r, IntKind.i64.wrap (D1 * D2) = r := ⟨_, rfl⟩
  have e4 : D1 * D2 = D := by rw [← w4, IntWalk.i64_in _ ⟨by omega, by omega⟩]
  rw [e1, e2, e3, e4]
  have f0 : 0 ≤ N / D := Int.ediv_nonneg (by omega) (by omega)
  have f1 := Int.ediv_le_self D (show 0 ≤ N by omega)
  have f2 := Int.mul_ediv_add_emod N D
  have f3 := Int.emod_nonneg N (show D ≠ 0 by omega)
  have f4 := Int.emod_lt_of_pos N (show 0 < D by omega)
  rw [Int.mul_comm] at f2
  have CF : Hid (∀ W, Calls Try.prog 120 #[.int .i64 N, .int .i64 D] W fun e w' => e = .returned (.int .i64 (N / D)) ∧ W = w') := Lib.hid fun W => rFloor_any N D W (by omega) (by omega) (by omega)
  generalize hq : N / D = q at *
  generalize hr : N % D = R0 at *
  obtain ⟨S, w5⟩ : ∃ r, IntKind.i64.wrap (W1 + W2) = r := ⟨_, rfl⟩
  have e5 : W1 + W2 = S := by rw [← w5, IntWalk.i64_in _ ⟨by omega, by omega⟩]
  obtain ⟨S2, w6⟩ : ∃ r, IntKind.i64.wrap (S + q) = r := ⟨_, rfl⟩
  have e6 : S + q = S2 := by rw [← w6, IntWalk.i64_in _ ⟨by omega, by omega⟩]
  obtain ⟨QD, w7⟩ : ∃ r, IntKind.i64.wrap (q * D) = r := ⟨_, rfl⟩
  have e7 : q * D = QD := by rw [← w7, IntWalk.i64_in _ ⟨by omega, by omega⟩]
  obtain ⟨R, w8⟩ : ∃ r, IntKind.i64.wrap (N - QD) = r := ⟨_, rfl⟩
  have e8 : N - QD = R := by rw [← w8, IntWalk.i64_in _ ⟨by omega, by omega⟩]
  have e9 : R0 = R := by omega
  rw [e5, e6, e9]
  clear e1 e2 e3 e4 e5 e6 e7 e8 e9 p1 p1' p2 p2' p3 p3' f0 f1 f2 f3 f4 hq hr hW1 hW1' hW2 hW2' hN1 hN1' hN2 hN2' hD2 hD1
  go_enter Try.func122, Try.ntmps122
  go_wp2_with fail
  refine (CF.out _).mono ?_
  rintro e w' ⟨rfl, rfl⟩
  go_wp2
  refine bodyPost_ret (v := fv S2 R D) (by simp [results, Try.results122, go_sem]) rfl ⟨rfl, ?_⟩
  exact below_a3 (Below.refl _ _)

/-- place -/
def placeS (ps : List P3) (n : Int) : Int := firstX ps + n % (lastX ps - firstX ps + 1)
theorem placeS_in {ps : List P3} (h : firstX ps ≤ lastX ps) (n : Int) : firstX ps ≤ placeS ps n ∧ placeS ps n ≤ lastX ps := by
  unfold placeS
  have h1 := Int.emod_nonneg n (show lastX ps - firstX ps + 1 ≠ 0 by omega)
  have h2 := Int.emod_lt_of_pos n (show 0 < lastX ps - firstX ps + 1 by omega)
  omega
theorem first_le_last {ps : List P3} (ht : tabOk ps = true) : firstX ps ≤ lastX ps := by
  have hl := (tabOk_len ht).1
  have e0 : ps[0]? = some (ps[0]'(by omega)) := List.getElem?_eq_getElem (by omega)
  have e1 : ps[ps.length - 1]? = some (ps[ps.length - 1]'(by omega)) := List.getElem?_eq_getElem (by omega)
  have := rising_le ht e0 e1 (by omega)
  have f0 : firstX ps = (ps[0]'(by omega)).1 := by unfold firstX; rw [List.head?_eq_getElem?, e0]; rfl
  have f1 : lastX ps = (ps[ps.length - 1]'(by omega)).1 := by unfold lastX; rw [List.getLast?_eq_getElem?, e1]; rfl
  omega

set_option maxRecDepth 100000 in
set_option maxHeartbeats 2000000 in
theorem place_any (b o n c : Nat) (ps : List P3) (z : Int) (w : World) (hn : n = ps.length) (hb : b < w.heap.size) (ht : tabOk ps = true) (hc : PtsAt w b o ps) :
    Calls Try.prog 65 #[tv (some ⟨b, o, none⟩) n c, .int .i64 z] w fun e w' => e = .returned (.int .i64 (placeS ps z)) ∧ Below w.heap.size w w' := by
  have hl := tabOk_len ht
  obtain ⟨pl1, pl2⟩ := places_in ht
  have hfl := first_le_last ht
  have hv : placeS ps z = firstX ps + z % (lastX ps - firstX ps + 1) := rfl
  obtain ⟨X0, hX0⟩ : ∃ X, firstX ps = X := ⟨_, rfl⟩
  obtain ⟨X1, hX1⟩ : ∃ X, lastX ps = X := ⟨_, rfl⟩
  have CF : Hid (∀ W, Below w.heap.size w W → Calls Try.prog 72 #[tv (some ⟨b, o, none⟩) n c] W fun e w' => e = .returned (.int .i64 X0) ∧ Below W.heap.size W w') :=
    Lib.hid fun W hW => by rw [← hX0]; exact rFirst_tab b o n c ps W hn (by omega) (Nat.lt_of_lt_of_le hb hW.size) (hc.below hW hb)
  have CL : Hid (∀ W, Below w.heap.size w W → Calls Try.prog 73 #[tv (some ⟨b, o, none⟩) n c] W fun e w' => e = .returned (.int .i64 X1) ∧ Below W.heap.size W w') :=
    Lib.hid fun W hW => by rw [← hX1]; exact rLast_tab b o n c ps W hn (by omega) (by omega) (Nat.lt_of_lt_of_le hb hW.size) (hc.below hW hb)
  rw [hX0, hX1] at hv hfl
  rw [hX0] at pl1
  rw [hX1] at pl2
  obtain ⟨d0, w1⟩ : ∃ r, IntKind.i64.wrap (X1 - X0) = r := ⟨_, rfl⟩
  have e1 : X1 - X0 = d0 := by rw [← w1, IntWalk.i64_in _ ⟨by omega, by omega⟩]
  obtain ⟨d, w2⟩ : ∃ r, IntKind.i64.wrap (d0 + 1) = r := ⟨_, rfl⟩
  have e2 : d0 + 1 = d := by rw [← w2, IntWalk.i64_in _ ⟨by omega, by omega⟩]
  rw [e1, e2] at hv
  have t1 := tmod_twice z d (by omega)
  have t2 := Int.tmod_lt_of_pos z (show 0 < d by omega)
  have t3 : -d < z.tmod d := Int.lt_tmod_of_pos z (by omega)
  have t4 := Int.emod_nonneg z (show d ≠ 0 by omega)
  have t5 := Int.emod_lt_of_pos z (show 0 < d by omega)
  obtain ⟨m, g1⟩ : ∃ r, z.tmod d = r := ⟨_, rfl⟩
  rw [g1] at t1 t2 t3
  have q1 : IntKind.i64.wrap m = m := IntWalk.i64_in _ ⟨by omega, by omega⟩
  obtain ⟨s, w3⟩ : ∃ r, IntKind.i64.wrap (m + d) = r := ⟨_, rfl⟩
  have e3 : m + d = s := by rw [← w3, IntWalk.i64_in _ ⟨by omega, by omega⟩]
  rw [e3] at t1
  obtain ⟨k, g2⟩ : ∃ r, z % d = r := ⟨_, rfl⟩
  rw [g2] at t1 t4 t5 hv
  have q2 : IntKind.i64.wrap k = k := IntWalk.i64_in _ ⟨by omega, by omega⟩
  obtain ⟨R, w4⟩ : ∃ r, IntKind.i64.wrap (X0 + k) = r := ⟨_, rfl⟩
  have e4 : X0 + k = R := by rw [← w4, IntWalk.i64_in _ ⟨by omega, by omega⟩]
  rw [hv, e4]
  have z1 : (d == 0) = false := beq_eq_false_iff_ne.2 (by omega)
  have z2 : ¬ d = 0 := by omega
  have hE : Below w.heap.size w (w.alloc (.cells #[.slice (some ⟨b, o, none⟩) n c] 43)) := below_alloc1 _ _
  have HE := Lib.hid hE; have HT := Lib.hid (Blk.new w 43 #[.slice (some ⟨b, o, none⟩) n c])
  clear hE e1 e2 e3 e4 t2 t3 t4 t5 g2 hv hX0 hX1 pl1 pl2 hfl hl hn hc ht hb
  go_enter Try.func65, Try.ntmps65
  go_wp2_with fail
  refine (CF.out _ HE.out).mono ?_
  rintro e w1' ⟨rfl, hb1⟩
  have HE1 := Lib.hid (below_then HE.out hb1)
  have t0 := (blkOn HT.out hb1).cell 0
  simp at t0
  clear hb1
  go_wp2_with fail
  refine (CL.out _ HE1.out).mono ?_
  rintro e w2' ⟨rfl, hb2⟩
  have HE2 := Lib.hid (below_then HE1.out hb2)
  clear hb2 t0
  go_wp2
  go_ret
  exact ⟨rfl, HE2.out⟩
end Go.Proofs.Ytmenlaefekkahaa
