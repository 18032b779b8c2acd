/- The walk of FixAreas (the law package): it returns true. Its conditions: the points and the numbers lie in memory. -/
import Derived.Test.YthhcejcpopgkiaaX0
import Derived.Test.YthhcejcpopgkiaaR2
import Derived.Test.YthhcejcpopgkiaaI1
import Derived.Test.YthhcejcpopgkiaaU0
import Derived.Deep.RegionHeld3
set_option linter.unusedVariables false
set_option linter.unusedSimpArgs false
set_option linter.constructorNameAsVariable false
namespace Go.Proofs.Ythhcejcpopgkiaa
open Go.RowKit
attribute [local go_sem ↓] run_minI run_maxI

/-- A row of numbers in memory is handed back. -/
def GivesRow (w : World) (n : Nat) (L : List Int) (e : Ending) (w' : World) : Prop := ∃ pg cap, e = .returned (.slice (some ⟨pg, 0, none⟩) n cap) ∧ pg < w'.heap.size ∧ IntsMem w' pg 0 L ∧ Below w.heap.size w w'
theorem row_of {w w' : World} {n : Nat} {L : List Int} {e : Ending} (h : GivesInts w L e w') (hn : n = L.length) (h1 : 1 ≤ n) : GivesRow w n L e w' := by
  subst hn
  obtain ⟨pg, cap, rfl, _, l, m, hb⟩ := gives_form h (by intro c; rw [c] at h1; simp at h1)
  exact ⟨pg, cap, rfl, l, fun k x hx => by rw [Nat.zero_add]; exact m k x hx, hb⟩
theorem keepK {W2 w0 w1 : World} {x0 x1 : Value} {A : Nat} (hb : Below w0.heap.size w0 w1) (h : w0.cell? ⟨A, 0, none⟩ = some x0 ∧ w0.cell? ⟨A, 1, none⟩ = some x1 ∧ Below W2.heap.size W2 w0) (h1 : A < W2.heap.size) :
    w1.cell? ⟨A, 0, none⟩ = some x0 ∧ w1.cell? ⟨A, 1, none⟩ = some x1 ∧ Below W2.heap.size W2 w1 := by
  obtain ⟨q0, q1, q6⟩ := h
  have hl := Nat.lt_of_lt_of_le h1 q6.size
  obtain ⟨p, _⟩ := bcell hb
  exact ⟨(p _ _ hl).trans q0, (p _ _ hl).trans q1, below_then q6 hb⟩
theorem belowK {W2 w0 : World} {x0 x1 : Value} {A : Nat} (h : w0.cell? ⟨A, 0, none⟩ = some x0 ∧ w0.cell? ⟨A, 1, none⟩ = some x1 ∧ Below W2.heap.size W2 w0) : Below W2.heap.size W2 w0 := h.2.2

set_option maxRecDepth 100000 in
set_option maxHeartbeats 8000000 in
theorem fixAreas_walk (A A' : Option Addr) (n n' c c' : Nat) (ps : List P3) (cs : List Int) (z0 z1 z2 : Int) (w : World) (hn : n = ps.length) (hn' : n' = cs.length) (hm : n ≤ maxLen) (hm' : n' ≤ maxLen) (hp : Pts w A ps) (hq : IntsP w A' cs) :
    Calls Try.prog 10 #[.agg #[.slice A n c, .slice A' n' c'], .agg #[.int .i64 z0, .int .i64 z1, .int .i64 z2]] w fun e w' => e = .returned (.bool true) ∧ Below w.heap.size w w' := by
  have hK : Boxes ((w.alloc (.cells #[.slice A n c, .slice A' n' c'] 66)).alloc (.cells #[.int .i64 z0, .int .i64 z1, .int .i64 z2] 67)) [(w.heap.size + 1, 67, #[.int .i64 z0, .int .i64 z1, .int .i64 z2]), (w.heap.size, 66, #[.slice A n c, .slice A' n' c'])] := by
    have h1 : Boxes (w.alloc (.cells #[.slice A n c, .slice A' n' c'] 66)) [(w.heap.size, 66, #[.slice A n c, .slice A' n' c'])] := fun p hp => by
      have := List.mem_singleton.1 hp; subst this; exact Blk.new w _ _
    have h2 := h1.new 67 #[.int .i64 z0, .int .i64 z1, .int .i64 z2]
    rw [World.size_alloc] at h2
    exact h2
  have HK0 := Lib.hid hK; clear hK
  have HE0 := Lib.hid (show Below w.heap.size w ((w.alloc (.cells #[.slice A n c, .slice A' n' c'] 66)).alloc (.cells #[.int .i64 z0, .int .i64 z1, .int .i64 z2] 67)) from below_a2 (Below.refl _ _))
  by_cases ht : tabOk ps = true
  · have h1 := (tabOk_len ht).1
    have h40 := (tabOk_len ht).2
    have hn1 : 1 ≤ n := by omega
    have hn40 : n ≤ 40 := by omega
    obtain ⟨b, o, rfl, hb, hc⟩ := hp.block h1
    have hfl := first_le_last ht
    have i0 := placeS_in hfl z0
    have i1 := placeS_in hfl z1
    have i2 := placeS_in hfl z2
    obtain ⟨pl1, pl2⟩ := places_in ht
    obtain ⟨a, ha⟩ : ∃ r, placeS ps z0 = r := ⟨_, rfl⟩
    obtain ⟨d1, hd1⟩ : ∃ r, placeS ps z1 = r := ⟨_, rfl⟩
    obtain ⟨d2, hd2⟩ : ∃ r, placeS ps z2 = r := ⟨_, rfl⟩
    rw [ha] at i0
    rw [hd1] at i1
    rw [hd2] at i2
    obtain ⟨x, hx⟩ : ∃ r, max a d1 = r := ⟨_, rfl⟩
    obtain ⟨y, hy⟩ : ∃ r, max x d2 = r := ⟨_, rfl⟩
    have q1 : placesS ps a y = 0 := by unfold placesS; rw [if_pos ht, if_pos (inB_yes (by omega) (by omega) (by omega))]
    have q2 : placesS ps a x = 0 := by unfold placesS; rw [if_pos ht, if_pos (inB_yes (by omega) (by omega) (by omega))]
    have q3 : placesS ps x y = 0 := by unfold placesS; rw [if_pos ht, if_pos (inB_yes (by omega) (by omega) (by omega))]
    obtain ⟨L1, L2, L3, L4, L5, L6⟩ := tab_lines ht
    have hcl := curveFrom_len cs 0 ps
    have bt := area_between (a := a) (b := y) hcl (fun k p y hp hy => curve_within ht k p y hp hy)
    have pa := area_parts ht (show a ≤ x by omega) (show x ≤ y by omega)
    have b1 := areaLo_in q1; have b2 := areaHi_in q1; have b3 := areaLo_in q2; have b4 := areaHi_in q2; have b5 := areaLo_in q3; have b6 := areaHi_in q3
    have CV : Hid (∀ W, Below w.heap.size w W → Calls Try.prog 63 #[tv (some ⟨b, o, none⟩) n c] W fun e w' => e = .returned (.bool true) ∧ Below W.heap.size W w') := Lib.hid fun W hW => by
      have h := validTable_any _ n c ps W hn (by unfold maxLen; omega) ((hc.below hW hb).pts (Nat.lt_of_lt_of_le hb hW.size))
      rw [ht] at h; exact h
    have P0 : Hid (∀ W, Below w.heap.size w W → Calls Try.prog 65 #[tv (some ⟨b, o, none⟩) n c, .int .i64 z0] W fun e w' => e = .returned (.int .i64 a) ∧ Below W.heap.size W w') := Lib.hid fun W hW =>
      int_to (place_any b o n c ps z0 W hn (Nat.lt_of_lt_of_le hb hW.size) ht (hc.below hW hb)) ha
    have P1 : Hid (∀ W, Below w.heap.size w W → Calls Try.prog 65 #[tv (some ⟨b, o, none⟩) n c, .int .i64 z1] W fun e w' => e = .returned (.int .i64 d1) ∧ Below W.heap.size W w') := Lib.hid fun W hW =>
      int_to (place_any b o n c ps z1 W hn (Nat.lt_of_lt_of_le hb hW.size) ht (hc.below hW hb)) hd1
    have P2 : Hid (∀ W, Below w.heap.size w W → Calls Try.prog 65 #[tv (some ⟨b, o, none⟩) n c, .int .i64 z2] W fun e w' => e = .returned (.int .i64 d2) ∧ Below W.heap.size W w') := Lib.hid fun W hW =>
      int_to (place_any b o n c ps z2 W hn (Nat.lt_of_lt_of_le hb hW.size) ht (hc.below hW hb)) hd2
    have CX : Hid (∀ W, Below w.heap.size w W → Calls Try.prog 67 #[tv (some ⟨b, o, none⟩) n c] W (GivesRow W n (xsOf ps))) := Lib.hid fun W hW =>
      (xs_any b o n c ps W hn hn40 (Nat.lt_of_lt_of_le hb hW.size) (hc.below hW hb)).mono fun e w' h => row_of h (by rw [List.length_map]; exact hn) hn1
    have CC : Hid (∀ W, Below w.heap.size w W → Calls Try.prog 64 #[.agg #[.slice (some ⟨b, o, none⟩) n c, .slice A' n' c']] W (GivesRow W n (curveFrom cs 0 ps))) := Lib.hid fun W hW =>
      (curve_any b o n c A' n' c' ps cs W hn (Nat.lt_of_lt_of_le hb hW.size) ht (hc.below hW hb) hn' hm' (hq.below hW)).mono fun e w' h => row_of h (by rw [hcl]; exact hn) hn1
    have CT : Hid (∀ W p1 k1 p2 k2, p1 < W.heap.size → p2 < W.heap.size → IntsMem W p1 0 (xsOf ps) → IntsMem W p2 0 (curveFrom cs 0 ps) →
        Calls Try.prog 75 #[.slice (some ⟨p1, 0, none⟩) n k1, .slice (some ⟨p2, 0, none⟩) n k2, .int .i64 a, .int .i64 y] W fun e w' =>
          e = .returned (.tuple #[.int .i64 (exN a y (xsOf ps) (curveFrom cs 0 ps) / exD a y (xsOf ps) (curveFrom cs 0 ps)), .bool (decide (0 < exN a y (xsOf ps) (curveFrom cs 0 ps) % exD a y (xsOf ps) (curveFrom cs 0 ps)))]) ∧ Below W.heap.size W w') := Lib.hid fun W p1 k1 p2 k2 g1 g2 m1 m2 =>
      twice_any p1 0 p2 0 n k1 k2 (xsOf ps) (curveFrom cs 0 ps) a y (firstX ps) W (by rw [List.length_map]; exact hn) (by rw [hcl]; exact hn) hn1 hn40 g1 g2 m1 m2 L1 L2 (curve_inY ht) L6 (by omega) (by omega) (by omega)
    have R1 : Hid (∀ W, Below w.heap.size w W → Calls Try.prog 54 #[tv (some ⟨b, o, none⟩) n c, .int .i64 a, .int .i64 y] W fun e w' => e = .returned (.tuple #[.int .i64 (areaLo ps a y), .int .i64 (areaHi ps a y), .int .i64 0]) ∧ Below W.heap.size W w') := Lib.hid fun W hW =>
      area_to b o n c ps a y W hn (Nat.lt_of_lt_of_le hb hW.size) q1 (hc.below hW hb)
    have R2 : Hid (∀ W, Below w.heap.size w W → Calls Try.prog 54 #[tv (some ⟨b, o, none⟩) n c, .int .i64 a, .int .i64 x] W fun e w' => e = .returned (.tuple #[.int .i64 (areaLo ps a x), .int .i64 (areaHi ps a x), .int .i64 0]) ∧ Below W.heap.size W w') := Lib.hid fun W hW =>
      area_to b o n c ps a x W hn (Nat.lt_of_lt_of_le hb hW.size) q2 (hc.below hW hb)
    have R3 : Hid (∀ W, Below w.heap.size w W → Calls Try.prog 54 #[tv (some ⟨b, o, none⟩) n c, .int .i64 x, .int .i64 y] W fun e w' => e = .returned (.tuple #[.int .i64 (areaLo ps x y), .int .i64 (areaHi ps x y), .int .i64 0]) ∧ Below W.heap.size W w') := Lib.hid fun W hW =>
      area_to b o n c ps x y W hn (Nat.lt_of_lt_of_le hb hW.size) q3 (hc.below hW hb)
    clear i0 i1 i2 ha hd1 hd2 q1 q2 q3 L1 L2 L3 L4 L5 L6 hcl pl1 pl2 hfl hn hn' hm hm' hp hq hc h1 h40 hn1 hn40 ht
    generalize areaLo ps a y = LO at *
    generalize areaHi ps a y = HI at *
    generalize areaLo ps a x = LO1 at *
    generalize areaHi ps a x = HI1 at *
    generalize areaLo ps x y = LO2 at *
    generalize areaHi ps x y = HI2 at *
    generalize hM : decide (0 < exN a y (xsOf ps) (curveFrom cs 0 ps) % exD a y (xsOf ps) (curveFrom cs 0 ps)) = M at *
    generalize exN a y (xsOf ps) (curveFrom cs 0 ps) / exD a y (xsOf ps) (curveFrom cs 0 ps) = V at *
    obtain ⟨t1, t2, t3⟩ := bt
    obtain ⟨⟨u1, u2⟩, u3', u4'⟩ := pa
    have t4 : M = true → V ≠ HI := fun h => t3 (of_decide_eq_true (hM.trans h))
    clear hM t3
    obtain ⟨s1, w1⟩ : ∃ r, IntKind.i64.wrap (LO - LO1) = r := ⟨_, rfl⟩
    have e1 : LO - LO1 = s1 := by rw [← w1, IntWalk.i64_in _ ⟨by omega, by omega⟩]
    obtain ⟨s2, w2⟩ : ∃ r, IntKind.i64.wrap (s1 - LO2) = r := ⟨_, rfl⟩
    have e2 : s1 - LO2 = s2 := by rw [← w2, IntWalk.i64_in _ ⟨by omega, by omega⟩]
    obtain ⟨s3, w3⟩ : ∃ r, IntKind.i64.wrap (HI1 + HI2) = r := ⟨_, rfl⟩
    have e3 : HI1 + HI2 = s3 := by rw [← w3, IntWalk.i64_in _ ⟨by omega, by omega⟩]
    obtain ⟨s4, w4⟩ : ∃ r, IntKind.i64.wrap (s3 - HI) = r := ⟨_, rfl⟩
    have e4 : s3 - HI = s4 := by rw [← w4, IntWalk.i64_in _ ⟨by omega, by omega⟩]
    have v1 : 0 ≤ s2 := by omega
    have v2 : s2 ≤ 1 := by omega
    have v3 : 0 ≤ s4 := by omega
    have v4 : s4 ≤ 1 := by omega
    have t5 : ¬ V < LO := by omega
    have t6 : ¬ HI < V := by omega
    clear e1 e2 e3 e4 u1 u2 u3' u4' b1 b2 b3 b4 b5 b6
    have HT := Lib.hid t4
    clear t4
    go_enter Try.func10, Try.ntmps10
    go_wp2_with fail
    obtain ⟨W0, hW⟩ : ∃ W, (w.alloc (.cells #[.slice (some ⟨b, o, none⟩) n c, .slice A' n' c'] 66)).alloc (.cells #[.int .i64 z0, .int .i64 z1, .int .i64 z2] 67) = W := ⟨_, rfl⟩
    rw [hW] at HK0 HE0 ⊢
    clear hW
    obtain ⟨G, hG⟩ : ∃ G, w.heap.size = G := ⟨_, rfl⟩
    rw [hG] at HK0 ⊢
    have HG := Lib.hid hG; clear hG
    -- ValidTable
    refine (CV.out W0 HE0.out).mono ?_
    rintro e v ⟨rfl, hbv⟩
    have HK1 := Lib.hid (HK0.out.on hbv); have HE1 := Lib.hid (below_then HE0.out hbv)
    clear hbv HK0 HE0
    have c0 := (HK1.out _ (.tail _ (.head _))).cell 0
    have c1 := (HK1.out _ (.head _)).cell 0
    simp at c0 c1
    go_wp2_with fail
    refine (P0.out v HE1.out).mono ?_
    rintro e v ⟨rfl, hbv⟩
    have HK2 := Lib.hid (HK1.out.on hbv); have HE2 := Lib.hid (below_then HE1.out hbv)
    clear hbv HK1 HE1 c0 c1
    have c0 := (HK2.out _ (.tail _ (.head _))).cell 0
    have c1 := (HK2.out _ (.head _)).cell 1
    simp at c0 c1
    go_wp2_with fail
    refine (P1.out _ HE2.out).mono ?_
    rintro e v ⟨rfl, hbv⟩
    have HK3 := Lib.hid (HK2.out.on hbv); have HE3 := Lib.hid (below_then HE2.out hbv)
    clear hbv HK2 HE2 c0 c1
    have c0 := (HK3.out _ (.tail _ (.head _))).cell 0
    have c1 := (HK3.out _ (.head _)).cell 2
    simp at c0 c1
    go_wp2_with fail
    refine (P2.out _ HE3.out).mono ?_
    rintro e v ⟨rfl, hbv⟩
    have HK4 := Lib.hid (HK3.out.on hbv); have HE4 := Lib.hid (below_then HE3.out hbv)
    clear hbv HK3 HE3 c0 c1
    have c0 := (HK4.out _ (.tail _ (.head _))).cell 0
    have c1 := (HK4.out _ (.tail _ (.head _))).cell 1
    have lG := (HK4.out _ (.tail _ (.head _))).lt
    simp at c0 c1 lG
    go_wp2_with fail
    go_region_held3 (fun w' => w'.cell? ⟨G, 0, none⟩ = some (.slice (some ⟨b, o, none⟩) n c) ∧ w'.cell? ⟨G, 1, none⟩ = some (.slice A' n' c') ∧ Below v.heap.size v w')
      (first | exact ⟨c0, c1, (Below.refl _ _).drew⟩ | exact keepK (by assumption) (by assumption) lG)
      (first
        | (go_at_call 67; (with_reducible refine (CX.out _ (below_then HE4.out (belowK (by assumption)))).mono ?_); rintro e v1 ⟨p1, k1, rfl, l1, m1, hb1⟩; have M1 := Lib.hid m1; clear m1)
        | (go_at_call 64; (with_reducible refine (CC.out _ (below_then HE4.out (belowK (by assumption)))).mono ?_); rintro e v2 ⟨p2, k2, rfl, l2, m2, hb2⟩; have M2 := Lib.hid (And.intro (M1.out.below hb2 l1) m2); have l1' := Nat.lt_of_lt_of_le l1 hb2.size; clear m2)
        | (go_at_call 75; (with_reducible refine (CT.out _ p1 k1 p2 k2 l1' l2 M2.out.1 M2.out.2).mono ?_); rintro e v3 ⟨rfl, hb3⟩; have T3 := keepK (W2 := v) (A := G) hb3 (by assumption) lG)
        | fail)
    have HE5 := Lib.hid (below_then HE4.out T3.2.2); have HK5 := Lib.hid (HK4.out.on T3.2.2)
    clear T3 c0 c1 lG M1 M2 l1 l1' l2 hb1 hb2 hb3 HK4 HE4
    have c0 := (HK5.out _ (.tail _ (.head _))).cell 0
    simp at c0
    go_wp2_with fail
    refine (R1.out _ HE5.out).mono ?_
    rintro e v ⟨rfl, hbv⟩
    have HK6 := Lib.hid (HK5.out.on hbv); have HE6 := Lib.hid (below_then HE5.out hbv)
    clear hbv HK5 HE5 c0
    have c0 := (HK6.out _ (.tail _ (.head _))).cell 0
    simp at c0
    go_wp2_with fail
    refine (R2.out _ HE6.out).mono ?_
    rintro e v ⟨rfl, hbv⟩
    have HK7 := Lib.hid (HK6.out.on hbv); have HE7 := Lib.hid (below_then HE6.out hbv)
    clear hbv HK6 HE6 c0
    have c0 := (HK7.out _ (.tail _ (.head _))).cell 0
    simp at c0
    go_wp2_with fail
    refine (R3.out _ HE7.out).mono ?_
    rintro e v ⟨rfl, hbv⟩
    have HE8 := Lib.hid (below_then HE7.out hbv)
    clear hbv HK7 HE7 c0
    cases M with
    | true =>
      have t7 : (V == HI) = false := beq_eq_false_iff_ne.2 (HT.out rfl)
      have t8 : ¬ V = HI := HT.out rfl
      go_wp2_with fail
      refine (sane_any _).mono ?_
      rintro e v ⟨rfl, hbv⟩
      go_wp2
      go_ret
      exact ⟨rfl, below_then HE8.out hbv⟩
    | false =>
      go_wp2_with fail
      refine (sane_any _).mono ?_
      rintro e v ⟨rfl, hbv⟩
      go_wp2
      go_ret
      exact ⟨rfl, below_then HE8.out hbv⟩
  · have hf : tabOk ps = false := by simpa using ht
    have CV : Hid (∀ W, Below w.heap.size w W → Calls Try.prog 63 #[tv A n c] W fun e w' => e = .returned (.bool false) ∧ Below W.heap.size W w') := Lib.hid fun W hW => by
      have h := validTable_any _ n c ps W hn hm (hp.below hW)
      rw [hf] at h; exact h
    clear hn hn' hm hm' hp hq ht hf
    go_enter Try.func10, Try.ntmps10
    go_wp2_with fail
    refine (CV.out _ HE0.out).mono ?_
    rintro e v ⟨rfl, hbv⟩
    have HE1 := Lib.hid (below_then HE0.out hbv)
    clear hbv
    go_wp2_with fail
    refine (sane_any _).mono ?_
    rintro e v ⟨rfl, hbv⟩
    go_wp2
    go_ret
    exact ⟨rfl, below_then HE1.out hbv⟩
end Go.Proofs.Ythhcejcpopgkiaa
