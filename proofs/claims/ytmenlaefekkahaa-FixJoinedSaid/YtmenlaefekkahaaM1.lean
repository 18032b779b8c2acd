/- The contracts of At (fix) and of at, At, CheckTable (the specification): both give the same. Their conditions: the table's points lie in memory; for at: the table is valid and has the place. -/
import Derived.Test.YtmenlaefekkahaaN1
import Derived.Test.YtmenlaefekkahaaL1
import Derived.Test.YtmenlaefekkahaaL3
import Derived.Test.YtmenlaefekkahaaL4
import Derived.Test.YtmenlaefekkahaaH2
set_option linter.unusedVariables false
set_option linter.unusedSimpArgs false
set_option linter.constructorNameAsVariable false
namespace Go.Proofs.Ytmenlaefekkahaa
open Go.RowKit

theorem places_ok {ps : List P3} {a b : Int} (h : placesS ps a b = 0) : tabOk ps = true ∧ a ≤ b ∧ firstX ps ≤ a ∧ b ≤ lastX ps := by
  unfold placesS at h
  by_cases ht : tabOk ps = true
  · rw [if_pos ht] at h
    by_cases hi : inB a b (firstX ps) (lastX ps) = true
    · simp only [inB, decide_eq_true_eq] at hi
      exact ⟨ht, hi.1, hi.2.1, hi.2.2⟩
    · rw [if_neg hi] at h; omega
  · rw [if_neg ht] at h; omega
/-- At -/
def AtS (ps : List P3) (x : Int) : Int × Int × Int := if placesS ps x x = 0 then ((atS ps x).1, (atS ps x).2, 0) else (0, 0, placesS ps x x)
theorem Pts.block {w : World} {A : Option Addr} {ps : List P3} (h : Pts w A ps) (hl : 1 ≤ ps.length) : ∃ b o, A = some ⟨b, o, none⟩ ∧ b < w.heap.size ∧ PtsAt w b o ps := by
  rcases h with h | ⟨b, o, h1, h2, h3⟩
  · rw [h] at hl; simp at hl
  · exact ⟨b, o, h1, h2, h3⟩

set_option maxRecDepth 100000 in
set_option maxHeartbeats 1000000 in
theorem at_all (A : Option Addr) (n c : Nat) (ps : List P3) (x : Int) (w : World) (hn : n = ps.length) (hm : n ≤ maxLen) (hp : Pts w A ps) :
    Calls Try.prog 35 #[tv A n c, .int .i64 x] w fun e w' => e = .returned (rt (AtS ps x)) ∧ Below w.heap.size w w' := by
  have hE : Below w.heap.size w ((w.alloc (.cells #[.slice A n c] 43)).alloc (.cells #[.int .i64 0, .int .i64 0] 23)) := below_a2 (Below.refl _ _)
  have bT := (Blk.new w 43 #[.slice A n c]).alloc (.cells #[.int .i64 0, .int .i64 0] 23)
  have bR := Blk.new (w.alloc (.cells #[.slice A n c] 43)) 23 #[.int .i64 0, .int .i64 0]
  simp only [World.size_alloc] at bR
  have HP := Lib.hid (hp.below hE); have HN := Lib.hid hn; clear hn
  obtain ⟨E, hEr⟩ : ∃ E, placesS ps x x = E := ⟨_, rfl⟩
  have HC : Hid (∀ W, Pts W A ps → Calls Try.prog 90 #[tv A n c, .int .i64 x, .int .i64 x] W fun e w' => e = .returned (.int .i64 E) ∧ Below W.heap.size W w') :=
    Lib.hid fun W hW => checkPlaces_to A n c ps x x E W HN.out hm hW hEr
  have HE := Lib.hid hE; have HT := Lib.hid bT; have HR := Lib.hid bR
  clear hE bT bR
  by_cases h0 : E = 0
  · subst h0
    obtain ⟨ht, _, hx1, hx2⟩ := places_ok hEr
    obtain ⟨pl1, pl2⟩ := places_in ht
    have hl := (tabOk_len ht).1
    obtain ⟨b, o, rfl, hb, hc⟩ := hp.block hl
    obtain ⟨⟨ra, rb⟩, hr⟩ : ∃ r, atS ps x = r := ⟨_, rfl⟩
    have HA : Hid (∀ W, Below w.heap.size w W → Calls Try.prog 91 #[tv (some ⟨b, o, none⟩) n c, .int .i64 x] W fun e w' => e = .returned (rv ra rb) ∧ Below W.heap.size W w') := Lib.hid fun W hW =>
      at_to b o n c ps x ra rb W HN.out (by rw [HN.out]; exact hl) (Nat.lt_of_lt_of_le hb hW.size) ht (by omega) (by omega) (hc.below hW hb) hr
    have HV := Lib.hid (show AtS ps x = (ra, rb, 0) by unfold AtS; rw [if_pos hEr, hr])
    clear hEr hp hx1 hx2 hc hr ht
    go_enter Try.func35, Try.ntmps35
    go_wp2_with fail
    refine (HC.out _ HP.out).mono ?_
    rintro e w1 ⟨rfl, hb1⟩
    have HT1 := Lib.hid (blkOn HT.out hb1); have HR1 := Lib.hid (blkOn HR.out hb1); have HE1 := Lib.hid (below_then HE.out hb1)
    have t0 := HT1.out.cell 0
    simp at t0
    clear hb1
    go_wp2_with fail
    refine (HA.out _ HE1.out).mono ?_
    rintro e w2 ⟨rfl, hb2⟩
    have bR2 := blkOn HR1.out hb2
    have r0 := bR2.cell 0
    have r1 := bR2.cell 1
    have f0 := bR2.frozen 0
    have f1 := bR2.frozen 1
    simp at r0 r1
    have HE2 := Lib.hid (below_then HE1.out hb2)
    clear hb2 bR2 t0
    go_wp2
    refine bodyPost_ret (v := rt (ra, rb, 0)) (by simp [results, Try.results35, go_sem, r0, r1]) rfl ⟨by rw [HV.out], ?_⟩
    exact (HE2.out.setCell (p := ⟨w.heap.size + 1, 0, none⟩) (by show w.heap.size ≤ w.heap.size + 1; omega) _).setCell (p := ⟨w.heap.size + 1, 1, none⟩) (by show w.heap.size ≤ w.heap.size + 1; omega) _
  · have HV := Lib.hid (show AtS ps x = (0, 0, E) by unfold AtS; rw [hEr, if_neg h0])
    have t1 : (E == 0) = false := beq_eq_false_iff_ne.2 h0
    clear hEr hp h0
    go_enter Try.func35, Try.ntmps35
    go_wp2_with fail
    refine (HC.out _ HP.out).mono ?_
    rintro e w1 ⟨rfl, hb1⟩
    have bR1 := blkOn HR.out hb1
    have r0 := bR1.cell 0
    have r1 := bR1.cell 1
    have f0 := bR1.frozen 0
    have f1 := bR1.frozen 1
    simp at r0 r1
    have HE1 := Lib.hid (below_then HE.out hb1)
    clear hb1 bR1
    go_wp2
    refine bodyPost_ret (v := rt (0, 0, E)) (by simp [results, Try.results35, go_sem, r0, r1]) rfl ⟨by rw [HV.out], ?_⟩
    exact (HE1.out.setCell (p := ⟨w.heap.size + 1, 0, none⟩) (by show w.heap.size ≤ w.heap.size + 1; omega) _).setCell (p := ⟨w.heap.size + 1, 1, none⟩) (by show w.heap.size ≤ w.heap.size + 1; omega) _

theorem field0 (a b c : Int) (w : World) : (Instr.field 71 (.agg #[.int .i64 a, .int .i64 b, .int .i64 c]) 0).run Try.prog w = .ok (.int .i64 a) w := by kernel_rfl

/-- Two rows' numbers at the place of a point. -/
theorem getElem?_fst {ps : List P3} {f : P3 → Int} {k : Nat} {y : Int} (h : (ps.map f)[k]? = some y) : ∃ p, ps[k]? = some p ∧ f p = y := by
  rw [List.getElem?_map, Option.map_eq_some_iff] at h; exact h

theorem agg3_inj {a b c a' b' c' : Int} (h : Ending.returned (.agg #[.int .i64 a, .int .i64 b, .int .i64 c]) = .returned (.agg #[.int .i64 a', .int .i64 b', .int .i64 c'])) : a = a' ∧ b = b' ∧ c = c' := by
  simpa using h
theorem val_lo {ps : List P3} {x V N D : Int} {w w' : World} (ht : tabOk ps = true) (hl : x ≤ lastX ps) (h : GivesVal (ps.map (·.1)) (ps.map (·.2.1)) x w (.returned (.agg #[.int .i64 V, .int .i64 N, .int .i64 D])) w') : (atS ps x).1 = V := by
  obtain ⟨k, xk, yk, h1, h2, h3, h4, _, h6⟩ := h
  obtain ⟨p, hp, rfl⟩ := getElem?_fst h1
  obtain ⟨p', hp', rfl⟩ := getElem?_fst h2
  rw [hp] at hp'; injection hp' with hp'; subst hp'
  have hr := ref_at ht hp h3 hl (fun q hq => h4 q.1 (by rw [List.getElem?_map, hq]; rfl))
  rcases h6 with ⟨h6, e⟩ | ⟨h6, z, yz, h7, h8, e⟩
  · obtain ⟨e1, _, _⟩ := agg3_inj e
    rw [hr.1 h6, e1]
  · obtain ⟨e1, _, _⟩ := agg3_inj e
    obtain ⟨q, hq, _, _, ha⟩ := hr.2 h6
    obtain ⟨q', hq', rfl⟩ := getElem?_fst h7
    obtain ⟨q'', hq'', rfl⟩ := getElem?_fst h8
    rw [hq] at hq' hq''; injection hq' with hq'; injection hq'' with hq''; subst hq'; subst hq''
    rw [ha, e1]
theorem val_hi {ps : List P3} {x V N D : Int} {w w' : World} (ht : tabOk ps = true) (hl : x ≤ lastX ps) (h : GivesVal (ps.map (·.1)) (ps.map (·.2.2)) x w (.returned (.agg #[.int .i64 V, .int .i64 N, .int .i64 D])) w') : (atS ps x).2 = upS V N := by
  obtain ⟨k, xk, yk, h1, h2, h3, h4, _, h6⟩ := h
  obtain ⟨p, hp, rfl⟩ := getElem?_fst h1
  obtain ⟨p', hp', rfl⟩ := getElem?_fst h2
  rw [hp] at hp'; injection hp' with hp'; subst hp'
  have hr := ref_at ht hp h3 hl (fun q hq => h4 q.1 (by rw [List.getElem?_map, hq]; rfl))
  rcases h6 with ⟨h6, e⟩ | ⟨h6, z, yz, h7, h8, e⟩
  · obtain ⟨e1, e2, _⟩ := agg3_inj e
    rw [hr.1 h6, e1, e2]; rfl
  · obtain ⟨e1, e2, _⟩ := agg3_inj e
    obtain ⟨q, hq, _, _, ha⟩ := hr.2 h6
    obtain ⟨q', hq', rfl⟩ := getElem?_fst h7
    obtain ⟨q'', hq'', rfl⟩ := getElem?_fst h8
    rw [hq] at hq' hq''; injection hq' with hq'; injection hq'' with hq''; subst hq'; subst hq''
    rw [ha, e1, e2]

attribute [local go_sem] field0
set_option maxRecDepth 100000 in
set_option maxHeartbeats 2000000 in
theorem rAt_good (b o n c : Nat) (ps : List P3) (x : Int) (w : World) (hn : n = ps.length) (hb : b < w.heap.size) (ht : tabOk ps = true) (hx1 : firstX ps ≤ x) (hx2 : x ≤ lastX ps) (hc : PtsAt w b o ps) :
    Calls Try.prog 93 #[tv (some ⟨b, o, none⟩) n c, .int .i64 x] w fun e w' => e = .returned (rv (atS ps x).1 (atS ps x).2) ∧ Below w.heap.size w w' := by
  have h40 := (tabOk_len ht).2
  have hl := (tabOk_len ht).1
  obtain ⟨pl1, pl2⟩ := places_in ht
  have hok := okp_of ps (-1) (tabOk_pts ht) (by omega)
  have hxs : ∀ z ∈ ps.map (·.1), 0 ≤ z ∧ z ≤ 1000000 := fun z hz => by
    obtain ⟨p, hp, rfl⟩ := List.mem_map.1 hz; exact ⟨(hok p hp).1.1, (hok p hp).1.2.1⟩
  have hlo : ∀ z ∈ ps.map (·.2.1), -1000000000 ≤ z ∧ z ≤ 1000000000 := fun z hz => by
    obtain ⟨p, hp, rfl⟩ := List.mem_map.1 hz; exact ⟨(hok p hp).1.2.2.1, (hok p hp).1.2.2.2.1⟩
  have hhi : ∀ z ∈ ps.map (·.2.2), -1000000000 ≤ z ∧ z ≤ 1000000000 := fun z hz => by
    obtain ⟨p, hp, rfl⟩ := List.mem_map.1 hz; exact ⟨(hok p hp).1.2.2.2.2.1, (hok p hp).1.2.2.2.2.2⟩
  have hf : ∀ z, (ps.map (·.1))[0]? = some z → z ≤ x := fun z hz => by
    obtain ⟨p, hp, rfl⟩ := getElem?_fst hz
    have : firstX ps = p.1 := by unfold firstX; rw [List.head?_eq_getElem?, hp]; rfl
    omega
  have hla : ∀ z, (ps.map (·.1))[n - 1]? = some z → x ≤ z := fun z hz => by
    obtain ⟨p, hp, rfl⟩ := getElem?_fst hz
    have : lastX ps = p.1 := by unfold lastX; rw [List.getLast?_eq_getElem?, ← hn, hp]; rfl
    omega
  have hne : ∀ f : P3 → Int, ps.map f ≠ [] := fun f h => by rw [List.map_eq_nil_iff] at h; rw [h] at hl; simp at hl
  -- the two values
  have val : ∀ (f : P3 → Int) (v1 v2 : Value) (base : Nat) (W : World), (∀ z ∈ ps.map f, -1000000000 ≤ z ∧ z ≤ 1000000000) → OwnInts base W v1 (ps.map (·.1)) → OwnInts base W v2 (ps.map f) →
      Calls Try.prog 66 #[v1, v2, .int .i64 x] W fun e w' => ∃ V N D, e = .returned (.agg #[.int .i64 V, .int .i64 N, .int .i64 D]) ∧ Below W.heap.size W w' ∧ -3000000000000000 ≤ V ∧ V ≤ 3000000000000000 ∧ GivesVal (ps.map (·.1)) (ps.map f) x W e w' := by
    intro f v1 v2 base W hv o1 o2
    obtain ⟨g1, c1, rfl, _, l1, m1⟩ := o1.cells (hne _)
    obtain ⟨g2, c2, rfl, _, l2, m2⟩ := o2.cells (hne _)
    simp only [List.length_map]
    refine (value_any g1 0 g2 0 ps.length c1 c2 (ps.map fun p : P3 => p.1) (ps.map f) x W (by simp) (by simp) hl h40 l1 l2 m1 m2 hxs hv (by omega) (by omega) hf (by rw [← hn]; exact hla)).mono ?_
    rintro e w' hG
    obtain ⟨k, xk, yk, h1, h2, h3, h4, h5, h6⟩ := hG
    have by1 := hv yk (List.mem_of_getElem? h2)
    rcases h6 with ⟨h6, rfl⟩ | ⟨h6, z, yz, h7, h8, rfl⟩
    · exact ⟨yk, 0, 1, rfl, h5, by omega, by omega, k, xk, yk, h1, h2, h3, h4, h5, .inl ⟨h6, rfl⟩⟩
    · have by2 := hv yz (List.mem_of_getElem? h8)
      have bz := h4 z h7
      have bx1 := hxs xk (List.mem_of_getElem? h1)
      have hmb := mul_between2 (yz - yk) (x - xk) 2000000000 1000000 (by omega) (by omega) (by omega) (by omega)
      have hq := ediv_between ((yz - yk) * (x - xk)) (z - xk) 2000000000000000 (by omega) (by omega) (by omega) (by omega)
      exact ⟨_, _, _, rfl, h5, by omega, by omega, k, xk, yk, h1, h2, h3, h4, h5, .inr ⟨h6, z, yz, h7, h8, rfl⟩⟩
  have HV2 := Lib.hid (val (·.2.1)); have HV3 := Lib.hid (val (·.2.2)); have HLO := Lib.hid hlo; have HHI := Lib.hid hhi
  have hE : Below w.heap.size w ((w.alloc (.cells #[.slice (some ⟨b, o, none⟩) n c] 43)).alloc (.cells #[.int .i64 0, .int .i64 0] 23)) := below_a2 (Below.refl _ _)
  have bR := Blk.new (w.alloc (.cells #[.slice (some ⟨b, o, none⟩) n c] 43)) 23 #[.int .i64 0, .int .i64 0]
  simp only [World.size_alloc] at bR
  have HLI := Lib.hid (lines_any b o n c ps _ hn (by omega) (Nat.lt_of_lt_of_le hb hE.size) (hc.below hE hb))
  have HT := Lib.hid (And.intro ht hx2)
  have HR := Lib.hid bR; have HE := Lib.hid hE
  clear val hlo hhi hxs hf hla hne hok hE bR hc ht hx1 hx2 pl1 pl2 hn hl h40
  go_enter Try.func93, Try.ntmps93
  go_wp2_with fail
  refine (HLI.out).mono ?_
  rintro e w1 ⟨v1, v2, v3, rfl, hL, hb1⟩
  have HR1 := Lib.hid (blkOn HR.out hb1); have HE1 := Lib.hid (below_then HE.out hb1)
  have HL := Lib.hid hL
  clear hb1 hL HR HE HLI
  go_wp2_with fail
  refine (HV2.out v1 v2 _ w1 HLO.out HL.out.1 HL.out.2.1).mono ?_
  rintro e w2 ⟨V, N, D, rfl, hb2, hV1, hV2, hG⟩
  have e1 := val_lo HT.out.1 HT.out.2 hG
  have HR2 := Lib.hid (blkOn HR1.out hb2); have HE2 := Lib.hid (below_then HE1.out hb2)
  have o1 := HL.out.1.below hb2
  have o3 := HL.out.2.2.1.below hb2
  have HL2 := Lib.hid (And.intro o1 o3); have HE1' := Lib.hid e1
  clear hb2 hV1 hV2 hG o1 o3 e1
  go_wp2_with fail
  refine (HV3.out v1 v3 _ w2 HHI.out HL2.out.1 HL2.out.2).mono ?_
  rintro e w3 ⟨V', N', D', rfl, hb3, hV1, hV2, hG⟩
  have e2 := val_hi HT.out.1 HT.out.2 hG
  have HR3 := Lib.hid (blkOn HR2.out hb3); have HE3 := Lib.hid (below_then HE2.out hb3); have HE2' := Lib.hid e2
  clear hb3 hG e2
  go_wp2_with fail
  refine (up_any V' N' D' _ (by omega) (by omega)).mono ?_
  rintro e w4 ⟨rfl, hb4⟩
  have bR4 := blkOn HR3.out hb4
  have r0 := bR4.cell 0
  have r1 := bR4.cell 1
  have f0 := bR4.frozen 0
  have f1 := bR4.frozen 1
  simp at r0 r1
  have HE4 := Lib.hid (below_then HE3.out hb4)
  obtain ⟨U, hU⟩ : ∃ U, upS V' N' = U := ⟨_, rfl⟩
  have HU := Lib.hid (show rv V U = rv (atS ps x).1 (atS ps x).2 by rw [HE1'.out, HE2'.out, hU])
  rw [hU]
  clear hb4 bR4 hU hV1 hV2
  go_wp2
  refine bodyPost_ret (v := rv V U) (by simp [results, Try.results93, go_sem, r0, r1]) rfl ⟨by rw [HU.out], ?_⟩
  exact (HE4.out.setCell (p := ⟨w.heap.size + 1, 0, none⟩) (by show w.heap.size ≤ w.heap.size + 1; omega) _).setCell (p := ⟨w.heap.size + 1, 1, none⟩) (by show w.heap.size ≤ w.heap.size + 1; omega) _

theorem rAt_to (b o n c : Nat) (ps : List P3) (x ra rb : Int) (w : World) (hn : n = ps.length) (hb : b < w.heap.size) (ht : tabOk ps = true) (hx1 : firstX ps ≤ x) (hx2 : x ≤ lastX ps) (hc : PtsAt w b o ps) (hr : atS ps x = (ra, rb)) :
    Calls Try.prog 93 #[tv (some ⟨b, o, none⟩) n c, .int .i64 x] w fun e w' => e = .returned (rv ra rb) ∧ Below w.heap.size w w' := by
  have h := rAt_good b o n c ps x w hn hb ht hx1 hx2 hc
  rw [hr] at h; exact h

theorem insideS_in (ps : List P3) (x : Int) : insideS ps x = inB x x (firstX ps) (lastX ps) := by
  unfold insideS inB
  by_cases h1 : firstX ps ≤ x <;> by_cases h2 : x ≤ lastX ps <;> simp [h1, h2]

set_option maxRecDepth 100000 in
set_option maxHeartbeats 2000000 in
theorem rAt_all (A : Option Addr) (n c : Nat) (ps : List P3) (x : Int) (w : World) (hn : n = ps.length) (hm : n ≤ maxLen) (hp : Pts w A ps) :
    Calls Try.prog 36 #[tv A n c, .int .i64 x] w fun e w' => e = .returned (rt (AtS ps x)) ∧ Below w.heap.size w w' := by
  have hE : Below w.heap.size w ((w.alloc (.cells #[.slice A n c] 43)).alloc (.cells #[.int .i64 0, .int .i64 0] 23)) := below_a2 (Below.refl _ _)
  have bT := (Blk.new w 43 #[.slice A n c]).alloc (.cells #[.int .i64 0, .int .i64 0] 23)
  have bR := Blk.new (w.alloc (.cells #[.slice A n c] 43)) 23 #[.int .i64 0, .int .i64 0]
  simp only [World.size_alloc] at bR
  have HP := Lib.hid (hp.below hE); have HN := Lib.hid hn; clear hn
  have HE := Lib.hid hE; have HT := Lib.hid bT; have HR := Lib.hid bR
  clear hE bT bR
  by_cases ht : tabOk ps = true
  · have hl := (tabOk_len ht).1
    have h40 := (tabOk_len ht).2
    obtain ⟨b, o, rfl, hb, hc⟩ := hp.block hl
    have HVT : Hid (∀ W, Pts W (some ⟨b, o, none⟩) ps → Calls Try.prog 63 #[tv (some ⟨b, o, none⟩) n c] W fun e w' => e = .returned (.bool true) ∧ Below W.heap.size W w') := Lib.hid fun W hW => by
      have h := validTable_any _ n c ps W HN.out hm hW
      rw [ht] at h; exact h
    by_cases hi : insideS ps x = true
    · have hx : firstX ps ≤ x ∧ x ≤ lastX ps := by simpa [insideS] using hi
      have hpl : placesS ps x x = 0 := by unfold placesS; rw [if_pos ht, ← insideS_in, if_pos hi]
      obtain ⟨⟨ra, rb⟩, hr⟩ : ∃ r, atS ps x = r := ⟨_, rfl⟩
      have HV := Lib.hid (show AtS ps x = (ra, rb, 0) by unfold AtS; rw [if_pos hpl, hr])
      have HI : Hid (∀ W, Below w.heap.size w W → Calls Try.prog 92 #[tv (some ⟨b, o, none⟩) n c, .int .i64 x] W fun e w' => e = .returned (.bool true) ∧ Below W.heap.size W w') := Lib.hid fun W hW => by
        have h := inside_any b o n c ps x W HN.out (by rw [HN.out]; exact hl) (by rw [HN.out]; exact h40) (Nat.lt_of_lt_of_le hb hW.size) (hc.below hW hb)
        rw [hi] at h; exact h
      have HA : Hid (∀ W, Below w.heap.size w W → Calls Try.prog 93 #[tv (some ⟨b, o, none⟩) n c, .int .i64 x] W fun e w' => e = .returned (rv ra rb) ∧ Below W.heap.size W w') := Lib.hid fun W hW =>
        rAt_to b o n c ps x ra rb W HN.out (Nat.lt_of_lt_of_le hb hW.size) ht hx.1 hx.2 (hc.below hW hb) hr
      clear hp hc hr ht hi hx hpl hl h40
      go_enter Try.func36, Try.ntmps36
      go_wp2_with fail
      refine (HVT.out _ HP.out).mono ?_
      rintro e w1 ⟨rfl, hb1⟩
      have HT1 := Lib.hid (blkOn HT.out hb1); have HR1 := Lib.hid (blkOn HR.out hb1); have HE1 := Lib.hid (below_then HE.out hb1)
      have t0 := HT1.out.cell 0
      simp at t0
      clear hb1
      go_wp2_with fail
      refine (HI.out _ HE1.out).mono ?_
      rintro e w2 ⟨rfl, hb2⟩
      have HT2 := Lib.hid (blkOn HT1.out hb2); have HR2 := Lib.hid (blkOn HR1.out hb2); have HE2 := Lib.hid (below_then HE1.out hb2)
      clear hb2 t0
      have t0 := HT2.out.cell 0
      simp at t0
      go_wp2_with fail
      refine (HA.out _ HE2.out).mono ?_
      rintro e w3 ⟨rfl, hb3⟩
      have bR3 := blkOn HR2.out hb3
      have r0 := bR3.cell 0
      have r1 := bR3.cell 1
      have f0 := bR3.frozen 0
      have f1 := bR3.frozen 1
      simp at r0 r1
      have HE3 := Lib.hid (below_then HE2.out hb3)
      clear hb3 bR3 t0
      go_wp2
      refine bodyPost_ret (v := rt (ra, rb, 0)) (by simp [results, Try.results36, go_sem, r0, r1]) rfl ⟨by rw [HV.out], ?_⟩
      exact (HE3.out.setCell (p := ⟨w.heap.size + 1, 0, none⟩) (by show w.heap.size ≤ w.heap.size + 1; omega) _).setCell (p := ⟨w.heap.size + 1, 1, none⟩) (by show w.heap.size ≤ w.heap.size + 1; omega) _
    · have hi : insideS ps x = false := by simpa using hi
      have hpl : placesS ps x x = 4 := by unfold placesS; rw [if_pos ht, ← insideS_in, hi]; rfl
      have HV := Lib.hid (show AtS ps x = (0, 0, 4) by unfold AtS; rw [hpl]; rfl)
      have HI : Hid (∀ W, Below w.heap.size w W → Calls Try.prog 92 #[tv (some ⟨b, o, none⟩) n c, .int .i64 x] W fun e w' => e = .returned (.bool false) ∧ Below W.heap.size W w') := Lib.hid fun W hW => by
        have h := inside_any b o n c ps x W HN.out (by rw [HN.out]; exact hl) (by rw [HN.out]; exact h40) (Nat.lt_of_lt_of_le hb hW.size) (hc.below hW hb)
        rw [hi] at h; exact h
      clear hp hc ht hi hpl hl h40
      go_enter Try.func36, Try.ntmps36
      go_wp2_with fail
      refine (HVT.out _ HP.out).mono ?_
      rintro e w1 ⟨rfl, hb1⟩
      have HT1 := Lib.hid (blkOn HT.out hb1); have HR1 := Lib.hid (blkOn HR.out hb1); have HE1 := Lib.hid (below_then HE.out hb1)
      have t0 := HT1.out.cell 0
      simp at t0
      clear hb1
      go_wp2_with fail
      refine (HI.out _ HE1.out).mono ?_
      rintro e w2 ⟨rfl, hb2⟩
      have bR2 := blkOn HR1.out hb2
      have r0 := bR2.cell 0
      have r1 := bR2.cell 1
      have f0 := bR2.frozen 0
      have f1 := bR2.frozen 1
      simp at r0 r1
      have HE2 := Lib.hid (below_then HE1.out hb2)
      clear hb2 bR2 t0
      go_wp2
      refine bodyPost_ret (v := rt (0, 0, 4)) (by simp [results, Try.results36, go_sem, r0, r1]) rfl ⟨by rw [HV.out], ?_⟩
      exact (HE2.out.setCell (p := ⟨w.heap.size + 1, 0, none⟩) (by show w.heap.size ≤ w.heap.size + 1; omega) _).setCell (p := ⟨w.heap.size + 1, 1, none⟩) (by show w.heap.size ≤ w.heap.size + 1; omega) _
  · have hf : tabOk ps = false := by simpa using ht
    have hpl : placesS ps x x = 11 := by unfold placesS; rw [if_neg ht]
    have HV := Lib.hid (show AtS ps x = (0, 0, 11) by unfold AtS; rw [hpl]; rfl)
    have HVT : Hid (∀ W, Pts W A ps → Calls Try.prog 63 #[tv A n c] W fun e w' => e = .returned (.bool false) ∧ Below W.heap.size W w') := Lib.hid fun W hW => by
      have h := validTable_any _ n c ps W HN.out hm hW
      rw [hf] at h; exact h
    clear hp ht hf hpl
    go_enter Try.func36, Try.ntmps36
    go_wp2_with fail
    refine (HVT.out _ HP.out).mono ?_
    rintro e w1 ⟨rfl, hb1⟩
    have bR1 := blkOn HR.out hb1
    have r0 := bR1.cell 0
    have r1 := bR1.cell 1
    have f0 := bR1.frozen 0
    have f1 := bR1.frozen 1
    simp at r0 r1
    have HE1 := Lib.hid (below_then HE.out hb1)
    clear hb1 bR1
    go_wp2
    refine bodyPost_ret (v := rt (0, 0, 11)) (by simp [results, Try.results36, go_sem, r0, r1]) rfl ⟨by rw [HV.out], ?_⟩
    exact (HE1.out.setCell (p := ⟨w.heap.size + 1, 0, none⟩) (by show w.heap.size ≤ w.heap.size + 1; omega) _).setCell (p := ⟨w.heap.size + 1, 1, none⟩) (by show w.heap.size ≤ w.heap.size + 1; omega) _
end Go.Proofs.Ytmenlaefekkahaa
