/- FixJoined: whatever tables, numbers and places come in, the law returns true and leaves its arguments as they were. No conditions. -/
import Derived.Test.YtmenlaefekkahaaND
set_option linter.unusedVariables false
set_option linter.unusedSimpArgs false
set_option linter.constructorNameAsVariable false
namespace Go.Proofs.Ytmenlaefekkahaa

section
open Go.RowKit
attribute [local go_sem ↓] run_minI run_maxI

set_option maxRecDepth 100000 in
set_option maxHeartbeats 4000000 in
theorem fixJoined_bad (A A' B B' : Option Addr) (n n' m m' c c' k k' : Nat) (ps qs : List P3) (z0 z1 z2 z3 z4 : Int) (w : World) (hn : n = ps.length) (hm : n ≤ maxLen) (hp : Pts w A ps) (hn' : m = qs.length) (hm' : m ≤ maxLen) (hp' : Pts w B qs) (h0 : ¬ (tabOk ps = true ∧ tabOk qs = true)) :
    Calls Try.prog 9 #[.agg #[.slice A n c, .slice A' n' c'], .agg #[.slice B m k, .slice B' m' k'], .agg #[.int .i64 z0, .int .i64 z1, .int .i64 z2, .int .i64 z3, .int .i64 z4]] w fun e w' => e = .returned (.bool true) ∧ Below w.heap.size w w' := by
  have HK0 := Lib.hid (boxes3 w 66 66 78 #[.slice A n c, .slice A' n' c'] #[.slice B m k, .slice B' m' k'] #[.int .i64 z0, .int .i64 z1, .int .i64 z2, .int .i64 z3, .int .i64 z4])
  have HE0 := Lib.hid (show Below w.heap.size w (((w.alloc (.cells #[.slice A n c, .slice A' n' c'] 66)).alloc (.cells #[.slice B m k, .slice B' m' k'] 66)).alloc (.cells #[.int .i64 z0, .int .i64 z1, .int .i64 z2, .int .i64 z3, .int .i64 z4] 78)) from below_a3 (Below.refl _ _))
  have CV : Hid (∀ W t, Below w.heap.size w W → tabOk ps = t → Calls Try.prog 63 #[tv A n c] W fun e w' => e = .returned (.bool t) ∧ Below W.heap.size W w') := Lib.hid fun W t hW h => by
    have := validTable_any A n c ps W hn hm (hp.below hW)
    rw [h] at this; exact this
  have CU : Hid (∀ W t, Below w.heap.size w W → tabOk qs = t → Calls Try.prog 63 #[tv B m k] W fun e w' => e = .returned (.bool t) ∧ Below W.heap.size W w') := Lib.hid fun W t hW h => by
    have := validTable_any B m k qs W hn' hm' (hp'.below hW)
    rw [h] at this; exact this
  have hcs : tabOk ps = false ∨ (tabOk ps = true ∧ tabOk qs = false) := by
    cases h1 : tabOk ps
    · exact .inl rfl
    · cases h2 : tabOk qs
      · exact .inr ⟨rfl, rfl⟩
      · exact absurd ⟨h1, h2⟩ h0
  clear hn hn' hp hp' h0 hm hm'
  rcases hcs with h | ⟨h, h'⟩
  · have HV := Lib.hid h; clear h
    go_enter Try.func9, Try.ntmps9
    go_wp2_with fail
    refine (CV.out _ false HE0.out HV.out).mono ?_
    rintro e v1 ⟨rfl, hb⟩
    have HE1 := Lib.hid (below_then HE0.out hb)
    clear hb
    go_wp2_with fail
    refine (sane_any _).mono ?_
    rintro e v ⟨rfl, hb⟩
    go_wp2
    go_ret
    exact ⟨rfl, below_then HE1.out hb⟩
  · have HV := Lib.hid h; have HU := Lib.hid h'; clear h h'
    go_enter Try.func9, Try.ntmps9
    go_wp2_with fail
    refine (CV.out _ true HE0.out HV.out).mono ?_
    rintro e v1 ⟨rfl, hb⟩
    have HE1 := Lib.hid (below_then HE0.out hb)
    have q0 := (HK0.out.on hb _ (.tail _ (.head _))).cell 0
    simp at q0
    clear hb
    go_wp2_with fail
    refine (CU.out _ false HE1.out HU.out).mono ?_
    rintro e v2 ⟨rfl, hb⟩
    have HE2 := Lib.hid (below_then HE1.out hb)
    clear hb
    go_wp2_with fail
    refine (sane_any _).mono ?_
    rintro e v ⟨rfl, hb⟩
    go_wp2
    go_ret
    exact ⟨rfl, below_then HE2.out hb⟩

set_option maxRecDepth 100000 in
set_option maxHeartbeats 16000000 in
theorem fixJoined_good (b o b' o' : Nat) (A' B' : Option Addr) (n n' m m' c c' k k' : Nat) (ps qs : List P3) (cs ds : List Int) (z0 z1 z2 z3 z4 : Int) (w : World) (hn : n = ps.length) (hb : b < w.heap.size) (hc : PtsAt w b o ps) (hn' : m = qs.length) (hb' : b' < w.heap.size) (hc' : PtsAt w b' o' qs)
    (hcn : n' = cs.length) (hcm : n' ≤ maxLen) (hcq : IntsP w A' cs) (hdn : m' = ds.length) (hdm : m' ≤ maxLen) (hdq : IntsP w B' ds) (ht : tabOk ps = true) (hu : tabOk qs = true) (i3 : I64 z3) (i4 : I64 z4) :
    Calls Try.prog 9 #[.agg #[.slice (some ⟨b, o, none⟩) n c, .slice A' n' c'], .agg #[.slice (some ⟨b', o', none⟩) m k, .slice B' m' k'], .agg #[.int .i64 z0, .int .i64 z1, .int .i64 z2, .int .i64 z3, .int .i64 z4]] w fun e w' => e = .returned (.bool true) ∧ Below w.heap.size w w' := by
  have HK0 := Lib.hid (boxes3 w 66 66 78 #[.slice (some ⟨b, o, none⟩) n c, .slice A' n' c'] #[.slice (some ⟨b', o', none⟩) m k, .slice B' m' k'] #[.int .i64 z0, .int .i64 z1, .int .i64 z2, .int .i64 z3, .int .i64 z4])
  have HE0 := Lib.hid (show Below w.heap.size w (((w.alloc (.cells #[.slice (some ⟨b, o, none⟩) n c, .slice A' n' c'] 66)).alloc (.cells #[.slice (some ⟨b', o', none⟩) m k, .slice B' m' k'] 66)).alloc (.cells #[.int .i64 z0, .int .i64 z1, .int .i64 z2, .int .i64 z3, .int .i64 z4] 78)) from below_a3 (Below.refl _ _))
  have lp := tabOk_len ht
  have lq := tabOk_len hu
  have fp := first_le_last ht
  have fq := first_le_last hu
  have j0 := placeS_in fp z0
  have j1 := placeS_in fp z1
  have j2 := placeS_in fp z2
  obtain ⟨pl1, pl2⟩ := places_in ht
  obtain ⟨a, ha⟩ : ∃ r, placeS ps z0 = r := ⟨_, rfl⟩
  obtain ⟨d1, hd1⟩ : ∃ r, placeS ps z1 = r := ⟨_, rfl⟩
  obtain ⟨d2, hd2⟩ : ∃ r, placeS ps z2 = r := ⟨_, rfl⟩
  rw [ha] at j0
  rw [hd1] at j1
  rw [hd2] at j2
  obtain ⟨x, hx⟩ : ∃ r, min a d1 = r := ⟨_, rfl⟩
  obtain ⟨y, hy⟩ : ∃ r, max a d2 = r := ⟨_, rfl⟩
  have CV : Hid (∀ W, Below w.heap.size w W → Calls Try.prog 63 #[tv (some ⟨b, o, none⟩) n c] W fun e w' => e = .returned (.bool true) ∧ Below W.heap.size W w') := Lib.hid fun W hW => by
    have h := validTable_any _ n c ps W hn (by unfold maxLen; omega) ((hc.below hW hb).pts (Nat.lt_of_lt_of_le hb hW.size))
    rw [ht] at h; exact h
  have CU : Hid (∀ W, Below w.heap.size w W → Calls Try.prog 63 #[tv (some ⟨b', o', none⟩) m k] W fun e w' => e = .returned (.bool true) ∧ Below W.heap.size W w') := Lib.hid fun W hW => by
    have h := validTable_any _ m k qs W hn' (by unfold maxLen; omega) ((hc'.below hW hb').pts (Nat.lt_of_lt_of_le hb' hW.size))
    rw [hu] at h; exact h
  have PL : Hid (∀ W z r, Below w.heap.size w W → placeS ps z = r → Calls Try.prog 65 #[tv (some ⟨b, o, none⟩) n c, .int .i64 z] W fun e w' => e = .returned (.int .i64 r) ∧ Below W.heap.size W w') := Lib.hid fun W z r hW h =>
    int_to (place_any b o n c ps z W hn (Nat.lt_of_lt_of_le hb hW.size) ht (hc.below hW hb)) h
  have CC : Hid (∀ W, Below w.heap.size w W → Calls Try.prog 64 #[.agg #[.slice (some ⟨b, o, none⟩) n c, .slice A' n' c']] W (GivesRow W n (curveFrom cs 0 ps))) := Lib.hid fun W hW =>
    (curve_any b o n c A' n' c' ps cs W hn (Nat.lt_of_lt_of_le hb hW.size) ht (hc.below hW hb) hcn hcm (hcq.below hW)).mono fun e w' h => row_of h (by rw [curveFrom_len]; exact hn) (by omega)
  have CD : Hid (∀ W, Below w.heap.size w W → Calls Try.prog 64 #[.agg #[.slice (some ⟨b', o', none⟩) m k, .slice B' m' k']] W (GivesRow W m (curveFrom ds 0 qs))) := Lib.hid fun W hW =>
    (curve_any b' o' m k B' m' k' qs ds W hn' (Nat.lt_of_lt_of_le hb' hW.size) hu (hc'.below hW hb') hdn hdm (hdq.below hW)).mono fun e w' h => row_of h (by rw [curveFrom_len]; exact hn') (by omega)
  have CX : Hid (∀ W, Below w.heap.size w W → Calls Try.prog 67 #[tv (some ⟨b, o, none⟩) n c] W (GivesRow W n (xsOf ps))) := Lib.hid fun W hW =>
    (xs_any b o n c ps W hn (by omega) (Nat.lt_of_lt_of_le hb hW.size) (hc.below hW hb)).mono fun e w' h => row_of h (by rw [List.length_map]; exact hn) (by omega)
  have CY : Hid (∀ W, Below w.heap.size w W → Calls Try.prog 67 #[tv (some ⟨b', o', none⟩) m k] W (GivesRow W m (xsOf qs))) := Lib.hid fun W hW =>
    (xs_any b' o' m k qs W hn' (by omega) (Nat.lt_of_lt_of_le hb' hW.size) (hc'.below hW hb')).mono fun e w' h => row_of h (by rw [List.length_map]; exact hn') (by omega)
  have VX : Hid (∀ W g1 k1 g2 k2, RowIn W g1 (xsOf ps) → RowIn W g2 (curveFrom cs 0 ps) → Calls Try.prog 66 #[.slice (some ⟨g1, 0, none⟩) n k1, .slice (some ⟨g2, 0, none⟩) n k2, .int .i64 a] W fun e w' => ∃ V N D A B, e = .returned (fv V N D) ∧ LineAt ps a V N D A B ∧ Below W.heap.size W w') := Lib.hid fun W g1 k1 g2 k2 r1 r2 =>
    curve_value g1 k1 g2 k2 n ps cs a W hn ht (by omega) (by omega) r1 r2
  have VY : Hid (firstX qs ≤ a → a ≤ lastX qs → ∀ W g1 k1 g2 k2, RowIn W g1 (xsOf qs) → RowIn W g2 (curveFrom ds 0 qs) → Calls Try.prog 66 #[.slice (some ⟨g1, 0, none⟩) m k1, .slice (some ⟨g2, 0, none⟩) m k2, .int .i64 a] W fun e w' => ∃ V N D A B, e = .returned (fv V N D) ∧ LineAt qs a V N D A B ∧ Below W.heap.size W w') := Lib.hid fun h1 h2 W g1 k1 g2 k2 r1 r2 =>
    curve_value g1 k1 g2 k2 m qs ds a W hn' hu h1 h2 r1 r2
  -- the cut
  have hcl : (cornersS ps x y).length ≤ 40 := by have := corners_le (a := x) (b := y) lp.1 (by omega) (by omega); omega
  have hpl : placesS ps x y = 0 := by unfold placesS; rw [if_pos ht, if_pos (inB_yes (by omega) (by omega) (by omega))]
  obtain ⟨⟨s1, s2⟩, hs⟩ : ∃ r, atS (built (cutAt ps) (cornersS ps x y)) a = r := ⟨_, rfl⟩
  have hct := cut_tab ht (show x ≤ y by omega) (show firstX ps ≤ x by omega) (show y ≤ lastX ps by omega) hcl
  have hcut : ∀ V N D A B, LineAt ps a V N D A B → (firstX (built (cutAt ps) (cornersS ps x y)) = x ∧ lastX (built (cutAt ps) (cornersS ps x y)) = y) ∧ Lies s1 s2 V N := fun V N D A B h => by
    have := (cut_lies ht (show firstX ps ≤ x by omega) (show x ≤ a by omega) (show a ≤ y by omega) (show y ≤ lastX ps by omega) hcl h).2
    rw [hs] at this; exact this
  have KC : Hid (∀ W, Below w.heap.size w W → Calls Try.prog 37 #[tv (some ⟨b, o, none⟩) n c, .int .i64 x, .int .i64 y] W (TabE W (built (cutAt ps) (cornersS ps x y)) 0)) := Lib.hid fun W hW =>
    (cut_good b o n c ps x y W hn (Nat.lt_of_lt_of_le hb hW.size) hpl (hc.below hW hb)).mono fun e w' hg => tabE_of hg (by unfold built; rw [List.length_map]; omega)
  have AC : Hid (∀ V N D A B, LineAt ps a V N D A B → ∀ P k W, Pts W P (built (cutAt ps) (cornersS ps x y)) → Calls Try.prog 35 #[tv P (built (cutAt ps) (cornersS ps x y)).length k, .int .i64 a] W fun e w' => e = .returned (.tuple #[rv s1 s2, .int .i64 0]) ∧ Below W.heap.size W w') := Lib.hid fun V N D A B h P k W hp =>
    at_made hct (by rw [(hcut V N D A B h).1.1]; omega) (by rw [(hcut V N D A B h).1.2]; omega) hs P _ k W rfl (by unfold built; rw [List.length_map]; unfold maxLen; omega) hp
  have LC : Hid (∀ V N D A B, LineAt ps a V N D A B → ∀ W, Calls Try.prog 68 #[rv s1 s2, fv V N D] W fun e w' => e = .returned (.bool true) ∧ Below W.heap.size W w') := Lib.hid fun V N D A B h W =>
    bool_to (lies_any s1 s2 V N D W) ((liesB_iff _ _ _ _).2 (hcut V N D A B h).2)
  -- the numbers
  obtain ⟨fn, hfn⟩ : ∃ r, fewS z3 = r := ⟨_, rfl⟩
  obtain ⟨fd, hfd⟩ : ∃ r, fewS z4 = r := ⟨_, rfl⟩
  have bfn := fewS_in z3
  have bfd := fewS_in z4
  rw [hfn] at bfn
  rw [hfd] at bfd
  have CN : Hid (∀ W, Calls Try.prog 34 #[.int .i64 z3] W fun e w' => e = .returned (.int .i64 fn) ∧ W = w') := Lib.hid fun W => few_to z3 fn W i3.1 i3.2 hfn
  have CF : Hid (∀ W, Calls Try.prog 34 #[.int .i64 z4] W fun e w' => e = .returned (.int .i64 fd) ∧ W = w') := Lib.hid fun W => few_to z4 fd W i4.1 i4.2 hfd
  obtain ⟨NU, hN⟩ : ∃ r, fn.tmod 1001 = r := ⟨_, rfl⟩
  have bN1 := Int.tmod_lt_of_pos fn (show (0 : Int) < 1001 by omega)
  have bN2 : -1001 < fn.tmod 1001 := Int.lt_tmod_of_pos fn (by omega)
  rw [hN] at bN1 bN2
  obtain ⟨MM, hM⟩ : ∃ r, max fd (-fd) = r := ⟨_, rfl⟩
  obtain ⟨R, hR⟩ : ∃ r, MM.tmod 1000 = r := ⟨_, rfl⟩
  have bR1 := Int.tmod_lt_of_pos MM (show (0 : Int) < 1000 by omega)
  have bR2 : 0 ≤ MM.tmod 1000 := Int.tmod_nonneg 1000 (by omega)
  rw [hR] at bR1 bR2
  obtain ⟨DE, hD⟩ : ∃ r, 1 + R = r := ⟨_, rfl⟩
  have q1 : IntKind.i64.wrap NU = NU := IntWalk.i64_in _ ⟨by omega, by omega⟩
  have q2 : IntKind.i64.wrap (-fd) = -fd := IntWalk.i64_in _ ⟨by omega, by omega⟩
  have q3 : IntKind.i64.wrap R = R := IntWalk.i64_in _ ⟨by omega, by omega⟩
  have q4 : IntKind.i64.wrap (1 + R) = DE := by rw [IntWalk.i64_in _ ⟨by omega, by omega⟩]; exact hD
  have harg : argsOk NU DE := ⟨by omega, by omega, by omega, by omega⟩
  have HQ := Lib.hid (And.intro hN (And.intro hM (And.intro hR (And.intro q1 (And.intro q2 (And.intro q3 q4))))))
  -- Times
  have htc := timesErr_cases ht harg
  obtain ⟨⟨t1, t2⟩, hts⟩ : ∃ r, atS (built (timesAt NU DE ps) (ps.map (·.1))) a = r := ⟨_, rfl⟩
  have KT : Hid (∀ W, Below w.heap.size w W → Calls Try.prog 61 #[tv (some ⟨b, o, none⟩) n c, .int .i64 NU, .int .i64 DE] W (TabE W (okPts (timesErr NU DE ps) (built (timesAt NU DE ps) (ps.map (·.1)))) (timesErr NU DE ps))) := Lib.hid fun W hW => by
    have h := times_any (some ⟨b, o, none⟩) n c NU DE ps W hn (by unfold maxLen; omega) ((hc.below hW hb).pts (Nat.lt_of_lt_of_le hb hW.size))
    rw [corners_all ht] at h
    exact h.mono fun e w' g => tabE_ofE g (okPts_len fun _ => by unfold built; rw [List.length_map, List.length_map]; omega)
  have AT : Hid (timesErr NU DE ps = 0 → ∀ V N D A B, LineAt ps a V N D A B → ∀ P k W, Pts W P (built (timesAt NU DE ps) (ps.map (·.1))) → Calls Try.prog 35 #[tv P (built (timesAt NU DE ps) (ps.map (·.1))).length k, .int .i64 a] W fun e w' => e = .returned (.tuple #[rv t1 t2, .int .i64 0]) ∧ Below W.heap.size W w') := Lib.hid fun he V N D A B h P k W hp => by
    have g := times_lies ht harg (show firstX ps ≤ a by omega) (show a ≤ lastX ps by omega) he h
    exact at_made g.1 (by rw [g.2.1.1]; omega) (by rw [g.2.1.2]; omega) hts P _ k W rfl (by unfold built; rw [List.length_map, List.length_map]; unfold maxLen; omega) hp
  have LT : Hid (timesErr NU DE ps = 0 → ∀ V N D A B, LineAt ps a V N D A B → ∀ W, Calls Try.prog 71 #[rv t1 t2, fv V N D, .int .i64 NU, .int .i64 DE] W fun e w' => e = .returned (.bool true) ∧ Below W.heap.size W w') := Lib.hid fun he V N D A B h W => by
    have g := (times_lies ht harg (show firstX ps ≤ a by omega) (show a ≤ lastX ps by omega) he h).2.2
    rw [hts] at g
    obtain ⟨⟨n0, n1, n2, n3, n4⟩, _⟩ := h
    exact fscaled_any t1 t2 V N D NU DE W n3 n4 n0 n1 n2 (by omega) (by omega) (by omega) (by omega) (scaled_lies (by omega) n0 n1 g.1 g.2)
  -- First and Last of the other table
  have FY : Hid (∀ W, Below w.heap.size w W → Calls Try.prog 72 #[tv (some ⟨b', o', none⟩) m k] W fun e w' => e = .returned (.int .i64 (firstX qs)) ∧ Below W.heap.size W w') := Lib.hid fun W hW => rFirst_tab b' o' m k qs W hn' (by omega) (Nat.lt_of_lt_of_le hb' hW.size) (hc'.below hW hb')
  have LY : Hid (∀ W, Below w.heap.size w W → Calls Try.prog 73 #[tv (some ⟨b', o', none⟩) m k] W fun e w' => e = .returned (.int .i64 (lastX qs)) ∧ Below W.heap.size W w') := Lib.hid fun W hW => rLast_tab b' o' m k qs W hn' (by omega) (by omega) (Nat.lt_of_lt_of_le hb' hW.size) (hc'.below hW hb')
  -- Plus, Either
  have hp0 : ∀ W, Below w.heap.size w W → Pts W (some ⟨b, o, none⟩) ps := fun W hW => (hc.below hW hb).pts (Nat.lt_of_lt_of_le hb hW.size)
  have hp1 : ∀ W, Below w.heap.size w W → Pts W (some ⟨b', o', none⟩) qs := fun W hW => (hc'.below hW hb').pts (Nat.lt_of_lt_of_le hb' hW.size)
  obtain ⟨⟨p1, p2⟩, hps⟩ : ∃ r, atS (built (plusAt ps qs) (placesOf ps qs)) a = r := ⟨_, rfl⟩
  obtain ⟨⟨e1, e2⟩, hes⟩ : ∃ r, atS (built (hullAt ps qs) (placesOf ps qs)) a = r := ⟨_, rfl⟩
  have hlen := placesOf_len ps qs
  have hbl : ∀ f, (built f (placesOf ps qs)).length ≤ 100 := fun f => by unfold built; rw [List.length_map]; omega
  have KP : Hid (∀ W, Below w.heap.size w W → Calls Try.prog 57 #[tv (some ⟨b, o, none⟩) n c, tv (some ⟨b', o', none⟩) m k] W (TabE W (okPts (joinErr (plusAt ps qs) ps qs) (built (plusAt ps qs) (placesOf ps qs))) (joinErr (plusAt ps qs) ps qs))) := Lib.hid fun W hW =>
    (plus_any _ n c _ m k ps qs W hn (by unfold maxLen; omega) hn' (by unfold maxLen; omega) (hp0 W hW) (hp1 W hW)).mono fun e w' g => tabE_ofE g join_len
  have KE : Hid (∀ W, Below w.heap.size w W → Calls Try.prog 59 #[tv (some ⟨b, o, none⟩) n c, tv (some ⟨b', o', none⟩) m k] W (TabE W (okPts (joinErr (hullAt ps qs) ps qs) (built (hullAt ps qs) (placesOf ps qs))) (joinErr (hullAt ps qs) ps qs))) := Lib.hid fun W hW =>
    (either_any _ n c _ m k ps qs W hn (by unfold maxLen; omega) hn' (by unfold maxLen; omega) (hp0 W hW) (hp1 W hW)).mono fun e w' g => tabE_ofE g join_len
  have hpx : firstX ps ≤ a ∧ a ≤ lastX ps := ⟨by omega, by omega⟩
  have AP : Hid (firstX qs ≤ a ∧ a ≤ lastX qs → joinErr (plusAt ps qs) ps qs = 0 → ∀ P k W, Pts W P (built (plusAt ps qs) (placesOf ps qs)) → Calls Try.prog 35 #[tv P (built (plusAt ps qs) (placesOf ps qs)).length k, .int .i64 a] W fun e w' => e = .returned (.tuple #[rv p1 p2, .int .i64 0]) ∧ Below W.heap.size W w') := Lib.hid fun hq he P k W hp => by
    obtain ⟨g1, g2, g3⟩ := join_ok ht hu (fun z hz => by rw [plusAt_is ht hu hz]) hpx hq he
    exact at_made g1 g2 g3 hps P _ k W rfl (by have := hbl (plusAt ps qs); unfold maxLen; omega) hp
  have AE : Hid (firstX qs ≤ a ∧ a ≤ lastX qs → joinErr (hullAt ps qs) ps qs = 0 → ∀ P k W, Pts W P (built (hullAt ps qs) (placesOf ps qs)) → Calls Try.prog 35 #[tv P (built (hullAt ps qs) (placesOf ps qs)).length k, .int .i64 a] W fun e w' => e = .returned (.tuple #[rv e1 e2, .int .i64 0]) ∧ Below W.heap.size W w') := Lib.hid fun hq he P k W hp => by
    obtain ⟨g1, g2, g3⟩ := join_ok ht hu (fun z hz => by rw [hullAt_is ht hu hz]) hpx hq he
    exact at_made g1 g2 g3 hes P _ k W rfl (by have := hbl (hullAt ps qs); unfold maxLen; omega) hp
  have LP : Hid (firstX qs ≤ a ∧ a ≤ lastX qs → joinErr (plusAt ps qs) ps qs = 0 → ∀ V N D A B V' N' D' A' B', LineAt ps a V N D A B → LineAt qs a V' N' D' A' B' → ∃ X Y Z, (∀ W, Calls Try.prog 74 #[fv V N D, fv V' N' D'] W fun e w' => e = .returned (fv X Y Z) ∧ Below W.heap.size W w') ∧ (∀ W, Calls Try.prog 68 #[rv p1 p2, fv X Y Z] W fun e w' => e = .returned (.bool true) ∧ Below W.heap.size W w')) := Lib.hid fun hq he V N D A B V' N' D' A' B' h h' => by
    have g := plus_lies ht hu hpx hq he h h'
    rw [hps] at g
    obtain ⟨⟨n0, n1, n2, n3, n4⟩, _⟩ := h
    obtain ⟨⟨n0', n1', n2', n3', n4'⟩, _⟩ := h'
    exact ⟨_, _, _, fun W => fplus_any V N D V' N' D' W n3 n4 n3' n4' n0 n1 n0' n1' n2' n2, fun W => bool_to (lies_any p1 p2 _ _ _ W) ((liesB_iff _ _ _ _).2 g)⟩
  have LE : Hid (firstX qs ≤ a ∧ a ≤ lastX qs → joinErr (hullAt ps qs) ps qs = 0 → ∀ V N D A B V' N' D' A' B', LineAt ps a V N D A B → LineAt qs a V' N' D' A' B' → (∀ W, Calls Try.prog 68 #[rv e1 e2, fv V N D] W fun e w' => e = .returned (.bool true) ∧ Below W.heap.size W w') ∧ (∀ W, Calls Try.prog 68 #[rv e1 e2, fv V' N' D'] W fun e w' => e = .returned (.bool true) ∧ Below W.heap.size W w')) := Lib.hid fun hq he V N D A B V' N' D' A' B' h h' => by
    have g := either_lies ht hu hpx hq he h h'
    rw [hes] at g
    exact ⟨fun W => bool_to (lies_any e1 e2 _ _ _ W) ((liesB_iff _ _ _ _).2 g.1), fun W => bool_to (lies_any e1 e2 _ _ _ W) ((liesB_iff _ _ _ _).2 g.2)⟩
  have EP : Hid (firstX qs ≤ a ∧ a ≤ lastX qs → joinErr (plusAt ps qs) ps qs = 0 ∨ joinErr (plusAt ps qs) ps qs = 5 ∨ joinErr (plusAt ps qs) ps qs = 2) := Lib.hid fun hq => joinErr_cases ht hu (fun z hz => by rw [plusAt_is ht hu hz]) hpx hq
  have EE : Hid (firstX qs ≤ a ∧ a ≤ lastX qs → joinErr (hullAt ps qs) ps qs = 0 ∨ joinErr (hullAt ps qs) ps qs = 2) := Lib.hid fun hq => hullErr_cases ht hu hpx hq
  have HXY := Lib.hid (And.intro hx hy); have HPL := Lib.hid (And.intro ha (And.intro hd1 hd2)); have HTC := Lib.hid htc
  clear hn hn' hcn hcm hcq hdn hdm hdq ht hu i3 i4 hc hc' lp lq fp fq j0 j1 j2 pl1 pl2 ha hd1 hd2 hx hy hcl hpl hs hct hcut hfn hfd bfn bfd hN bN1 bN2 hM hR bR1 bR2 hD q1 q2 q3 q4 harg htc hts hp0 hp1 hps hes hlen hbl hpx
  generalize built (cutAt ps) (cornersS ps x y) = LC1 at *
  generalize hE2 : timesErr NU DE ps = E2 at *
  generalize built (timesAt NU DE ps) (ps.map (·.1)) = LT1 at *
  generalize hE3 : joinErr (plusAt ps qs) ps qs = E3 at *
  generalize hE4 : joinErr (hullAt ps qs) ps qs = E4 at *
  generalize built (plusAt ps qs) (placesOf ps qs) = LP1 at *
  generalize built (hullAt ps qs) (placesOf ps qs) = LE1 at *
  generalize curveFrom cs 0 ps = ys at *
  generalize curveFrom ds 0 qs = us at *
  generalize xsOf ps = xp at *
  generalize xsOf qs = xq at *
  clear hE2 hE3 hE4
  go_enter Try.func9, Try.ntmps9
  go_wp2_with fail
  obtain ⟨W0, hW⟩ : ∃ W, (((w.alloc (.cells #[.slice (some ⟨b, o, none⟩) n c, .slice A' n' c'] 66)).alloc (.cells #[.slice (some ⟨b', o', none⟩) m k, .slice B' m' k'] 66)).alloc (.cells #[.int .i64 z0, .int .i64 z1, .int .i64 z2, .int .i64 z3, .int .i64 z4] 78)) = W := ⟨_, rfl⟩
  rw [hW] at HK0 HE0 ⊢
  clear hW
  obtain ⟨G, hG⟩ : ∃ G, w.heap.size = G := ⟨_, rfl⟩
  rw [hG] at HK0 ⊢
  have HG := Lib.hid hG; clear hG
  refine (CV.out _ HE0.out).mono ?_
  rintro e v1 ⟨rfl, hb1⟩
  have HK1 := Lib.hid (HK0.out.on hb1); have HE1 := Lib.hid (below_then HE0.out hb1)
  clear hb1 HK0 HE0 
  have q0 := (HK1.out _ (.tail _ (.head _))).cell 0
  have lY := (HK1.out _ (.tail _ (.head _))).lt
  simp at q0 lY
  go_wp2_with fail
  refine (CU.out _ HE1.out).mono ?_
  rintro e v2 ⟨rfl, hb1⟩
  have HK2 := Lib.hid (HK1.out.on hb1); have HE2 := Lib.hid (below_then HE1.out hb1)
  clear hb1 HK1 HE1 q0 lY
  have q0 := (HK2.out _ (.tail _ (.tail _ (.head _)))).cell 0
  have q1 := (HK2.out _ (.head _)).cell 0
  have lX := (HK2.out _ (.tail _ (.tail _ (.head _)))).lt
  have lZ := (HK2.out _ (.head _)).lt
  simp at q0 q1 lX lZ
  go_wp2_with fail
  refine (PL.out _ z0 a HE2.out HPL.out.1).mono ?_
  rintro e v3 ⟨rfl, hb1⟩
  have HK3 := Lib.hid (HK2.out.on hb1); have HE3 := Lib.hid (below_then HE2.out hb1)
  clear hb1 HK2 HE2 q0 q1 lX lZ
  have c0 := (HK3.out _ (.tail _ (.tail _ (.head _)))).cell 0
  have c1 := (HK3.out _ (.tail _ (.tail _ (.head _)))).cell 1
  have lA := (HK3.out _ (.tail _ (.tail _ (.head _)))).lt
  simp at c0 c1 lA
  go_wp2_with fail
  go_cut [8] (fun s wx => ∃ Bx V N D A B, s = .pointer (some ⟨Bx, 0, none⟩) ∧ Blk wx Bx 71 (#[.int .i64 V, .int .i64 N, .int .i64 D]) ∧ Hid (LineAt ps a V N D A B) ∧ Below v3.heap.size v3 wx)
  case first =>
    as_aux_lemma =>
      go_region_held3 (fun w' => w'.cell? ⟨G, 0, none⟩ = some (.slice (some ⟨b, o, none⟩) n c) ∧ w'.cell? ⟨G, 1, none⟩ = some (.slice A' n' c') ∧ Below v3.heap.size v3 w')
        (first | assumption | exact mkG (Below.refl _ _).drew ⟨c0, c1⟩ lA | exact mkG (below_then (belowG (by assumption)) (by assumption)) ⟨c0, c1⟩ lA | exact mkG (T6.alloc T6.size _) ⟨c0, c1⟩ lA | exact mkG ((belowG (by assumption)).alloc (belowG (by assumption)).size _) ⟨c0, c1⟩ lA | exact mkG (((T6.setCell (p := ⟨_, 0, none⟩) (by first | exact Nat.le_refl _ | assumption) _).setCell (p := ⟨_, 1, none⟩) (by first | exact Nat.le_refl _ | assumption) _).setCell (p := ⟨_, 2, none⟩) (by first | exact Nat.le_refl _ | assumption) _) ⟨c0, c1⟩ lA)
        (first
          | (go_at_call 67; (with_reducible refine (CX.out _ (below_then HE3.out (belowG (by assumption)))).mono ?_); rintro e v4 ⟨g1, kk1, rfl, lg1, m1, hb4⟩; have s4 := (below_then (belowG (W2 := v3) (A := G) (by assumption)) hb4).size; (try have N1 : Blk v4 v3.heap.size 71 #[.int .i64 0, .int .i64 0, .int .i64 0] := blkNewD hb4); have R1 : Hid (RowIn v4 g1 xp) := Lib.hid ⟨lg1, m1⟩; clear lg1 m1)
          | (go_at_call 64; (with_reducible refine (CC.out _ (below_then HE3.out (belowG (by assumption)))).mono ?_); rintro e v5 ⟨g2, kk2, rfl, lg2, m2, hb5⟩; have s5 := (below_then (belowG (W2 := v3) (A := G) (by assumption)) hb5).size; have h45 : Below v4.heap.size v4 v5 := (by first | exact hb5 | exact below_then (below_alloc1 _ _) hb5); have R2 : Hid (RowIn v5 g2 ys) := Lib.hid ⟨lg2, m2⟩; have R3 := Lib.hid (R1.out.below h45); (first | (with_reducible have N2 := blkNew hb5) | (have N2 := blkOn N1 hb5) | skip); clear lg2 m2 h45)
          | (go_at_call 66; (first | (with_reducible refine (VX.out _ g1 kk1 g2 kk2 R3.out R2.out).mono ?_) | (refine (VX.out _ g1 kk1 g2 kk2 (R3.out.below (below_alloc1 _ _)) (R2.out.below (below_alloc1 _ _))).mono ?_)); rintro e v6 ⟨V, N, D, A, B, rfl, hla, hb6⟩; have HLA := Lib.hid hla; have T6 := below_then (belowG (W2 := v3) (A := G) (by assumption)) hb6; clear hla; (first | (with_reducible have N3 := blkNew hb6; have n0 := N3.cell 0; have n1 := N3.cell 1; have n2 := N3.cell 2; have n3 := N3.frozen 0; have n4 := N3.frozen 1; have n5 := N3.frozen 2; have n6 := N3.lt; simp at n0 n1 n2) | (have N3 := blkOn N2 hb6; have n0 := N3.cell 0; have n1 := N3.cell 1; have n2 := N3.cell 2; have n3 := N3.frozen 0; have n4 := N3.frozen 1; have n5 := N3.frozen 2; have n6 := N3.lt; simp at n0 n1 n2) | skip))
          | fail)
      all_goals go_wp2_with fail
      all_goals go_meet
      all_goals (first
        | exact ⟨_, V, N, D, A, B, rfl, Blk.new _ _ _, HLA, T6.alloc T6.size _⟩
        | exact ⟨_, V, N, D, A, B, rfl, by simpa using ((N3.set_ 0 (.int .i64 V)).set_ 1 (.int .i64 N)).set_ 2 (.int .i64 D), HLA, ((T6.setCell (p := ⟨_, 0, none⟩) (by first | exact Nat.le_refl _ | assumption) _).setCell (p := ⟨_, 1, none⟩) (by first | exact Nat.le_refl _ | assumption) _).setCell (p := ⟨_, 2, none⟩) (by first | exact Nat.le_refl _ | assumption) _⟩)
  case rest =>
    obtain ⟨Bx, V, N, D, LA, LB, rfl, hbx, HLA1, hb1⟩ := hcut
    rename World => u1
    clear c0 c1 lA
    have HB1 := Lib.hid hbx
    have HK5 := Lib.hid (HK3.out.on hb1); have HE5 := Lib.hid (below_then HE3.out hb1)
    clear hb1 HK3 HE3 hbx
    have HK4' := Lib.hid (boxes_cons HB1.out HK5.out)
    clear HB1 HK5
    have HLQ := HLA1
    obtain ⟨hx, hy⟩ := HXY.out
    have q0 := (HK4'.out _ (.tail _ (.tail _ (.tail _ (.head _))))).cell 0
    have q1 := (HK4'.out _ (.tail _ (.head _))).cell 1
    have lX := (HK4'.out _ (.tail _ (.tail _ (.tail _ (.head _))))).lt
    have lZ := (HK4'.out _ (.tail _ (.head _))).lt
    simp at q0 q1 lX lZ
    go_wp2_with fail
    refine (PL.out _ z1 d1 HE5.out HPL.out.2.1).mono ?_
    rintro e v8 ⟨rfl, hb1⟩
    have HK6 := Lib.hid (HK4'.out.on hb1); have HE6 := Lib.hid (below_then HE5.out hb1)
    clear hb1 HK4' HE5 q0 q1 lX lZ
    have q0 := (HK6.out _ (.tail _ (.tail _ (.tail _ (.head _))))).cell 0
    have q1 := (HK6.out _ (.tail _ (.head _))).cell 2
    have lX := (HK6.out _ (.tail _ (.tail _ (.tail _ (.head _))))).lt
    have lZ := (HK6.out _ (.tail _ (.head _))).lt
    simp at q0 q1 lX lZ
    go_wp2_with fail
    refine (PL.out _ z2 d2 HE6.out HPL.out.2.2).mono ?_
    rintro e v9 ⟨rfl, hb1⟩
    have HK7 := Lib.hid (HK6.out.on hb1); have HE7 := Lib.hid (below_then HE6.out hb1)
    clear hb1 HK6 HE6 q0 q1 lX lZ
    have q0 := (HK7.out _ (.tail _ (.tail _ (.tail _ (.head _))))).cell 0
    have lX := (HK7.out _ (.tail _ (.tail _ (.tail _ (.head _))))).lt
    simp at q0 lX
    go_wp2_with fail
    clear hx hy
    refine (KC.out _ HE7.out).mono ?_
    rintro e v10 ⟨P1, m1, kk, rfl, rfl, hm1, hpt, hb1⟩
    have HPT := Lib.hid (hpt.below (below_alloc1 v10 (.cells #[.slice P1 LC1.length kk] 43)))
    have HK8 := Lib.hid (HK7.out.on hb1); have HE8 := Lib.hid (below_then HE7.out hb1)
    clear hb1 HK7 HE7 q0 lX hpt hm1
    have HK9 := Lib.hid (HK8.out.new 43 #[.slice P1 LC1.length kk]); have HE9 := Lib.hid (below_then HE8.out (below_alloc1 v10 (.cells #[.slice P1 LC1.length kk] 43)))
    clear HK8 HE8
    go_upto_region 8 with fail
    obtain ⟨B10, hB⟩ : ∃ B, v10.heap.size = B := ⟨_, rfl⟩
    obtain ⟨W10, hW⟩ : ∃ W, v10.alloc (.cells #[.slice P1 LC1.length kk] 43) = W := ⟨_, rfl⟩
    rw [hW] at HK9 HE9  HPT ⊢
    rw [hB] at HK9 ⊢
    clear hW hB
    have q0 := (HK9.out _ (.head _)).cell 0
    have lC := (HK9.out _ (.head _)).lt
    simp at q0 lC
    go_wp2_with fail
    refine (AC.out V N D LA LB HLA1.out P1 kk _ HPT.out).mono ?_
    rintro e v11 ⟨rfl, hb1⟩
    clear HPT
    have HK11 := Lib.hid (HK9.out.on hb1); have HE11 := Lib.hid (below_then HE9.out hb1)
    clear hb1 HK9 HE9 q0 lC
    have HK12 := Lib.hid (HK11.out.new 23 #[.int .i64 s1, .int .i64 s2]); have HE12 := Lib.hid (below_then HE11.out (below_alloc1 v11 (.cells #[.int .i64 s1, .int .i64 s2] 23)))
    clear HK11 HE11
    go_upto_region 9 with fail
    obtain ⟨B13, hB⟩ : ∃ B, v11.heap.size = B := ⟨_, rfl⟩
    obtain ⟨W13, hW⟩ : ∃ W, v11.alloc (.cells #[.int .i64 s1, .int .i64 s2] 23) = W := ⟨_, rfl⟩
    rw [hW] at HK12 HE12   ⊢
    rw [hB] at HK12 ⊢
    clear hW hB
    have q0 := (HK12.out _ (.head _)).cell 0
    have q1 := (HK12.out _ (.head _)).cell 1
    have q2 := (HK12.out _ (.tail _ (.tail _ (.head _)))).cell 0
    have q3 := (HK12.out _ (.tail _ (.tail _ (.head _)))).cell 1
    have q4 := (HK12.out _ (.tail _ (.tail _ (.head _)))).cell 2
    have lR1 := (HK12.out _ (.head _)).lt
    have lV1 := (HK12.out _ (.tail _ (.tail _ (.head _)))).lt
    simp at q0 q1 q2 q3 q4 lR1 lV1
    go_wp2_with fail
    refine (LC.out V N D LA LB HLA1.out _).mono ?_
    rintro e v12 ⟨rfl, hb1⟩
    have HK14 := Lib.hid (HK12.out.on hb1); have HE14 := Lib.hid (below_then HE12.out hb1)
    clear hb1 HK12 HE12 q0 q1 q2 q3 q4 lR1 lV1
    have q0 := (HK14.out _ (.tail _ (.tail _ (.tail _ (.head _))))).cell 3
    have lZ := (HK14.out _ (.tail _ (.tail _ (.tail _ (.head _))))).lt
    simp at q0 lZ
    go_wp2_with fail
    refine (CN.out _).mono ?_
    rintro e v13 ⟨rfl, rfl⟩
    clear q0 lZ
    obtain ⟨hN, hM, hR, w1, w2, w3, w4⟩ := HQ.out
    have q0 := (HK14.out _ (.tail _ (.tail _ (.tail _ (.head _))))).cell 4
    have q1 := (HK14.out _ (.tail _ (.tail _ (.tail _ (.tail _ (.tail _ (.head _))))))).cell 0
    have lZ := (HK14.out _ (.tail _ (.tail _ (.tail _ (.head _))))).lt
    have lX := (HK14.out _ (.tail _ (.tail _ (.tail _ (.tail _ (.tail _ (.head _))))))).lt
    simp at q0 q1 lZ lX
    go_wp2_with fail
    go_quiet ((go_at_call 34; exact Calls.quiet_of_same ((CF.out _).mono fun e w' ⟨he, hw⟩ => ⟨he, hw.symm⟩)))
    go_wp2_with fail
    clear hN hM hR w1 w2 w3 w4 q0 q1 lZ lX
    refine (KT.out _ (below_drewM HE14.out _)).mono ?_
    rintro e v14 ⟨P2, m2, kt, rfl, rfl, hm, hpt, hb0⟩
    have hb1 : Below v12.heap.size v12 v14 := (below_drewM (Below.refl v12.heap.size v12) _).trans hb0
    clear hb0
    obtain ⟨LT2, hLT⟩ : ∃ r, okPts E2 LT1 = r := ⟨_, rfl⟩
    rw [hLT] at hpt ⊢
    have HLT := Lib.hid hLT
    clear hLT hm
    have HPT := Lib.hid (hpt.below (below_alloc1 v14 (.cells #[.slice P2 LT2.length kt] 43)))
    have HK15 := Lib.hid (HK14.out.on hb1); have HE15 := Lib.hid (below_then HE14.out hb1)
    clear hb1 HK14 HE14 hpt
    have HK16 := Lib.hid (HK15.out.new 43 #[.slice P2 LT2.length kt]); have HE16 := Lib.hid (below_then HE15.out (below_alloc1 v14 (.cells #[.slice P2 LT2.length kt] 43)))
    clear HK15 HE15
    go_upto_if 116 with (fail)
    obtain ⟨B17, hB⟩ : ∃ B, v14.heap.size = B := ⟨_, rfl⟩
    obtain ⟨W17, hW⟩ : ∃ W, v14.alloc (.cells #[.slice P2 LT2.length kt] 43) = W := ⟨_, rfl⟩
    rw [hW] at HK16 HE16  HPT ⊢
    rw [hB] at HK16 ⊢
    clear hW hB
    go_cut [] (fun wx => Below W17.heap.size W17 wx)
    case first =>
      as_aux_lemma =>
        rcases HTC.out with rfl | rfl
        ·
          have hLT : LT1 = LT2 := by rw [← HLT.out, okPts_ok]
          subst hLT
          have HF0 := Lib.hid (Below.refl W17.heap.size W17)
          have q0 := (HK16.out _ (.head _)).cell 0
          have lT := (HK16.out _ (.head _)).lt
          simp at q0 lT
          go_wp2_with fail
          refine (AT.out (by trivial) V N D LA LB HLA1.out P2 kt _ HPT.out).mono ?_
          rintro e a1 ⟨rfl, hb1⟩
          have HF1 := Lib.hid (below_then HF0.out hb1)
          have HK18 := Lib.hid (HK16.out.on hb1); have HE18 := Lib.hid (below_then HE16.out hb1)
          clear hb1 HK16 HE16 q0 lT
          have HK19 := Lib.hid (HK18.out.new 23 #[.int .i64 t1, .int .i64 t2]); have HE19 := Lib.hid (below_then HE18.out (below_alloc1 a1 (.cells #[.int .i64 t1, .int .i64 t2] 23)))
          clear HK18 HE18
          have HF2 := Lib.hid (below_then HF1.out (below_alloc1 a1 (.cells #[.int .i64 t1, .int .i64 t2] 23)))
          go_upto_region 16 with fail
          obtain ⟨B20, hB⟩ : ∃ B, a1.heap.size = B := ⟨_, rfl⟩
          obtain ⟨W20, hW⟩ : ∃ W, a1.alloc (.cells #[.int .i64 t1, .int .i64 t2] 23) = W := ⟨_, rfl⟩
          rw [hW] at HK19 HE19  HF2 ⊢
          rw [hB] at HK19 ⊢
          clear hW hB
          have q0 := (HK19.out _ (.head _)).cell 0
          have q1 := (HK19.out _ (.head _)).cell 1
          have q2 := (HK19.out _ (.tail _ (.tail _ (.tail _ (.tail _ (.head _)))))).cell 0
          have q3 := (HK19.out _ (.tail _ (.tail _ (.tail _ (.tail _ (.head _)))))).cell 1
          have q4 := (HK19.out _ (.tail _ (.tail _ (.tail _ (.tail _ (.head _)))))).cell 2
          have lS := (HK19.out _ (.head _)).lt
          have lV1 := (HK19.out _ (.tail _ (.tail _ (.tail _ (.tail _ (.head _)))))).lt
          simp at q0 q1 q2 q3 q4 lS lV1
          go_wp2_with fail
          refine (LT.out (by trivial) V N D LA LB HLA1.out _).mono ?_
          rintro e a2 ⟨rfl, hb1⟩
          have HF3 := Lib.hid (below_then HF2.out hb1)
          clear hb1 q0 q1 q2 q3 q4 lS lV1
          go_wp2_with fail
          go_meet
          exact HF3.out
        · go_wp2_with fail
          go_meet
          exact Below.refl _ _
    case rest =>
      have hb1 := hcut
      clear hcut
      rename World => u2
      have HK18 := Lib.hid (HK16.out.on hb1); have HE18 := Lib.hid (below_then HE16.out hb1)
      clear hb1 HK16 HE16 
      go_upto_region 18 with fail
      go_cut [138] (fun s wx => s = .bool false ∧ Below u2.heap.size u2 wx)
      case first =>
        rcases HTC.out with rfl | rfl
        all_goals
          go_wp2_with fail
          go_meet
          exact ⟨rfl, Below.refl _ _⟩
      case rest =>
        obtain ⟨rfl, hb1⟩ := hcut
        rename World => u3
        have HK19 := Lib.hid (HK18.out.on hb1); have HE19 := Lib.hid (below_then HE18.out hb1)
        clear hb1 HK18 HE18 
        have q0 := (HK19.out _ (.tail _ (.tail _ (.tail _ (.tail _ (.tail _ (.head _))))))).cell 0
        have lY := (HK19.out _ (.tail _ (.tail _ (.tail _ (.tail _ (.tail _ (.head _))))))).lt
        simp at q0 lY
        go_wp2_with fail
        refine (FY.out _ HE19.out).mono ?_
        rintro e v20 ⟨rfl, hb1⟩
        have HK20 := Lib.hid (HK19.out.on hb1); have HE20 := Lib.hid (below_then HE19.out hb1)
        clear hb1 HK19 HE19 q0 lY
        by_cases hq : firstX qs ≤ a ∧ a ≤ lastX qs
        rotate_left
        · have hq2 : a < firstX qs ∨ (¬ a < firstX qs ∧ lastX qs < a) := by omega
          rcases hq2 with h1 | ⟨h1, h2⟩
          · go_wp2_with fail
            refine (sane_any _).mono ?_
            rintro e v ⟨rfl, hb⟩
            have HF := Lib.hid (below_then HE20.out hb)
            clear hb
            go_wp2
            go_ret
            exact ⟨rfl, HF.out⟩
          ·
            have q0 := (HK20.out _ (.tail _ (.tail _ (.tail _ (.tail _ (.tail _ (.head _))))))).cell 0
            have lY := (HK20.out _ (.tail _ (.tail _ (.tail _ (.tail _ (.tail _ (.head _))))))).lt
            simp at q0 lY
            go_wp2_with fail
            refine (LY.out _ HE20.out).mono ?_
            rintro e v21 ⟨rfl, hb1⟩
            have HK21 := Lib.hid (HK20.out.on hb1); have HE21 := Lib.hid (below_then HE20.out hb1)
            clear hb1 HK20 HE20 q0 lY
            go_wp2_with fail
            refine (sane_any _).mono ?_
            rintro e v ⟨rfl, hb⟩
            have HF := Lib.hid (below_then HE21.out hb)
            clear hb
            go_wp2
            go_ret
            exact ⟨rfl, HF.out⟩
        ·
          have HQ2 := Lib.hid hq
          have h1 : ¬ a < firstX qs := by omega
          have h2 : ¬ lastX qs < a := by omega
          clear hq
          have q0 := (HK20.out _ (.tail _ (.tail _ (.tail _ (.tail _ (.tail _ (.head _))))))).cell 0
          have lY := (HK20.out _ (.tail _ (.tail _ (.tail _ (.tail _ (.tail _ (.head _))))))).lt
          simp at q0 lY
          go_wp2_with fail
          refine (LY.out _ HE20.out).mono ?_
          rintro e v21 ⟨rfl, hb1⟩
          have HK21 := Lib.hid (HK20.out.on hb1); have HE21 := Lib.hid (below_then HE20.out hb1)
          clear hb1 HK20 HE20 q0 lY
          have VZ := Lib.hid (VY.out HQ2.out.1 HQ2.out.2)
          have c0 := (HK21.out _ (.tail _ (.tail _ (.tail _ (.tail _ (.tail _ (.head _))))))).cell 0
          have c1 := (HK21.out _ (.tail _ (.tail _ (.tail _ (.tail _ (.tail _ (.head _))))))).cell 1
          have lA := (HK21.out _ (.tail _ (.tail _ (.tail _ (.tail _ (.tail _ (.head _))))))).lt
          simp at c0 c1 lA
          go_wp2_with fail
          go_cut [21] (fun s wx => ∃ Bx V N D A B, s = .pointer (some ⟨Bx, 0, none⟩) ∧ Blk wx Bx 71 (#[.int .i64 V, .int .i64 N, .int .i64 D]) ∧ Hid (LineAt qs a V N D A B) ∧ Below v21.heap.size v21 wx)
          case first =>
            as_aux_lemma =>
              go_region_held3 (fun w' => w'.cell? ⟨G + 1, 0, none⟩ = some (.slice (some ⟨b', o', none⟩) m k) ∧ w'.cell? ⟨G + 1, 1, none⟩ = some (.slice B' m' k') ∧ Below v21.heap.size v21 w')
                (first | assumption | exact mkG (Below.refl _ _).drew ⟨c0, c1⟩ lA | exact mkG (below_then (belowG (by assumption)) (by assumption)) ⟨c0, c1⟩ lA | exact mkG (T6.alloc T6.size _) ⟨c0, c1⟩ lA | exact mkG ((belowG (by assumption)).alloc (belowG (by assumption)).size _) ⟨c0, c1⟩ lA | exact mkG (((T6.setCell (p := ⟨_, 0, none⟩) (by first | exact Nat.le_refl _ | assumption) _).setCell (p := ⟨_, 1, none⟩) (by first | exact Nat.le_refl _ | assumption) _).setCell (p := ⟨_, 2, none⟩) (by first | exact Nat.le_refl _ | assumption) _) ⟨c0, c1⟩ lA)
                (first
                  | (go_at_call 67; (with_reducible refine (CY.out _ (below_then HE21.out (belowG (by assumption)))).mono ?_); rintro e v4 ⟨g1, kk1, rfl, lg1, m1, hb4⟩; have s4 := (below_then (belowG (W2 := v21) (A := G + 1) (by assumption)) hb4).size; (try have N1 : Blk v4 v21.heap.size 71 #[.int .i64 0, .int .i64 0, .int .i64 0] := blkNewD hb4); have R1 : Hid (RowIn v4 g1 xq) := Lib.hid ⟨lg1, m1⟩; clear lg1 m1)
                  | (go_at_call 64; (with_reducible refine (CD.out _ (below_then HE21.out (belowG (by assumption)))).mono ?_); rintro e v5 ⟨g2, kk2, rfl, lg2, m2, hb5⟩; have s5 := (below_then (belowG (W2 := v21) (A := G + 1) (by assumption)) hb5).size; have h45 : Below v4.heap.size v4 v5 := (by first | exact hb5 | exact below_then (below_alloc1 _ _) hb5); have R2 : Hid (RowIn v5 g2 us) := Lib.hid ⟨lg2, m2⟩; have R3 := Lib.hid (R1.out.below h45); (first | (with_reducible have N2 := blkNew hb5) | (have N2 := blkOn N1 hb5) | skip); clear lg2 m2 h45)
                  | (go_at_call 66; (first | (with_reducible refine (VZ.out _ g1 kk1 g2 kk2 R3.out R2.out).mono ?_) | (refine (VZ.out _ g1 kk1 g2 kk2 (R3.out.below (below_alloc1 _ _)) (R2.out.below (below_alloc1 _ _))).mono ?_)); rintro e v6 ⟨V, N, D, A, B, rfl, hla, hb6⟩; have HLA := Lib.hid hla; have T6 := below_then (belowG (W2 := v21) (A := G + 1) (by assumption)) hb6; clear hla; (first | (with_reducible have N3 := blkNew hb6; have n0 := N3.cell 0; have n1 := N3.cell 1; have n2 := N3.cell 2; have n3 := N3.frozen 0; have n4 := N3.frozen 1; have n5 := N3.frozen 2; have n6 := N3.lt; simp at n0 n1 n2) | (have N3 := blkOn N2 hb6; have n0 := N3.cell 0; have n1 := N3.cell 1; have n2 := N3.cell 2; have n3 := N3.frozen 0; have n4 := N3.frozen 1; have n5 := N3.frozen 2; have n6 := N3.lt; simp at n0 n1 n2) | skip))
                  | fail)
              all_goals go_wp2_with fail
              all_goals go_meet
              all_goals (first
                | exact ⟨_, V, N, D, A, B, rfl, Blk.new _ _ _, HLA, T6.alloc T6.size _⟩
                | exact ⟨_, V, N, D, A, B, rfl, by simpa using ((N3.set_ 0 (.int .i64 V)).set_ 1 (.int .i64 N)).set_ 2 (.int .i64 D), HLA, ((T6.setCell (p := ⟨_, 0, none⟩) (by first | exact Nat.le_refl _ | assumption) _).setCell (p := ⟨_, 1, none⟩) (by first | exact Nat.le_refl _ | assumption) _).setCell (p := ⟨_, 2, none⟩) (by first | exact Nat.le_refl _ | assumption) _⟩)
          case rest =>
            obtain ⟨By, V', N', D', LA', LB', rfl, hbx, HLA2, hb1⟩ := hcut
            rename World => u2
            clear c0 c1 lA
            have HB2 := Lib.hid hbx
            have HK23 := Lib.hid (HK21.out.on hb1); have HE23 := Lib.hid (below_then HE21.out hb1)
            clear hb1 HK21 HE21 hbx
            have HK22' := Lib.hid (boxes_cons HB2.out HK23.out)
            clear HB2 HK23
            clear h1 h2
            have q0 := (HK22'.out _ (.tail _ (.tail _ (.tail _ (.tail _ (.tail _ (.tail _ (.tail _ (.head _))))))))).cell 0
            have q1 := (HK22'.out _ (.tail _ (.tail _ (.tail _ (.tail _ (.tail _ (.tail _ (.head _)))))))).cell 0
            have lX := (HK22'.out _ (.tail _ (.tail _ (.tail _ (.tail _ (.tail _ (.tail _ (.tail _ (.head _))))))))).lt
            have lY := (HK22'.out _ (.tail _ (.tail _ (.tail _ (.tail _ (.tail _ (.tail _ (.head _)))))))).lt
            simp at q0 q1 lX lY
            go_wp2_with fail
            refine (KP.out _ HE23.out).mono ?_
            rintro e v22 ⟨P3, m3, kp, rfl, rfl, hm, hpt, hb1⟩
            obtain ⟨LP2, hLT⟩ : ∃ r, okPts E3 LP1 = r := ⟨_, rfl⟩
            rw [hLT] at hpt ⊢
            have HLP := Lib.hid hLT
            clear hLT hm
            have HPT := Lib.hid (hpt.below (below_alloc1 v22 (.cells #[.slice P3 LP2.length kp] 43)))
            have HK24 := Lib.hid (HK22'.out.on hb1); have HE24 := Lib.hid (below_then HE23.out hb1)
            clear hb1 HK22' HE23 hpt q0 q1 lX lY
            have HK25 := Lib.hid (HK24.out.new 43 #[.slice P3 LP2.length kp]); have HE25 := Lib.hid (below_then HE24.out (below_alloc1 v22 (.cells #[.slice P3 LP2.length kp] 43)))
            clear HK24 HE24
            go_upto_if 168 with (fail)
            obtain ⟨B26, hB⟩ : ∃ B, v22.heap.size = B := ⟨_, rfl⟩
            obtain ⟨W26, hW⟩ : ∃ W, v22.alloc (.cells #[.slice P3 LP2.length kp] 43) = W := ⟨_, rfl⟩
            rw [hW] at HK25 HE25  HPT ⊢
            rw [hB] at HK25 ⊢
            clear hW hB
            go_cut [] (fun wx => Below W26.heap.size W26 wx)
            case first =>
              as_aux_lemma =>
                rcases EP.out HQ2.out with rfl | rfl | rfl
                ·
                  have HF0 := Lib.hid (Below.refl W26.heap.size W26)
                  have hLT : LP1 = LP2 := by rw [← HLP.out, okPts_ok]
                  subst hLT
                  have q0 := (HK25.out _ (.head _)).cell 0
                  have lQ := (HK25.out _ (.head _)).lt
                  simp at q0 lQ
                  go_wp2_with fail
                  refine (AP.out HQ2.out (by trivial) P3 kp _ HPT.out).mono ?_
                  rintro e a1 ⟨rfl, hb1⟩
                  have HF1 := Lib.hid (below_then HF0.out hb1)
                  have HK27 := Lib.hid (HK25.out.on hb1); have HE27 := Lib.hid (below_then HE25.out hb1)
                  clear hb1 HK25 HE25 q0 lQ
                  have HK28 := Lib.hid (HK27.out.new 23 #[.int .i64 p1, .int .i64 p2]); have HE28 := Lib.hid (below_then HE27.out (below_alloc1 a1 (.cells #[.int .i64 p1, .int .i64 p2] 23)))
                  clear HK27 HE27
                  have HF2 := Lib.hid (below_then HF1.out (below_alloc1 a1 (.cells #[.int .i64 p1, .int .i64 p2] 23)))
                  go_upto_region 26 with fail
                  obtain ⟨B29, hB⟩ : ∃ B, a1.heap.size = B := ⟨_, rfl⟩
                  obtain ⟨W29, hW⟩ : ∃ W, a1.alloc (.cells #[.int .i64 p1, .int .i64 p2] 23) = W := ⟨_, rfl⟩
                  rw [hW] at HK28 HE28  HF2 ⊢
                  rw [hB] at HK28 ⊢
                  clear hW hB
                  obtain ⟨X, Y, Z, hX1, hX2⟩ := LP.out HQ2.out (by trivial) V N D LA LB V' N' D' LA' LB' HLA1.out HLA2.out
                  have HX1 := Lib.hid hX1
                  have HX2 := Lib.hid hX2
                  clear hX1 hX2
                  have q0 := (HK28.out _ (.head _)).cell 0
                  have q1 := (HK28.out _ (.head _)).cell 1
                  have q2 := (HK28.out _ (.tail _ (.tail _ (.tail _ (.tail _ (.tail _ (.tail _ (.head _)))))))).cell 0
                  have q3 := (HK28.out _ (.tail _ (.tail _ (.tail _ (.tail _ (.tail _ (.tail _ (.head _)))))))).cell 1
                  have q4 := (HK28.out _ (.tail _ (.tail _ (.tail _ (.tail _ (.tail _ (.tail _ (.head _)))))))).cell 2
                  have q5 := (HK28.out _ (.tail _ (.tail _ (.head _)))).cell 0
                  have q6 := (HK28.out _ (.tail _ (.tail _ (.head _)))).cell 1
                  have q7 := (HK28.out _ (.tail _ (.tail _ (.head _)))).cell 2
                  have lRP := (HK28.out _ (.head _)).lt
                  have lV1 := (HK28.out _ (.tail _ (.tail _ (.tail _ (.tail _ (.tail _ (.tail _ (.head _)))))))).lt
                  have lV2 := (HK28.out _ (.tail _ (.tail _ (.head _)))).lt
                  simp at q0 q1 q2 q3 q4 q5 q6 q7 lRP lV1 lV2
                  go_wp2_with fail
                  go_region_held3 (fun w' => w'.cell? ⟨B29, 0, none⟩ = some (.int .i64 p1) ∧ w'.cell? ⟨B29, 1, none⟩ = some (.int .i64 p2) ∧ w'.cell? ⟨Bx, 0, none⟩ = some (.int .i64 V) ∧ w'.cell? ⟨Bx, 1, none⟩ = some (.int .i64 N) ∧ w'.cell? ⟨Bx, 2, none⟩ = some (.int .i64 D) ∧ w'.cell? ⟨By, 0, none⟩ = some (.int .i64 V') ∧ w'.cell? ⟨By, 1, none⟩ = some (.int .i64 N') ∧ w'.cell? ⟨By, 2, none⟩ = some (.int .i64 D') ∧ Below W29.heap.size W29 w')
                    (first | assumption | exact mk8 (Below.refl _ _).drew ⟨q0, q1, q2, q3, q4, q5, q6, q7⟩ lRP lV1 lV2 | exact mk8 (below_then (below8 (by assumption)) (by assumption)) ⟨q0, q1, q2, q3, q4, q5, q6, q7⟩ lRP lV1 lV2)
                    (first
                      | (go_at_call 74; (with_reducible refine (HX1.out _).mono ?_); rintro e y1 ⟨rfl, hbp⟩; have T1 := below_then (below8 (W2 := W29) (A := B29) (B := Bx) (C := By) (by assumption)) hbp)
                      | (go_at_call 68; (with_reducible refine (HX2.out _).mono ?_); rintro e y2 ⟨rfl, hbl⟩; have T2 := Lib.hid (below_then T1 hbl))
                      | fail)
                  all_goals clear q0 q1 q2 q3 q4 q5 q6 q7 lRP lV1 lV2
                  all_goals go_wp2_with fail
                  all_goals go_meet
                  all_goals exact below_then HF2.out T2.out
                · go_wp2_with fail
                  go_meet
                  exact Below.refl _ _
                · go_wp2_with fail
                  go_meet
                  exact Below.refl _ _
            case rest =>
              have hb1 := hcut
              clear hcut
              rename World => wP
              have HK27 := Lib.hid (HK25.out.on hb1); have HE27 := Lib.hid (below_then HE25.out hb1)
              clear hb1 HK25 HE25 
              clear HPT HLP
              have q0 := (HK27.out _ (.tail _ (.tail _ (.tail _ (.tail _ (.tail _ (.tail _ (.tail _ (.tail _ (.head _)))))))))).cell 0
              have q1 := (HK27.out _ (.tail _ (.tail _ (.tail _ (.tail _ (.tail _ (.tail _ (.tail _ (.head _))))))))).cell 0
              have lX := (HK27.out _ (.tail _ (.tail _ (.tail _ (.tail _ (.tail _ (.tail _ (.tail _ (.tail _ (.head _)))))))))).lt
              have lY := (HK27.out _ (.tail _ (.tail _ (.tail _ (.tail _ (.tail _ (.tail _ (.tail _ (.head _))))))))).lt
              simp at q0 q1 lX lY
              go_wp2_with fail
              refine (KE.out _ HE27.out).mono ?_
              rintro e v32 ⟨P4, m4, ke, rfl, rfl, hm, hpt, hb1⟩
              obtain ⟨LE2, hLT⟩ : ∃ r, okPts E4 LE1 = r := ⟨_, rfl⟩
              rw [hLT] at hpt ⊢
              have HLE := Lib.hid hLT
              clear hLT hm
              have HPT := Lib.hid (hpt.below (below_alloc1 v32 (.cells #[.slice P4 LE2.length ke] 43)))
              have HK28 := Lib.hid (HK27.out.on hb1); have HE28 := Lib.hid (below_then HE27.out hb1)
              clear hb1 HK27 HE27 hpt q0 q1 lX lY
              have HK29 := Lib.hid (HK28.out.new 43 #[.slice P4 LE2.length ke]); have HE29 := Lib.hid (below_then HE28.out (below_alloc1 v32 (.cells #[.slice P4 LE2.length ke] 43)))
              clear HK28 HE28
              go_upto_if 194 with (fail)
              obtain ⟨B30, hB⟩ : ∃ B, v32.heap.size = B := ⟨_, rfl⟩
              obtain ⟨W30, hW⟩ : ∃ W, v32.alloc (.cells #[.slice P4 LE2.length ke] 43) = W := ⟨_, rfl⟩
              rw [hW] at HK29 HE29  HPT ⊢
              rw [hB] at HK29 ⊢
              clear hW hB
              go_cut [] (fun wx => Below W30.heap.size W30 wx)
              case first =>
                as_aux_lemma =>
                  rcases EE.out HQ2.out with rfl | rfl
                  ·
                    have HF0 := Lib.hid (Below.refl W30.heap.size W30)
                    have hLT : LE1 = LE2 := by rw [← HLE.out, okPts_ok]
                    subst hLT
                    have q0 := (HK29.out _ (.head _)).cell 0
                    have lE := (HK29.out _ (.head _)).lt
                    simp at q0 lE
                    go_wp2_with fail
                    refine (AE.out HQ2.out (by trivial) P4 ke _ HPT.out).mono ?_
                    rintro e a1 ⟨rfl, hb1⟩
                    have HF1 := Lib.hid (below_then HF0.out hb1)
                    have HK31 := Lib.hid (HK29.out.on hb1); have HE31 := Lib.hid (below_then HE29.out hb1)
                    clear hb1 HK29 HE29 q0 lE
                    have HK32 := Lib.hid (HK31.out.new 23 #[.int .i64 e1, .int .i64 e2]); have HE32 := Lib.hid (below_then HE31.out (below_alloc1 a1 (.cells #[.int .i64 e1, .int .i64 e2] 23)))
                    clear HK31 HE31
                    have HF2 := Lib.hid (below_then HF1.out (below_alloc1 a1 (.cells #[.int .i64 e1, .int .i64 e2] 23)))
                    go_upto_region 31 with fail
                    obtain ⟨B33, hB⟩ : ∃ B, a1.heap.size = B := ⟨_, rfl⟩
                    obtain ⟨W33, hW⟩ : ∃ W, a1.alloc (.cells #[.int .i64 e1, .int .i64 e2] 23) = W := ⟨_, rfl⟩
                    rw [hW] at HK32 HE32  HF2 ⊢
                    rw [hB] at HK32 ⊢
                    clear hW hB
                    obtain ⟨hX1, hX2⟩ := LE.out HQ2.out (by trivial) V N D LA LB V' N' D' LA' LB' HLA1.out HLA2.out
                    have HX1 := Lib.hid hX1
                    have HX2 := Lib.hid hX2
                    clear hX1 hX2
                    have q0 := (HK32.out _ (.head _)).cell 0
                    have q1 := (HK32.out _ (.head _)).cell 1
                    have q2 := (HK32.out _ (.tail _ (.tail _ (.tail _ (.tail _ (.tail _ (.tail _ (.tail _ (.head _))))))))).cell 0
                    have q3 := (HK32.out _ (.tail _ (.tail _ (.tail _ (.tail _ (.tail _ (.tail _ (.tail _ (.head _))))))))).cell 1
                    have q4 := (HK32.out _ (.tail _ (.tail _ (.tail _ (.tail _ (.tail _ (.tail _ (.tail _ (.head _))))))))).cell 2
                    have lRE := (HK32.out _ (.head _)).lt
                    have lV1 := (HK32.out _ (.tail _ (.tail _ (.tail _ (.tail _ (.tail _ (.tail _ (.tail _ (.head _))))))))).lt
                    simp at q0 q1 q2 q3 q4 lRE lV1
                    go_wp2_with fail
                    refine (HX1.out _).mono ?_
                    rintro e a2 ⟨rfl, hb1⟩
                    have HF3 := Lib.hid (below_then HF2.out hb1)
                    have HK34 := Lib.hid (HK32.out.on hb1); have HE34 := Lib.hid (below_then HE32.out hb1)
                    clear hb1 HK32 HE32 q0 q1 q2 q3 q4 lRE lV1
                    have q0 := (HK34.out _ (.head _)).cell 0
                    have q1 := (HK34.out _ (.head _)).cell 1
                    have q2 := (HK34.out _ (.tail _ (.tail _ (.tail _ (.head _))))).cell 0
                    have q3 := (HK34.out _ (.tail _ (.tail _ (.tail _ (.head _))))).cell 1
                    have q4 := (HK34.out _ (.tail _ (.tail _ (.tail _ (.head _))))).cell 2
                    have lRE := (HK34.out _ (.head _)).lt
                    have lV2 := (HK34.out _ (.tail _ (.tail _ (.tail _ (.head _))))).lt
                    simp at q0 q1 q2 q3 q4 lRE lV2
                    go_wp2_with fail
                    refine (HX2.out _).mono ?_
                    rintro e a3 ⟨rfl, hb1⟩
                    have HF4 := Lib.hid (below_then HF3.out hb1)
                    clear hb1 q0 q1 q2 q3 q4 lRE lV2
                    go_wp2_with fail
                    go_meet
                    exact HF4.out
                  · go_wp2_with fail
                    go_meet
                    exact Below.refl _ _
              case rest =>
                have hb1 := hcut
                clear hcut
                rename World => wE
                have HK31 := Lib.hid (HK29.out.on hb1); have HE31 := Lib.hid (below_then HE29.out hb1)
                clear hb1 HK29 HE29 
                rcases EP.out HQ2.out with rfl | rfl | rfl <;> rcases EE.out HQ2.out with rfl | rfl
                all_goals
                  go_wp2_with fail
                  refine (sane_any _).mono ?_
                  rintro e v ⟨rfl, hb⟩
                  have HF := Lib.hid (below_then HE31.out hb)
                  clear hb
                  go_wp2
                  go_ret
                  exact ⟨rfl, HF.out⟩
end

section
open Go.ChangeShapes Go.WideShapes Go.ChangeAt Go.RowKit Go.Joins Go.Deep

theorem Try.cellsFiveInts : Try.prog.cellsOf 78 = 5 := by kernel_rfl
theorem array5 {α : Type} {cs : Array α} (h : cs.size = 5) : ∃ c0 c1 c2 c3 c4, cs = #[c0, c1, c2, c3, c4] := by
  obtain ⟨l⟩ := cs
  match l, h with
  | [c0, c1, c2, c3, c4], _ => exact ⟨c0, c1, c2, c3, c4, rfl⟩
set_option maxRecDepth 100000 in
theorem open_five_ints {H : Type} {enc : TypeId × Value → H} {W : World} {base : Nat} {v : Value} {d : DataW H} {ps : List MemPlace} (hv : Value.okWide Try.prog W .any base 78 v) (h : DataW.Trod enc Try.prog W 0 (fun _ => true) true 78 v d ps) :
    ∃ x0 x1 x2 x3 x4 : Int, v = .agg #[.int .i64 x0, .int .i64 x1, .int .i64 x2, .int .i64 x3, .int .i64 x4] ∧ I64 x3 ∧ I64 x4 := by
  obtain ⟨cs, rfl, hsz⟩ := okWide_arr Try.underlying78 hv
  rw [Try.cellsFiveInts] at hsz
  obtain ⟨c0, c1, c2, c3, c4, rfl⟩ := array5 hsz
  obtain ⟨fuel, hf⟩ := h
  obtain ⟨xs, m, _, _, _, hl, hi⟩ := DataW.trod_array Try.underlying78 hf
  have one : ∀ (i : Nat) (c : Value), i < 5 → ((#[c0, c1, c2, c3, c4] : Array Value).toList.drop (i * 1)).take 1 = [c] → ∃ n : Int, c = .int .i64 n ∧ I64 n := by
    intro i c hi6 hc
    have h1 := hi i hi6
    simp only [Value.cells, Try.cellsInt] at h1
    rw [hc] at h1
    obtain ⟨y, hy⟩ : ∃ y, xs[i]? = some y := ⟨_, List.getElem?_eq_getElem (by omega)⟩
    rw [hy] at h1
    obtain ⟨n, e, _, hw⟩ := DataW.trod_int Try.underlying3 h1
    simp at e
    exact ⟨n, e, bounds_i64 hw⟩
  obtain ⟨x0, rfl, b0⟩ := one 0 c0 (by omega) rfl
  obtain ⟨x1, rfl, b1⟩ := one 1 c1 (by omega) rfl
  obtain ⟨x2, rfl, b2⟩ := one 2 c2 (by omega) rfl
  obtain ⟨x3, rfl, b3⟩ := one 3 c3 (by omega) rfl
  obtain ⟨x4, rfl, b4⟩ := one 4 c4 (by omega) rfl
  exact ⟨x0, x1, x2, x3, x4, rfl, b3, b4⟩
theorem fixJoined_walk (A A' B B' : Option Addr) (n n' m m' c c' k k' : Nat) (ps qs : List P3) (cs ds : List Int) (z0 z1 z2 z3 z4 : Int) (w : World) (hn : n = ps.length) (hm : n ≤ maxLen) (hp : Pts w A ps) (hcn : n' = cs.length) (hcm : n' ≤ maxLen) (hcq : IntsP w A' cs)
    (hn' : m = qs.length) (hm' : m ≤ maxLen) (hp' : Pts w B qs) (hdn : m' = ds.length) (hdm : m' ≤ maxLen) (hdq : IntsP w B' ds) (i3 : I64 z3) (i4 : I64 z4) :
    Calls Try.prog 9 #[.agg #[.slice A n c, .slice A' n' c'], .agg #[.slice B m k, .slice B' m' k'], .agg #[.int .i64 z0, .int .i64 z1, .int .i64 z2, .int .i64 z3, .int .i64 z4]] w fun e w' => e = .returned (.bool true) ∧ Below w.heap.size w w' := by
  by_cases h : tabOk ps = true ∧ tabOk qs = true
  · obtain ⟨b, o, rfl, hb, hc⟩ := hp.block (tabOk_len h.1).1
    obtain ⟨b', o', rfl, hb', hc'⟩ := hp'.block (tabOk_len h.2).1
    exact fixJoined_good b o b' o' A' B' n n' m m' c c' k k' ps qs cs ds z0 z1 z2 z3 z4 w hn hb hc hn' hb' hc' hcn hcm hcq hdn hdm hdq h.1 h.2 i3 i4
  · exact fixJoined_bad A A' B B' n n' m m' c c' k k' ps qs z0 z1 z2 z3 z4 w hn hm hp hn' hm' hp' h

set_option maxRecDepth 100000 in
theorem fixJoined_lifted (os : Os) (started : os.Started) (H : Type) (enc : TypeId × Value → H) :
    ReturnsInHanded {} Try.checked os 9 .any (Rows.fixJoinedSpec.pre6 enc Try.prog Try.f9 Rows.fixJoinedRow.domain false) (Rows.fixJoinedSpec.post enc Try.prog Try.f9 false true false false) := by
  refine returnsInHanded_of_change (C := Try.checked) own started (by kernel_rfl) Try.func9
    (ChangeSpec.witness6 (enc := enc) (C := Try.checked) false ⟨#[], #[.agg #[.slice none 0 0, .slice none 0 0], .agg #[.slice none 0 0, .slice none 0 0], .agg #[.int .i64 0, .int .i64 0, .int .i64 0, .int .i64 0, .int .i64 0]], []⟩ 8 (by kernel_rfl) (by kernel_rfl) (by kernel_rfl) (by kernel_rfl)) ?_
  intro W base args ds gs before hval0 hW hcnd _
  have hval : ∀ (j : Nat) t v, Try.f9.params[j]? = some t → args[j]? = some v → Value.okWide Try.prog W .any base t v := hval0
  have hW' := hW
  obtain ⟨p, q, hA0, hV, rfl, hfz, hnd⟩ := hW
  have hA : DataW.TrodAll enc Try.prog W 0 (fun _ => true) true Try.f9.params.toList args.toList ds p := hA0
  rw [Try.params9] at hA hval
  obtain ⟨v0, v1, v2, d0, d1, d2, p0, p1, p2, hargs, rfl, rfl, h0, h1, h2⟩ := trodAll_three hA
  obtain rfl : args = #[v0, v1, v2] := by cases args; simp_all
  obtain ⟨rfl, rfl⟩ := trodVars_none hV
  obtain ⟨A, A', n, n', c, c', ps, cs, rfl, hn, hn', hm, hm', hp, _, hq⟩ := open_curved (hval 0 66 v0 rfl rfl) h0
  obtain ⟨B, B', m, m', k, k', qs, ds, rfl, hm2, hn2, hm2', hn2', hp2, _, hq2⟩ := open_curved (hval 1 66 v1 rfl rfl) h1
  obtain ⟨z0, z1, z2, z3, z4, rfl, b3, b4⟩ := open_five_ints (hval 2 78 v2 rfl rfl) h2
  refine (fixJoined_walk A A' B B' n n' m m' c c' k k' ps qs cs ds z0 z1 z2 z3 z4 W hn hm hp hn' hm' hq hm2 hm2' hp2 hn2 hn2' hq2 b3 b4).mono fun e W' ⟨he, hb⟩ => ?_
  subst he
  exact ⟨_, rfl, law_post rfl rfl (by intro t ht; rw [Try.params9] at ht
                                      have : t = 66 ∨ t = 66 ∨ t = 78 := by simpa using ht
                                      rcases this with rfl | rfl | rfl <;> exact ⟨by kernel_rfl, of_decide_eq_true (by kernel_rfl)⟩) hW' rfl rfl rfl hb⟩

theorem fixJoined_holds : Rows.FixJoinedSaid :=
  OpenClaim.holds_of_wide 9 Try.f9 rfl rfl rfl rfl rfl rfl rfl ⟨rfl, rfl, rfl, rfl, rfl⟩ rfl rfl rfl rfl rfl (by kernel_rfl) Try.func9 (by kernel_rfl)
    (of_decide_eq_true (by kernel_rfl)) (by unfold Func.isWrapper; rw [if_neg (of_decide_eq_false (by kernel_rfl))]; exact ⟨rfl, rfl⟩)
    (fun os started H enc _ => fixJoined_lifted os started H enc)
end

end Go.Proofs.Ytmenlaefekkahaa
