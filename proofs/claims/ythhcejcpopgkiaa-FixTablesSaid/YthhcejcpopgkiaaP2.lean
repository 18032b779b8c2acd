/- The walk of FixTables (the law package): it returns true. Its conditions: the points and the numbers lie in memory. -/
import Derived.Test.YthhcejcpopgkiaaP1
import Derived.Deep.RegionHeld3
set_option linter.unusedVariables false
set_option linter.unusedSimpArgs false
set_option linter.constructorNameAsVariable false
namespace Go.Proofs.Ythhcejcpopgkiaa
open Go.RowKit
attribute [local go_sem ↓] eqlRange neqRange

set_option maxRecDepth 100000 in
set_option maxHeartbeats 8000000 in
theorem fixTables_walk (A A' : Option Addr) (n n' c c' : Nat) (ps : List P3) (cs : List Int) (x y : Int) (w : World) (hn : n = ps.length) (hn' : n' = cs.length) (hm : n ≤ maxLen) (hm' : n' ≤ maxLen) (hp : Pts w A ps) (hq : IntsP w A' cs) :
    Calls Try.prog 5 #[tv A n c, .slice A' n' c', .agg #[.int .i64 x, .int .i64 y]] w fun e w' => e = .returned (.bool true) ∧ Below w.heap.size w w' := by
  obtain ⟨⟨xa, ya, za⟩, hr1⟩ : ∃ r, AtS ps x = r := ⟨_, rfl⟩
  obtain ⟨L, hL⟩ : ∃ r, cutS ps x y = r := ⟨_, rfl⟩
  obtain ⟨E, hE⟩ : ∃ r, placesS ps x y = r := ⟨_, rfl⟩
  obtain ⟨e1, he1⟩ : ∃ r, (if tabOk ps = true then (0 : Int) else 11) = r := ⟨_, rfl⟩
  obtain ⟨e2, he2⟩ : ∃ r, curveS ps cs = r := ⟨_, rfl⟩
  obtain ⟨e3, he3⟩ : ∃ r, risingS ps = r := ⟨_, rfl⟩
  obtain ⟨e4, he4⟩ : ∃ r, fallingS ps = r := ⟨_, rfl⟩
  have C1 : Hid (∀ W, Below w.heap.size w W → Calls Try.prog 35 #[tv A n c, .int .i64 x] W fun e w' => e = .returned (.tuple #[rv xa ya, .int .i64 za]) ∧ Below W.heap.size W w') :=
    Lib.hid fun W hW => rt_to (at_all A n c ps x W hn hm (hp.below hW)) hr1
  have C2 : Hid (∀ W, Below w.heap.size w W → Calls Try.prog 36 #[tv A n c, .int .i64 x] W fun e w' => e = .returned (.tuple #[rv xa ya, .int .i64 za]) ∧ Below W.heap.size W w') :=
    Lib.hid fun W hW => rt_to (rAt_all A n c ps x W hn hm (hp.below hW)) hr1
  have C3 : Hid (∀ W, Below w.heap.size w W → Calls Try.prog 37 #[tv A n c, .int .i64 x, .int .i64 y] W (TabE W L E)) :=
    Lib.hid fun W hW => tabE_to (cut_all A n c ps x y W hn hm (hp.below hW)) hL hE
  have C4 : Hid (∀ W, Below w.heap.size w W → Calls Try.prog 38 #[tv A n c, .int .i64 x, .int .i64 y] W (TabE W L E)) :=
    Lib.hid fun W hW => tabE_to (rCut_all A n c ps x y W hn hm (hp.below hW)) hL hE
  have D1 : Hid (∀ W, Below w.heap.size w W → Calls Try.prog 40 #[tv A n c] W fun e w' => e = .returned (.int .i64 e1) ∧ Below W.heap.size W w') :=
    Lib.hid fun W hW => int_to (checkTable_any A n c ps W hn hm (hp.below hW)) he1
  have D2 : Hid (∀ W, Below w.heap.size w W → Calls Try.prog 41 #[tv A n c] W fun e w' => e = .returned (.int .i64 e1) ∧ Below W.heap.size W w') :=
    Lib.hid fun W hW => int_to (rCheckTable_any A n c ps W hn hm (hp.below hW)) he1
  have D3 : Hid (∀ W, Below w.heap.size w W → Calls Try.prog 42 #[tv A n c, .slice A' n' c'] W fun e w' => e = .returned (.int .i64 e2) ∧ Below W.heap.size W w') :=
    Lib.hid fun W hW => int_to (checkCurve_any A A' n n' c c' ps cs W hn hn' hm hm' (hp.below hW) (hq.below hW)) he2
  have D4 : Hid (∀ W, Below w.heap.size w W → Calls Try.prog 43 #[tv A n c, .slice A' n' c'] W fun e w' => e = .returned (.int .i64 e2) ∧ Below W.heap.size W w') :=
    Lib.hid fun W hW => int_to (rCheckCurve_any A A' n n' c c' ps cs W hn hn' hm hm' (hp.below hW) (hq.below hW)) he2
  have D5 : Hid (∀ W, Below w.heap.size w W → Calls Try.prog 44 #[tv A n c] W fun e w' => e = .returned (.bool e3) ∧ Below W.heap.size W w') :=
    Lib.hid fun W hW => bool_to (rising_any A n c ps W hn hm (hp.below hW)) he3
  have D6 : Hid (∀ W, Below w.heap.size w W → Calls Try.prog 45 #[tv A n c] W fun e w' => e = .returned (.bool e3) ∧ Below W.heap.size W w') :=
    Lib.hid fun W hW => bool_to (rrising_any A n c ps W hn hm (hp.below hW)) he3
  have D7 : Hid (∀ W, Below w.heap.size w W → Calls Try.prog 46 #[tv A n c] W fun e w' => e = .returned (.bool e4) ∧ Below W.heap.size W w') :=
    Lib.hid fun W hW => bool_to (falling_any A n c ps W hn hm (hp.below hW)) he4
  have D8 : Hid (∀ W, Below w.heap.size w W → Calls Try.prog 47 #[tv A n c] W fun e w' => e = .returned (.bool e4) ∧ Below W.heap.size W w') :=
    Lib.hid fun W hW => bool_to (rfalling_any A n c ps W hn hm (hp.below hW)) he4
  clear hr1 hL hE he1 he2 he3 he4 hn hn' hm hm' hp hq
  have hK : Boxes ((w.alloc (.cells #[.slice A n c] 43)).alloc (.cells #[.int .i64 x, .int .i64 y] 45)) [(w.heap.size + 1, 45, #[.int .i64 x, .int .i64 y]), (w.heap.size, 43, #[.slice A n c])] := by
    have h1 : Boxes (w.alloc (.cells #[.slice A n c] 43)) [(w.heap.size, 43, #[.slice A n c])] := fun p hp => by
      have := List.mem_singleton.1 hp; subst this; exact Blk.new w _ _
    have h2 := h1.new 45 #[.int .i64 x, .int .i64 y]
    rw [World.size_alloc] at h2
    exact h2
  have HK0 := Lib.hid hK; clear hK
  have HE0 := Lib.hid (show Below w.heap.size w ((w.alloc (.cells #[.slice A n c] 43)).alloc (.cells #[.int .i64 x, .int .i64 y] 45)) from below_a2 (Below.refl _ _))
  go_enter Try.func5, Try.ntmps5
  go_wp2_with fail
  obtain ⟨W0, hW⟩ : ∃ W, (w.alloc (.cells #[.slice A n c] 43)).alloc (.cells #[.int .i64 x, .int .i64 y] 45) = W := ⟨_, rfl⟩
  rw [hW] at HK0 HE0 ⊢
  clear hW
  obtain ⟨G, hG⟩ : ∃ G, w.heap.size = G := ⟨_, rfl⟩
  rw [hG] at HK0 ⊢
  have HG := Lib.hid hG; clear hG
  -- 1
  refine (C1.out W0 HE0.out).mono ?_
  rintro e v ⟨rfl, hb⟩
  have HK := Lib.hid (HK0.out.on hb); have HE := Lib.hid (below_then HE0.out hb)
  clear hb HK0 HE0
  have q0 := (HK.out _ (.head _)).cell 0
  have q1 := (HK.out _ (.head _)).cell 1
  have q2 := (HK.out _ (.tail _ (.head _))).cell 0
  have lA := (HK.out _ (.head _)).lt
  have lB := (HK.out _ (.tail _ (.head _))).lt
  simp at q0 q1 q2 lA lB
  have HK1 := Lib.hid (HK.out.new 23 #[.int .i64 xa, .int .i64 ya]); have HE1 := Lib.hid (below_then HE.out (below_alloc1 v (.cells #[.int .i64 xa, .int .i64 ya] 23)))
  clear HK HE
  go_wp2_with fail
  obtain ⟨B1, hB⟩ : ∃ B, v.heap.size = B := ⟨_, rfl⟩
  obtain ⟨W1, hW⟩ : ∃ W, v.alloc (.cells #[.int .i64 xa, .int .i64 ya] 23) = W := ⟨_, rfl⟩
  rw [hW] at HK1 HE1 ⊢
  rw [hB] at HK1 ⊢
  clear hW hB v q0 q1 q2 lA lB
  -- 2
  refine (C2.out W1 HE1.out).mono ?_
  rintro e v ⟨rfl, hb⟩
  have HK := Lib.hid (HK1.out.on hb); have HE := Lib.hid (below_then HE1.out hb)
  clear hb HK1 HE1
  have q0 := (HK.out _ (.tail _ (.head _))).cell 0
  have q1 := (HK.out _ (.tail _ (.head _))).cell 1
  have q2 := (HK.out _ (.tail _ (.tail _ (.head _)))).cell 0
  have lA := (HK.out _ (.tail _ (.head _))).lt
  have lB := (HK.out _ (.tail _ (.tail _ (.head _)))).lt
  simp at q0 q1 q2 lA lB
  have HK2 := Lib.hid (HK.out.new 23 #[.int .i64 xa, .int .i64 ya]); have HE2 := Lib.hid (below_then HE.out (below_alloc1 v (.cells #[.int .i64 xa, .int .i64 ya] 23)))
  clear HK HE
  go_wp2_with fail
  obtain ⟨B2, hB⟩ : ∃ B, v.heap.size = B := ⟨_, rfl⟩
  obtain ⟨W2, hW⟩ : ∃ W, v.alloc (.cells #[.int .i64 xa, .int .i64 ya] 23) = W := ⟨_, rfl⟩
  rw [hW] at HK2 HE2 ⊢
  rw [hB] at HK2 ⊢
  clear hW hB v q0 q1 q2 lA lB
  -- 3
  refine (C3.out W2 HE2.out).mono ?_
  rintro e v ⟨P3', m3, k3, rfl, hl3, hm3, hp3, hb⟩
  have HK := Lib.hid (HK2.out.on hb); have HE := Lib.hid (below_then HE2.out hb)
  have HL3 := Lib.hid (And.intro hl3 hm3); clear hl3 hm3
  clear hb HK2 HE2
  have q0 := (HK.out _ (.tail _ (.tail _ (.head _)))).cell 0
  have q1 := (HK.out _ (.tail _ (.tail _ (.head _)))).cell 1
  have q2 := (HK.out _ (.tail _ (.tail _ (.tail _ (.head _))))).cell 0
  have lA := (HK.out _ (.tail _ (.tail _ (.head _)))).lt
  have lB := (HK.out _ (.tail _ (.tail _ (.tail _ (.head _))))).lt
  simp at q0 q1 q2 lA lB
  have HK3 := Lib.hid (HK.out.new 43 #[.slice P3' m3 k3]); have HE3 := Lib.hid (below_then HE.out (below_alloc1 v (.cells #[.slice P3' m3 k3] 43)))
  have HP3 := Lib.hid (hp3.below (below_alloc1 v (.cells #[.slice P3' m3 k3] 43)))
  clear HK HE hp3
  go_wp2_with fail
  obtain ⟨B3, hB⟩ : ∃ B, v.heap.size = B := ⟨_, rfl⟩
  obtain ⟨W3, hW⟩ : ∃ W, v.alloc (.cells #[.slice P3' m3 k3] 43) = W := ⟨_, rfl⟩
  rw [hW] at HK3 HE3 HP3 ⊢
  rw [hB] at HK3 ⊢
  clear hW hB v q0 q1 q2 lA lB
  -- 4
  refine (C4.out W3 HE3.out).mono ?_
  rintro e v ⟨P4', m4, k4, rfl, hl4, hm4, hp4, hb⟩
  have HK := Lib.hid (HK3.out.on hb); have HE := Lib.hid (below_then HE3.out hb)
  have HL4 := Lib.hid (And.intro hl4 hm4); clear hl4 hm4
  have HP4 := Lib.hid (And.intro ((HP3.out.below hb).below (below_alloc1 v (.cells #[.slice P4' m4 k4] 43))) (hp4.below (below_alloc1 v (.cells #[.slice P4' m4 k4] 43))))
  have HK4 := Lib.hid (HK.out.new 43 #[.slice P4' m4 k4]); have HE4 := Lib.hid (below_then HE.out (below_alloc1 v (.cells #[.slice P4' m4 k4] 43)))
  clear HK HE hp4 hb HK3 HE3 HP3
  have f1 := (HK4.out _ (.tail _ (.tail _ (.tail _ (.head _))))).cell 0; have g1 := (HK4.out _ (.tail _ (.tail _ (.tail _ (.head _))))).cell 1
  have f2 := (HK4.out _ (.tail _ (.tail _ (.head _)))).cell 0; have g2 := (HK4.out _ (.tail _ (.tail _ (.head _)))).cell 1
  have f3 := (HK4.out _ (.tail _ (.head _))).cell 0
  have f4 := (HK4.out _ (.head _)).cell 0
  go_upto_region 5 with fail
  obtain ⟨B4, hB⟩ : ∃ B, v.heap.size = B := ⟨_, rfl⟩
  obtain ⟨W4, hW⟩ : ∃ W, v.alloc (.cells #[.slice P4' m4 k4] 43) = W := ⟨_, rfl⟩
  rw [hW] at HK4 HE4 HP4 f1 g1 f2 g2 f3 f4 ⊢
  rw [hB] at HK4 f4 ⊢
  clear hW hB v
  simp at f1 g1 f2 g2 f3 f4
  go_wp2_with fail
  clear f1 g1 f2 g2 f3 f4
  refine (same_all P3' P4' m3 m4 k3 k4 L W4 HL3.out.1 HL4.out.1 HL3.out.2 HP4.out.1 HP4.out.2).mono ?_
  rintro e v ⟨rfl, hb⟩
  have HE5 := Lib.hid (below_then HE4.out hb)
  have q2 := ((HK4.out.on hb) _ (.tail _ (.tail _ (.tail _ (.tail _ (.tail _ (.head _))))))).cell 0
  have lB := ((HK4.out.on hb) _ (.tail _ (.tail _ (.tail _ (.tail _ (.tail _ (.head _))))))).lt
  simp at q2 lB
  clear hb HK4 HE4 HP4
  go_wp2_with fail
  go_region_held3 (fun w' => w'.cell? ⟨G, 0, none⟩ = some (.slice A n c) ∧ Below v.heap.size v w')
    (first | exact ⟨q2, (Below.refl _ _).drew⟩ | exact keepF (by assumption) (by assumption) lB)
    (first
      | (go_at_call 40; (with_reducible refine (D1.out _ (below_then HE5.out (belowF (by assumption)))).mono ?_); rintro e v1 ⟨rfl, hb1⟩)
      | (go_at_call 41; (with_reducible refine (D2.out _ (below_then HE5.out (belowF (by assumption)))).mono ?_); rintro e v2 ⟨rfl, hb2⟩)
      | (go_at_call 42; (with_reducible refine (D3.out _ (below_then HE5.out (belowF (by assumption)))).mono ?_); rintro e v3 ⟨rfl, hb3⟩)
      | (go_at_call 43; (with_reducible refine (D4.out _ (below_then HE5.out (belowF (by assumption)))).mono ?_); rintro e v4 ⟨rfl, hb4⟩)
      | (go_at_call 44; (with_reducible refine (D5.out _ (below_then HE5.out (belowF (by assumption)))).mono ?_); rintro e v5 ⟨rfl, hb5⟩)
      | (go_at_call 45; (with_reducible refine (D6.out _ (below_then HE5.out (belowF (by assumption)))).mono ?_); rintro e v6 ⟨rfl, hb6⟩)
      | (go_at_call 46; (with_reducible refine (D7.out _ (below_then HE5.out (belowF (by assumption)))).mono ?_); rintro e v7 ⟨rfl, hb7⟩)
      | (go_at_call 47; (with_reducible refine (D8.out _ (below_then HE5.out (belowF (by assumption)))).mono ?_); rintro e v8 ⟨rfl, hb8⟩)
      | (go_at_call 32; refine (sane_any _).mono ?_; rintro e v9 ⟨rfl, hb9⟩; have T9 := keepF (W2 := v) (A := G) hb9 (by assumption) lB)
      | fail)
  all_goals go_wp2
  all_goals go_ret
  all_goals exact ⟨rfl, below_then HE5.out T9.2⟩
end Go.Proofs.Ythhcejcpopgkiaa
