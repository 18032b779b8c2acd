/- Worst of hold and of the specification, for all holds and fills. Its condition: the hold's tables lie in memory. -/
import Derived.Test.YtbcefdaflnlhoaaGreatQ50
import Derived.Test.YtbcefdaflnlhoaaGreatQ44
set_option linter.unusedVariables false
set_option linter.unusedSimpArgs false
set_option linter.constructorNameAsVariable false
namespace Go.Proofs.YtbcefdaflnlhoaaGreat

section
open Go.RowKit

/-- the first place of the greatest value -/
noncomputable def topX (ps : List P3) (a b : Int) : Int := open Classical in if h : ∃ x, (a ≤ x ∧ x ≤ b) ∧ (atS ps x).2 = (overGood ps a b).2.1 ∧ ∀ y, a ≤ y → y < x → (atS ps y).2 < (overGood ps a b).2.1 then h.choose else 0
theorem topX_is {ps : List P3} {a b : Int} (ht : tabOk ps = true) (h0 : firstX ps ≤ a) (h1 : a ≤ b) (h2 : b ≤ lastX ps) :
    (a ≤ topX ps a b ∧ topX ps a b ≤ b) ∧ (atS ps (topX ps a b)).2 = (overGood ps a b).2.1 ∧ ∀ y, a ≤ y → y < topX ps a b → (atS ps y).2 < (overGood ps a b).2.1 := by
  obtain ⟨x, x1, x2, x3, x4⟩ := first_top ht h0 h1 h2
  have h : ∃ x, (a ≤ x ∧ x ≤ b) ∧ (atS ps x).2 = (overGood ps a b).2.1 ∧ ∀ y, a ≤ y → y < x → (atS ps y).2 < (overGood ps a b).2.1 := ⟨x, ⟨x1, x2⟩, x3, x4⟩
  unfold topX
  rw [dif_pos h]
  exact h.choose_spec
/-- what Worst returns -/
noncomputable def worstW (h : HoldD) (f : FillD) : Int × Int × Int := if fillErr h f = 0 then (if f.st = 3 then (topX h.mom f.x0 f.x1, (momS h f).2, 0) else (0, (momS h f).2, 0)) else (0, 0, fillErr h f)
theorem over_is {ps : List P3} {a b : Int} (ht : tabOk ps = true) (h : inB a b (firstX ps) (lastX ps) = true) : overS ps a b = ((overGood ps a b).1, (overGood ps a b).2.1, 0) := by
  obtain ⟨p1, p2⟩ := places_in ht
  have hb : a ≤ b ∧ firstX ps ≤ a ∧ b ≤ lastX ps := by simpa [inB] using h
  have hv : vR a b = true := (vR_iff a b).2 (by omega)
  have he : overE ps a b = 0 := by unfold overE placesS; rw [if_pos ht, if_pos hv, if_pos ht, if_pos h]
  unfold overS; rw [if_pos he]
theorem mom_three {h : HoldD} {f : FillD} (e : fillErr h f = 0) (s : f.st = 3) : tabOk h.mom = true ∧ (firstX h.mom ≤ f.x0 ∧ f.x0 ≤ f.x1 ∧ f.x1 ≤ lastX h.mom) ∧ (momS h f).2 = (overGood h.mom f.x0 f.x1).2.1 := by
  obtain ⟨_, ⟨m1, m2, m3⟩, ⟨l1, l2⟩, _⟩ := hold_parts (fill_zero e).1
  have ht := measures_ok m2
  have hp := along_in l1 (fill_place e (by omega))
  have hb : f.x0 ≤ f.x1 ∧ firstX h.mom ≤ f.x0 ∧ f.x1 ≤ lastX h.mom := by simpa [inB] using hp
  refine ⟨ht, ⟨hb.2.1, hb.1, hb.2.2⟩, ?_⟩
  unfold momS
  rw [if_neg (by omega), if_neg (by omega), if_neg (by omega), if_pos s, over_is ht hp]
theorem hWorst_any (h : HoldD) (m : HoldM) (f : FillD) (w : World) (hi : HoldIn w h m) :
    Calls Tryz.prog 27 #[holdV h m, fillV f] w fun e w' => e = .returned (it (worstW h f)) ∧ Below w.heap.size w w' := by
  by_cases g : fillErr h f = 0 ∧ f.st = 3
  · obtain ⟨e, s⟩ := g
    obtain ⟨ht, ⟨b1, b2, b3⟩, hm⟩ := mom_three e s
    obtain ⟨⟨x1, x2⟩, x3, x4⟩ := topX_is ht b1 b2 b3
    obtain ⟨k, r, r1, r2, r3, r4⟩ := worst_runs ht b1 b2 b3 x1 x2 x3 x4
    have q := worst_of h m f (runsF (whereS (momS h f).2 1000000000) (prs h.mom)) k r w hi (fun _ _ => by
      rw [hm]
      refine ⟨Nat.le_trans (runsF_len _ _) (Nat.le_trans (prs_len ht) (by decide)), ?_, rfl, r1, r2, r3⟩
      have hT := over_is ht (show inB f.x0 f.x1 (firstX h.mom) (lastX h.mom) = true by simp [inB]; omega)
      obtain ⟨_, ⟨_, m2, _⟩, _, _⟩ := hold_parts (fill_zero e).1
      have hin := over_in m2 (show inB f.x0 f.x1 (firstX h.mom) (lastX h.mom) = true by simp [inB]; omega)
      rw [hT] at hin
      dsimp only at hin
      have hv : vR (overGood h.mom f.x0 f.x1).2.1 1000000000 = true := (vR_iff _ _).2 (by omega)
      unfold whereE
      rw [if_pos ht, if_pos hv])
    have e2 : worstS h f r.1 = worstW h f := by unfold worstS worstW; rw [if_pos e, if_pos s, if_pos e, if_pos s, r4]
    rw [e2] at q
    exact q
  · have q := worst_of h m f [] 0 (0, 0) w hi (fun e s => absurd ⟨e, s⟩ g)
    have e2 : worstS h f ((0, 0) : Int × Int).1 = worstW h f := by
      unfold worstS worstW
      by_cases e : fillErr h f = 0
      · rw [if_pos e, if_pos e, if_neg (fun s => g ⟨e, s⟩), if_neg (fun s => g ⟨e, s⟩)]
      · rw [if_neg e, if_neg e]
    rw [e2] at q
    exact q

set_option maxRecDepth 100000 in
set_option maxHeartbeats 4000000 in
theorem sWorst_e1 (vol mom hei : List P3) (id al ah t0 t1 u0 u1 v0 v1 h0 h1 : Int) (A B C : Option Addr) (n c mm d l ee : Nat) (fh st x0 x1 d0 d1 E : Int) (w : World) (hi : HoldIn w ⟨id, al, ah, vol, mom, hei, t0, t1, u0, u1, v0, v1, h0, h1⟩ ⟨A, n, c, B, mm, d, C, l, ee⟩) (g1 : fillErr ⟨id, al, ah, vol, mom, hei, t0, t1, u0, u1, v0, v1, h0, h1⟩ ⟨fh, st, x0, x1, d0, d1⟩ = E) (gE : ¬ E = 0) :
    Calls Tryz.prog 28 #[.agg #[.int .i64 id, .int .i64 al, .int .i64 ah, .slice A n c, .slice B mm d, .slice C l ee, .int .i64 t0, .int .i64 t1, .int .i64 u0, .int .i64 u1, .int .i64 v0, .int .i64 v1, .int .i64 h0, .int .i64 h1], .agg #[.int .i64 fh, .int .i64 st, .int .i64 x0, .int .i64 x1, .int .i64 d0, .int .i64 d1]] w fun e w' => e = .returned (it (0, 0, E)) ∧ Below w.heap.size w w' := by
  have HE := Lib.hid (show Below w.heap.size w ((w.alloc (.cells #[.int .i64 id, .int .i64 al, .int .i64 ah, .slice A n c, .slice B mm d, .slice C l ee, .int .i64 t0, .int .i64 t1, .int .i64 u0, .int .i64 u1, .int .i64 v0, .int .i64 v1, .int .i64 h0, .int .i64 h1] 45)).alloc (.cells #[.int .i64 fh, .int .i64 st, .int .i64 x0, .int .i64 x1, .int .i64 d0, .int .i64 d1] 47)) from below_a2 (Below.refl _ _))
  have HK := Lib.hid (boxes2' w 45 47 #[.int .i64 id, .int .i64 al, .int .i64 ah, .slice A n c, .slice B mm d, .slice C l ee, .int .i64 t0, .int .i64 t1, .int .i64 u0, .int .i64 u1, .int .i64 v0, .int .i64 v1, .int .i64 h0, .int .i64 h1] #[.int .i64 fh, .int .i64 st, .int .i64 x0, .int .i64 x1, .int .i64 d0, .int .i64 d1])
  have C1 : Hid (∀ W, Below w.heap.size w W → Calls Tryz.prog 69 #[.agg #[.int .i64 id, .int .i64 al, .int .i64 ah, .slice A n c, .slice B mm d, .slice C l ee, .int .i64 t0, .int .i64 t1, .int .i64 u0, .int .i64 u1, .int .i64 v0, .int .i64 v1, .int .i64 h0, .int .i64 h1], .agg #[.int .i64 fh, .int .i64 st, .int .i64 x0, .int .i64 x1, .int .i64 d0, .int .i64 d1]] W fun e w' => e = .returned (.int .i64 E) ∧ Below W.heap.size W w') := Lib.hid fun W hW => int_to (sCheckFill_any ⟨id, al, ah, vol, mom, hei, t0, t1, u0, u1, v0, v1, h0, h1⟩ ⟨A, n, c, B, mm, d, C, l, ee⟩ ⟨fh, st, x0, x1, d0, d1⟩ W (hi.below hW)) g1
  clear g1 hi
  go_enter Tryz.func28, Tryz.ntmps28
  go_wp2_with fail
  obtain ⟨W0, hW0⟩ : ∃ W0, ((w.alloc (.cells #[.int .i64 id, .int .i64 al, .int .i64 ah, .slice A n c, .slice B mm d, .slice C l ee, .int .i64 t0, .int .i64 t1, .int .i64 u0, .int .i64 u1, .int .i64 v0, .int .i64 v1, .int .i64 h0, .int .i64 h1] 45)).alloc (.cells #[.int .i64 fh, .int .i64 st, .int .i64 x0, .int .i64 x1, .int .i64 d0, .int .i64 d1] 47)) = W0 := ⟨_, rfl⟩
  rw [hW0] at HE HK ⊢
  clear hW0
  obtain ⟨G, hG⟩ : ∃ G, w.heap.size = G := ⟨_, rfl⟩
  rw [hG] at HK ⊢
  have HG := Lib.hid hG; clear hG
  refine (C1.out _ HE.out).mono ?_
  rintro e w1 ⟨rfl, hq⟩
  have HE1 := Lib.hid (below_then HE.out hq); have HK1 := Lib.hid (HK.out.on hq)
  clear hq HE HK C1
  go_wp2
  exact bodyPost_ret (v := it (0, 0, E)) (by simp [results, Tryz.results28, go_sem]) rfl ⟨rfl, HE1.out⟩

set_option maxRecDepth 100000 in
set_option maxHeartbeats 4000000 in
theorem sWorst_n (vol mom hei : List P3) (id al ah t0 t1 u0 u1 v0 v1 h0 h1 : Int) (A B C : Option Addr) (n c mm d l ee : Nat) (fh st x0 x1 d0 d1 pa pb : Int) (w : World) (hi : HoldIn w ⟨id, al, ah, vol, mom, hei, t0, t1, u0, u1, v0, v1, h0, h1⟩ ⟨A, n, c, B, mm, d, C, l, ee⟩) (g1 : fillErr ⟨id, al, ah, vol, mom, hei, t0, t1, u0, u1, v0, v1, h0, h1⟩ ⟨fh, st, x0, x1, d0, d1⟩ = 0) (gs : ¬ st = 3) (hm : momS ⟨id, al, ah, vol, mom, hei, t0, t1, u0, u1, v0, v1, h0, h1⟩ ⟨fh, st, x0, x1, d0, d1⟩ = (pa, pb)) :
    Calls Tryz.prog 28 #[.agg #[.int .i64 id, .int .i64 al, .int .i64 ah, .slice A n c, .slice B mm d, .slice C l ee, .int .i64 t0, .int .i64 t1, .int .i64 u0, .int .i64 u1, .int .i64 v0, .int .i64 v1, .int .i64 h0, .int .i64 h1], .agg #[.int .i64 fh, .int .i64 st, .int .i64 x0, .int .i64 x1, .int .i64 d0, .int .i64 d1]] w fun e w' => e = .returned (it (0, pb, 0)) ∧ Below w.heap.size w w' := by
  have HE := Lib.hid (show Below w.heap.size w ((w.alloc (.cells #[.int .i64 id, .int .i64 al, .int .i64 ah, .slice A n c, .slice B mm d, .slice C l ee, .int .i64 t0, .int .i64 t1, .int .i64 u0, .int .i64 u1, .int .i64 v0, .int .i64 v1, .int .i64 h0, .int .i64 h1] 45)).alloc (.cells #[.int .i64 fh, .int .i64 st, .int .i64 x0, .int .i64 x1, .int .i64 d0, .int .i64 d1] 47)) from below_a2 (Below.refl _ _))
  have HK := Lib.hid (boxes2' w 45 47 #[.int .i64 id, .int .i64 al, .int .i64 ah, .slice A n c, .slice B mm d, .slice C l ee, .int .i64 t0, .int .i64 t1, .int .i64 u0, .int .i64 u1, .int .i64 v0, .int .i64 v1, .int .i64 h0, .int .i64 h1] #[.int .i64 fh, .int .i64 st, .int .i64 x0, .int .i64 x1, .int .i64 d0, .int .i64 d1])
  have C1 : Hid (∀ W, Below w.heap.size w W → Calls Tryz.prog 69 #[.agg #[.int .i64 id, .int .i64 al, .int .i64 ah, .slice A n c, .slice B mm d, .slice C l ee, .int .i64 t0, .int .i64 t1, .int .i64 u0, .int .i64 u1, .int .i64 v0, .int .i64 v1, .int .i64 h0, .int .i64 h1], .agg #[.int .i64 fh, .int .i64 st, .int .i64 x0, .int .i64 x1, .int .i64 d0, .int .i64 d1]] W fun e w' => e = .returned (.int .i64 0) ∧ Below W.heap.size W w') := Lib.hid fun W hW => int_to (sCheckFill_any ⟨id, al, ah, vol, mom, hei, t0, t1, u0, u1, v0, v1, h0, h1⟩ ⟨A, n, c, B, mm, d, C, l, ee⟩ ⟨fh, st, x0, x1, d0, d1⟩ W (hi.below hW)) g1
  have C2 : Hid (∀ W, Below w.heap.size w W → Calls Tryz.prog 80 #[.agg #[.int .i64 id, .int .i64 al, .int .i64 ah, .slice A n c, .slice B mm d, .slice C l ee, .int .i64 t0, .int .i64 t1, .int .i64 u0, .int .i64 u1, .int .i64 v0, .int .i64 v1, .int .i64 h0, .int .i64 h1], .agg #[.int .i64 fh, .int .i64 st, .int .i64 x0, .int .i64 x1, .int .i64 d0, .int .i64 d1]] W fun e w' => e = .returned (rv pa pb) ∧ Below W.heap.size W w') := Lib.hid fun W hW => by
    have q := fill_state g1
    have := smom_to ⟨id, al, ah, vol, mom, hei, t0, t1, u0, u1, v0, v1, h0, h1⟩ ⟨A, n, c, B, mm, d, C, l, ee⟩ ⟨fh, st, x0, x1, d0, d1⟩ W (hi.below hW) q.1 q.2
    rw [hm] at this; exact this
  have b0 : (st == 3) = false := beq_eq_false_iff_ne.2 gs
  clear g1 hi hm
  go_enter Tryz.func28, Tryz.ntmps28
  go_wp2_with fail
  obtain ⟨W0, hW0⟩ : ∃ W0, ((w.alloc (.cells #[.int .i64 id, .int .i64 al, .int .i64 ah, .slice A n c, .slice B mm d, .slice C l ee, .int .i64 t0, .int .i64 t1, .int .i64 u0, .int .i64 u1, .int .i64 v0, .int .i64 v1, .int .i64 h0, .int .i64 h1] 45)).alloc (.cells #[.int .i64 fh, .int .i64 st, .int .i64 x0, .int .i64 x1, .int .i64 d0, .int .i64 d1] 47)) = W0 := ⟨_, rfl⟩
  rw [hW0] at HE HK ⊢
  clear hW0
  obtain ⟨G, hG⟩ : ∃ G, w.heap.size = G := ⟨_, rfl⟩
  rw [hG] at HK ⊢
  have HG := Lib.hid hG; clear hG
  refine (C1.out _ HE.out).mono ?_
  rintro e w1 ⟨rfl, hq⟩
  have HE1 := Lib.hid (below_then HE.out hq); have HK1 := Lib.hid (HK.out.on hq)
  clear hq HE HK C1
  have fb := HK1.out _ (.head _)
  have fb1 := fb.cell 1
  simp at fb1
  clear fb
  go_upto_region 5 with fail
  clear fb1 b0 gs
  have ha := HK1.out _ (.tail _ (.head _))
  have ha0 := ha.cell 0
  have ha1 := ha.cell 1
  have ha2 := ha.cell 2
  have ha3 := ha.cell 3
  have ha4 := ha.cell 4
  have ha5 := ha.cell 5
  have ha6 := ha.cell 6
  have ha7 := ha.cell 7
  have ha8 := ha.cell 8
  have ha9 := ha.cell 9
  have ha10 := ha.cell 10
  have ha11 := ha.cell 11
  have ha12 := ha.cell 12
  have ha13 := ha.cell 13
  simp at ha0 ha1 ha2 ha3 ha4 ha5 ha6 ha7 ha8 ha9 ha10 ha11 ha12 ha13
  clear ha
  have fa := HK1.out _ (.head _)
  have fa0 := fa.cell 0
  have fa1 := fa.cell 1
  have fa2 := fa.cell 2
  have fa3 := fa.cell 3
  have fa4 := fa.cell 4
  have fa5 := fa.cell 5
  simp at fa0 fa1 fa2 fa3 fa4 fa5
  clear fa
  go_wp2_with fail
  refine (C2.out _ HE1.out).mono ?_
  rintro e y2 ⟨rfl, hq⟩
  have HE2 := Lib.hid (below_then (below_then HE1.out hq) (below_alloc1 y2 (.cells #[.int .i64 pa, .int .i64 pb] 23))); have HK2 := Lib.hid ((HK1.out.on hq).new 23 #[.int .i64 pa, .int .i64 pb])
  clear hq HE1 HK1 C2 ha0 ha1 ha2 ha3 ha4 ha5 ha6 ha7 ha8 ha9 ha10 ha11 ha12 ha13 fa0 fa1 fa2 fa3 fa4 fa5
  go_upto_region 6 with fail
  obtain ⟨W2, hW⟩ : ∃ W', y2.alloc (.cells #[.int .i64 pa, .int .i64 pb] 23) = W' := ⟨_, rfl⟩
  rw [hW] at HE2 HK2 ⊢
  clear hW
  obtain ⟨N, hN⟩ : ∃ N, y2.heap.size = N := ⟨_, rfl⟩
  rw [hN] at HK2 ⊢
  clear hN
  have pa := HK2.out _ (.head _)
  have pa1 := pa.cell 1
  simp at pa1
  clear pa
  go_region
  go_wp2
  exact bodyPost_ret (v := it (0, pb, 0)) (by simp [results, Tryz.results28, go_sem]) rfl ⟨rfl, HE2.out.drew⟩
theorem sWorst_any (h : HoldD) (m : HoldM) (f : FillD) (w : World) (hi : HoldIn w h m) :
    Calls Tryz.prog 28 #[holdV h m, fillV f] w fun e w' => e = .returned (it (worstW h f)) ∧ Below w.heap.size w w' := by
  obtain ⟨R, hR⟩ : ∃ R, worstW h f = R := ⟨_, rfl⟩
  rw [hR]
  unfold worstW at hR
  by_cases e : fillErr h f = 0
  rotate_left
  · rw [if_neg e] at hR
    subst hR
    obtain ⟨id, al, ah, vol, mom, hei, t0, t1, u0, u1, v0, v1, h0, h1⟩ := h
    obtain ⟨A, n, c, B, mm, d, C, l, ee⟩ := m
    obtain ⟨fh, st, x0, x1, d0, d1⟩ := f
    exact sWorst_e1 vol mom hei id al ah t0 t1 u0 u1 v0 v1 h0 h1 A B C n c mm d l ee fh st x0 x1 d0 d1 _ w hi rfl e
  rw [if_pos e] at hR
  by_cases s : f.st = 3
  · rw [if_pos s] at hR
    subst hR
    obtain ⟨ht, ⟨b1, b2, b3⟩, hm⟩ := mom_three e s
    obtain ⟨⟨x1, x2⟩, x3, x4⟩ := topX_is ht b1 b2 b3
    rw [hm]
    obtain ⟨id, al, ah, vol, mom, hei, t0, t1, u0, u1, v0, v1, h0, h1⟩ := h
    obtain ⟨A, n, c, B, mm, d, C, l, ee⟩ := m
    obtain ⟨fh, st, y0, y1, d0, d1⟩ := f
    dsimp only at s
    subst s
    exact sWorst_m3 vol mom hei id al ah t0 t1 u0 u1 v0 v1 h0 h1 A B C n c mm d l ee fh y0 y1 d0 d1 _ _ w hi e ht b1 b2 b3 x1 x2 rfl x3 x4
  · rw [if_neg s] at hR
    subst hR
    obtain ⟨id, al, ah, vol, mom, hei, t0, t1, u0, u1, v0, v1, h0, h1⟩ := h
    obtain ⟨A, n, c, B, mm, d, C, l, ee⟩ := m
    obtain ⟨fh, st, x0, x1, d0, d1⟩ := f
    exact sWorst_n vol mom hei id al ah t0 t1 u0 u1 v0 v1 h0 h1 A B C n c mm d l ee fh st x0 x1 d0 d1 _ _ w hi e s rfl
end

end Go.Proofs.YtbcefdaflnlhoaaGreat
