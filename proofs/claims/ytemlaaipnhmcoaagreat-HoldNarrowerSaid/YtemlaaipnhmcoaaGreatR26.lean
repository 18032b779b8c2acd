/- The contract of example (the law package): the hold and the fill of the chapter's examples. No conditions. -/
import Derived.Test.YtemlaaipnhmcoaaGreatR25
set_option linter.unusedVariables false
set_option linter.unusedSimpArgs false
set_option linter.constructorNameAsVariable false
namespace Go.Proofs.YtemlaaipnhmcoaaGreat

section
open Go.RowKit

def UllageS (h : HoldD) (a b c d : Int) : Int × Int × Int := if holdErr h = 0 then (if massErr a b c d = 0 then ullS h.vol (litresS a b c d).1 (litresS a b c d).2 else (0, 0, massErr a b c d)) else (0, 0, holdErr h)
theorem holdErr_zero {h : HoldD} (e : holdErr h = 0) : holdS h = true := by
  unfold holdErr at e
  split at e
  · assumption
  · omega

set_option maxRecDepth 100000 in
set_option maxHeartbeats 4000000 in
theorem hUllage_any (h : HoldD) (m : HoldM) (a b e0 e1 : Int) (w : World) (hi : HoldIn w h m) :
  Calls Tryz.prog 24 #[holdV h m, rv a b, rv e0 e1] w fun e w' => e = .returned (rt (UllageS h a b e0 e1)) ∧ Below w.heap.size w w' := by
 obtain ⟨R, hR⟩ : ∃ R, UllageS h a b e0 e1 = R := ⟨_, rfl⟩
 obtain ⟨E, hE⟩ : ∃ E, holdErr h = E := ⟨_, rfl⟩
 have C1 : Hid (∀ W, Below w.heap.size w W → Calls Tryz.prog 51 #[holdV h m] W fun e w' => e = .returned (.int .i64 E) ∧ Below W.heap.size W w') := Lib.hid fun W hW => int_to (checkHold_any h m W (hi.below hW)) hE
 have HR : Hid ((if E = 0 then (if massErr a b e0 e1 = 0 then ullS h.vol (litresS a b e0 e1).1 (litresS a b e0 e1).2 else (0, 0, massErr a b e0 e1)) else (0, 0, E)) = R) := Lib.hid (by rw [← hR]; unfold UllageS; rw [hE])
 have HV : E = 0 → tabOk h.vol = true := fun e => hold_tab (holdErr_zero (hE.trans e))
 have h20 : E = 0 ∨ E = 20 := by
  rw [← hE]; unfold holdErr; split
  ·exact .inl rfl
  ·exact .inr rfl
 rw [hR]
 clear hR hE
 obtain ⟨id, al, ah, vol, mom, hei, t0, t1, u0, u1, v0, v1, h0, h1⟩ := h
 obtain ⟨A, n, c, B, mm, d, C, l, ee⟩ := m
 obtain ⟨i1, i2, i3⟩ := hi
 dsimp only at i1 i2 i3 HR HV
 have C2 : Hid (E = 0 → ∀ W Bh, Below w.heap.size w W → Blk W Bh 35 #[.int .i64 id, .int .i64 al, .int .i64 ah, .slice A n c, .slice B mm d, .slice C l ee, .int .i64 t0, .int .i64 t1, .int .i64 u0, .int .i64 u1, .int .i64 v0, .int .i64 v1, .int .i64 h0, .int .i64 h1] → Calls Tryz.prog 65 #[rv a b, rv e0 e1, .func (.func 66) #[] #[.pointer (some ⟨Bh, 0, none⟩)]] W fun e w' => e = .returned (rt (if massErr a b e0 e1 = 0 then ullS vol (litresS a b e0 e1).1 (litresS a b e0 e1).2 else (0, 0, massErr a b e0 e1))) ∧ Below W.heap.size W w') := Lib.hid fun e W Bh hW hB =>
  ofMass_ull a b e0 e1 Bh _ W fun _ V hV => ullage1_any vol id al ah t0 t1 u0 u1 v0 v1 h0 h1 A B C n c mm d l ee _ _ Bh V (blkOn hB hV) (i1.below (below_then hW hV)) (HV e) (first_le_last (HV e))
 have HE := Lib.hid (show Below w.heap.size w ((((w.alloc (.cells #[.int .i64 id, .int .i64 al, .int .i64 ah, .slice A n c, .slice B mm d, .slice C l ee, .int .i64 t0, .int .i64 t1, .int .i64 u0, .int .i64 u1, .int .i64 v0, .int .i64 v1, .int .i64 h0, .int .i64 h1] 35)).alloc (.cells #[.int .i64 a, .int .i64 b] 30)).alloc (.cells #[.int .i64 e0, .int .i64 e1] 30)).alloc (.cells #[.int .i64 0, .int .i64 0] 30)) from below_a4 (Below.refl _ _))
 have HK := Lib.hid (boxes4' w 35 30 30 30 #[.int .i64 id, .int .i64 al, .int .i64 ah, .slice A n c, .slice B mm d, .slice C l ee, .int .i64 t0, .int .i64 t1, .int .i64 u0, .int .i64 u1, .int .i64 v0, .int .i64 v1, .int .i64 h0, .int .i64 h1] #[.int .i64 a, .int .i64 b] #[.int .i64 e0, .int .i64 e1] #[.int .i64 0, .int .i64 0])
 clear i1 i2 i3 HV
 generalize (if massErr a b e0 e1 = 0 then ullS vol (litresS a b e0 e1).1 (litresS a b e0 e1).2 else (0, 0, massErr a b e0 e1)) = Q at *
 obtain ⟨qa, qb, qe⟩ := Q
 go_enter Tryz.func24, Tryz.ntmps24
 go_wp2_with fail
 obtain ⟨W0, hW0⟩ : ∃ W0, ((((w.alloc (.cells #[.int .i64 id, .int .i64 al, .int .i64 ah, .slice A n c, .slice B mm d, .slice C l ee, .int .i64 t0, .int .i64 t1, .int .i64 u0, .int .i64 u1, .int .i64 v0, .int .i64 v1, .int .i64 h0, .int .i64 h1] 35)).alloc (.cells #[.int .i64 a, .int .i64 b] 30)).alloc (.cells #[.int .i64 e0, .int .i64 e1] 30)).alloc (.cells #[.int .i64 0, .int .i64 0] 30)) = W0 := ⟨_, rfl⟩
 rw [hW0] at HE HK ⊢
 clear hW0
 obtain ⟨G, hG⟩ : ∃ G, w.heap.size = G := ⟨_, rfl⟩
 rw [hG] at HK ⊢
 have HG := Lib.hid hG; clear hG
 refine (C1.out _ HE.out).mono ?_
 rintro e w1 ⟨rfl, hb⟩
 have HE1 := Lib.hid (below_then HE.out hb); have HK1 := Lib.hid (HK.out.on hb)
 clear hb HE HK C1
 by_cases g : E = 0
 ·have eR : R = (qa, qb, qe) := by rw [← HR.out, if_pos g]
  subst eR
  have D2 := Lib.hid (C2.out g)
  clear HR C2
  subst g
  have p := HK1.out _ (.tail _ (.tail _ (.head _)))
  have p0 := p.cell 0
  have p1 := p.cell 1
  simp at p0 p1
  clear p
  have q := HK1.out _ (.tail _ (.head _))
  have q0 := q.cell 0
  have q1 := q.cell 1
  simp at q0 q1
  clear q
  go_wp2_with fail
  refine (D2.out _ _ HE1.out (HK1.out _ (.tail _ (.tail _ (.tail _ (.head _)))))).mono ?_
  rintro e w2 ⟨rfl, hb⟩
  have HE2 := Lib.hid (below_then HE1.out hb); have HK2 := Lib.hid (HK1.out.on hb)
  clear hb HE1 HK1 D2 p0 p1 q0 q1
  have z := HK2.out _ (.head _)
  have z0 := z.cell 0
  have zf0 := z.frozen 0
  have z1 := z.cell 1
  have zf1 := z.frozen 1
  have zl := z.lt
  simp at z0 zf0 z1 zf1
  clear z
  go_wp2
  refine bodyPost_ret (v := rt (qa, qb, qe)) (by simp [results, Tryz.results24, go_sem, z0, z1]) rfl ⟨rfl, ?_⟩
  have hg := HG.out
  repeat (first | exact HE2.out | refine Below.setCell ?_ (by simp <;> omega) _)
 ·have eR : R = (0, 0, E) := by rw [← HR.out, if_neg g]
  subst eR
  clear HR C2
  obtain rfl : E = 20 := h20.resolve_left g
  have z := HK1.out _ (.head _)
  have z0 := z.cell 0
  have zf0 := z.frozen 0
  have z1 := z.cell 1
  have zf1 := z.frozen 1
  have zl := z.lt
  simp at z0 zf0 z1 zf1
  clear z
  go_wp2
  refine bodyPost_ret (v := rt (0, 0, 20)) (by simp [results, Tryz.results24, go_sem, z0, z1]) rfl ⟨rfl, ?_⟩
  have hg := HG.out
  repeat (first | exact HE1.out | refine Below.setCell ?_ (by simp <;> omega) _)

def lineS (a b : Int) : List P3 := [(0, a, a), (100, b, b)]

set_option maxRecDepth 100000 in
set_option maxHeartbeats 4000000 in
theorem line_any (a b : Int) (w : World) : Calls Tryz.prog 124 #[.int .i64 a, .int .i64 b] w fun e w' => ∃ g, e = .returned (tv (some ⟨g, 0, none⟩) 2 2) ∧ w.heap.size ≤ g ∧ Blk w' g 110 #[.int .i64 0, .int .i64 a, .int .i64 a, .int .i64 100, .int .i64 b, .int .i64 b] ∧ Below w.heap.size w w' := by
 go_enter Tryz.func124, Tryz.ntmps124
 go_wp2_with fail
 have hE : Below w.heap.size w ((w.alloc (.cells #[.slice (some ⟨w.heap.size + 1, 0, none⟩) 2 2] 33)).alloc (.cells #[.int .i64 0, .int .i64 a, .int .i64 a, .int .i64 100, .int .i64 b, .int .i64 b] 110)) := below_a2 (Below.refl _ _)
 have bP := Blk.new (w.alloc (.cells #[.slice (some ⟨w.heap.size + 1, 0, none⟩) 2 2] 33)) 110 #[.int .i64 0, .int .i64 a, .int .i64 a, .int .i64 100, .int .i64 b, .int .i64 b]
 simp only [World.size_alloc] at bP
 refine bodyPost_ret (v := tv (some ⟨w.heap.size + 1, 0, none⟩) 2 2) (by simp [results, Tryz.results124, go_sem]) rfl ⟨_, rfl, by omega, bP, hE⟩
end

section
open Go.RowKit

def exMom : List P3 := [(0, 0, 0), (50, 400, 500), (100, 0, 0)]
def exH : HoldD := ⟨1, 0, 0, lineS 1000 0, exMom, lineS 300 100, 10, 20, 50, 60, 1000, 1010, 300, 300⟩
def exF : FillD := ⟨1, 3, 40, 60, 800, 800⟩
abbrev exM (g1 g2 g3 : Nat) : HoldM := ⟨some ⟨g1, 0, none⟩, 2, 2, some ⟨g2, 0, none⟩, 3, 3, some ⟨g3, 0, none⟩, 2, 2⟩
def GivesEx (w : World) (e : Ending) (w' : World) : Prop := ∃ g1 g2 g3, e = .returned (.tuple #[holdV exH (exM g1 g2 g3), fillV exF]) ∧ HoldIn w' exH (exM g1 g2 g3) ∧ Below w.heap.size w w'
theorem results_rows {P : Program} {fn : Func} {p q : Tmp} {ty ty2 : TypeId} (h : fn.results = #[.cell p ty, .cell q ty2]) (tmps : Array Value) (w : World) (g g2 : Nat) (t t2 : TypeId) (cs cs2 : Array Value) (fr fr2 : Nat × Nat) (d d2 : TypeDesc)
    (hp : tmps.getD p undef = .pointer (some ⟨g, 0, none⟩)) (hq : tmps.getD q undef = .pointer (some ⟨g2, 0, none⟩)) (hg : w.heap[g]? = some (.cells cs t fr)) (hg2 : w.heap[g2]? = some (.cells cs2 t2 fr2))
    (hu : P.underlying ty = some d) (hu2 : P.underlying ty2 = some d2) (hd : (match d with | .struct _ | .array _ _ => true | _ => false) = true) (hd2 : (match d2 with | .struct _ | .array _ _ => true | _ => false) = true) (hi : (P.info? ty).map (·.size) = some cs.size) (hi2 : (P.info? ty2).map (·.size) = some cs2.size) :
    (results fn tmps).run P w = .ok (.tuple #[.agg cs, .agg cs2]) w := by
  have hp' : tmps[p]?.getD undef = .pointer (some ⟨g, 0, none⟩) := by simpa using hp
  have hq' : tmps[q]?.getD undef = .pointer (some ⟨g2, 0, none⟩) := by simpa using hq
  simp [results, h, hp', hq', asAddr, run_loadVar_row w g t ty cs fr d hg hu hd hi, run_loadVar_row w g2 t2 ty2 cs2 fr2 d2 hg2 hu2 hd2 hi2]
theorem Boxes.cons {W : World} {L : List (Nat × TypeId × Array Value)} (h : Boxes W L) {g : Nat} {t : TypeId} {cs : Array Value} (hb : Blk W g t cs) : Boxes W ((g, t, cs) :: L) := fun p hp => by
  rcases List.mem_cons.1 hp with rfl | hp
  · exact hb
  · exact h p hp
theorem Boxes.set1 {W : World} {g : Nat} {t : TypeId} {cs : Array Value} {L : List (Nat × TypeId × Array Value)} (h : Boxes W ((g, t, cs) :: L)) (hg : ∀ p ∈ L, p.1 ≠ g) (i : Nat) (a : Value) (cs' : Array Value) (he : cs.setIfInBounds i a = cs') :
    Boxes (W.setCell ⟨g, i, none⟩ a) ((g, t, cs') :: L) := fun p hp => by
  rcases List.mem_cons.1 hp with rfl | hp
  · rw [← he]; exact (h _ (.head _)).set_ i a
  · exact (h p (.tail _ hp)).far (p := ⟨g, i, none⟩) (hg p hp) a
theorem Boxes.row' {W : World} {L L' : List (Nat × TypeId × Array Value)} (h : Boxes W L) {g : Nat} {t : TypeId} {old : Array Value} (hm : (g, t, old) ∈ L) (hs : ∀ p ∈ L', p ∈ L ∧ p.1 ≠ g) (cs : Array Value) :
    Boxes (W.setRow g cs) ((g, t, cs) :: L') := fun p hp => by
  rcases List.mem_cons.1 hp with rfl | hp
  · exact setRow_heap W g _ _ t _ (h _ hm)
  · exact (h p (hs p hp).1).farRow (hs p hp).2 cs
theorem pts2 {w : World} {g : Nat} {a b c d e f : Int} (h : Blk w g 110 #[.int .i64 a, .int .i64 b, .int .i64 c, .int .i64 d, .int .i64 e, .int .i64 f]) : Pts w (some ⟨g, 0, none⟩) [(a, b, c), (d, e, f)] := .inr ⟨g, 0, rfl, h.lt, fun k p hp => by
  rcases k with _ | _ | k
  · simp at hp; subst hp
    exact ⟨h.cell 0, h.cell 1, h.cell 2⟩
  · simp at hp; subst hp
    exact ⟨h.cell 3, h.cell 4, h.cell 5⟩
  · simp at hp⟩
theorem pts3 {w : World} {g : Nat} {a b c d e f i j k : Int} (h : Blk w g 110 #[.int .i64 a, .int .i64 b, .int .i64 c, .int .i64 d, .int .i64 e, .int .i64 f, .int .i64 i, .int .i64 j, .int .i64 k]) : Pts w (some ⟨g, 0, none⟩) [(a, b, c), (d, e, f), (i, j, k)] := .inr ⟨g, 0, rfl, h.lt, fun n p hp => by
  rcases n with _ | _ | _ | n
  · simp at hp; subst hp
    exact ⟨h.cell 0, h.cell 1, h.cell 2⟩
  · simp at hp; subst hp
    exact ⟨h.cell 3, h.cell 4, h.cell 5⟩
  · simp at hp; subst hp
    exact ⟨h.cell 6, h.cell 7, h.cell 8⟩
  · simp at hp⟩

set_option maxRecDepth 100000 in
set_option maxHeartbeats 4000000 in
theorem example_any (w : World) : Calls Tryz.prog 71 #[] w (GivesEx w) := by
 have HE := Lib.hid (show Below w.heap.size w ((w.alloc (.cells #[.int .i64 0, .int .i64 0, .int .i64 0, .slice none 0 0, .slice none 0 0, .slice none 0 0, .int .i64 0, .int .i64 0, .int .i64 0, .int .i64 0, .int .i64 0, .int .i64 0, .int .i64 0, .int .i64 0] 35)).alloc (.cells #[.int .i64 0, .int .i64 0, .int .i64 0, .int .i64 0, .int .i64 0, .int .i64 0] 55)) from below_a2 (Below.refl _ _))
 have HK := Lib.hid (boxes2' w 35 55 #[.int .i64 0, .int .i64 0, .int .i64 0, .slice none 0 0, .slice none 0 0, .slice none 0 0, .int .i64 0, .int .i64 0, .int .i64 0, .int .i64 0, .int .i64 0, .int .i64 0, .int .i64 0, .int .i64 0] #[.int .i64 0, .int .i64 0, .int .i64 0, .int .i64 0, .int .i64 0, .int .i64 0])
 go_enter Tryz.func71, Tryz.ntmps71
 go_wp2_with fail
 obtain ⟨W0, hW0⟩ : ∃ W0, ((w.alloc (.cells #[.int .i64 0, .int .i64 0, .int .i64 0, .slice none 0 0, .slice none 0 0, .slice none 0 0, .int .i64 0, .int .i64 0, .int .i64 0, .int .i64 0, .int .i64 0, .int .i64 0, .int .i64 0, .int .i64 0] 35)).alloc (.cells #[.int .i64 0, .int .i64 0, .int .i64 0, .int .i64 0, .int .i64 0, .int .i64 0] 55)) = W0 := ⟨_, rfl⟩
 rw [hW0] at HE HK ⊢
 clear hW0
 obtain ⟨G, hG⟩ : ∃ G, w.heap.size = G := ⟨_, rfl⟩
 rw [hG] at HK ⊢
 have HG := Lib.hid hG; clear hG
 refine (line_any 1000 0 _).mono ?_
 rintro e w1 ⟨g1, rfl, l1, P1, hb⟩
 have HL1 := Lib.hid (show G + 1 < g1 from Nat.lt_of_lt_of_le (HK.out _ (.head _)).lt l1)
 have HE1 := Lib.hid (below_then HE.out hb); have HK1 := Lib.hid ((HK.out.on hb).cons P1)
 clear hb HE HK l1 P1
 go_wp2_with fail
 refine (line_any 300 100 _).mono ?_
 rintro e w2 ⟨g3, rfl, l3, P3, hb⟩
 have HL3 := Lib.hid (show g1 < g3 from Nat.lt_of_lt_of_le (HK1.out _ (.head _)).lt l3)
 have HLN := Lib.hid (show g3 < w2.heap.size from P3.lt)
 have HE2 := Lib.hid (below_then (below_then HE1.out hb) (below_alloc1 w2 (.cells #[.int .i64 1, .int .i64 0, .int .i64 0, .slice (some ⟨g1, 0, none⟩) 2 2, .slice none 0 0, .slice (some ⟨g3, 0, none⟩) 2 2, .int .i64 10, .int .i64 20, .int .i64 50, .int .i64 60, .int .i64 1000, .int .i64 1010, .int .i64 300, .int .i64 300] 35))); have HK2 := Lib.hid (((HK1.out.on hb).cons P3).new 35 #[.int .i64 1, .int .i64 0, .int .i64 0, .slice (some ⟨g1, 0, none⟩) 2 2, .slice none 0 0, .slice (some ⟨g3, 0, none⟩) 2 2, .int .i64 10, .int .i64 20, .int .i64 50, .int .i64 60, .int .i64 1000, .int .i64 1010, .int .i64 300, .int .i64 300])
 clear hb HE1 HK1 l3 P3
 go_upto_region 2 with fail
 obtain ⟨W2, hW2⟩ : ∃ W2, w2.alloc (.cells #[.int .i64 1, .int .i64 0, .int .i64 0, .slice (some ⟨g1, 0, none⟩) 2 2, .slice none 0 0, .slice (some ⟨g3, 0, none⟩) 2 2, .int .i64 10, .int .i64 20, .int .i64 50, .int .i64 60, .int .i64 1000, .int .i64 1010, .int .i64 300, .int .i64 300] 35) = W2 := ⟨_, rfl⟩
 rw [hW2] at HE2 HK2 ⊢
 clear hW2
 obtain ⟨N, hN⟩ : ∃ N, w2.heap.size = N := ⟨_, rfl⟩
 rw [hN] at HK2 HLN ⊢
 clear hN
 have HL2 := Lib.hid (show N < W2.heap.size from (HK2.out _ (.head _)).lt)
 have z := HK2.out _ (.head _)
 have z4 := z.cell 4
 have zf4 := z.frozen 4
 have zl := z.lt
 simp at z4 zf4
 clear z
 go_upto_region 3 with fail
 have hne : ∀ p ∈ ([(g3, 110, #[.int .i64 0, .int .i64 300, .int .i64 300, .int .i64 100, .int .i64 100, .int .i64 100]), (g1, 110, #[.int .i64 0, .int .i64 1000, .int .i64 1000, .int .i64 100, .int .i64 0, .int .i64 0]), (G + 1, 55, #[.int .i64 0, .int .i64 0, .int .i64 0, .int .i64 0, .int .i64 0, .int .i64 0]), (G, 35, #[.int .i64 0, .int .i64 0, .int .i64 0, .slice none 0 0, .slice none 0 0, .slice none 0 0, .int .i64 0, .int .i64 0, .int .i64 0, .int .i64 0, .int .i64 0, .int .i64 0, .int .i64 0, .int .i64 0])] : List (Nat × TypeId × Array Value)), p.1 ≠ N := by
  have a1 := HL1.out; have a2 := HL3.out; have a3 := HLN.out
  intro x hx
  simp only [List.mem_cons, List.not_mem_nil, or_false] at hx
  rcases hx with h | h | h | h <;> (rw [h]; dsimp only; omega)
 have hz : (W2.setCell ⟨N, 4, none⟩ (.slice (some ⟨W2.heap.size, 0, none⟩) 3 3)).heap.size = W2.heap.size := by simp [World.setCell]
 have hK3 := (Boxes.set1 HK2.out hne 4 (.slice (some ⟨W2.heap.size, 0, none⟩) 3 3) #[.int .i64 1, .int .i64 0, .int .i64 0, .slice (some ⟨g1, 0, none⟩) 2 2, .slice (some ⟨W2.heap.size, 0, none⟩) 3 3, .slice (some ⟨g3, 0, none⟩) 2 2, .int .i64 10, .int .i64 20, .int .i64 50, .int .i64 60, .int .i64 1000, .int .i64 1010, .int .i64 300, .int .i64 300] rfl).new 110 #[.int .i64 0, .int .i64 0, .int .i64 0, .int .i64 50, .int .i64 400, .int .i64 500, .int .i64 100, .int .i64 0, .int .i64 0]
 rw [hz] at hK3
 have HE3 := Lib.hid ((HE2.out.setCell (p := ⟨N, 4, none⟩) (by have := HG.out; have := HL1.out; have := HL3.out; have := HLN.out; simp; omega) (.slice (some ⟨W2.heap.size, 0, none⟩) 3 3)).alloc (by rw [hz]; exact HE2.out.size) (.cells #[.int .i64 0, .int .i64 0, .int .i64 0, .int .i64 50, .int .i64 400, .int .i64 500, .int .i64 100, .int .i64 0, .int .i64 0] 110))
 have HK3 := Lib.hid hK3
 clear hK3 hne hz z4 zf4 zl HE2 HK2
 obtain ⟨W3, hW3⟩ : ∃ W3, (W2.setCell ⟨N, 4, none⟩ (.slice (some ⟨W2.heap.size, 0, none⟩) 3 3)).alloc (.cells #[.int .i64 0, .int .i64 0, .int .i64 0, .int .i64 50, .int .i64 400, .int .i64 500, .int .i64 100, .int .i64 0, .int .i64 0] 110) = W3 := ⟨_, rfl⟩
 rw [hW3] at HE3 HK3 ⊢
 clear hW3
 obtain ⟨g2, hg2⟩ : ∃ g2, W2.heap.size = g2 := ⟨_, rfl⟩
 rw [hg2] at HK3 HL2
 clear hg2
 have s := HK3.out _ (.tail _ (.head _))
 have s0 := s.cell 0
 have s1 := s.cell 1
 have s2 := s.cell 2
 have s3 := s.cell 3
 have s4 := s.cell 4
 have s5 := s.cell 5
 have s6 := s.cell 6
 have s7 := s.cell 7
 have s8 := s.cell 8
 have s9 := s.cell 9
 have s10 := s.cell 10
 have s11 := s.cell 11
 have s12 := s.cell 12
 have s13 := s.cell 13
 simp at s0 s1 s2 s3 s4 s5 s6 s7 s8 s9 s10 s11 s12 s13
 clear s
 refine wp_region_lit ?_
 refine wpList_plain rfl (fun K hK => ?_)
 go_simp
 refine hK _ _ ?_
 clear hK K
 refine wpList_plain rfl (fun K hK => ?_)
 go_simp
 refine hK _ _ ?_
 clear hK K
 refine wpList_plain rfl (fun K hK => ?_)
 go_simp
 refine hK _ _ ?_
 clear hK K
 refine wpList_plain rfl (fun K hK => ?_)
 go_simp
 refine hK _ _ ?_
 clear hK K
 have ord : G + 1 < g1 ∧ g1 < g3 ∧ g3 < N ∧ N < g2 := ⟨HL1.out, HL3.out, HLN.out, HL2.out⟩
 have HK4 : Hid (Boxes (W3.setRow G #[.int .i64 1, .int .i64 0, .int .i64 0, .slice (some ⟨g1, 0, none⟩) 2 2, .slice (some ⟨g2, 0, none⟩) 3 3, .slice (some ⟨g3, 0, none⟩) 2 2, .int .i64 10, .int .i64 20, .int .i64 50, .int .i64 60, .int .i64 1000, .int .i64 1010, .int .i64 300, .int .i64 300]) [(G, 35, #[.int .i64 1, .int .i64 0, .int .i64 0, .slice (some ⟨g1, 0, none⟩) 2 2, .slice (some ⟨g2, 0, none⟩) 3 3, .slice (some ⟨g3, 0, none⟩) 2 2, .int .i64 10, .int .i64 20, .int .i64 50, .int .i64 60, .int .i64 1000, .int .i64 1010, .int .i64 300, .int .i64 300]), (g2, 110, #[.int .i64 0, .int .i64 0, .int .i64 0, .int .i64 50, .int .i64 400, .int .i64 500, .int .i64 100, .int .i64 0, .int .i64 0]), (g3, 110, #[.int .i64 0, .int .i64 300, .int .i64 300, .int .i64 100, .int .i64 100, .int .i64 100]), (g1, 110, #[.int .i64 0, .int .i64 1000, .int .i64 1000, .int .i64 100, .int .i64 0, .int .i64 0]), (G + 1, 55, #[.int .i64 0, .int .i64 0, .int .i64 0, .int .i64 0, .int .i64 0, .int .i64 0])]) := Lib.hid (Boxes.row' HK3.out (.tail _ (.tail _ (.tail _ (.tail _ (.tail _ (.head _)))))) (fun x hx => by
  simp only [List.mem_cons, List.not_mem_nil, or_false] at hx ⊢
  rcases hx with h | h | h | h <;> (refine ⟨by simp [h], ?_⟩; rw [h]; dsimp only; omega)) #[.int .i64 1, .int .i64 0, .int .i64 0, .slice (some ⟨g1, 0, none⟩) 2 2, .slice (some ⟨g2, 0, none⟩) 3 3, .slice (some ⟨g3, 0, none⟩) 2 2, .int .i64 10, .int .i64 20, .int .i64 50, .int .i64 60, .int .i64 1000, .int .i64 1010, .int .i64 300, .int .i64 300])
 have HE4 := Lib.hid (below_setRow HE3.out (show w.heap.size ≤ G by have := HG.out; omega) #[.int .i64 1, .int .i64 0, .int .i64 0, .slice (some ⟨g1, 0, none⟩) 2 2, .slice (some ⟨g2, 0, none⟩) 3 3, .slice (some ⟨g3, 0, none⟩) 2 2, .int .i64 10, .int .i64 20, .int .i64 50, .int .i64 60, .int .i64 1000, .int .i64 1010, .int .i64 300, .int .i64 300])
 refine wpList_store_row rfl 35 (.tmp 0) (.tmp 16) rfl G #[.int .i64 1, .int .i64 0, .int .i64 0, .slice (some ⟨g1, 0, none⟩) 2 2, .slice (some ⟨g2, 0, none⟩) 3 3, .slice (some ⟨g3, 0, none⟩) 2 2, .int .i64 10, .int .i64 20, .int .i64 50, .int .i64 60, .int .i64 1000, .int .i64 1010, .int .i64 300, .int .i64 300] rfl rfl 35 _ (HK3.out _ (.tail _ (.tail _ (.tail _ (.tail _ (.tail _ (.head _))))))) (by kernel_rfl) rfl (by kernel_rfl) ?_
 obtain ⟨W4, hW4⟩ : ∃ W4, W3.setRow G #[.int .i64 1, .int .i64 0, .int .i64 0, .slice (some ⟨g1, 0, none⟩) 2 2, .slice (some ⟨g2, 0, none⟩) 3 3, .slice (some ⟨g3, 0, none⟩) 2 2, .int .i64 10, .int .i64 20, .int .i64 50, .int .i64 60, .int .i64 1000, .int .i64 1010, .int .i64 300, .int .i64 300] = W4 := ⟨_, rfl⟩
 rw [hW4] at HK4 HE4 ⊢
 clear hW4 HK3 HE3 s0 s1 s2 s3 s4 s5 s6 s7 s8 s9 s10 s11 s12 s13
 have HK5 : Hid (Boxes (W4.setRow (G + 1) #[.int .i64 1, .int .i64 3, .int .i64 40, .int .i64 60, .int .i64 800, .int .i64 800]) [(G + 1, 55, #[.int .i64 1, .int .i64 3, .int .i64 40, .int .i64 60, .int .i64 800, .int .i64 800]), (G, 35, #[.int .i64 1, .int .i64 0, .int .i64 0, .slice (some ⟨g1, 0, none⟩) 2 2, .slice (some ⟨g2, 0, none⟩) 3 3, .slice (some ⟨g3, 0, none⟩) 2 2, .int .i64 10, .int .i64 20, .int .i64 50, .int .i64 60, .int .i64 1000, .int .i64 1010, .int .i64 300, .int .i64 300]), (g2, 110, #[.int .i64 0, .int .i64 0, .int .i64 0, .int .i64 50, .int .i64 400, .int .i64 500, .int .i64 100, .int .i64 0, .int .i64 0]), (g3, 110, #[.int .i64 0, .int .i64 300, .int .i64 300, .int .i64 100, .int .i64 100, .int .i64 100]), (g1, 110, #[.int .i64 0, .int .i64 1000, .int .i64 1000, .int .i64 100, .int .i64 0, .int .i64 0])]) := Lib.hid (Boxes.row' HK4.out (.tail _ (.tail _ (.tail _ (.tail _ (.head _))))) (fun x hx => by
  simp only [List.mem_cons, List.not_mem_nil, or_false] at hx ⊢
  rcases hx with h | h | h | h <;> (refine ⟨by simp [h], ?_⟩; rw [h]; dsimp only; omega)) #[.int .i64 1, .int .i64 3, .int .i64 40, .int .i64 60, .int .i64 800, .int .i64 800])
 have HE5 := Lib.hid (below_setRow HE4.out (show w.heap.size ≤ G + 1 by have := HG.out; omega) #[.int .i64 1, .int .i64 3, .int .i64 40, .int .i64 60, .int .i64 800, .int .i64 800])
 refine wpList_store_row rfl 55 (.tmp 1) (.tmp 19) rfl (G + 1) #[.int .i64 1, .int .i64 3, .int .i64 40, .int .i64 60, .int .i64 800, .int .i64 800] rfl rfl 55 _ (HK4.out _ (.tail _ (.tail _ (.tail _ (.tail _ (.head _)))))) (by kernel_rfl) rfl (by kernel_rfl) ?_
 obtain ⟨W5, hW5⟩ : ∃ W5, W4.setRow (G + 1) #[.int .i64 1, .int .i64 3, .int .i64 40, .int .i64 60, .int .i64 800, .int .i64 800] = W5 := ⟨_, rfl⟩
 rw [hW5] at HK5 HE5 ⊢
 clear hW5 HK4 HE4 ord
 go_wp2
 exact bodyPost_ret (v := .tuple #[.agg #[.int .i64 1, .int .i64 0, .int .i64 0, .slice (some ⟨g1, 0, none⟩) 2 2, .slice (some ⟨g2, 0, none⟩) 3 3, .slice (some ⟨g3, 0, none⟩) 2 2, .int .i64 10, .int .i64 20, .int .i64 50, .int .i64 60, .int .i64 1000, .int .i64 1010, .int .i64 300, .int .i64 300], .agg #[.int .i64 1, .int .i64 3, .int .i64 40, .int .i64 60, .int .i64 800, .int .i64 800]]) (results_rows Tryz.results71 _ _ G (G + 1) 35 55 #[.int .i64 1, .int .i64 0, .int .i64 0, .slice (some ⟨g1, 0, none⟩) 2 2, .slice (some ⟨g2, 0, none⟩) 3 3, .slice (some ⟨g3, 0, none⟩) 2 2, .int .i64 10, .int .i64 20, .int .i64 50, .int .i64 60, .int .i64 1000, .int .i64 1010, .int .i64 300, .int .i64 300] #[.int .i64 1, .int .i64 3, .int .i64 40, .int .i64 60, .int .i64 800, .int .i64 800] (0, 0) (0, 0) _ _ rfl rfl (HK5.out _ (.tail _ (.head _))) (HK5.out _ (.head _)) Tryz.underlying35 Tryz.underlying55 rfl rfl (by kernel_rfl) (by kernel_rfl)) rfl
  ⟨g1, g2, g3, rfl, ⟨⟨rfl, (show 2 ≤ maxLen by decide), pts2 (HK5.out _ (.tail _ (.tail _ (.tail _ (.tail _ (.head _))))))⟩, ⟨rfl, (show 3 ≤ maxLen by decide), pts3 (HK5.out _ (.tail _ (.tail _ (.head _))))⟩, ⟨rfl, (show 2 ≤ maxLen by decide), pts2 (HK5.out _ (.tail _ (.tail _ (.tail _ (.head _)))))⟩⟩, HE5.out⟩
end

end Go.Proofs.YtemlaaipnhmcoaaGreat
