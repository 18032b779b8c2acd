/- Plain: what a valid level has; what Liquid, Surface, Ballast and Pump tell. No conditions. -/
import Derived.Test.YtekkiedlajhaiaaGreatQ32
import Derived.Test.YtekkiedlajhaiaaGreatQ14
import Derived.Test.YtekkiedlajhaiaaGreatQ19
import Derived.Test.YtekkiedlajhaiaaGreatQ04
import Derived.Test.YtekkiedlajhaiaaGreatQ10
import Derived.Test.YtekkiedlajhaiaaGreatQ09
import Derived.Test.YtekkiedlajhaiaaGreatQ17
import Derived.Test.YtekkiedlajhaiaaGreatQ27
import Derived.Test.YtekkiedlajhaiaaGreatQ15
import Derived.Test.YtekkiedlajhaiaaGreatQ29
set_option linter.unusedVariables false
set_option linter.unusedSimpArgs false
set_option linter.constructorNameAsVariable false
namespace Go.Proofs.YtekkiedlajhaiaaGreat

section
open Go.RowKit

def exMom : List P3 := [(0, 0, 0), (50, 400, 500), (100, 0, 0)]
def exH : HoldD := ⟨1, 0, 0, lineS 1000 0, exMom, lineS 300 100, 10, 20, 50, 60, 1000, 1010, 300, 300⟩
def exF : FillD := ⟨1, 3, 40, 60, 800, 800⟩
abbrev exM (g1 g2 g3 : Nat) : HoldM := ⟨some ⟨g1, 0, none⟩, 2, 2, some ⟨g2, 0, none⟩, 3, 3, some ⟨g3, 0, none⟩, 2, 2⟩
def GivesEx (w : World) (e : Ending) (w' : World) : Prop := ∃ g1 g2 g3, e = .returned (.tuple #[holdV exH (exM g1 g2 g3), fillV exF]) ∧ HoldIn w' exH (exM g1 g2 g3) ∧ Below w.heap.size w w'
theorem results_rows {P : Program} {fn : Func} {p q : Tmp} {ty ty2 : TypeId} (h : fn.results = #[.cell p ty, .cell q ty2]) (tmps : Array Value) (w : World) (g g2 : Nat) (t t2 : TypeId) (cs cs2 : Array Value) (fr fr2 : Nat × Nat) (d d2 : TypeDesc)
    (hp : tmps.getD p undef = .pointer (some ⟨g, 0, none⟩)) (hq : tmps.getD q undef = .pointer (some ⟨g2, 0, none⟩)) (hg : w.heap[g]? = some (.cells cs t fr)) (hg2 : w.heap[g2]? = some (.cells cs2 t2 fr2))
    (hu : P.underlying ty = some d) (hu2 : P.underlying ty2 = some d2) (hd : (match d with | .struct _ | .array _ _ => true | _ => false) = true) (hd2 : (match d2 with | .struct _ | .array _ _ => true | _ => false) = true) (hi : (P.info? ty).map (·.size) = some cs.size) (hi2 : (P.info? ty2).map (·.size) = some cs2.size) :
    (results fn tmps).run P w = .ok (.tuple #[.agg cs, .agg cs2]) w := by
  have hp' : tmps[p]?.getD undef = .pointer (some ⟨g, 0, none⟩) := by simpa using hp
  have hq' : tmps[q]?.getD undef = .pointer (some ⟨g2, 0, none⟩) := by simpa using hq
  simp [results, h, hp', hq', asAddr, run_loadVar_row w g t ty cs fr d hg hu hd hi, run_loadVar_row w g2 t2 ty2 cs2 fr2 d2 hg2 hu2 hd2 hi2]
theorem Boxes.cons {W : World} {L : List (Nat × TypeId × Array Value)} (h : Boxes W L) {g : Nat} {t : TypeId} {cs : Array Value} (hb : Blk W g t cs) : Boxes W ((g, t, cs) :: L) := fun p hp => by
  rcases List.mem_cons.1 hp with rfl | hp
  · exact hb
  · exact h p hp
theorem Boxes.set1 {W : World} {g : Nat} {t : TypeId} {cs : Array Value} {L : List (Nat × TypeId × Array Value)} (h : Boxes W ((g, t, cs) :: L)) (hg : ∀ p ∈ L, p.1 ≠ g) (i : Nat) (a : Value) (cs' : Array Value) (he : cs.setIfInBounds i a = cs') :
    Boxes (W.setCell ⟨g, i, none⟩ a) ((g, t, cs') :: L) := fun p hp => by
  rcases List.mem_cons.1 hp with rfl | hp
  · rw [← he]; exact (h _ (.head _)).set_ i a
  · exact (h p (.tail _ hp)).far (p := ⟨g, i, none⟩) (hg p hp) a
theorem Boxes.row' {W : World} {L L' : List (Nat × TypeId × Array Value)} (h : Boxes W L) {g : Nat} {t : TypeId} {old : Array Value} (hm : (g, t, old) ∈ L) (hs : ∀ p ∈ L', p ∈ L ∧ p.1 ≠ g) (cs : Array Value) :
    Boxes (W.setRow g cs) ((g, t, cs) :: L') := fun p hp => by
  rcases List.mem_cons.1 hp with rfl | hp
  · exact setRow_heap W g _ _ t _ (h _ hm)
  · exact (h p (hs p hp).1).farRow (hs p hp).2 cs
theorem pts2 {w : World} {g : Nat} {a b c d e f : Int} (h : Blk w g 93 #[.int .i64 a, .int .i64 b, .int .i64 c, .int .i64 d, .int .i64 e, .int .i64 f]) : Pts w (some ⟨g, 0, none⟩) [(a, b, c), (d, e, f)] := .inr ⟨g, 0, rfl, h.lt, fun k p hp => by
  rcases k with _ | _ | k
  · simp at hp; subst hp
    exact ⟨h.cell 0, h.cell 1, h.cell 2⟩
  · simp at hp; subst hp
    exact ⟨h.cell 3, h.cell 4, h.cell 5⟩
  · simp at hp⟩
theorem pts3 {w : World} {g : Nat} {a b c d e f i j k : Int} (h : Blk w g 93 #[.int .i64 a, .int .i64 b, .int .i64 c, .int .i64 d, .int .i64 e, .int .i64 f, .int .i64 i, .int .i64 j, .int .i64 k]) : Pts w (some ⟨g, 0, none⟩) [(a, b, c), (d, e, f), (i, j, k)] := .inr ⟨g, 0, rfl, h.lt, fun n p hp => by
  rcases n with _ | _ | _ | n
  · simp at hp; subst hp
    exact ⟨h.cell 0, h.cell 1, h.cell 2⟩
  · simp at hp; subst hp
    exact ⟨h.cell 3, h.cell 4, h.cell 5⟩
  · simp at hp; subst hp
    exact ⟨h.cell 6, h.cell 7, h.cell 8⟩
  · simp at hp⟩

set_option maxRecDepth 100000 in
set_option maxHeartbeats 4000000 in
theorem example_any (w : World) : Calls Tryz.prog 39 #[] w (GivesEx w) := by
 have HE := Lib.hid (show Below w.heap.size w ((w.alloc (.cells #[.int .i64 0, .int .i64 0, .int .i64 0, .slice none 0 0, .slice none 0 0, .slice none 0 0, .int .i64 0, .int .i64 0, .int .i64 0, .int .i64 0, .int .i64 0, .int .i64 0, .int .i64 0, .int .i64 0] 50)).alloc (.cells #[.int .i64 0, .int .i64 0, .int .i64 0, .int .i64 0, .int .i64 0, .int .i64 0] 53)) from below_a2 (Below.refl _ _))
 have HK := Lib.hid (boxes2' w 50 53 #[.int .i64 0, .int .i64 0, .int .i64 0, .slice none 0 0, .slice none 0 0, .slice none 0 0, .int .i64 0, .int .i64 0, .int .i64 0, .int .i64 0, .int .i64 0, .int .i64 0, .int .i64 0, .int .i64 0] #[.int .i64 0, .int .i64 0, .int .i64 0, .int .i64 0, .int .i64 0, .int .i64 0])
 go_enter Tryz.func39, Tryz.ntmps39
 go_wp2_with fail
 obtain ⟨W0, hW0⟩ : ∃ W0, ((w.alloc (.cells #[.int .i64 0, .int .i64 0, .int .i64 0, .slice none 0 0, .slice none 0 0, .slice none 0 0, .int .i64 0, .int .i64 0, .int .i64 0, .int .i64 0, .int .i64 0, .int .i64 0, .int .i64 0, .int .i64 0] 50)).alloc (.cells #[.int .i64 0, .int .i64 0, .int .i64 0, .int .i64 0, .int .i64 0, .int .i64 0] 53)) = W0 := ⟨_, rfl⟩
 rw [hW0] at HE HK ⊢
 clear hW0
 obtain ⟨G, hG⟩ : ∃ G, w.heap.size = G := ⟨_, rfl⟩
 rw [hG] at HK ⊢
 have HG := Lib.hid hG; clear hG
 refine (line_any 1000 0 _).mono ?_
 rintro e w1 ⟨g1, rfl, l1, P1, hb⟩
 have HL1 := Lib.hid (show G + 1 < g1 from Nat.lt_of_lt_of_le (HK.out _ (.head _)).lt l1)
 have HE1 := Lib.hid (below_then HE.out hb); have HK1 := Lib.hid ((HK.out.on hb).cons P1)
 clear hb HE HK l1 P1
 go_wp2_with fail
 refine (line_any 300 100 _).mono ?_
 rintro e w2 ⟨g3, rfl, l3, P3, hb⟩
 have HL3 := Lib.hid (show g1 < g3 from Nat.lt_of_lt_of_le (HK1.out _ (.head _)).lt l3)
 have HLN := Lib.hid (show g3 < w2.heap.size from P3.lt)
 have HE2 := Lib.hid (below_then (below_then HE1.out hb) (below_alloc1 w2 (.cells #[.int .i64 1, .int .i64 0, .int .i64 0, .slice (some ⟨g1, 0, none⟩) 2 2, .slice none 0 0, .slice (some ⟨g3, 0, none⟩) 2 2, .int .i64 10, .int .i64 20, .int .i64 50, .int .i64 60, .int .i64 1000, .int .i64 1010, .int .i64 300, .int .i64 300] 50))); have HK2 := Lib.hid (((HK1.out.on hb).cons P3).new 50 #[.int .i64 1, .int .i64 0, .int .i64 0, .slice (some ⟨g1, 0, none⟩) 2 2, .slice none 0 0, .slice (some ⟨g3, 0, none⟩) 2 2, .int .i64 10, .int .i64 20, .int .i64 50, .int .i64 60, .int .i64 1000, .int .i64 1010, .int .i64 300, .int .i64 300])
 clear hb HE1 HK1 l3 P3
 go_upto_region 2 with fail
 obtain ⟨W2, hW2⟩ : ∃ W2, w2.alloc (.cells #[.int .i64 1, .int .i64 0, .int .i64 0, .slice (some ⟨g1, 0, none⟩) 2 2, .slice none 0 0, .slice (some ⟨g3, 0, none⟩) 2 2, .int .i64 10, .int .i64 20, .int .i64 50, .int .i64 60, .int .i64 1000, .int .i64 1010, .int .i64 300, .int .i64 300] 50) = W2 := ⟨_, rfl⟩
 rw [hW2] at HE2 HK2 ⊢
 clear hW2
 obtain ⟨N, hN⟩ : ∃ N, w2.heap.size = N := ⟨_, rfl⟩
 rw [hN] at HK2 HLN ⊢
 clear hN
 have HL2 := Lib.hid (show N < W2.heap.size from (HK2.out _ (.head _)).lt)
 have z := HK2.out _ (.head _)
 have z4 := z.cell 4
 have zf4 := z.frozen 4
 have zl := z.lt
 simp at z4 zf4
 clear z
 go_upto_region 3 with fail
 have hne : ∀ p ∈ ([(g3, 93, #[.int .i64 0, .int .i64 300, .int .i64 300, .int .i64 100, .int .i64 100, .int .i64 100]), (g1, 93, #[.int .i64 0, .int .i64 1000, .int .i64 1000, .int .i64 100, .int .i64 0, .int .i64 0]), (G + 1, 53, #[.int .i64 0, .int .i64 0, .int .i64 0, .int .i64 0, .int .i64 0, .int .i64 0]), (G, 50, #[.int .i64 0, .int .i64 0, .int .i64 0, .slice none 0 0, .slice none 0 0, .slice none 0 0, .int .i64 0, .int .i64 0, .int .i64 0, .int .i64 0, .int .i64 0, .int .i64 0, .int .i64 0, .int .i64 0])] : List (Nat × TypeId × Array Value)), p.1 ≠ N := by
  have a1 := HL1.out; have a2 := HL3.out; have a3 := HLN.out
  intro x hx
  simp only [List.mem_cons, List.not_mem_nil, or_false] at hx
  rcases hx with h | h | h | h <;> (rw [h]; dsimp only; omega)
 have hz : (W2.setCell ⟨N, 4, none⟩ (.slice (some ⟨W2.heap.size, 0, none⟩) 3 3)).heap.size = W2.heap.size := by simp [World.setCell]
 have hK3 := (Boxes.set1 HK2.out hne 4 (.slice (some ⟨W2.heap.size, 0, none⟩) 3 3) #[.int .i64 1, .int .i64 0, .int .i64 0, .slice (some ⟨g1, 0, none⟩) 2 2, .slice (some ⟨W2.heap.size, 0, none⟩) 3 3, .slice (some ⟨g3, 0, none⟩) 2 2, .int .i64 10, .int .i64 20, .int .i64 50, .int .i64 60, .int .i64 1000, .int .i64 1010, .int .i64 300, .int .i64 300] rfl).new 93 #[.int .i64 0, .int .i64 0, .int .i64 0, .int .i64 50, .int .i64 400, .int .i64 500, .int .i64 100, .int .i64 0, .int .i64 0]
 rw [hz] at hK3
 have HE3 := Lib.hid ((HE2.out.setCell (p := ⟨N, 4, none⟩) (by have := HG.out; have := HL1.out; have := HL3.out; have := HLN.out; simp; omega) (.slice (some ⟨W2.heap.size, 0, none⟩) 3 3)).alloc (by rw [hz]; exact HE2.out.size) (.cells #[.int .i64 0, .int .i64 0, .int .i64 0, .int .i64 50, .int .i64 400, .int .i64 500, .int .i64 100, .int .i64 0, .int .i64 0] 93))
 have HK3 := Lib.hid hK3
 clear hK3 hne hz z4 zf4 zl HE2 HK2
 obtain ⟨W3, hW3⟩ : ∃ W3, (W2.setCell ⟨N, 4, none⟩ (.slice (some ⟨W2.heap.size, 0, none⟩) 3 3)).alloc (.cells #[.int .i64 0, .int .i64 0, .int .i64 0, .int .i64 50, .int .i64 400, .int .i64 500, .int .i64 100, .int .i64 0, .int .i64 0] 93) = W3 := ⟨_, rfl⟩
 rw [hW3] at HE3 HK3 ⊢
 clear hW3
 obtain ⟨g2, hg2⟩ : ∃ g2, W2.heap.size = g2 := ⟨_, rfl⟩
 rw [hg2] at HK3 HL2
 clear hg2
 have s := HK3.out _ (.tail _ (.head _))
 have s0 := s.cell 0
 have s1 := s.cell 1
 have s2 := s.cell 2
 have s3 := s.cell 3
 have s4 := s.cell 4
 have s5 := s.cell 5
 have s6 := s.cell 6
 have s7 := s.cell 7
 have s8 := s.cell 8
 have s9 := s.cell 9
 have s10 := s.cell 10
 have s11 := s.cell 11
 have s12 := s.cell 12
 have s13 := s.cell 13
 simp at s0 s1 s2 s3 s4 s5 s6 s7 s8 s9 s10 s11 s12 s13
 clear s
 refine wp_region_lit ?_
 refine wpList_plain rfl (fun K hK => ?_)
 go_simp
 refine hK _ _ ?_
 clear hK K
 refine wpList_plain rfl (fun K hK => ?_)
 go_simp
 refine hK _ _ ?_
 clear hK K
 refine wpList_plain rfl (fun K hK => ?_)
 go_simp
 refine hK _ _ ?_
 clear hK K
 refine wpList_plain rfl (fun K hK => ?_)
 go_simp
 refine hK _ _ ?_
 clear hK K
 have ord : G + 1 < g1 ∧ g1 < g3 ∧ g3 < N ∧ N < g2 := ⟨HL1.out, HL3.out, HLN.out, HL2.out⟩
 have HK4 : Hid (Boxes (W3.setRow G #[.int .i64 1, .int .i64 0, .int .i64 0, .slice (some ⟨g1, 0, none⟩) 2 2, .slice (some ⟨g2, 0, none⟩) 3 3, .slice (some ⟨g3, 0, none⟩) 2 2, .int .i64 10, .int .i64 20, .int .i64 50, .int .i64 60, .int .i64 1000, .int .i64 1010, .int .i64 300, .int .i64 300]) [(G, 50, #[.int .i64 1, .int .i64 0, .int .i64 0, .slice (some ⟨g1, 0, none⟩) 2 2, .slice (some ⟨g2, 0, none⟩) 3 3, .slice (some ⟨g3, 0, none⟩) 2 2, .int .i64 10, .int .i64 20, .int .i64 50, .int .i64 60, .int .i64 1000, .int .i64 1010, .int .i64 300, .int .i64 300]), (g2, 93, #[.int .i64 0, .int .i64 0, .int .i64 0, .int .i64 50, .int .i64 400, .int .i64 500, .int .i64 100, .int .i64 0, .int .i64 0]), (g3, 93, #[.int .i64 0, .int .i64 300, .int .i64 300, .int .i64 100, .int .i64 100, .int .i64 100]), (g1, 93, #[.int .i64 0, .int .i64 1000, .int .i64 1000, .int .i64 100, .int .i64 0, .int .i64 0]), (G + 1, 53, #[.int .i64 0, .int .i64 0, .int .i64 0, .int .i64 0, .int .i64 0, .int .i64 0])]) := Lib.hid (Boxes.row' HK3.out (.tail _ (.tail _ (.tail _ (.tail _ (.tail _ (.head _)))))) (fun x hx => by
  simp only [List.mem_cons, List.not_mem_nil, or_false] at hx ⊢
  rcases hx with h | h | h | h <;> (refine ⟨by simp [h], ?_⟩; rw [h]; dsimp only; omega)) #[.int .i64 1, .int .i64 0, .int .i64 0, .slice (some ⟨g1, 0, none⟩) 2 2, .slice (some ⟨g2, 0, none⟩) 3 3, .slice (some ⟨g3, 0, none⟩) 2 2, .int .i64 10, .int .i64 20, .int .i64 50, .int .i64 60, .int .i64 1000, .int .i64 1010, .int .i64 300, .int .i64 300])
 have HE4 := Lib.hid (below_setRow HE3.out (show w.heap.size ≤ G by have := HG.out; omega) #[.int .i64 1, .int .i64 0, .int .i64 0, .slice (some ⟨g1, 0, none⟩) 2 2, .slice (some ⟨g2, 0, none⟩) 3 3, .slice (some ⟨g3, 0, none⟩) 2 2, .int .i64 10, .int .i64 20, .int .i64 50, .int .i64 60, .int .i64 1000, .int .i64 1010, .int .i64 300, .int .i64 300])
 refine wpList_store_row rfl 50 (.tmp 0) (.tmp 16) rfl G #[.int .i64 1, .int .i64 0, .int .i64 0, .slice (some ⟨g1, 0, none⟩) 2 2, .slice (some ⟨g2, 0, none⟩) 3 3, .slice (some ⟨g3, 0, none⟩) 2 2, .int .i64 10, .int .i64 20, .int .i64 50, .int .i64 60, .int .i64 1000, .int .i64 1010, .int .i64 300, .int .i64 300] rfl rfl 50 _ (HK3.out _ (.tail _ (.tail _ (.tail _ (.tail _ (.tail _ (.head _))))))) (by kernel_rfl) rfl (by kernel_rfl) ?_
 obtain ⟨W4, hW4⟩ : ∃ W4, W3.setRow G #[.int .i64 1, .int .i64 0, .int .i64 0, .slice (some ⟨g1, 0, none⟩) 2 2, .slice (some ⟨g2, 0, none⟩) 3 3, .slice (some ⟨g3, 0, none⟩) 2 2, .int .i64 10, .int .i64 20, .int .i64 50, .int .i64 60, .int .i64 1000, .int .i64 1010, .int .i64 300, .int .i64 300] = W4 := ⟨_, rfl⟩
 rw [hW4] at HK4 HE4 ⊢
 clear hW4 HK3 HE3 s0 s1 s2 s3 s4 s5 s6 s7 s8 s9 s10 s11 s12 s13
 have HK5 : Hid (Boxes (W4.setRow (G + 1) #[.int .i64 1, .int .i64 3, .int .i64 40, .int .i64 60, .int .i64 800, .int .i64 800]) [(G + 1, 53, #[.int .i64 1, .int .i64 3, .int .i64 40, .int .i64 60, .int .i64 800, .int .i64 800]), (G, 50, #[.int .i64 1, .int .i64 0, .int .i64 0, .slice (some ⟨g1, 0, none⟩) 2 2, .slice (some ⟨g2, 0, none⟩) 3 3, .slice (some ⟨g3, 0, none⟩) 2 2, .int .i64 10, .int .i64 20, .int .i64 50, .int .i64 60, .int .i64 1000, .int .i64 1010, .int .i64 300, .int .i64 300]), (g2, 93, #[.int .i64 0, .int .i64 0, .int .i64 0, .int .i64 50, .int .i64 400, .int .i64 500, .int .i64 100, .int .i64 0, .int .i64 0]), (g3, 93, #[.int .i64 0, .int .i64 300, .int .i64 300, .int .i64 100, .int .i64 100, .int .i64 100]), (g1, 93, #[.int .i64 0, .int .i64 1000, .int .i64 1000, .int .i64 100, .int .i64 0, .int .i64 0])]) := Lib.hid (Boxes.row' HK4.out (.tail _ (.tail _ (.tail _ (.tail _ (.head _))))) (fun x hx => by
  simp only [List.mem_cons, List.not_mem_nil, or_false] at hx ⊢
  rcases hx with h | h | h | h <;> (refine ⟨by simp [h], ?_⟩; rw [h]; dsimp only; omega)) #[.int .i64 1, .int .i64 3, .int .i64 40, .int .i64 60, .int .i64 800, .int .i64 800])
 have HE5 := Lib.hid (below_setRow HE4.out (show w.heap.size ≤ G + 1 by have := HG.out; omega) #[.int .i64 1, .int .i64 3, .int .i64 40, .int .i64 60, .int .i64 800, .int .i64 800])
 refine wpList_store_row rfl 53 (.tmp 1) (.tmp 19) rfl (G + 1) #[.int .i64 1, .int .i64 3, .int .i64 40, .int .i64 60, .int .i64 800, .int .i64 800] rfl rfl 53 _ (HK4.out _ (.tail _ (.tail _ (.tail _ (.tail _ (.head _)))))) (by kernel_rfl) rfl (by kernel_rfl) ?_
 obtain ⟨W5, hW5⟩ : ∃ W5, W4.setRow (G + 1) #[.int .i64 1, .int .i64 3, .int .i64 40, .int .i64 60, .int .i64 800, .int .i64 800] = W5 := ⟨_, rfl⟩
 rw [hW5] at HK5 HE5 ⊢
 clear hW5 HK4 HE4 ord
 go_wp2
 exact bodyPost_ret (v := .tuple #[.agg #[.int .i64 1, .int .i64 0, .int .i64 0, .slice (some ⟨g1, 0, none⟩) 2 2, .slice (some ⟨g2, 0, none⟩) 3 3, .slice (some ⟨g3, 0, none⟩) 2 2, .int .i64 10, .int .i64 20, .int .i64 50, .int .i64 60, .int .i64 1000, .int .i64 1010, .int .i64 300, .int .i64 300], .agg #[.int .i64 1, .int .i64 3, .int .i64 40, .int .i64 60, .int .i64 800, .int .i64 800]]) (results_rows Tryz.results39 _ _ G (G + 1) 50 53 #[.int .i64 1, .int .i64 0, .int .i64 0, .slice (some ⟨g1, 0, none⟩) 2 2, .slice (some ⟨g2, 0, none⟩) 3 3, .slice (some ⟨g3, 0, none⟩) 2 2, .int .i64 10, .int .i64 20, .int .i64 50, .int .i64 60, .int .i64 1000, .int .i64 1010, .int .i64 300, .int .i64 300] #[.int .i64 1, .int .i64 3, .int .i64 40, .int .i64 60, .int .i64 800, .int .i64 800] (0, 0) (0, 0) _ _ rfl rfl (HK5.out _ (.tail _ (.head _))) (HK5.out _ (.head _)) Tryz.underlying50 Tryz.underlying53 rfl rfl (by kernel_rfl) (by kernel_rfl)) rfl
  ⟨g1, g2, g3, rfl, ⟨⟨rfl, (show 2 ≤ maxLen by decide), pts2 (HK5.out _ (.tail _ (.tail _ (.tail _ (.tail _ (.head _))))))⟩, ⟨rfl, (show 3 ≤ maxLen by decide), pts3 (HK5.out _ (.tail _ (.tail _ (.head _))))⟩, ⟨rfl, (show 2 ≤ maxLen by decide), pts2 (HK5.out _ (.tail _ (.tail _ (.tail _ (.head _)))))⟩⟩, HE5.out⟩
end

section
open Go.RowKit
attribute [local go_sem ↓] eqlRange neqRange
def SPlaces : Prop := ∀ (A : Option Addr) (n c : Nat) (ps : List P3) (x y : Int) (t : Bool) (w : World), TabIn w A n ps → tabOk ps = true → inB x y (firstX ps) (lastX ps) = t →
  Calls Tryz.prog 118 #[tv A n c, rv x y] w fun e w' => e = .returned (.bool t) ∧ Below w.heap.size w w'
set_option maxRecDepth 100000 in
set_option maxHeartbeats 8000000 in
theorem sCheckLevel_of (HSP : SPlaces) (t : TankD) (m : HoldM) (lv : LevelD) (w : World) (hi : TankIn w t m) :
  Calls Tryz.prog 78 #[tankV t m, levelV lv] w fun e w' => e = .returned (.int .i64 (levelErr t lv)) ∧ Below w.heap.size w w' := by
 have CC : Hid (∀ W, Below w.heap.size w W → Calls Tryz.prog 120 #[tankV t m] W fun e w' => e = .returned (.int .i64 (tankErr t)) ∧ Below W.heap.size W w') := Lib.hid fun W hW => sCheckTank_any t m W (hi.below hW)
 obtain ⟨bt, hbt⟩ : ∃ b, tankS t = b := ⟨_, rfl⟩
 obtain ⟨bl, hbl⟩ : ∃ b, levelS t lv = b := ⟨_, rfl⟩
 rw [levelErr_of hbt hbl]
 rw [tankErr_of hbt] at CC
 have HV : Hid (bt = true → tabOk t.vol = true) := Lib.hid fun x => tank_tab (hbt.trans x)
 obtain ⟨id, al, ah, vol, sur, hei⟩ := t
 obtain ⟨A, n, c, B, mm, d, C, l, ee⟩ := m
 obtain ⟨tk, pr, s0, s1, d0, d1⟩ := lv
 obtain ⟨i1, i2, i3⟩ := hi
 dsimp only at i1 i2 i3 HV
 have HE := Lib.hid (show Below w.heap.size w ((w.alloc (.cells #[.int .i64 id, .int .i64 al, .int .i64 ah, .slice A n c, .slice B mm d, .slice C l ee] 69)).alloc (.cells #[.int .i64 tk, .bool pr, .int .i64 s0, .int .i64 s1, .int .i64 d0, .int .i64 d1] 72)) from below_a2 (Below.refl _ _))
 have HK := Lib.hid (boxes2' w 69 72 #[.int .i64 id, .int .i64 al, .int .i64 ah, .slice A n c, .slice B mm d, .slice C l ee] #[.int .i64 tk, .bool pr, .int .i64 s0, .int .i64 s1, .int .i64 d0, .int .i64 d1])
 obtain ⟨bd, ebd⟩ : ∃ b, densS d0 d1 = b := ⟨_, rfl⟩
 obtain ⟨bi, ebi⟩ : ∃ b, inB s0 s1 (firstX vol) (lastX vol) = b := ⟨_, rfl⟩
 have C1 : Hid (∀ W, Calls Tryz.prog 117 #[rv d0 d1] W fun e w' => e = .returned (.bool bd) ∧ Below W.heap.size W w') := Lib.hid fun W => sdensity_to d0 d1 bd W ebd
 have C2 : Hid (bt = true → ∀ W, Below w.heap.size w W → Calls Tryz.prog 118 #[tv A n c, rv s0 s1] W fun e w' => e = .returned (.bool bi) ∧ Below W.heap.size W w') := Lib.hid fun x W hW => HSP A n c vol s0 s1 bi W (i1.below hW) (HV.out x) ebi
 have C3 : Hid (bt = true → ∀ W, Below w.heap.size w W → Calls Tryz.prog 58 #[tv A n c] W fun e w' => e = .returned (.int .i64 (lastX vol)) ∧ Below W.heap.size W w') := Lib.hid fun x W hW => sLast_tab A n c vol W (i1.below hW) (HV.out x)
 have e0 : levelS ⟨id, al, ah, vol, sur, hei⟩ ⟨tk, pr, s0, s1, d0, d1⟩ = (decide (tk = id) && (bd && (bi && (!pr || decide (s0 = lastX vol))))) := by rw [← ebd, ← ebi]; rfl
 have HR := Lib.hid (e0.symm.trans hbl)
 have HB : Hid (bi = true → s0 ≤ s1 ∧ s1 ≤ lastX vol) := Lib.hid fun x => by
  rcases inB_cases ebi with ⟨_, g⟩ | ⟨_, _, g⟩ | ⟨_, _, _, g⟩ | ⟨_, g1, g2, _⟩
  ·rw [g] at x; cases x
  ·rw [g] at x; cases x
  ·rw [g] at x; cases x
  ·exact ⟨g1, g2⟩
 clear e0 hbl hbt i1 i2 i3 HV ebd ebi
 generalize firstX vol = f1 at *
 generalize lastX vol = f2 at *
 go_enter Tryz.func78, Tryz.ntmps78
 go_wp2_with fail
 obtain ⟨W0, hW0⟩ : ∃ W0, ((w.alloc (.cells #[.int .i64 id, .int .i64 al, .int .i64 ah, .slice A n c, .slice B mm d, .slice C l ee] 69)).alloc (.cells #[.int .i64 tk, .bool pr, .int .i64 s0, .int .i64 s1, .int .i64 d0, .int .i64 d1] 72)) = W0 := ⟨_, rfl⟩
 rw [hW0] at HE HK ⊢
 clear hW0
 obtain ⟨G, hG⟩ : ∃ G, w.heap.size = G := ⟨_, rfl⟩
 rw [hG] at HK ⊢
 have HG := Lib.hid hG; clear hG
 refine (CC.out _ HE.out).mono ?_
 rintro e w1 ⟨rfl, hb⟩
 have HE1 := Lib.hid (below_then HE.out hb); have HK1 := Lib.hid (HK.out.on hb)
 clear hb HE HK
 cases bt
 ·simp only [Bool.false_eq_true, if_false]
  clear HR
  go_wp2
  go_ret
  exact ⟨rfl, HE1.out⟩
 simp only [if_true]
 have y := HK1.out _ (.tail _ (.head _))
 have y0 := y.cell 0
 have z := HK1.out _ (.head _)
 have z0 := z.cell 0
 have z4 := z.cell 4
 have z5 := z.cell 5
 simp at y0 z0 z4 z5
 clear y z
 by_cases hk : tk = id
 ·subst hk
  have x1 : (tk == tk) = true := by simp
  go_wp2_with fail
  refine (C1.out _).mono ?_
  rintro e w2 ⟨rfl, hb⟩
  have HE2 := Lib.hid (below_then HE1.out hb); have HK2 := Lib.hid (HK1.out.on hb)
  clear hb HE1 HK1 y0 z0 z4 z5
  cases bd
  ·have hf : bl = false := by rw [← HR.out]; simp
   subst hf
   clear HR
   go_wp2
   go_ret
   exact ⟨rfl, HE2.out⟩
  have y3 := (HK2.out _ (.tail _ (.head _))).cell 3
  have z2 := (HK2.out _ (.head _)).cell 2
  have z3 := (HK2.out _ (.head _)).cell 3
  simp at y3 z2 z3
  go_wp2_with fail
  refine (C2.out (by trivial) _ HE2.out).mono ?_
  rintro e w3 ⟨rfl, hb⟩
  have HE3 := Lib.hid (below_then HE2.out hb); have HK3 := Lib.hid (HK2.out.on hb)
  clear hb HE2 HK2 y3 z2 z3
  cases bi
  ·have hf : bl = false := by rw [← HR.out]; simp
   subst hf
   clear HR
   go_wp2
   go_ret
   exact ⟨rfl, HE3.out⟩
  have y3 := (HK3.out _ (.tail _ (.head _))).cell 3
  simp at y3
  go_wp2_with fail
  refine (C3.out (by trivial) _ HE3.out).mono ?_
  rintro e w4 ⟨rfl, hb⟩
  have HE4 := Lib.hid (below_then HE3.out hb); have HK4 := Lib.hid (HK3.out.on hb)
  clear hb HE3 HK3 y3
  obtain ⟨hb1, hb2⟩ := HB.out (by trivial)
  have z1 := (HK4.out _ (.head _)).cell 1
  have z2 := (HK4.out _ (.head _)).cell 2
  have z3 := (HK4.out _ (.head _)).cell 3
  simp at z1 z2 z3
  cases pr
  ·have hf : bl = true := by rw [← HR.out]; simp
   subst hf
   clear HR hb1 hb2
   go_wp2
   go_ret
   exact ⟨rfl, HE4.out⟩
  by_cases hs : s0 = f2
  ·have hf : bl = true := by rw [← HR.out]; simp [hs]
   subst hf
   have hs1 : s1 = f2 := by omega
   have x2 : (s0 == f2 && s1 == f2) = true := by simp [hs, hs1]
   clear HR hb1 hb2 hs hs1
   go_wp2
   go_ret
   exact ⟨rfl, HE4.out⟩
  ·have hf : bl = false := by rw [← HR.out]; simp [hs]
   subst hf
   have x2 : (s0 == f2 && s1 == f2) = false := by simp [hs]
   clear HR hb1 hb2 hs
   go_wp2
   go_ret
   exact ⟨rfl, HE4.out⟩
 ·have hf : bl = false := by rw [← HR.out]; simp [hk]
  subst hf
  have x1 : (tk == id) = false := beq_eq_false_iff_ne.2 hk
  clear HR
  go_wp2
  go_ret
  exact ⟨rfl, HE1.out⟩
end

section
open Go.RowKit

theorem sCheckLevel_any (t : TankD) (m : HoldM) (lv : LevelD) (w : World) (hi : TankIn w t m) :
    Calls Tryz.prog 78 #[tankV t m, levelV lv] w fun e w' => e = .returned (.int .i64 (levelErr t lv)) ∧ Below w.heap.size w w' :=
  sCheckLevel_of splaces_to t m lv w hi
theorem tank_parts {t : TankD} (e : tankS t = true) : (measuresS t.vol = true ∧ measuresS t.sur = true ∧ measuresS t.hei = true) ∧ (alongS t.vol t.sur = true ∧ alongS t.vol t.hei = true) := by
  unfold tankS ctRest at e
  simp only [Bool.and_eq_true] at e
  exact ⟨⟨e.2.1, e.2.2.1.1, e.2.2.2.1.1⟩, ⟨e.2.2.1.2, e.2.2.2.1.2⟩⟩
theorem level_zero {t : TankD} {l : LevelD} (e : levelErr t l = 0) : tankS t = true ∧ levelS t l = true := by
  unfold levelErr at e
  split at e
  · rename_i g
    split at e
    · rename_i k
      exact ⟨g, k⟩
    · omega
  · omega
theorem level_dens {t : TankD} {l : LevelD} (e : levelErr t l = 0) : densS l.d0 l.d1 = true := by
  have g := (level_zero e).2
  unfold levelS at g
  simp only [Bool.and_eq_true] at g
  exact g.2.1
theorem level_place {t : TankD} {l : LevelD} (e : levelErr t l = 0) : inB l.s0 l.s1 (firstX t.vol) (lastX t.vol) = true := by
  have g := (level_zero e).2
  unfold levelS at g
  simp only [Bool.and_eq_true] at g
  exact g.2.2.1
def denL (l : LevelD) (v : Int × Int) : Int × Int := ((denseS v.1 v.2 l.d0 l.d1).1, (denseS v.1 v.2 l.d0 l.d1).2.1)
def ovL (ps : List P3) (l : LevelD) : Int × Int := ((overS ps l.s0 l.s1).1, (overS ps l.s0 l.s1).2.1)
theorem vol_amtL {t : TankD} {l : LevelD} (e : levelErr t l = 0) : Amt (ovL t.vol l) := over_in (tank_parts (level_zero e).1).1.1 (level_place e)
theorem sur_amtL {t : TankD} {l : LevelD} (e : levelErr t l = 0) : Amt (ovL t.sur l) := by
  have q := tank_parts (level_zero e).1
  exact over_in q.1.2.1 (along_in q.2.1 (level_place e))
theorem den_heavyL {t : TankD} {l : LevelD} (e : levelErr t l = 0) {v : Int × Int} (hv : Amt v) : heavyS v.1 v.2 l.d0 l.d1 = denL l v := by
  have q := dens_in (level_dens e)
  obtain ⟨q1, q2⟩ := dense_heavy v.1 v.2 l.d0 l.d1 hv.1 hv.2.1 hv.2.2 (by omega) (by omega) (by omega)
  unfold denL
  rw [q1, q2]
theorem sheavy_L {t : TankD} {l : LevelD} (e : levelErr t l = 0) {va vb ka kb : Int} (hv : Amt (va, vb)) (hk : denL l (va, vb) = (ka, kb)) (w : World) :
    Calls Tryz.prog 73 #[rv va vb, rv l.d0 l.d1] w fun e w' => e = .returned (rv ka kb) ∧ Below w.heap.size w w' := by
  have q := den_heavyL e hv
  rw [hk] at q
  have hd := dens_in (level_dens e)
  have a1 := hv.1; have a2 := hv.2.1; have a3 := hv.2.2
  dsimp only at a1 a2 a3 q
  have := sheavy_any va vb l.d0 l.d1 w (heavy_small a1 (by omega) (by omega) (by omega)) (heavy_small (by omega) a3 (by omega) (by omega))
  rw [q] at this
  exact this
theorem hdense_L (l : LevelD) {va vb ka kb : Int} (hk : denL l (va, vb) = (ka, kb)) (w : World) :
    Calls Tryz.prog 53 #[rv va vb, rv l.d0 l.d1] w fun e w' => e = .returned (rv ka kb) ∧ Below w.heap.size w w' := by
  have := dense_any va vb l.d0 l.d1 w
  unfold denL at hk
  injection hk with h1 h2
  dsimp only at h1 h2
  rw [h1, h2] at this
  exact this
theorem den_zeroL {t : TankD} {l : LevelD} (e : levelErr t l = 0) {va vb ka kb : Int} (hv : Amt (va, vb)) (hk : denL l (va, vb) = (ka, kb)) : Amt (0, vb) ∧ denL l (0, vb) = (0, kb) := by
  have a1 := hv.1; have a2 := hv.2.1; have a3 := hv.2.2
  dsimp only at a1 a2 a3
  have h0 : Amt (0, vb) := ⟨Int.le_refl _, by dsimp only; omega, a3⟩
  refine ⟨h0, ?_⟩
  rw [← den_heavyL e h0]
  rw [← den_heavyL e hv] at hk
  unfold heavyS at hk ⊢
  injection hk with h1 h2
  dsimp only at h2 ⊢
  rw [h2]
  simp
def liqS (t : TankD) (l : LevelD) : Int × Int × Int := if levelErr t l = 0 then ((denL l (ovL t.vol l)).1, (denL l (ovL t.vol l)).2, 0) else (0, 0, levelErr t l)
def srfS (t : TankD) (l : LevelD) : Int × Int × Int :=
  if levelErr t l = 0 then (if l.pr = true ∨ (ovL t.vol l).2 = 0 then (0, 0, 0) else (if (ovL t.vol l).1 = 0 then 0 else (denL l (ovL t.sur l)).1, (denL l (ovL t.sur l)).2, 0)) else (0, 0, levelErr t l)
def balV (t : TankD) (l : LevelD) : Value := if levelErr t l = 0 then wt (denL l (ovL t.vol l)).1 (denL l (ovL t.vol l)).2 t.al t.ah (ovL t.hei l).1 (ovL t.hei l).2 0 else wt 0 0 0 0 0 0 (levelErr t l)
end

end Go.Proofs.YtekkiedlajhaiaaGreat
