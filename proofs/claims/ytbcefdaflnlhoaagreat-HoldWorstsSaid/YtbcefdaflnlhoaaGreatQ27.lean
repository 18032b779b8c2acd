/- The contract of Inverse (the specification of layer 2): what its two bisecting loops find is the inverse of layer 2. Its conditions: the table is valid and lies in memory; what is surely ahead lies ahead, what is surely behind lies behind. -/
import Derived.Test.YtbcefdaflnlhoaaGreatQ26
import Derived.Test.YtbcefdaflnlhoaaGreatQ16
import Derived.Test.YtbcefdaflnlhoaaGreatQ09
set_option linter.unusedVariables false
set_option linter.unusedSimpArgs false
set_option linter.constructorNameAsVariable false
namespace Go.Proofs.YtbcefdaflnlhoaaGreat

section
open Go.RowKit

def exMom : List P3 := [(0, 0, 0), (50, 400, 500), (100, 0, 0)]
def exH : HoldD := ⟨1, 0, 0, lineS 1000 0, exMom, lineS 300 100, 10, 20, 50, 60, 1000, 1010, 300, 300⟩
def exF : FillD := ⟨1, 3, 40, 60, 800, 800⟩
abbrev exM (g1 g2 g3 : Nat) : HoldM := ⟨some ⟨g1, 0, none⟩, 2, 2, some ⟨g2, 0, none⟩, 3, 3, some ⟨g3, 0, none⟩, 2, 2⟩
def GivesEx (w : World) (e : Ending) (w' : World) : Prop := ∃ g1 g2 g3, e = .returned (.tuple #[holdV exH (exM g1 g2 g3), fillV exF]) ∧ HoldIn w' exH (exM g1 g2 g3) ∧ Below w.heap.size w w'
theorem results_rows {P : Program} {fn : Func} {p q : Tmp} {ty ty2 : TypeId} (h : fn.results = #[.cell p ty, .cell q ty2]) (tmps : Array Value) (w : World) (g g2 : Nat) (t t2 : TypeId) (cs cs2 : Array Value) (fr fr2 : Nat × Nat) (d d2 : TypeDesc)
    (hp : tmps.getD p undef = .pointer (some ⟨g, 0, none⟩)) (hq : tmps.getD q undef = .pointer (some ⟨g2, 0, none⟩)) (hg : w.heap[g]? = some (.cells cs t fr)) (hg2 : w.heap[g2]? = some (.cells cs2 t2 fr2))
    (hu : P.underlying ty = some d) (hu2 : P.underlying ty2 = some d2) (hd : (match d with | .struct _ | .array _ _ => true | _ => false) = true) (hd2 : (match d2 with | .struct _ | .array _ _ => true | _ => false) = true) (hi : (P.info? ty).map (·.size) = some cs.size) (hi2 : (P.info? ty2).map (·.size) = some cs2.size) :
    (results fn tmps).run P w = .ok (.tuple #[.agg cs, .agg cs2]) w := by
  have hp' : tmps[p]?.getD undef = .pointer (some ⟨g, 0, none⟩) := by simpa using hp
  have hq' : tmps[q]?.getD undef = .pointer (some ⟨g2, 0, none⟩) := by simpa using hq
  simp [results, h, hp', hq', asAddr, run_loadVar_row w g t ty cs fr d hg hu hd hi, run_loadVar_row w g2 t2 ty2 cs2 fr2 d2 hg2 hu2 hd2 hi2]
theorem Boxes.cons {W : World} {L : List (Nat × TypeId × Array Value)} (h : Boxes W L) {g : Nat} {t : TypeId} {cs : Array Value} (hb : Blk W g t cs) : Boxes W ((g, t, cs) :: L) := fun p hp => by
  rcases List.mem_cons.1 hp with rfl | hp
  · exact hb
  · exact h p hp
theorem Boxes.set1 {W : World} {g : Nat} {t : TypeId} {cs : Array Value} {L : List (Nat × TypeId × Array Value)} (h : Boxes W ((g, t, cs) :: L)) (hg : ∀ p ∈ L, p.1 ≠ g) (i : Nat) (a : Value) (cs' : Array Value) (he : cs.setIfInBounds i a = cs') :
    Boxes (W.setCell ⟨g, i, none⟩ a) ((g, t, cs') :: L) := fun p hp => by
  rcases List.mem_cons.1 hp with rfl | hp
  · rw [← he]; exact (h _ (.head _)).set_ i a
  · exact (h p (.tail _ hp)).far (p := ⟨g, i, none⟩) (hg p hp) a
theorem Boxes.row' {W : World} {L L' : List (Nat × TypeId × Array Value)} (h : Boxes W L) {g : Nat} {t : TypeId} {old : Array Value} (hm : (g, t, old) ∈ L) (hs : ∀ p ∈ L', p ∈ L ∧ p.1 ≠ g) (cs : Array Value) :
    Boxes (W.setRow g cs) ((g, t, cs) :: L') := fun p hp => by
  rcases List.mem_cons.1 hp with rfl | hp
  · exact setRow_heap W g _ _ t _ (h _ hm)
  · exact (h p (hs p hp).1).farRow (hs p hp).2 cs
theorem pts2 {w : World} {g : Nat} {a b c d e f : Int} (h : Blk w g 113 #[.int .i64 a, .int .i64 b, .int .i64 c, .int .i64 d, .int .i64 e, .int .i64 f]) : Pts w (some ⟨g, 0, none⟩) [(a, b, c), (d, e, f)] := .inr ⟨g, 0, rfl, h.lt, fun k p hp => by
  rcases k with _ | _ | k
  · simp at hp; subst hp
    exact ⟨h.cell 0, h.cell 1, h.cell 2⟩
  · simp at hp; subst hp
    exact ⟨h.cell 3, h.cell 4, h.cell 5⟩
  · simp at hp⟩
theorem pts3 {w : World} {g : Nat} {a b c d e f i j k : Int} (h : Blk w g 113 #[.int .i64 a, .int .i64 b, .int .i64 c, .int .i64 d, .int .i64 e, .int .i64 f, .int .i64 i, .int .i64 j, .int .i64 k]) : Pts w (some ⟨g, 0, none⟩) [(a, b, c), (d, e, f), (i, j, k)] := .inr ⟨g, 0, rfl, h.lt, fun n p hp => by
  rcases n with _ | _ | _ | n
  · simp at hp; subst hp
    exact ⟨h.cell 0, h.cell 1, h.cell 2⟩
  · simp at hp; subst hp
    exact ⟨h.cell 3, h.cell 4, h.cell 5⟩
  · simp at hp; subst hp
    exact ⟨h.cell 6, h.cell 7, h.cell 8⟩
  · simp at hp⟩

set_option maxRecDepth 100000 in
set_option maxHeartbeats 4000000 in
theorem example_any (w : World) : Calls Tryz.prog 61 #[] w (GivesEx w) := by
  have HE := Lib.hid (show Below w.heap.size w ((w.alloc (.cells #[.int .i64 0, .int .i64 0, .int .i64 0, .slice none 0 0, .slice none 0 0, .slice none 0 0, .int .i64 0, .int .i64 0, .int .i64 0, .int .i64 0, .int .i64 0, .int .i64 0, .int .i64 0, .int .i64 0] 45)).alloc (.cells #[.int .i64 0, .int .i64 0, .int .i64 0, .int .i64 0, .int .i64 0, .int .i64 0] 47)) from below_a2 (Below.refl _ _))
  have HK := Lib.hid (boxes2' w 45 47 #[.int .i64 0, .int .i64 0, .int .i64 0, .slice none 0 0, .slice none 0 0, .slice none 0 0, .int .i64 0, .int .i64 0, .int .i64 0, .int .i64 0, .int .i64 0, .int .i64 0, .int .i64 0, .int .i64 0] #[.int .i64 0, .int .i64 0, .int .i64 0, .int .i64 0, .int .i64 0, .int .i64 0])
  go_enter Tryz.func61, Tryz.ntmps61
  go_wp2_with fail
  obtain ⟨W0, hW0⟩ : ∃ W0, ((w.alloc (.cells #[.int .i64 0, .int .i64 0, .int .i64 0, .slice none 0 0, .slice none 0 0, .slice none 0 0, .int .i64 0, .int .i64 0, .int .i64 0, .int .i64 0, .int .i64 0, .int .i64 0, .int .i64 0, .int .i64 0] 45)).alloc (.cells #[.int .i64 0, .int .i64 0, .int .i64 0, .int .i64 0, .int .i64 0, .int .i64 0] 47)) = W0 := ⟨_, rfl⟩
  rw [hW0] at HE HK ⊢
  clear hW0
  obtain ⟨G, hG⟩ : ∃ G, w.heap.size = G := ⟨_, rfl⟩
  rw [hG] at HK ⊢
  have HG := Lib.hid hG; clear hG
  refine (line_any 1000 0 _).mono ?_
  rintro e w1 ⟨g1, rfl, l1, P1, hb⟩
  have HL1 := Lib.hid (show G + 1 < g1 from Nat.lt_of_lt_of_le (HK.out _ (.head _)).lt l1)
  have HE1 := Lib.hid (below_then HE.out hb); have HK1 := Lib.hid ((HK.out.on hb).cons P1)
  clear hb HE HK l1 P1
  go_wp2_with fail
  refine (line_any 300 100 _).mono ?_
  rintro e w2 ⟨g3, rfl, l3, P3, hb⟩
  have HL3 := Lib.hid (show g1 < g3 from Nat.lt_of_lt_of_le (HK1.out _ (.head _)).lt l3)
  have HLN := Lib.hid (show g3 < w2.heap.size from P3.lt)
  have HE2 := Lib.hid (below_then (below_then HE1.out hb) (below_alloc1 w2 (.cells #[.int .i64 1, .int .i64 0, .int .i64 0, .slice (some ⟨g1, 0, none⟩) 2 2, .slice none 0 0, .slice (some ⟨g3, 0, none⟩) 2 2, .int .i64 10, .int .i64 20, .int .i64 50, .int .i64 60, .int .i64 1000, .int .i64 1010, .int .i64 300, .int .i64 300] 45))); have HK2 := Lib.hid (((HK1.out.on hb).cons P3).new 45 #[.int .i64 1, .int .i64 0, .int .i64 0, .slice (some ⟨g1, 0, none⟩) 2 2, .slice none 0 0, .slice (some ⟨g3, 0, none⟩) 2 2, .int .i64 10, .int .i64 20, .int .i64 50, .int .i64 60, .int .i64 1000, .int .i64 1010, .int .i64 300, .int .i64 300])
  clear hb HE1 HK1 l3 P3
  go_upto_region 2 with fail
  obtain ⟨W2, hW2⟩ : ∃ W2, w2.alloc (.cells #[.int .i64 1, .int .i64 0, .int .i64 0, .slice (some ⟨g1, 0, none⟩) 2 2, .slice none 0 0, .slice (some ⟨g3, 0, none⟩) 2 2, .int .i64 10, .int .i64 20, .int .i64 50, .int .i64 60, .int .i64 1000, .int .i64 1010, .int .i64 300, .int .i64 300] 45) = W2 := ⟨_, rfl⟩
  rw [hW2] at HE2 HK2 ⊢
  clear hW2
  obtain ⟨N, hN⟩ : ∃ N, w2.heap.size = N := ⟨_, rfl⟩
  rw [hN] at HK2 HLN ⊢
  clear hN
  have HL2 := Lib.hid (show N < W2.heap.size from (HK2.out _ (.head _)).lt)
  have z := HK2.out _ (.head _)
  have z4 := z.cell 4
  have zf4 := z.frozen 4
  have zl := z.lt
  simp at z4 zf4
  clear z
  go_upto_region 3 with fail
  have hne : ∀ p ∈ ([(g3, 113, #[.int .i64 0, .int .i64 300, .int .i64 300, .int .i64 100, .int .i64 100, .int .i64 100]), (g1, 113, #[.int .i64 0, .int .i64 1000, .int .i64 1000, .int .i64 100, .int .i64 0, .int .i64 0]), (G + 1, 47, #[.int .i64 0, .int .i64 0, .int .i64 0, .int .i64 0, .int .i64 0, .int .i64 0]), (G, 45, #[.int .i64 0, .int .i64 0, .int .i64 0, .slice none 0 0, .slice none 0 0, .slice none 0 0, .int .i64 0, .int .i64 0, .int .i64 0, .int .i64 0, .int .i64 0, .int .i64 0, .int .i64 0, .int .i64 0])] : List (Nat × TypeId × Array Value)), p.1 ≠ N := by
    have a1 := HL1.out; have a2 := HL3.out; have a3 := HLN.out
    intro x hx
    simp only [List.mem_cons, List.not_mem_nil, or_false] at hx
    rcases hx with h | h | h | h <;> (rw [h]; dsimp only; omega)
  have hz : (W2.setCell ⟨N, 4, none⟩ (.slice (some ⟨W2.heap.size, 0, none⟩) 3 3)).heap.size = W2.heap.size := by simp [World.setCell]
  have hK3 := (Boxes.set1 HK2.out hne 4 (.slice (some ⟨W2.heap.size, 0, none⟩) 3 3) #[.int .i64 1, .int .i64 0, .int .i64 0, .slice (some ⟨g1, 0, none⟩) 2 2, .slice (some ⟨W2.heap.size, 0, none⟩) 3 3, .slice (some ⟨g3, 0, none⟩) 2 2, .int .i64 10, .int .i64 20, .int .i64 50, .int .i64 60, .int .i64 1000, .int .i64 1010, .int .i64 300, .int .i64 300] rfl).new 113 #[.int .i64 0, .int .i64 0, .int .i64 0, .int .i64 50, .int .i64 400, .int .i64 500, .int .i64 100, .int .i64 0, .int .i64 0]
  rw [hz] at hK3
  have HE3 := Lib.hid ((HE2.out.setCell (p := ⟨N, 4, none⟩) (by have := HG.out; have := HL1.out; have := HL3.out; have := HLN.out; simp; omega) (.slice (some ⟨W2.heap.size, 0, none⟩) 3 3)).alloc (by rw [hz]; exact HE2.out.size) (.cells #[.int .i64 0, .int .i64 0, .int .i64 0, .int .i64 50, .int .i64 400, .int .i64 500, .int .i64 100, .int .i64 0, .int .i64 0] 113))
  have HK3 := Lib.hid hK3
  clear hK3 hne hz z4 zf4 zl HE2 HK2
  obtain ⟨W3, hW3⟩ : ∃ W3, (W2.setCell ⟨N, 4, none⟩ (.slice (some ⟨W2.heap.size, 0, none⟩) 3 3)).alloc (.cells #[.int .i64 0, .int .i64 0, .int .i64 0, .int .i64 50, .int .i64 400, .int .i64 500, .int .i64 100, .int .i64 0, .int .i64 0] 113) = W3 := ⟨_, rfl⟩
  rw [hW3] at HE3 HK3 ⊢
  clear hW3
  obtain ⟨g2, hg2⟩ : ∃ g2, W2.heap.size = g2 := ⟨_, rfl⟩
  rw [hg2] at HK3 HL2
  clear hg2
  have s := HK3.out _ (.tail _ (.head _))
  have s0 := s.cell 0
  have s1 := s.cell 1
  have s2 := s.cell 2
  have s3 := s.cell 3
  have s4 := s.cell 4
  have s5 := s.cell 5
  have s6 := s.cell 6
  have s7 := s.cell 7
  have s8 := s.cell 8
  have s9 := s.cell 9
  have s10 := s.cell 10
  have s11 := s.cell 11
  have s12 := s.cell 12
  have s13 := s.cell 13
  simp at s0 s1 s2 s3 s4 s5 s6 s7 s8 s9 s10 s11 s12 s13
  clear s
  refine wp_region_lit ?_
  refine wpList_plain rfl (fun K hK => ?_)
  go_simp
  refine hK _ _ ?_
  clear hK K
  refine wpList_plain rfl (fun K hK => ?_)
  go_simp
  refine hK _ _ ?_
  clear hK K
  refine wpList_plain rfl (fun K hK => ?_)
  go_simp
  refine hK _ _ ?_
  clear hK K
  refine wpList_plain rfl (fun K hK => ?_)
  go_simp
  refine hK _ _ ?_
  clear hK K
  have ord : G + 1 < g1 ∧ g1 < g3 ∧ g3 < N ∧ N < g2 := ⟨HL1.out, HL3.out, HLN.out, HL2.out⟩
  have HK4 : Hid (Boxes (W3.setRow G #[.int .i64 1, .int .i64 0, .int .i64 0, .slice (some ⟨g1, 0, none⟩) 2 2, .slice (some ⟨g2, 0, none⟩) 3 3, .slice (some ⟨g3, 0, none⟩) 2 2, .int .i64 10, .int .i64 20, .int .i64 50, .int .i64 60, .int .i64 1000, .int .i64 1010, .int .i64 300, .int .i64 300]) [(G, 45, #[.int .i64 1, .int .i64 0, .int .i64 0, .slice (some ⟨g1, 0, none⟩) 2 2, .slice (some ⟨g2, 0, none⟩) 3 3, .slice (some ⟨g3, 0, none⟩) 2 2, .int .i64 10, .int .i64 20, .int .i64 50, .int .i64 60, .int .i64 1000, .int .i64 1010, .int .i64 300, .int .i64 300]), (g2, 113, #[.int .i64 0, .int .i64 0, .int .i64 0, .int .i64 50, .int .i64 400, .int .i64 500, .int .i64 100, .int .i64 0, .int .i64 0]), (g3, 113, #[.int .i64 0, .int .i64 300, .int .i64 300, .int .i64 100, .int .i64 100, .int .i64 100]), (g1, 113, #[.int .i64 0, .int .i64 1000, .int .i64 1000, .int .i64 100, .int .i64 0, .int .i64 0]), (G + 1, 47, #[.int .i64 0, .int .i64 0, .int .i64 0, .int .i64 0, .int .i64 0, .int .i64 0])]) := Lib.hid (Boxes.row' HK3.out (.tail _ (.tail _ (.tail _ (.tail _ (.tail _ (.head _)))))) (fun x hx => by
    simp only [List.mem_cons, List.not_mem_nil, or_false] at hx ⊢
    rcases hx with h | h | h | h <;> (refine ⟨by simp [h], ?_⟩; rw [h]; dsimp only; omega)) #[.int .i64 1, .int .i64 0, .int .i64 0, .slice (some ⟨g1, 0, none⟩) 2 2, .slice (some ⟨g2, 0, none⟩) 3 3, .slice (some ⟨g3, 0, none⟩) 2 2, .int .i64 10, .int .i64 20, .int .i64 50, .int .i64 60, .int .i64 1000, .int .i64 1010, .int .i64 300, .int .i64 300])
  have HE4 := Lib.hid (below_setRow HE3.out (show w.heap.size ≤ G by have := HG.out; omega) #[.int .i64 1, .int .i64 0, .int .i64 0, .slice (some ⟨g1, 0, none⟩) 2 2, .slice (some ⟨g2, 0, none⟩) 3 3, .slice (some ⟨g3, 0, none⟩) 2 2, .int .i64 10, .int .i64 20, .int .i64 50, .int .i64 60, .int .i64 1000, .int .i64 1010, .int .i64 300, .int .i64 300])
  refine wpList_store_row rfl 45 (.tmp 0) (.tmp 16) rfl G #[.int .i64 1, .int .i64 0, .int .i64 0, .slice (some ⟨g1, 0, none⟩) 2 2, .slice (some ⟨g2, 0, none⟩) 3 3, .slice (some ⟨g3, 0, none⟩) 2 2, .int .i64 10, .int .i64 20, .int .i64 50, .int .i64 60, .int .i64 1000, .int .i64 1010, .int .i64 300, .int .i64 300] rfl rfl 45 _ (HK3.out _ (.tail _ (.tail _ (.tail _ (.tail _ (.tail _ (.head _))))))) (by kernel_rfl) rfl (by kernel_rfl) ?_
  obtain ⟨W4, hW4⟩ : ∃ W4, W3.setRow G #[.int .i64 1, .int .i64 0, .int .i64 0, .slice (some ⟨g1, 0, none⟩) 2 2, .slice (some ⟨g2, 0, none⟩) 3 3, .slice (some ⟨g3, 0, none⟩) 2 2, .int .i64 10, .int .i64 20, .int .i64 50, .int .i64 60, .int .i64 1000, .int .i64 1010, .int .i64 300, .int .i64 300] = W4 := ⟨_, rfl⟩
  rw [hW4] at HK4 HE4 ⊢
  clear hW4 HK3 HE3 s0 s1 s2 s3 s4 s5 s6 s7 s8 s9 s10 s11 s12 s13
  have HK5 : Hid (Boxes (W4.setRow (G + 1) #[.int .i64 1, .int .i64 3, .int .i64 40, .int .i64 60, .int .i64 800, .int .i64 800]) [(G + 1, 47, #[.int .i64 1, .int .i64 3, .int .i64 40, .int .i64 60, .int .i64 800, .int .i64 800]), (G, 45, #[.int .i64 1, .int .i64 0, .int .i64 0, .slice (some ⟨g1, 0, none⟩) 2 2, .slice (some ⟨g2, 0, none⟩) 3 3, .slice (some ⟨g3, 0, none⟩) 2 2, .int .i64 10, .int .i64 20, .int .i64 50, .int .i64 60, .int .i64 1000, .int .i64 1010, .int .i64 300, .int .i64 300]), (g2, 113, #[.int .i64 0, .int .i64 0, .int .i64 0, .int .i64 50, .int .i64 400, .int .i64 500, .int .i64 100, .int .i64 0, .int .i64 0]), (g3, 113, #[.int .i64 0, .int .i64 300, .int .i64 300, .int .i64 100, .int .i64 100, .int .i64 100]), (g1, 113, #[.int .i64 0, .int .i64 1000, .int .i64 1000, .int .i64 100, .int .i64 0, .int .i64 0])]) := Lib.hid (Boxes.row' HK4.out (.tail _ (.tail _ (.tail _ (.tail _ (.head _))))) (fun x hx => by
    simp only [List.mem_cons, List.not_mem_nil, or_false] at hx ⊢
    rcases hx with h | h | h | h <;> (refine ⟨by simp [h], ?_⟩; rw [h]; dsimp only; omega)) #[.int .i64 1, .int .i64 3, .int .i64 40, .int .i64 60, .int .i64 800, .int .i64 800])
  have HE5 := Lib.hid (below_setRow HE4.out (show w.heap.size ≤ G + 1 by have := HG.out; omega) #[.int .i64 1, .int .i64 3, .int .i64 40, .int .i64 60, .int .i64 800, .int .i64 800])
  refine wpList_store_row rfl 47 (.tmp 1) (.tmp 19) rfl (G + 1) #[.int .i64 1, .int .i64 3, .int .i64 40, .int .i64 60, .int .i64 800, .int .i64 800] rfl rfl 47 _ (HK4.out _ (.tail _ (.tail _ (.tail _ (.tail _ (.head _)))))) (by kernel_rfl) rfl (by kernel_rfl) ?_
  obtain ⟨W5, hW5⟩ : ∃ W5, W4.setRow (G + 1) #[.int .i64 1, .int .i64 3, .int .i64 40, .int .i64 60, .int .i64 800, .int .i64 800] = W5 := ⟨_, rfl⟩
  rw [hW5] at HK5 HE5 ⊢
  clear hW5 HK4 HE4 ord
  go_wp2
  exact bodyPost_ret (v := .tuple #[.agg #[.int .i64 1, .int .i64 0, .int .i64 0, .slice (some ⟨g1, 0, none⟩) 2 2, .slice (some ⟨g2, 0, none⟩) 3 3, .slice (some ⟨g3, 0, none⟩) 2 2, .int .i64 10, .int .i64 20, .int .i64 50, .int .i64 60, .int .i64 1000, .int .i64 1010, .int .i64 300, .int .i64 300], .agg #[.int .i64 1, .int .i64 3, .int .i64 40, .int .i64 60, .int .i64 800, .int .i64 800]]) (results_rows Tryz.results61 _ _ G (G + 1) 45 47 #[.int .i64 1, .int .i64 0, .int .i64 0, .slice (some ⟨g1, 0, none⟩) 2 2, .slice (some ⟨g2, 0, none⟩) 3 3, .slice (some ⟨g3, 0, none⟩) 2 2, .int .i64 10, .int .i64 20, .int .i64 50, .int .i64 60, .int .i64 1000, .int .i64 1010, .int .i64 300, .int .i64 300] #[.int .i64 1, .int .i64 3, .int .i64 40, .int .i64 60, .int .i64 800, .int .i64 800] (0, 0) (0, 0) _ _ rfl rfl (HK5.out _ (.tail _ (.head _))) (HK5.out _ (.head _)) Tryz.underlying45 Tryz.underlying47 rfl rfl (by kernel_rfl) (by kernel_rfl)) rfl
    ⟨g1, g2, g3, rfl, ⟨⟨rfl, (show 2 ≤ maxLen by decide), pts2 (HK5.out _ (.tail _ (.tail _ (.tail _ (.tail _ (.head _))))))⟩, ⟨rfl, (show 3 ≤ maxLen by decide), pts3 (HK5.out _ (.tail _ (.tail _ (.head _))))⟩, ⟨rfl, (show 2 ≤ maxLen by decide), pts2 (HK5.out _ (.tail _ (.tail _ (.tail _ (.head _)))))⟩⟩, HE5.out⟩
end

section
open Go.RowKit

/-- The inverse by the two turning places. -/
theorem inv_facts {f g : Int → Bool} {lo hi : Int} (hle : lo ≤ hi) (hf : ∀ u v, lo ≤ u → u ≤ v → v ≤ hi → f v = true → f u = true) (hg : ∀ u v, lo ≤ u → u ≤ v → v ≤ hi → g u = true → g v = true) :
    ∃ a b, invS f g lo hi = (if hi < a ∨ b = lo then (0, 0, 24) else (max (a - 1) lo, min b hi, 0)) ∧ (lo ≤ a ∧ a ≤ hi + 1) ∧ (∀ v, lo ≤ v → v < a → f v = true) ∧ (∀ v, a ≤ v → v ≤ hi → f v = false) ∧ (lo ≤ b ∧ b ≤ hi + 1) ∧ (∀ v, lo ≤ v → v < b → g v = false) ∧ (∀ v, b ≤ v → v ≤ hi → g v = true) := by
  obtain ⟨⟨a1, a2⟩, a3, a4⟩ := bs_turn (fun i => !(f (lo + i))) (hi - lo + 1).toNat 0 (hi - lo + 1) (by omega) (by omega) (fun u v h1 h2 h3 h4 => by
    cases q : f (lo + v)
    · rfl
    · have := hf (lo + u) (lo + v) (by omega) (by omega) (by omega) q
      simp [this] at h4)
  obtain ⟨⟨b1, b2⟩, b3, b4⟩ := bs_turn (fun i => g (lo + i)) (hi - lo + 1).toNat 0 (hi - lo + 1) (by omega) (by omega) (fun u v h1 h2 h3 h4 => hg (lo + u) (lo + v) (by omega) (by omega) (by omega) h4)
  refine ⟨_, _, rfl, ⟨by omega, by omega⟩, fun v h1 h2 => ?_, fun v h1 h2 => ?_, ⟨by omega, by omega⟩, fun v h1 h2 => ?_, fun v h1 h2 => ?_⟩
  · have := a3 (v - lo) (by omega) (by omega)
    rw [show lo + (v - lo) = v by omega] at this
    simpa using this
  · have := a4 (v - lo) (by omega) (by omega)
    rw [show lo + (v - lo) = v by omega] at this
    simpa using this
  · have := b3 (v - lo) (by omega) (by omega)
    rwa [show lo + (v - lo) = v by omega] at this
  · have := b4 (v - lo) (by omega) (by omega)
    rwa [show lo + (v - lo) = v by omega] at this

set_option maxRecDepth 100000 in
set_option maxHeartbeats 4000000 in
theorem sInverse_ahead (A : Option Addr) (n c : Nat) (v0 v1 lo hi a b : Int) (fl : Bool) (f g : Int → Bool) (w : World) (CF : Hid (∀ W x t, Below w.heap.size w W → lo ≤ x → x ≤ hi → f x = t → Calls Tryz.prog 102 #[tv A n c, rv v0 v1, .int .i64 x, .bool fl] W fun e w' => e = .returned (.bool t) ∧ Below W.heap.size W w')) (CG : Hid (∀ W x t, Below w.heap.size w W → lo ≤ x → x ≤ hi → g x = t → Calls Tryz.prog 102 #[tv A n c, rv v0 v1, .int .i64 x, .bool (!fl)] W fun e w' => e = .returned (.bool t) ∧ Below W.heap.size W w')) (P1 : Hid (∀ W, Below w.heap.size w W → Calls Tryz.prog 101 #[tv A n c] W fun e w' => e = .returned (.int .i64 lo) ∧ Below W.heap.size W w')) (P2 : Hid (∀ W, Below w.heap.size w W → Calls Tryz.prog 60 #[tv A n c] W fun e w' => e = .returned (.int .i64 hi) ∧ Below W.heap.size W w')) (hlo : 0 ≤ lo) (hle : lo ≤ hi) (hhi : hi ≤ 1000000) (ha : lo ≤ a ∧ a ≤ hi + 1) (hb : lo ≤ b ∧ b ≤ hi + 1) (hf1 : ∀ v, lo ≤ v → v < a → f v = true) (hf2 : ∀ v, a ≤ v → v ≤ hi → f v = false) (hg1 : ∀ v, lo ≤ v → v < b → g v = false) (hg2 : ∀ v, b ≤ v → v ≤ hi → g v = true) (h : hi < a) :
    Calls Tryz.prog 46 #[tv A n c, rv v0 v1, .bool fl] w fun e w' => e = .returned (.tuple #[rv 0 0, .bool false]) ∧ Below w.heap.size w w' := by
  have HE := Lib.hid (show Below w.heap.size w (((w.alloc (.cells #[.slice A n c] 26)).alloc (.cells #[.int .i64 v0, .int .i64 v1] 23)).alloc (.cells #[.int .i64 0, .int .i64 0] 23)) from below_a3 (Below.refl _ _))
  have HK := Lib.hid (boxes3' w 26 23 23 #[.slice A n c] #[.int .i64 v0, .int .i64 v1] #[.int .i64 0, .int .i64 0])
  have C1 := Lib.hid (fun W hW => CF.out W hi true hW hle (by omega) (hf1 hi hle h))
  clear CF CG hf1 hf2 hg1 hg2 ha hb h
  go_enter Tryz.func46, Tryz.ntmps46
  go_wp2_with fail
  obtain ⟨W0, hW0⟩ : ∃ W0, (((w.alloc (.cells #[.slice A n c] 26)).alloc (.cells #[.int .i64 v0, .int .i64 v1] 23)).alloc (.cells #[.int .i64 0, .int .i64 0] 23)) = W0 := ⟨_, rfl⟩
  rw [hW0] at HE HK ⊢
  clear hW0
  obtain ⟨G, hG⟩ : ∃ G, w.heap.size = G := ⟨_, rfl⟩
  rw [hG] at HK ⊢
  have HG := Lib.hid hG; clear hG
  have t := HK.out _ (.tail _ (.tail _ (.head _)))
  have t0 := t.cell 0
  simp at t0
  clear t
  go_upto_region 1 with fail
  refine (P1.out _ HE.out).mono ?_
  rintro e y1 ⟨rfl, hz⟩
  have HE1 := Lib.hid (below_then HE.out hz); have HK1 := Lib.hid (HK.out.on hz)
  clear hz HE HK P1 t0
  have t := HK1.out _ (.tail _ (.tail _ (.head _)))
  have t0 := t.cell 0
  simp at t0
  clear t
  go_wp2_with fail
  refine (P2.out _ HE1.out).mono ?_
  rintro e y2 ⟨rfl, hz⟩
  have HE2 := Lib.hid (below_then HE1.out hz); have HK2 := Lib.hid (HK1.out.on hz)
  clear hz HE1 HK1 P2 t0
  have t := HK2.out _ (.tail _ (.tail _ (.head _)))
  have t0 := t.cell 0
  simp at t0
  clear t
  have q := HK2.out _ (.tail _ (.head _))
  have q0 := q.cell 0
  have q1 := q.cell 1
  simp at q0 q1
  clear q
  go_wp2_with fail
  refine (C1.out _ HE2.out).mono ?_
  rintro e y3 ⟨rfl, hz⟩
  have HE3 := Lib.hid (below_then HE2.out hz); have HK3 := Lib.hid (HK2.out.on hz)
  clear hz HE2 HK2 C1 t0 q0 q1
  have z := HK3.out _ (.head _)
  have z0 := z.cell 0
  have zf0 := z.frozen 0
  have z1 := z.cell 1
  have zf1 := z.frozen 1
  have zl := z.lt
  simp at z0 zf0 z1 zf1
  clear z
  go_wp2
  refine bodyPost_ret (v := .tuple #[rv 0 0, .bool false]) (by simp [results, Tryz.results46, go_sem, z0, z1]) rfl ⟨rfl, ?_⟩
  have hg := HG.out
  repeat (first | exact HE3.out | refine Below.setCell ?_ (by simp <;> omega) _)

set_option maxRecDepth 100000 in
set_option maxHeartbeats 4000000 in
theorem sInverse_behind (A : Option Addr) (n c : Nat) (v0 v1 lo hi a b : Int) (fl : Bool) (f g : Int → Bool) (w : World) (CF : Hid (∀ W x t, Below w.heap.size w W → lo ≤ x → x ≤ hi → f x = t → Calls Tryz.prog 102 #[tv A n c, rv v0 v1, .int .i64 x, .bool fl] W fun e w' => e = .returned (.bool t) ∧ Below W.heap.size W w')) (CG : Hid (∀ W x t, Below w.heap.size w W → lo ≤ x → x ≤ hi → g x = t → Calls Tryz.prog 102 #[tv A n c, rv v0 v1, .int .i64 x, .bool (!fl)] W fun e w' => e = .returned (.bool t) ∧ Below W.heap.size W w')) (P1 : Hid (∀ W, Below w.heap.size w W → Calls Tryz.prog 101 #[tv A n c] W fun e w' => e = .returned (.int .i64 lo) ∧ Below W.heap.size W w')) (P2 : Hid (∀ W, Below w.heap.size w W → Calls Tryz.prog 60 #[tv A n c] W fun e w' => e = .returned (.int .i64 hi) ∧ Below W.heap.size W w')) (hlo : 0 ≤ lo) (hle : lo ≤ hi) (hhi : hi ≤ 1000000) (ha : lo ≤ a ∧ a ≤ hi + 1) (hb : lo ≤ b ∧ b ≤ hi + 1) (hf1 : ∀ v, lo ≤ v → v < a → f v = true) (hf2 : ∀ v, a ≤ v → v ≤ hi → f v = false) (hg1 : ∀ v, lo ≤ v → v < b → g v = false) (hg2 : ∀ v, b ≤ v → v ≤ hi → g v = true) (h : ¬ hi < a) (h' : b = lo) :
    Calls Tryz.prog 46 #[tv A n c, rv v0 v1, .bool fl] w fun e w' => e = .returned (.tuple #[rv 0 0, .bool false]) ∧ Below w.heap.size w w' := by
  have HE := Lib.hid (show Below w.heap.size w (((w.alloc (.cells #[.slice A n c] 26)).alloc (.cells #[.int .i64 v0, .int .i64 v1] 23)).alloc (.cells #[.int .i64 0, .int .i64 0] 23)) from below_a3 (Below.refl _ _))
  have HK := Lib.hid (boxes3' w 26 23 23 #[.slice A n c] #[.int .i64 v0, .int .i64 v1] #[.int .i64 0, .int .i64 0])
  have C1 := Lib.hid (fun W hW => CF.out W hi false hW hle (by omega) (hf2 hi (by omega) (by omega)))
  have C2 := Lib.hid (fun W hW => CG.out W lo true hW (by omega) hle (hg2 lo (by omega) hle))
  clear CF CG hf1 hf2 hg1 hg2 ha hb h h'
  go_enter Tryz.func46, Tryz.ntmps46
  go_wp2_with fail
  obtain ⟨W0, hW0⟩ : ∃ W0, (((w.alloc (.cells #[.slice A n c] 26)).alloc (.cells #[.int .i64 v0, .int .i64 v1] 23)).alloc (.cells #[.int .i64 0, .int .i64 0] 23)) = W0 := ⟨_, rfl⟩
  rw [hW0] at HE HK ⊢
  clear hW0
  obtain ⟨G, hG⟩ : ∃ G, w.heap.size = G := ⟨_, rfl⟩
  rw [hG] at HK ⊢
  have HG := Lib.hid hG; clear hG
  have t := HK.out _ (.tail _ (.tail _ (.head _)))
  have t0 := t.cell 0
  simp at t0
  clear t
  go_upto_region 1 with fail
  refine (P1.out _ HE.out).mono ?_
  rintro e y1 ⟨rfl, hz⟩
  have HE1 := Lib.hid (below_then HE.out hz); have HK1 := Lib.hid (HK.out.on hz)
  clear hz HE HK P1 t0
  have t := HK1.out _ (.tail _ (.tail _ (.head _)))
  have t0 := t.cell 0
  simp at t0
  clear t
  go_wp2_with fail
  refine (P2.out _ HE1.out).mono ?_
  rintro e y2 ⟨rfl, hz⟩
  have HE2 := Lib.hid (below_then HE1.out hz); have HK2 := Lib.hid (HK1.out.on hz)
  clear hz HE1 HK1 P2 t0
  have t := HK2.out _ (.tail _ (.tail _ (.head _)))
  have t0 := t.cell 0
  simp at t0
  clear t
  have q := HK2.out _ (.tail _ (.head _))
  have q0 := q.cell 0
  have q1 := q.cell 1
  simp at q0 q1
  clear q
  go_wp2_with fail
  refine (C1.out _ HE2.out).mono ?_
  rintro e y3 ⟨rfl, hz⟩
  have HE3 := Lib.hid (below_then HE2.out hz); have HK3 := Lib.hid (HK2.out.on hz)
  clear hz HE2 HK2 C1 t0 q0 q1
  have t := HK3.out _ (.tail _ (.tail _ (.head _)))
  have t0 := t.cell 0
  simp at t0
  clear t
  have q := HK3.out _ (.tail _ (.head _))
  have q0 := q.cell 0
  have q1 := q.cell 1
  simp at q0 q1
  clear q
  go_wp2_with fail
  refine (C2.out _ HE3.out).mono ?_
  rintro e y4 ⟨rfl, hz⟩
  have HE4 := Lib.hid (below_then HE3.out hz); have HK4 := Lib.hid (HK3.out.on hz)
  clear hz HE3 HK3 C2 t0 q0 q1
  have z := HK4.out _ (.head _)
  have z0 := z.cell 0
  have zf0 := z.frozen 0
  have z1 := z.cell 1
  have zf1 := z.frozen 1
  have zl := z.lt
  simp at z0 zf0 z1 zf1
  clear z
  go_wp2
  refine bodyPost_ret (v := .tuple #[rv 0 0, .bool false]) (by simp [results, Tryz.results46, go_sem, z0, z1]) rfl ⟨rfl, ?_⟩
  have hg := HG.out
  repeat (first | exact HE4.out | refine Below.setCell ?_ (by simp <;> omega) _)

theorem boxes_far {W : World} {L : List (Nat × TypeId × Array Value)} (h : Boxes W L) : ∀ p ∈ L, p.1 ≠ W.heap.size := fun p hp => Nat.ne_of_lt (h p hp).lt
theorem half_in {x y : Int} (h : 1 < y - x) (hx : 0 ≤ x) (hy : y ≤ 1000001) : ∃ q, (y - x).tdiv 2 = q ∧ 1 ≤ q ∧ x + q < y := by
  refine ⟨_, rfl, ?_⟩
  rw [Int.tdiv_eq_ediv_of_nonneg (by omega)]
  omega

set_option maxRecDepth 100000 in
set_option maxHeartbeats 4000000 in
theorem sInverse_none (A : Option Addr) (n c : Nat) (v0 v1 lo hi a b : Int) (fl : Bool) (f g : Int → Bool) (w : World) (CF : Hid (∀ W x t, Below w.heap.size w W → lo ≤ x → x ≤ hi → f x = t → Calls Tryz.prog 102 #[tv A n c, rv v0 v1, .int .i64 x, .bool fl] W fun e w' => e = .returned (.bool t) ∧ Below W.heap.size W w')) (CG : Hid (∀ W x t, Below w.heap.size w W → lo ≤ x → x ≤ hi → g x = t → Calls Tryz.prog 102 #[tv A n c, rv v0 v1, .int .i64 x, .bool (!fl)] W fun e w' => e = .returned (.bool t) ∧ Below W.heap.size W w')) (P1 : Hid (∀ W, Below w.heap.size w W → Calls Tryz.prog 101 #[tv A n c] W fun e w' => e = .returned (.int .i64 lo) ∧ Below W.heap.size W w')) (P2 : Hid (∀ W, Below w.heap.size w W → Calls Tryz.prog 60 #[tv A n c] W fun e w' => e = .returned (.int .i64 hi) ∧ Below W.heap.size W w')) (hlo : 0 ≤ lo) (hle : lo ≤ hi) (hhi : hi ≤ 1000000) (ha : lo ≤ a ∧ a ≤ hi + 1) (hb : lo ≤ b ∧ b ≤ hi + 1) (hf1 : ∀ v, lo ≤ v → v < a → f v = true) (hf2 : ∀ v, a ≤ v → v ≤ hi → f v = false) (hg1 : ∀ v, lo ≤ v → v < b → g v = false) (hg2 : ∀ v, b ≤ v → v ≤ hi → g v = true) (h : ¬ hi < a) (h' : ¬ b = lo) (j : ¬ lo < a) (j' : ¬ b ≤ hi) :
    Calls Tryz.prog 46 #[tv A n c, rv v0 v1, .bool fl] w fun e w' => e = .returned (.tuple #[rv lo hi, .bool true]) ∧ Below w.heap.size w w' := by
  have HE := Lib.hid (show Below w.heap.size w (((w.alloc (.cells #[.slice A n c] 26)).alloc (.cells #[.int .i64 v0, .int .i64 v1] 23)).alloc (.cells #[.int .i64 0, .int .i64 0] 23)) from below_a3 (Below.refl _ _))
  have HK := Lib.hid (boxes3' w 26 23 23 #[.slice A n c] #[.int .i64 v0, .int .i64 v1] #[.int .i64 0, .int .i64 0])
  have C1 := Lib.hid (fun W hW => CF.out W hi false hW hle (by omega) (hf2 hi (by omega) (by omega)))
  have C2 := Lib.hid (fun W hW => CG.out W lo false hW (by omega) hle (hg1 lo (by omega) (by omega)))
  have C3 := Lib.hid (fun W hW => CF.out W lo false hW (by omega) hle (hf2 lo (by omega) (by omega)))
  have C4 := Lib.hid (fun W hW => CG.out W hi false hW hle (by omega) (hg1 hi (by omega) (by omega)))
  go_enter Tryz.func46, Tryz.ntmps46
  go_wp2_with fail
  obtain ⟨W0, hW0⟩ : ∃ W0, (((w.alloc (.cells #[.slice A n c] 26)).alloc (.cells #[.int .i64 v0, .int .i64 v1] 23)).alloc (.cells #[.int .i64 0, .int .i64 0] 23)) = W0 := ⟨_, rfl⟩
  rw [hW0] at HE HK ⊢
  clear hW0
  obtain ⟨G, hG⟩ : ∃ G, w.heap.size = G := ⟨_, rfl⟩
  rw [hG] at HK ⊢
  have HG := Lib.hid hG; clear hG
  have t := HK.out _ (.tail _ (.tail _ (.head _)))
  have t0 := t.cell 0
  simp at t0
  clear t
  go_upto_region 1 with fail
  refine (P1.out _ HE.out).mono ?_
  rintro e y1 ⟨rfl, hz⟩
  have HE1 := Lib.hid (below_then HE.out hz); have HK1 := Lib.hid (HK.out.on hz)
  clear hz HE HK P1 t0
  have t := HK1.out _ (.tail _ (.tail _ (.head _)))
  have t0 := t.cell 0
  simp at t0
  clear t
  go_wp2_with fail
  refine (P2.out _ HE1.out).mono ?_
  rintro e y2 ⟨rfl, hz⟩
  have HE2 := Lib.hid (below_then HE1.out hz); have HK2 := Lib.hid (HK1.out.on hz)
  clear hz HE1 HK1 P2 t0
  have t := HK2.out _ (.tail _ (.tail _ (.head _)))
  have t0 := t.cell 0
  simp at t0
  clear t
  have q := HK2.out _ (.tail _ (.head _))
  have q0 := q.cell 0
  have q1 := q.cell 1
  simp at q0 q1
  clear q
  go_wp2_with fail
  refine (C1.out _ HE2.out).mono ?_
  rintro e y3 ⟨rfl, hz⟩
  have HE3 := Lib.hid (below_then HE2.out hz); have HK3 := Lib.hid (HK2.out.on hz)
  clear hz HE2 HK2 C1 t0 q0 q1
  have t := HK3.out _ (.tail _ (.tail _ (.head _)))
  have t0 := t.cell 0
  simp at t0
  clear t
  have q := HK3.out _ (.tail _ (.head _))
  have q0 := q.cell 0
  have q1 := q.cell 1
  simp at q0 q1
  clear q
  go_wp2_with fail
  refine (C2.out _ HE3.out).mono ?_
  rintro e y4 ⟨rfl, hz⟩
  have HE4 := Lib.hid (below_then HE3.out hz); have HK4 := Lib.hid (HK3.out.on hz)
  clear hz HE3 HK3 C2 t0 q0 q1
  go_upto_region 6 with fail
  have HE5 := Lib.hid (below_then HE4.out (below_alloc1 y4 (.cells #[.int .i64 lo, .int .i64 hi] 23))); have HK5 := Lib.hid (HK4.out.new 23 #[.int .i64 lo, .int .i64 hi])
  have HD := Lib.hid (boxes_far HK4.out)
  have HZ := Lib.hid HE4.out.size
  obtain ⟨W5, hW⟩ : ∃ W', y4.alloc (.cells #[.int .i64 lo, .int .i64 hi] 23) = W' := ⟨_, rfl⟩
  rw [hW] at HE5 HK5 ⊢
  clear hW HE4 HK4
  obtain ⟨N, hN⟩ : ∃ N, y4.heap.size = N := ⟨_, rfl⟩
  rw [hN] at HK5 HD HZ ⊢
  clear hN
  have t := HK5.out _ (.tail _ (.tail _ (.tail _ (.head _))))
  have t0 := t.cell 0
  simp at t0
  clear t
  have q := HK5.out _ (.tail _ (.tail _ (.head _)))
  have q0 := q.cell 0
  have q1 := q.cell 1
  simp at q0 q1
  clear q
  go_wp2_with fail
  refine (C3.out _ HE5.out).mono ?_
  rintro e y6 ⟨rfl, hz⟩
  have HE6 := Lib.hid (below_then HE5.out hz); have HK6 := Lib.hid (HK5.out.on hz)
  clear hz HE5 HK5 C3 t0 q0 q1
  have t := HK6.out _ (.tail _ (.tail _ (.tail _ (.head _))))
  have t0 := t.cell 0
  simp at t0
  clear t
  have q := HK6.out _ (.tail _ (.tail _ (.head _)))
  have q0 := q.cell 0
  have q1 := q.cell 1
  simp at q0 q1
  clear q
  go_wp2_with fail
  refine (C4.out _ HE6.out).mono ?_
  rintro e y9 ⟨rfl, hz⟩
  have HE9 := Lib.hid (below_then HE6.out hz); have HK9 := Lib.hid (HK6.out.on hz)
  clear hz HE6 HK6 C4 t0 q0 q1
  have o := HK9.out _ (.head _)
  have o0 := o.cell 0
  have o1 := o.cell 1
  simp at o0 o1
  clear o
  have z := HK9.out _ (.tail _ (.head _))
  have z0 := z.cell 0
  have zf0 := z.frozen 0
  have z1 := z.cell 1
  have zf1 := z.frozen 1
  have zl := z.lt
  simp at z0 zf0 z1 zf1
  clear z
  go_wp2
  refine bodyPost_ret (v := .tuple #[rv lo hi, .bool true]) (by simp [results, Tryz.results46, go_sem, z0, z1]) rfl ⟨rfl, ?_⟩
  have hg := HG.out
  repeat (first | exact HE9.out | refine Below.setCell ?_ (by simp <;> omega) _)

set_option maxRecDepth 100000 in
set_option maxHeartbeats 4000000 in
theorem sInverse_left (A : Option Addr) (n c : Nat) (v0 v1 lo hi a b : Int) (fl : Bool) (f g : Int → Bool) (w : World) (CF : Hid (∀ W x t, Below w.heap.size w W → lo ≤ x → x ≤ hi → f x = t → Calls Tryz.prog 102 #[tv A n c, rv v0 v1, .int .i64 x, .bool fl] W fun e w' => e = .returned (.bool t) ∧ Below W.heap.size W w')) (CG : Hid (∀ W x t, Below w.heap.size w W → lo ≤ x → x ≤ hi → g x = t → Calls Tryz.prog 102 #[tv A n c, rv v0 v1, .int .i64 x, .bool (!fl)] W fun e w' => e = .returned (.bool t) ∧ Below W.heap.size W w')) (P1 : Hid (∀ W, Below w.heap.size w W → Calls Tryz.prog 101 #[tv A n c] W fun e w' => e = .returned (.int .i64 lo) ∧ Below W.heap.size W w')) (P2 : Hid (∀ W, Below w.heap.size w W → Calls Tryz.prog 60 #[tv A n c] W fun e w' => e = .returned (.int .i64 hi) ∧ Below W.heap.size W w')) (hlo : 0 ≤ lo) (hle : lo ≤ hi) (hhi : hi ≤ 1000000) (ha : lo ≤ a ∧ a ≤ hi + 1) (hb : lo ≤ b ∧ b ≤ hi + 1) (hf1 : ∀ v, lo ≤ v → v < a → f v = true) (hf2 : ∀ v, a ≤ v → v ≤ hi → f v = false) (hg1 : ∀ v, lo ≤ v → v < b → g v = false) (hg2 : ∀ v, b ≤ v → v ≤ hi → g v = true) (h : ¬ hi < a) (h' : ¬ b = lo) (j : lo < a) (j' : ¬ b ≤ hi) :
    Calls Tryz.prog 46 #[tv A n c, rv v0 v1, .bool fl] w fun e w' => e = .returned (.tuple #[rv (a - 1) hi, .bool true]) ∧ Below w.heap.size w w' := by
  have HE := Lib.hid (show Below w.heap.size w (((w.alloc (.cells #[.slice A n c] 26)).alloc (.cells #[.int .i64 v0, .int .i64 v1] 23)).alloc (.cells #[.int .i64 0, .int .i64 0] 23)) from below_a3 (Below.refl _ _))
  have HK := Lib.hid (boxes3' w 26 23 23 #[.slice A n c] #[.int .i64 v0, .int .i64 v1] #[.int .i64 0, .int .i64 0])
  have C1 := Lib.hid (fun W hW => CF.out W hi false hW hle (by omega) (hf2 hi (by omega) (by omega)))
  have C2 := Lib.hid (fun W hW => CG.out W lo false hW (by omega) hle (hg1 lo (by omega) (by omega)))
  have C3 := Lib.hid (fun W hW => CF.out W lo true hW (by omega) hle (hf1 lo (by omega) (by omega)))
  have C4 := Lib.hid (fun W hW => CG.out W hi false hW hle (by omega) (hg1 hi (by omega) (by omega)))
  go_enter Tryz.func46, Tryz.ntmps46
  go_wp2_with fail
  obtain ⟨W0, hW0⟩ : ∃ W0, (((w.alloc (.cells #[.slice A n c] 26)).alloc (.cells #[.int .i64 v0, .int .i64 v1] 23)).alloc (.cells #[.int .i64 0, .int .i64 0] 23)) = W0 := ⟨_, rfl⟩
  rw [hW0] at HE HK ⊢
  clear hW0
  obtain ⟨G, hG⟩ : ∃ G, w.heap.size = G := ⟨_, rfl⟩
  rw [hG] at HK ⊢
  have HG := Lib.hid hG; clear hG
  have t := HK.out _ (.tail _ (.tail _ (.head _)))
  have t0 := t.cell 0
  simp at t0
  clear t
  go_upto_region 1 with fail
  refine (P1.out _ HE.out).mono ?_
  rintro e y1 ⟨rfl, hz⟩
  have HE1 := Lib.hid (below_then HE.out hz); have HK1 := Lib.hid (HK.out.on hz)
  clear hz HE HK P1 t0
  have t := HK1.out _ (.tail _ (.tail _ (.head _)))
  have t0 := t.cell 0
  simp at t0
  clear t
  go_wp2_with fail
  refine (P2.out _ HE1.out).mono ?_
  rintro e y2 ⟨rfl, hz⟩
  have HE2 := Lib.hid (below_then HE1.out hz); have HK2 := Lib.hid (HK1.out.on hz)
  clear hz HE1 HK1 P2 t0
  have t := HK2.out _ (.tail _ (.tail _ (.head _)))
  have t0 := t.cell 0
  simp at t0
  clear t
  have q := HK2.out _ (.tail _ (.head _))
  have q0 := q.cell 0
  have q1 := q.cell 1
  simp at q0 q1
  clear q
  go_wp2_with fail
  refine (C1.out _ HE2.out).mono ?_
  rintro e y3 ⟨rfl, hz⟩
  have HE3 := Lib.hid (below_then HE2.out hz); have HK3 := Lib.hid (HK2.out.on hz)
  clear hz HE2 HK2 C1 t0 q0 q1
  have t := HK3.out _ (.tail _ (.tail _ (.head _)))
  have t0 := t.cell 0
  simp at t0
  clear t
  have q := HK3.out _ (.tail _ (.head _))
  have q0 := q.cell 0
  have q1 := q.cell 1
  simp at q0 q1
  clear q
  go_wp2_with fail
  refine (C2.out _ HE3.out).mono ?_
  rintro e y4 ⟨rfl, hz⟩
  have HE4 := Lib.hid (below_then HE3.out hz); have HK4 := Lib.hid (HK3.out.on hz)
  clear hz HE3 HK3 C2 t0 q0 q1
  go_upto_region 6 with fail
  have HE5 := Lib.hid (below_then HE4.out (below_alloc1 y4 (.cells #[.int .i64 lo, .int .i64 hi] 23))); have HK5 := Lib.hid (HK4.out.new 23 #[.int .i64 lo, .int .i64 hi])
  have HD := Lib.hid (boxes_far HK4.out)
  have HZ := Lib.hid HE4.out.size
  obtain ⟨W5, hW⟩ : ∃ W', y4.alloc (.cells #[.int .i64 lo, .int .i64 hi] 23) = W' := ⟨_, rfl⟩
  rw [hW] at HE5 HK5 ⊢
  clear hW HE4 HK4
  obtain ⟨N, hN⟩ : ∃ N, y4.heap.size = N := ⟨_, rfl⟩
  rw [hN] at HK5 HD HZ ⊢
  clear hN
  have t := HK5.out _ (.tail _ (.tail _ (.tail _ (.head _))))
  have t0 := t.cell 0
  simp at t0
  clear t
  have q := HK5.out _ (.tail _ (.tail _ (.head _)))
  have q0 := q.cell 0
  have q1 := q.cell 1
  simp at q0 q1
  clear q
  go_wp2_with fail
  refine (C3.out _ HE5.out).mono ?_
  rintro e y6 ⟨rfl, hz⟩
  have HE6 := Lib.hid (below_then HE5.out hz); have HK6 := Lib.hid (HK5.out.on hz)
  clear hz HE5 HK5 C3 t0 q0 q1
  go_wp2_with fail
  go_loopw [11, 12] (fun si sj wr => ∃ x y, si = .int .i64 x ∧ sj = .int .i64 y ∧ lo ≤ x ∧ x < a ∧ a ≤ y ∧ y ≤ hi ∧ Boxes wr ((N, 23, #[.int .i64 lo, .int .i64 hi]) :: [(G + 1 + 1, 23, #[.int .i64 0, .int .i64 0]), (G + 1, 23, #[.int .i64 v0, .int .i64 v1]), (G, 26, #[.slice A n c])]) ∧ Below w.heap.size w wr) (fun si sj _ => (intOf sj - intOf si).toNat)
  case atStart => exact ⟨lo, hi, rfl, rfl, by omega, by omega, by omega, by omega, HK6.out, HE6.out⟩
  case round =>
    clear HE6 HK6
    obtain ⟨x, y, rfl, rfl, x1, x2, x3, x4, hk, he⟩ := hrel
    have HK6 := Lib.hid hk; have HE6 := Lib.hid he
    clear hk he
    have w1 : IntKind.i64.wrap (y - x) = y - x := IntWalk.i64_in _ ⟨by omega, by omega⟩
    by_cases hlt : 1 < y - x
    · obtain ⟨q, hq, m1, m2⟩ := half_in hlt (by omega) (by omega)
      have w2 : IntKind.i64.wrap ((y - x).tdiv 2) = q := by rw [hq]; exact IntWalk.i64_in _ ⟨by omega, by omega⟩
      have w3 : IntKind.i64.wrap (x + q) = x + q := IntWalk.i64_in _ ⟨by omega, by omega⟩
      clear hq
      rcases Int.lt_or_le (x + q) a with hm | hm
      · have C5 := Lib.hid (fun W hW => CF.out W (x + q) true hW (by omega) (by omega) (hf1 (x + q) (by omega) (by omega)))
        have t := HK6.out _ (.tail _ (.tail _ (.tail _ (.head _))))
        have t0 := t.cell 0
        simp at t0
        clear t
        have q := HK6.out _ (.tail _ (.tail _ (.head _)))
        have q0 := q.cell 0
        have q1 := q.cell 1
        simp at q0 q1
        clear q
        go_wp2_with fail
        refine (C5.out _ HE6.out).mono ?_
        rintro e y7 ⟨rfl, hz⟩
        have HE7 := Lib.hid (below_then HE6.out hz); have HK7 := Lib.hid (HK6.out.on hz)
        clear hz HE6 HK6 C5 t0 q0 q1
        go_wp2
        go_roundw
        case rel => exact ⟨x + q, y, rfl, rfl, by omega, by omega, by omega, by omega, HK7.out, HE7.out⟩
        case measure => simp [intOf]; omega
      · have C5 := Lib.hid (fun W hW => CF.out W (x + q) false hW (by omega) (by omega) (hf2 (x + q) (by omega) (by omega)))
        have t := HK6.out _ (.tail _ (.tail _ (.tail _ (.head _))))
        have t0 := t.cell 0
        simp at t0
        clear t
        have q := HK6.out _ (.tail _ (.tail _ (.head _)))
        have q0 := q.cell 0
        have q1 := q.cell 1
        simp at q0 q1
        clear q
        go_wp2_with fail
        refine (C5.out _ HE6.out).mono ?_
        rintro e y7 ⟨rfl, hz⟩
        have HE7 := Lib.hid (below_then HE6.out hz); have HK7 := Lib.hid (HK6.out.on hz)
        clear hz HE6 HK6 C5 t0 q0 q1
        go_wp2
        go_roundw
        case rel => exact ⟨x, x + q, rfl, rfl, by omega, by omega, by omega, by omega, HK7.out, HE7.out⟩
        case measure => simp [intOf]; omega
    · obtain rfl : y = x + 1 := by omega
      obtain rfl : a = x + 1 := by omega
      clear CF hf1 hf2 w1
      have o := HK6.out _ (.head _)
      have o0 := o.cell 0
      have of0 := o.frozen 0
      have o1 := o.cell 1
      have of1 := o.frozen 1
      have ol := o.lt
      simp at o0 of0 o1 of1
      clear o
      go_upto_region 15 with fail
      have HE8 := Lib.hid (Below.setCell HE6.out (p := ⟨N, 0, none⟩) (by have := HZ.out; have := HG.out; show w.heap.size ≤ N; omega) (.int .i64 x)); have HK8 := Lib.hid (Boxes.set1 HK6.out HD.out 0 (.int .i64 x) #[.int .i64 x, .int .i64 hi] rfl)
      clear o0 o1 of0 of1 ol
      obtain ⟨W8, hW⟩ : ∃ W', World.setCell wr ⟨N, 0, none⟩ (.int .i64 x) = W' := ⟨_, rfl⟩
      rw [hW] at HE8 HK8 ⊢
      clear hW HE6 HK6
      have t := HK8.out _ (.tail _ (.tail _ (.tail _ (.head _))))
      have t0 := t.cell 0
      simp at t0
      clear t
      have q := HK8.out _ (.tail _ (.tail _ (.head _)))
      have q0 := q.cell 0
      have q1 := q.cell 1
      simp at q0 q1
      clear q
      go_wp2_with fail
      refine (C4.out _ HE8.out).mono ?_
      rintro e y9 ⟨rfl, hz⟩
      have HE9 := Lib.hid (below_then HE8.out hz); have HK9 := Lib.hid (HK8.out.on hz)
      clear hz HE8 HK8 C4 t0 q0 q1
      have o := HK9.out _ (.head _)
      have o0 := o.cell 0
      have o1 := o.cell 1
      simp at o0 o1
      clear o
      have z := HK9.out _ (.tail _ (.head _))
      have z0 := z.cell 0
      have zf0 := z.frozen 0
      have z1 := z.cell 1
      have zf1 := z.frozen 1
      have zl := z.lt
      simp at z0 zf0 z1 zf1
      clear z
      go_wp2
      refine bodyPost_ret (v := .tuple #[rv x hi, .bool true]) (by simp [results, Tryz.results46, go_sem, z0, z1]) rfl ⟨by first | rfl | (congr 3; simp; done) | (congr 3; omega) | (congr 4 <;> omega), ?_⟩
      have hg := HG.out
      repeat (first | exact HE9.out | refine Below.setCell ?_ (by simp <;> omega) _)

set_option maxRecDepth 100000 in
set_option maxHeartbeats 4000000 in
theorem sInverse_right (A : Option Addr) (n c : Nat) (v0 v1 lo hi a b : Int) (fl : Bool) (f g : Int → Bool) (w : World) (CF : Hid (∀ W x t, Below w.heap.size w W → lo ≤ x → x ≤ hi → f x = t → Calls Tryz.prog 102 #[tv A n c, rv v0 v1, .int .i64 x, .bool fl] W fun e w' => e = .returned (.bool t) ∧ Below W.heap.size W w')) (CG : Hid (∀ W x t, Below w.heap.size w W → lo ≤ x → x ≤ hi → g x = t → Calls Tryz.prog 102 #[tv A n c, rv v0 v1, .int .i64 x, .bool (!fl)] W fun e w' => e = .returned (.bool t) ∧ Below W.heap.size W w')) (P1 : Hid (∀ W, Below w.heap.size w W → Calls Tryz.prog 101 #[tv A n c] W fun e w' => e = .returned (.int .i64 lo) ∧ Below W.heap.size W w')) (P2 : Hid (∀ W, Below w.heap.size w W → Calls Tryz.prog 60 #[tv A n c] W fun e w' => e = .returned (.int .i64 hi) ∧ Below W.heap.size W w')) (hlo : 0 ≤ lo) (hle : lo ≤ hi) (hhi : hi ≤ 1000000) (ha : lo ≤ a ∧ a ≤ hi + 1) (hb : lo ≤ b ∧ b ≤ hi + 1) (hf1 : ∀ v, lo ≤ v → v < a → f v = true) (hf2 : ∀ v, a ≤ v → v ≤ hi → f v = false) (hg1 : ∀ v, lo ≤ v → v < b → g v = false) (hg2 : ∀ v, b ≤ v → v ≤ hi → g v = true) (h : ¬ hi < a) (h' : ¬ b = lo) (j : ¬ lo < a) (j' : b ≤ hi) :
    Calls Tryz.prog 46 #[tv A n c, rv v0 v1, .bool fl] w fun e w' => e = .returned (.tuple #[rv lo b, .bool true]) ∧ Below w.heap.size w w' := by
  have HE := Lib.hid (show Below w.heap.size w (((w.alloc (.cells #[.slice A n c] 26)).alloc (.cells #[.int .i64 v0, .int .i64 v1] 23)).alloc (.cells #[.int .i64 0, .int .i64 0] 23)) from below_a3 (Below.refl _ _))
  have HK := Lib.hid (boxes3' w 26 23 23 #[.slice A n c] #[.int .i64 v0, .int .i64 v1] #[.int .i64 0, .int .i64 0])
  have C1 := Lib.hid (fun W hW => CF.out W hi false hW hle (by omega) (hf2 hi (by omega) (by omega)))
  have C2 := Lib.hid (fun W hW => CG.out W lo false hW (by omega) hle (hg1 lo (by omega) (by omega)))
  have C3 := Lib.hid (fun W hW => CF.out W lo false hW (by omega) hle (hf2 lo (by omega) (by omega)))
  have C4 := Lib.hid (fun W hW => CG.out W hi true hW hle (by omega) (hg2 hi (by omega) (by omega)))
  go_enter Tryz.func46, Tryz.ntmps46
  go_wp2_with fail
  obtain ⟨W0, hW0⟩ : ∃ W0, (((w.alloc (.cells #[.slice A n c] 26)).alloc (.cells #[.int .i64 v0, .int .i64 v1] 23)).alloc (.cells #[.int .i64 0, .int .i64 0] 23)) = W0 := ⟨_, rfl⟩
  rw [hW0] at HE HK ⊢
  clear hW0
  obtain ⟨G, hG⟩ : ∃ G, w.heap.size = G := ⟨_, rfl⟩
  rw [hG] at HK ⊢
  have HG := Lib.hid hG; clear hG
  have t := HK.out _ (.tail _ (.tail _ (.head _)))
  have t0 := t.cell 0
  simp at t0
  clear t
  go_upto_region 1 with fail
  refine (P1.out _ HE.out).mono ?_
  rintro e y1 ⟨rfl, hz⟩
  have HE1 := Lib.hid (below_then HE.out hz); have HK1 := Lib.hid (HK.out.on hz)
  clear hz HE HK P1 t0
  have t := HK1.out _ (.tail _ (.tail _ (.head _)))
  have t0 := t.cell 0
  simp at t0
  clear t
  go_wp2_with fail
  refine (P2.out _ HE1.out).mono ?_
  rintro e y2 ⟨rfl, hz⟩
  have HE2 := Lib.hid (below_then HE1.out hz); have HK2 := Lib.hid (HK1.out.on hz)
  clear hz HE1 HK1 P2 t0
  have t := HK2.out _ (.tail _ (.tail _ (.head _)))
  have t0 := t.cell 0
  simp at t0
  clear t
  have q := HK2.out _ (.tail _ (.head _))
  have q0 := q.cell 0
  have q1 := q.cell 1
  simp at q0 q1
  clear q
  go_wp2_with fail
  refine (C1.out _ HE2.out).mono ?_
  rintro e y3 ⟨rfl, hz⟩
  have HE3 := Lib.hid (below_then HE2.out hz); have HK3 := Lib.hid (HK2.out.on hz)
  clear hz HE2 HK2 C1 t0 q0 q1
  have t := HK3.out _ (.tail _ (.tail _ (.head _)))
  have t0 := t.cell 0
  simp at t0
  clear t
  have q := HK3.out _ (.tail _ (.head _))
  have q0 := q.cell 0
  have q1 := q.cell 1
  simp at q0 q1
  clear q
  go_wp2_with fail
  refine (C2.out _ HE3.out).mono ?_
  rintro e y4 ⟨rfl, hz⟩
  have HE4 := Lib.hid (below_then HE3.out hz); have HK4 := Lib.hid (HK3.out.on hz)
  clear hz HE3 HK3 C2 t0 q0 q1
  go_upto_region 6 with fail
  have HE5 := Lib.hid (below_then HE4.out (below_alloc1 y4 (.cells #[.int .i64 lo, .int .i64 hi] 23))); have HK5 := Lib.hid (HK4.out.new 23 #[.int .i64 lo, .int .i64 hi])
  have HD := Lib.hid (boxes_far HK4.out)
  have HZ := Lib.hid HE4.out.size
  obtain ⟨W5, hW⟩ : ∃ W', y4.alloc (.cells #[.int .i64 lo, .int .i64 hi] 23) = W' := ⟨_, rfl⟩
  rw [hW] at HE5 HK5 ⊢
  clear hW HE4 HK4
  obtain ⟨N, hN⟩ : ∃ N, y4.heap.size = N := ⟨_, rfl⟩
  rw [hN] at HK5 HD HZ ⊢
  clear hN
  have t := HK5.out _ (.tail _ (.tail _ (.tail _ (.head _))))
  have t0 := t.cell 0
  simp at t0
  clear t
  have q := HK5.out _ (.tail _ (.tail _ (.head _)))
  have q0 := q.cell 0
  have q1 := q.cell 1
  simp at q0 q1
  clear q
  go_wp2_with fail
  refine (C3.out _ HE5.out).mono ?_
  rintro e y6 ⟨rfl, hz⟩
  have HE6 := Lib.hid (below_then HE5.out hz); have HK6 := Lib.hid (HK5.out.on hz)
  clear hz HE5 HK5 C3 t0 q0 q1
  have t := HK6.out _ (.tail _ (.tail _ (.tail _ (.head _))))
  have t0 := t.cell 0
  simp at t0
  clear t
  have q := HK6.out _ (.tail _ (.tail _ (.head _)))
  have q0 := q.cell 0
  have q1 := q.cell 1
  simp at q0 q1
  clear q
  go_wp2_with fail
  refine (C4.out _ HE6.out).mono ?_
  rintro e y9 ⟨rfl, hz⟩
  have HE9 := Lib.hid (below_then HE6.out hz); have HK9 := Lib.hid (HK6.out.on hz)
  clear hz HE6 HK6 C4 t0 q0 q1
  go_wp2_with fail
  go_loopw [14, 15] (fun si sj wr => ∃ u u9, si = .int .i64 u ∧ sj = .int .i64 u9 ∧ lo ≤ u ∧ u < b ∧ b ≤ u9 ∧ u9 ≤ hi ∧ Boxes wr ((N, 23, #[.int .i64 lo, .int .i64 hi]) :: [(G + 1 + 1, 23, #[.int .i64 0, .int .i64 0]), (G + 1, 23, #[.int .i64 v0, .int .i64 v1]), (G, 26, #[.slice A n c])]) ∧ Below w.heap.size w wr) (fun si sj _ => (intOf sj - intOf si).toNat)
  case atStart => exact ⟨lo, hi, rfl, rfl, by omega, by omega, by omega, by omega, HK9.out, HE9.out⟩
  case round =>
    clear HE9 HK9
    obtain ⟨u, u9, rfl, rfl, u1, u2, u3, u4, hk, he⟩ := hrel
    have HK16 := Lib.hid hk; have HE16 := Lib.hid he
    clear hk he
    have k1 : IntKind.i64.wrap (u9 - u) = u9 - u := IntWalk.i64_in _ ⟨by omega, by omega⟩
    by_cases hlt : 1 < u9 - u
    · obtain ⟨q, hq, m1, m2⟩ := half_in hlt (by omega) (by omega)
      have k2 : IntKind.i64.wrap ((u9 - u).tdiv 2) = q := by rw [hq]; exact IntWalk.i64_in _ ⟨by omega, by omega⟩
      have k3 : IntKind.i64.wrap (u + q) = u + q := IntWalk.i64_in _ ⟨by omega, by omega⟩
      clear hq
      rcases Int.lt_or_le (u + q) b with hm | hm
      · have C5 := Lib.hid (fun W hW => CG.out W (u + q) false hW (by omega) (by omega) (hg1 (u + q) (by omega) (by omega)))
        have t := HK16.out _ (.tail _ (.tail _ (.tail _ (.head _))))
        have t0 := t.cell 0
        simp at t0
        clear t
        have q := HK16.out _ (.tail _ (.tail _ (.head _)))
        have q0 := q.cell 0
        have q1 := q.cell 1
        simp at q0 q1
        clear q
        go_wp2_with fail
        refine (C5.out _ HE16.out).mono ?_
        rintro e y7 ⟨rfl, hz⟩
        have HE17 := Lib.hid (below_then HE16.out hz); have HK17 := Lib.hid (HK16.out.on hz)
        clear hz HE16 HK16 C5 t0 q0 q1
        go_wp2
        go_roundw
        case rel => exact ⟨u + q, u9, rfl, rfl, by omega, by omega, by omega, by omega, HK17.out, HE17.out⟩
        case measure => simp [intOf]; omega
      · have C5 := Lib.hid (fun W hW => CG.out W (u + q) true hW (by omega) (by omega) (hg2 (u + q) (by omega) (by omega)))
        have t := HK16.out _ (.tail _ (.tail _ (.tail _ (.head _))))
        have t0 := t.cell 0
        simp at t0
        clear t
        have q := HK16.out _ (.tail _ (.tail _ (.head _)))
        have q0 := q.cell 0
        have q1 := q.cell 1
        simp at q0 q1
        clear q
        go_wp2_with fail
        refine (C5.out _ HE16.out).mono ?_
        rintro e y7 ⟨rfl, hz⟩
        have HE17 := Lib.hid (below_then HE16.out hz); have HK17 := Lib.hid (HK16.out.on hz)
        clear hz HE16 HK16 C5 t0 q0 q1
        go_wp2
        go_roundw
        case rel => exact ⟨u, u + q, rfl, rfl, by omega, by omega, by omega, by omega, HK17.out, HE17.out⟩
        case measure => simp [intOf]; omega
    · obtain rfl : u9 = u + 1 := by omega
      obtain rfl : b = u + 1 := by omega
      clear CG hg1 hg2 k1
      have o := HK16.out _ (.head _)
      have o0 := o.cell 0
      have of0 := o.frozen 0
      have o1 := o.cell 1
      have of1 := o.frozen 1
      have ol := o.lt
      simp at o0 of0 o1 of1
      clear o
      go_upto_region 24 with fail
      have HE18 := Lib.hid (Below.setCell HE16.out (p := ⟨N, 1, none⟩) (by have := HZ.out; have := HG.out; show w.heap.size ≤ N; omega) (.int .i64 (u + 1))); have HK18 := Lib.hid (Boxes.set1 HK16.out HD.out 1 (.int .i64 (u + 1)) #[.int .i64 lo, .int .i64 (u + 1)] rfl)
      clear o0 o1 of0 of1 ol
      obtain ⟨W18, hW⟩ : ∃ W', World.setCell wr ⟨N, 1, none⟩ (.int .i64 (u + 1)) = W' := ⟨_, rfl⟩
      rw [hW] at HE18 HK18 ⊢
      clear hW HE16 HK16
      have o := HK18.out _ (.head _)
      have o0 := o.cell 0
      have o1 := o.cell 1
      simp at o0 o1
      clear o
      have z := HK18.out _ (.tail _ (.head _))
      have z0 := z.cell 0
      have zf0 := z.frozen 0
      have z1 := z.cell 1
      have zf1 := z.frozen 1
      have zl := z.lt
      simp at z0 zf0 z1 zf1
      clear z
      go_wp2
      refine bodyPost_ret (v := .tuple #[rv lo (u + 1), .bool true]) (by simp [results, Tryz.results46, go_sem, z0, z1]) rfl ⟨by first | rfl | (congr 3; simp; done) | (congr 3; omega) | (congr 4 <;> omega), ?_⟩
      have hg := HG.out
      repeat (first | exact HE18.out | refine Below.setCell ?_ (by simp <;> omega) _)

set_option maxRecDepth 100000 in
set_option maxHeartbeats 4000000 in
theorem sInverse_both (A : Option Addr) (n c : Nat) (v0 v1 lo hi a b : Int) (fl : Bool) (f g : Int → Bool) (w : World) (CF : Hid (∀ W x t, Below w.heap.size w W → lo ≤ x → x ≤ hi → f x = t → Calls Tryz.prog 102 #[tv A n c, rv v0 v1, .int .i64 x, .bool fl] W fun e w' => e = .returned (.bool t) ∧ Below W.heap.size W w')) (CG : Hid (∀ W x t, Below w.heap.size w W → lo ≤ x → x ≤ hi → g x = t → Calls Tryz.prog 102 #[tv A n c, rv v0 v1, .int .i64 x, .bool (!fl)] W fun e w' => e = .returned (.bool t) ∧ Below W.heap.size W w')) (P1 : Hid (∀ W, Below w.heap.size w W → Calls Tryz.prog 101 #[tv A n c] W fun e w' => e = .returned (.int .i64 lo) ∧ Below W.heap.size W w')) (P2 : Hid (∀ W, Below w.heap.size w W → Calls Tryz.prog 60 #[tv A n c] W fun e w' => e = .returned (.int .i64 hi) ∧ Below W.heap.size W w')) (hlo : 0 ≤ lo) (hle : lo ≤ hi) (hhi : hi ≤ 1000000) (ha : lo ≤ a ∧ a ≤ hi + 1) (hb : lo ≤ b ∧ b ≤ hi + 1) (hf1 : ∀ v, lo ≤ v → v < a → f v = true) (hf2 : ∀ v, a ≤ v → v ≤ hi → f v = false) (hg1 : ∀ v, lo ≤ v → v < b → g v = false) (hg2 : ∀ v, b ≤ v → v ≤ hi → g v = true) (h : ¬ hi < a) (h' : ¬ b = lo) (j : lo < a) (j' : b ≤ hi) :
    Calls Tryz.prog 46 #[tv A n c, rv v0 v1, .bool fl] w fun e w' => e = .returned (.tuple #[rv (a - 1) b, .bool true]) ∧ Below w.heap.size w w' := by
  have HE := Lib.hid (show Below w.heap.size w (((w.alloc (.cells #[.slice A n c] 26)).alloc (.cells #[.int .i64 v0, .int .i64 v1] 23)).alloc (.cells #[.int .i64 0, .int .i64 0] 23)) from below_a3 (Below.refl _ _))
  have HK := Lib.hid (boxes3' w 26 23 23 #[.slice A n c] #[.int .i64 v0, .int .i64 v1] #[.int .i64 0, .int .i64 0])
  have C1 := Lib.hid (fun W hW => CF.out W hi false hW hle (by omega) (hf2 hi (by omega) (by omega)))
  have C2 := Lib.hid (fun W hW => CG.out W lo false hW (by omega) hle (hg1 lo (by omega) (by omega)))
  have C3 := Lib.hid (fun W hW => CF.out W lo true hW (by omega) hle (hf1 lo (by omega) (by omega)))
  have C4 := Lib.hid (fun W hW => CG.out W hi true hW hle (by omega) (hg2 hi (by omega) (by omega)))
  go_enter Tryz.func46, Tryz.ntmps46
  go_wp2_with fail
  obtain ⟨W0, hW0⟩ : ∃ W0, (((w.alloc (.cells #[.slice A n c] 26)).alloc (.cells #[.int .i64 v0, .int .i64 v1] 23)).alloc (.cells #[.int .i64 0, .int .i64 0] 23)) = W0 := ⟨_, rfl⟩
  rw [hW0] at HE HK ⊢
  clear hW0
  obtain ⟨G, hG⟩ : ∃ G, w.heap.size = G := ⟨_, rfl⟩
  rw [hG] at HK ⊢
  have HG := Lib.hid hG; clear hG
  have t := HK.out _ (.tail _ (.tail _ (.head _)))
  have t0 := t.cell 0
  simp at t0
  clear t
  go_upto_region 1 with fail
  refine (P1.out _ HE.out).mono ?_
  rintro e y1 ⟨rfl, hz⟩
  have HE1 := Lib.hid (below_then HE.out hz); have HK1 := Lib.hid (HK.out.on hz)
  clear hz HE HK P1 t0
  have t := HK1.out _ (.tail _ (.tail _ (.head _)))
  have t0 := t.cell 0
  simp at t0
  clear t
  go_wp2_with fail
  refine (P2.out _ HE1.out).mono ?_
  rintro e y2 ⟨rfl, hz⟩
  have HE2 := Lib.hid (below_then HE1.out hz); have HK2 := Lib.hid (HK1.out.on hz)
  clear hz HE1 HK1 P2 t0
  have t := HK2.out _ (.tail _ (.tail _ (.head _)))
  have t0 := t.cell 0
  simp at t0
  clear t
  have q := HK2.out _ (.tail _ (.head _))
  have q0 := q.cell 0
  have q1 := q.cell 1
  simp at q0 q1
  clear q
  go_wp2_with fail
  refine (C1.out _ HE2.out).mono ?_
  rintro e y3 ⟨rfl, hz⟩
  have HE3 := Lib.hid (below_then HE2.out hz); have HK3 := Lib.hid (HK2.out.on hz)
  clear hz HE2 HK2 C1 t0 q0 q1
  have t := HK3.out _ (.tail _ (.tail _ (.head _)))
  have t0 := t.cell 0
  simp at t0
  clear t
  have q := HK3.out _ (.tail _ (.head _))
  have q0 := q.cell 0
  have q1 := q.cell 1
  simp at q0 q1
  clear q
  go_wp2_with fail
  refine (C2.out _ HE3.out).mono ?_
  rintro e y4 ⟨rfl, hz⟩
  have HE4 := Lib.hid (below_then HE3.out hz); have HK4 := Lib.hid (HK3.out.on hz)
  clear hz HE3 HK3 C2 t0 q0 q1
  go_upto_region 6 with fail
  have HE5 := Lib.hid (below_then HE4.out (below_alloc1 y4 (.cells #[.int .i64 lo, .int .i64 hi] 23))); have HK5 := Lib.hid (HK4.out.new 23 #[.int .i64 lo, .int .i64 hi])
  have HD := Lib.hid (boxes_far HK4.out)
  have HZ := Lib.hid HE4.out.size
  obtain ⟨W5, hW⟩ : ∃ W', y4.alloc (.cells #[.int .i64 lo, .int .i64 hi] 23) = W' := ⟨_, rfl⟩
  rw [hW] at HE5 HK5 ⊢
  clear hW HE4 HK4
  obtain ⟨N, hN⟩ : ∃ N, y4.heap.size = N := ⟨_, rfl⟩
  rw [hN] at HK5 HD HZ ⊢
  clear hN
  have t := HK5.out _ (.tail _ (.tail _ (.tail _ (.head _))))
  have t0 := t.cell 0
  simp at t0
  clear t
  have q := HK5.out _ (.tail _ (.tail _ (.head _)))
  have q0 := q.cell 0
  have q1 := q.cell 1
  simp at q0 q1
  clear q
  go_wp2_with fail
  refine (C3.out _ HE5.out).mono ?_
  rintro e y6 ⟨rfl, hz⟩
  have HE6 := Lib.hid (below_then HE5.out hz); have HK6 := Lib.hid (HK5.out.on hz)
  clear hz HE5 HK5 C3 t0 q0 q1
  go_wp2_with fail
  go_loopw [11, 12] (fun si sj wr => ∃ x y, si = .int .i64 x ∧ sj = .int .i64 y ∧ lo ≤ x ∧ x < a ∧ a ≤ y ∧ y ≤ hi ∧ Boxes wr ((N, 23, #[.int .i64 lo, .int .i64 hi]) :: [(G + 1 + 1, 23, #[.int .i64 0, .int .i64 0]), (G + 1, 23, #[.int .i64 v0, .int .i64 v1]), (G, 26, #[.slice A n c])]) ∧ Below w.heap.size w wr) (fun si sj _ => (intOf sj - intOf si).toNat)
  case atStart => exact ⟨lo, hi, rfl, rfl, by omega, by omega, by omega, by omega, HK6.out, HE6.out⟩
  case round =>
    clear HE6 HK6
    obtain ⟨x, y, rfl, rfl, x1, x2, x3, x4, hk, he⟩ := hrel
    have HK6 := Lib.hid hk; have HE6 := Lib.hid he
    clear hk he
    have w1 : IntKind.i64.wrap (y - x) = y - x := IntWalk.i64_in _ ⟨by omega, by omega⟩
    by_cases hlt : 1 < y - x
    · obtain ⟨q, hq, m1, m2⟩ := half_in hlt (by omega) (by omega)
      have w2 : IntKind.i64.wrap ((y - x).tdiv 2) = q := by rw [hq]; exact IntWalk.i64_in _ ⟨by omega, by omega⟩
      have w3 : IntKind.i64.wrap (x + q) = x + q := IntWalk.i64_in _ ⟨by omega, by omega⟩
      clear hq
      rcases Int.lt_or_le (x + q) a with hm | hm
      · have C5 := Lib.hid (fun W hW => CF.out W (x + q) true hW (by omega) (by omega) (hf1 (x + q) (by omega) (by omega)))
        have t := HK6.out _ (.tail _ (.tail _ (.tail _ (.head _))))
        have t0 := t.cell 0
        simp at t0
        clear t
        have q := HK6.out _ (.tail _ (.tail _ (.head _)))
        have q0 := q.cell 0
        have q1 := q.cell 1
        simp at q0 q1
        clear q
        go_wp2_with fail
        refine (C5.out _ HE6.out).mono ?_
        rintro e y7 ⟨rfl, hz⟩
        have HE7 := Lib.hid (below_then HE6.out hz); have HK7 := Lib.hid (HK6.out.on hz)
        clear hz HE6 HK6 C5 t0 q0 q1
        go_wp2
        go_roundw
        case rel => exact ⟨x + q, y, rfl, rfl, by omega, by omega, by omega, by omega, HK7.out, HE7.out⟩
        case measure => simp [intOf]; omega
      · have C5 := Lib.hid (fun W hW => CF.out W (x + q) false hW (by omega) (by omega) (hf2 (x + q) (by omega) (by omega)))
        have t := HK6.out _ (.tail _ (.tail _ (.tail _ (.head _))))
        have t0 := t.cell 0
        simp at t0
        clear t
        have q := HK6.out _ (.tail _ (.tail _ (.head _)))
        have q0 := q.cell 0
        have q1 := q.cell 1
        simp at q0 q1
        clear q
        go_wp2_with fail
        refine (C5.out _ HE6.out).mono ?_
        rintro e y7 ⟨rfl, hz⟩
        have HE7 := Lib.hid (below_then HE6.out hz); have HK7 := Lib.hid (HK6.out.on hz)
        clear hz HE6 HK6 C5 t0 q0 q1
        go_wp2
        go_roundw
        case rel => exact ⟨x, x + q, rfl, rfl, by omega, by omega, by omega, by omega, HK7.out, HE7.out⟩
        case measure => simp [intOf]; omega
    · obtain rfl : y = x + 1 := by omega
      obtain rfl : a = x + 1 := by omega
      clear CF hf1 hf2 w1
      have o := HK6.out _ (.head _)
      have o0 := o.cell 0
      have of0 := o.frozen 0
      have o1 := o.cell 1
      have of1 := o.frozen 1
      have ol := o.lt
      simp at o0 of0 o1 of1
      clear o
      go_upto_region 15 with fail
      have HE8 := Lib.hid (Below.setCell HE6.out (p := ⟨N, 0, none⟩) (by have := HZ.out; have := HG.out; show w.heap.size ≤ N; omega) (.int .i64 x)); have HK8 := Lib.hid (Boxes.set1 HK6.out HD.out 0 (.int .i64 x) #[.int .i64 x, .int .i64 hi] rfl)
      clear o0 o1 of0 of1 ol
      obtain ⟨W8, hW⟩ : ∃ W', World.setCell wr ⟨N, 0, none⟩ (.int .i64 x) = W' := ⟨_, rfl⟩
      rw [hW] at HE8 HK8 ⊢
      clear hW HE6 HK6
      have t := HK8.out _ (.tail _ (.tail _ (.tail _ (.head _))))
      have t0 := t.cell 0
      simp at t0
      clear t
      have q := HK8.out _ (.tail _ (.tail _ (.head _)))
      have q0 := q.cell 0
      have q1 := q.cell 1
      simp at q0 q1
      clear q
      go_wp2_with fail
      refine (C4.out _ HE8.out).mono ?_
      rintro e y9 ⟨rfl, hz⟩
      have HE9 := Lib.hid (below_then HE8.out hz); have HK9 := Lib.hid (HK8.out.on hz)
      clear hz HE8 HK8 C4 t0 q0 q1
      go_wp2_with fail
      go_loopw [14, 15] (fun si sj wr => ∃ u u9, si = .int .i64 u ∧ sj = .int .i64 u9 ∧ lo ≤ u ∧ u < b ∧ b ≤ u9 ∧ u9 ≤ hi ∧ Boxes wr ((N, 23, #[.int .i64 x, .int .i64 hi]) :: [(G + 1 + 1, 23, #[.int .i64 0, .int .i64 0]), (G + 1, 23, #[.int .i64 v0, .int .i64 v1]), (G, 26, #[.slice A n c])]) ∧ Below w.heap.size w wr) (fun si sj _ => (intOf sj - intOf si).toNat)
      case atStart => exact ⟨lo, hi, rfl, rfl, by omega, by omega, by omega, by omega, HK9.out, HE9.out⟩
      case round =>
        clear HE9 HK9
        obtain ⟨u, u9, rfl, rfl, u1, u2, u3, u4, hk, he⟩ := hrel
        have HK16 := Lib.hid hk; have HE16 := Lib.hid he
        clear hk he
        have k1 : IntKind.i64.wrap (u9 - u) = u9 - u := IntWalk.i64_in _ ⟨by omega, by omega⟩
        by_cases hlt : 1 < u9 - u
        · obtain ⟨q, hq, m1, m2⟩ := half_in hlt (by omega) (by omega)
          have k2 : IntKind.i64.wrap ((u9 - u).tdiv 2) = q := by rw [hq]; exact IntWalk.i64_in _ ⟨by omega, by omega⟩
          have k3 : IntKind.i64.wrap (u + q) = u + q := IntWalk.i64_in _ ⟨by omega, by omega⟩
          clear hq
          rcases Int.lt_or_le (u + q) b with hm | hm
          · have C5 := Lib.hid (fun W hW => CG.out W (u + q) false hW (by omega) (by omega) (hg1 (u + q) (by omega) (by omega)))
            have t := HK16.out _ (.tail _ (.tail _ (.tail _ (.head _))))
            have t0 := t.cell 0
            simp at t0
            clear t
            have q := HK16.out _ (.tail _ (.tail _ (.head _)))
            have q0 := q.cell 0
            have q1 := q.cell 1
            simp at q0 q1
            clear q
            go_wp2_with fail
            refine (C5.out _ HE16.out).mono ?_
            rintro e y7 ⟨rfl, hz⟩
            have HE17 := Lib.hid (below_then HE16.out hz); have HK17 := Lib.hid (HK16.out.on hz)
            clear hz HE16 HK16 C5 t0 q0 q1
            go_wp2
            go_roundw
            case rel => exact ⟨u + q, u9, rfl, rfl, by omega, by omega, by omega, by omega, HK17.out, HE17.out⟩
            case measure => simp [intOf]; omega
          · have C5 := Lib.hid (fun W hW => CG.out W (u + q) true hW (by omega) (by omega) (hg2 (u + q) (by omega) (by omega)))
            have t := HK16.out _ (.tail _ (.tail _ (.tail _ (.head _))))
            have t0 := t.cell 0
            simp at t0
            clear t
            have q := HK16.out _ (.tail _ (.tail _ (.head _)))
            have q0 := q.cell 0
            have q1 := q.cell 1
            simp at q0 q1
            clear q
            go_wp2_with fail
            refine (C5.out _ HE16.out).mono ?_
            rintro e y7 ⟨rfl, hz⟩
            have HE17 := Lib.hid (below_then HE16.out hz); have HK17 := Lib.hid (HK16.out.on hz)
            clear hz HE16 HK16 C5 t0 q0 q1
            go_wp2
            go_roundw
            case rel => exact ⟨u, u + q, rfl, rfl, by omega, by omega, by omega, by omega, HK17.out, HE17.out⟩
            case measure => simp [intOf]; omega
        · obtain rfl : u9 = u + 1 := by omega
          obtain rfl : b = u + 1 := by omega
          clear CG hg1 hg2 k1
          have o := HK16.out _ (.head _)
          have o0 := o.cell 0
          have of0 := o.frozen 0
          have o1 := o.cell 1
          have of1 := o.frozen 1
          have ol := o.lt
          simp at o0 of0 o1 of1
          clear o
          go_upto_region 24 with fail
          have HE18 := Lib.hid (Below.setCell HE16.out (p := ⟨N, 1, none⟩) (by have := HZ.out; have := HG.out; show w.heap.size ≤ N; omega) (.int .i64 (u + 1))); have HK18 := Lib.hid (Boxes.set1 HK16.out HD.out 1 (.int .i64 (u + 1)) #[.int .i64 x, .int .i64 (u + 1)] rfl)
          clear o0 o1 of0 of1 ol
          obtain ⟨W18, hW⟩ : ∃ W', World.setCell wr ⟨N, 1, none⟩ (.int .i64 (u + 1)) = W' := ⟨_, rfl⟩
          rw [hW] at HE18 HK18 ⊢
          clear hW HE16 HK16
          have o := HK18.out _ (.head _)
          have o0 := o.cell 0
          have o1 := o.cell 1
          simp at o0 o1
          clear o
          have z := HK18.out _ (.tail _ (.head _))
          have z0 := z.cell 0
          have zf0 := z.frozen 0
          have z1 := z.cell 1
          have zf1 := z.frozen 1
          have zl := z.lt
          simp at z0 zf0 z1 zf1
          clear z
          go_wp2
          refine bodyPost_ret (v := .tuple #[rv x (u + 1), .bool true]) (by simp [results, Tryz.results46, go_sem, z0, z1]) rfl ⟨by first | rfl | (congr 3; simp; done) | (congr 3; omega) | (congr 4 <;> omega), ?_⟩
          have hg := HG.out
          repeat (first | exact HE18.out | refine Below.setCell ?_ (by simp <;> omega) _)
end

end Go.Proofs.YtbcefdaflnlhoaaGreat
