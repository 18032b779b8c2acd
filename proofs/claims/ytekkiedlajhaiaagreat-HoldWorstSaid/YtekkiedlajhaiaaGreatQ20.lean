/- The contracts of the functions by which a meaning is valid, and of CheckFill (hold). Their condition: the hold's tables lie in memory. -/
import Derived.Test.YtekkiedlajhaiaaGreatQ19
import Derived.Test.YtekkiedlajhaiaaGreatQ18
import Derived.Test.YtekkiedlajhaiaaGreatQ14
set_option linter.unusedVariables false
set_option linter.unusedSimpArgs false
set_option linter.constructorNameAsVariable false
namespace Go.Proofs.YtekkiedlajhaiaaGreat

section
open Go.RowKit
attribute [local go_sem ↓] eqlRange neqRange
theorem results_cell_tmp_row {P : Program} {fn : Func} {p q : Tmp} {ty : TypeId} (h : fn.results = #[.cell p ty, .tmp q]) (tmps : Array Value) (w : World) (g : Nat) (t : TypeId) (cs : Array Value) (fr : Nat × Nat) (d : TypeDesc) (x : Value)
    (hp : tmps.getD p undef = .pointer (some ⟨g, 0, none⟩)) (hq : tmps.getD q undef = x) (hg : w.heap[g]? = some (.cells cs t fr))
    (hu : P.underlying ty = some d) (hd : (match d with | .struct _ | .array _ _ => true | _ => false) = true) (hi : (P.info? ty).map (·.size) = some cs.size) :
    (results fn tmps).run P w = .ok (.tuple #[.agg cs, x]) w := by
  have hp' : tmps[p]?.getD undef = .pointer (some ⟨g, 0, none⟩) := by simpa using hp
  have hq' : tmps[q]?.getD undef = x := by simpa using hq
  simp [results, h, hp', hq', asAddr, run_loadVar_row w g t ty cs fr d hg hu hd hi]
theorem Boxes.set2 {W : World} {g : Nat} {t : TypeId} {x y : Value} {L : List (Nat × TypeId × Array Value)} (h : Boxes W ((g, t, #[x, y]) :: L)) (hg : ∀ p ∈ L, p.1 ≠ g) (a b : Value) :
    Boxes ((W.setCell ⟨g, 0, none⟩ a).setCell ⟨g, 1, none⟩ b) ((g, t, #[a, b]) :: L) := fun p hp => by
  rcases List.mem_cons.1 hp with rfl | hp
  · simpa using ((h _ (.head _)).set_ 0 a).set_ 1 b
  · exact ((h p (.tail _ hp)).far (p := ⟨g, 0, none⟩) (hg p hp) a).far (p := ⟨g, 1, none⟩) (hg p hp) b
def hulS (a b c d : Int) : Int × Int := ((hullS a b c d).1, (hullS a b c d).2.1)

set_option maxRecDepth 100000 in
set_option maxHeartbeats 4000000 in
theorem hhull_any (a b c d : Int) (w : World) :
  Calls Tryz.prog 130 #[rv a b, rv c d] w fun e w' => e = .returned (rv (hulS a b c d).1 (hulS a b c d).2) ∧ Below w.heap.size w w' := by
 have HE := Lib.hid (show Below w.heap.size w (((w.alloc (.cells #[.int .i64 a, .int .i64 b] 30)).alloc (.cells #[.int .i64 c, .int .i64 d] 30)).alloc (.cells #[.int .i64 0, .int .i64 0] 30)) from below_a3 (Below.refl _ _))
 have HK := Lib.hid (boxes3' w 30 30 30 #[.int .i64 a, .int .i64 b] #[.int .i64 c, .int .i64 d] #[.int .i64 0, .int .i64 0])
 have CC : Hid (∀ W, Calls Tryz.prog 171 #[rv a b, rv c d] W fun e w' => e = .returned (rt (hullS a b c d)) ∧ Below W.heap.size W w') := Lib.hid fun W => hull_any a b c d W
 unfold hulS
 generalize hullS a b c d = R at *
 obtain ⟨p, q, r⟩ := R
 go_enter Tryz.func130, Tryz.ntmps130
 go_wp2_with fail
 obtain ⟨W0, hW0⟩ : ∃ W0, (((w.alloc (.cells #[.int .i64 a, .int .i64 b] 30)).alloc (.cells #[.int .i64 c, .int .i64 d] 30)).alloc (.cells #[.int .i64 0, .int .i64 0] 30)) = W0 := ⟨_, rfl⟩
 rw [hW0] at HE HK ⊢
 clear hW0
 obtain ⟨G, hG⟩ : ∃ G, w.heap.size = G := ⟨_, rfl⟩
 rw [hG] at HK ⊢
 have HG := Lib.hid hG; clear hG
 refine (CC.out _).mono ?_
 rintro e w1 ⟨rfl, hb⟩
 have HE1 := Lib.hid (below_then (below_then HE.out hb) (below_alloc1 w1 (.cells #[.int .i64 p, .int .i64 q] 30))); have HK1 := Lib.hid ((HK.out.on hb).new 30 #[.int .i64 p, .int .i64 q])
 clear hb HE HK CC
 go_upto_region 2 with fail
 obtain ⟨W1, hW1⟩ : ∃ W1, w1.alloc (.cells #[.int .i64 p, .int .i64 q] 30) = W1 := ⟨_, rfl⟩
 rw [hW1] at HE1 HK1 ⊢
 clear hW1
 obtain ⟨N, hN⟩ : ∃ N, w1.heap.size = N := ⟨_, rfl⟩
 rw [hN] at HK1 ⊢
 clear hN
 have p := HK1.out _ (.head _)
 have p0 := p.cell 0
 have p1 := p.cell 1
 simp at p0 p1
 clear p
 have z := HK1.out _ (.tail _ (.head _))
 have z0 := z.cell 0
 have zf0 := z.frozen 0
 have z1 := z.cell 1
 have zf1 := z.frozen 1
 have zl := z.lt
 simp at z0 zf0 z1 zf1
 clear z
 go_wp2
 refine bodyPost_ret (v := rv p q) (by simp [results, Tryz.results130, go_sem, z0, z1]) rfl ⟨rfl, ?_⟩
 have hg := HG.out
 repeat (first | exact HE1.out | refine Below.setCell ?_ (by simp <;> omega) _)

def mixS (a b c d : Int) : Int × Int := if (a == 0 && b == 0) = true then (c, d) else if (c == 0 && d == 0) = true then (a, b) else hulS a b c d

set_option maxRecDepth 100000 in
set_option maxHeartbeats 4000000 in
theorem mix_any (a b c d : Int) (w : World) :
  Calls Tryz.prog 88 #[rv a b, rv c d] w fun e w' => e = .returned (rv (mixS a b c d).1 (mixS a b c d).2) ∧ Below w.heap.size w w' := by
 have HE := Lib.hid (show Below w.heap.size w (((w.alloc (.cells #[.int .i64 a, .int .i64 b] 30)).alloc (.cells #[.int .i64 c, .int .i64 d] 30)).alloc (.cells #[.int .i64 0, .int .i64 0] 30)) from below_a3 (Below.refl _ _))
 have HK := Lib.hid (boxes3' w 30 30 30 #[.int .i64 a, .int .i64 b] #[.int .i64 c, .int .i64 d] #[.int .i64 0, .int .i64 0])
 have CC : Hid (∀ W, Calls Tryz.prog 130 #[rv a b, rv c d] W fun e w' => e = .returned (rv (hulS a b c d).1 (hulS a b c d).2) ∧ Below W.heap.size W w') := Lib.hid fun W => hhull_any a b c d W
 cases g1 : (a == 0 && b == 0)
 ·cases g2 : (c == 0 && d == 0)
  ·have e : mixS a b c d = hulS a b c d := by unfold mixS; rw [g1, g2]; rfl
   rw [e]
   clear e
   generalize hulS a b c d = R at *
   obtain ⟨p, q⟩ := R
   go_enter Tryz.func88, Tryz.ntmps88
   go_wp2_with fail
   obtain ⟨W0, hW0⟩ : ∃ W0, (((w.alloc (.cells #[.int .i64 a, .int .i64 b] 30)).alloc (.cells #[.int .i64 c, .int .i64 d] 30)).alloc (.cells #[.int .i64 0, .int .i64 0] 30)) = W0 := ⟨_, rfl⟩
   rw [hW0] at HE HK ⊢
   clear hW0
   obtain ⟨G, hG⟩ : ∃ G, w.heap.size = G := ⟨_, rfl⟩
   rw [hG] at HK ⊢
   have HG := Lib.hid hG; clear hG
   refine (CC.out _).mono ?_
   rintro e w1 ⟨rfl, hb⟩
   have HE1 := Lib.hid (below_then HE.out hb); have HK1 := Lib.hid (HK.out.on hb)
   clear hb HE HK CC g1 g2
   have z := HK1.out _ (.head _)
   have z0 := z.cell 0
   have zf0 := z.frozen 0
   have z1 := z.cell 1
   have zf1 := z.frozen 1
   have zl := z.lt
   simp at z0 zf0 z1 zf1
   clear z
   go_wp2
   refine bodyPost_ret (v := rv p q) (by simp [results, Tryz.results88, go_sem, z0, z1]) rfl ⟨rfl, ?_⟩
   have hg := HG.out
   repeat (first | exact HE1.out | refine Below.setCell ?_ (by simp <;> omega) _)
  ·have e : mixS a b c d = (a, b) := by unfold mixS; rw [g1, g2]; rfl
   rw [e]
   clear e CC HK
   go_enter Tryz.func88, Tryz.ntmps88
   go_wp2
   refine bodyPost_ret (v := rv a b) (by simp [results, Tryz.results88, go_sem]) rfl ⟨rfl, ?_⟩
   repeat (first | exact HE.out | exact Below.refl _ _ | refine Below.setCell ?_ (by simp <;> omega) _ | refine Below.alloc ?_ (by simp <;> omega) _)
 ·have e : mixS a b c d = (c, d) := by unfold mixS; rw [g1]; rfl
  rw [e]
  clear e CC HK
  go_enter Tryz.func88, Tryz.ntmps88
  go_wp2
  refine bodyPost_ret (v := rv c d) (by simp [results, Tryz.results88, go_sem]) rfl ⟨rfl, ?_⟩
  repeat (first | exact HE.out | exact Below.refl _ _ | refine Below.setCell ?_ (by simp <;> omega) _ | refine Below.alloc ?_ (by simp <;> omega) _)

abbrev ft (r : FillD × Int) : Value := .tuple #[fillV r.1, .int .i64 r.2]
def noFill : FillD := ⟨0, 0, 0, 0, 0, 0⟩
def movedS (ps : List P3) (id x y a0 a1 d0 d1 : Int) : FillD × Int :=
  if (ullS ps x y).2.2 = 0 then (if (meetS (ullS ps x y).1 (ullS ps x y).2.1 a0 a1).2.2 = 0 then (⟨id, 3, (meetS (ullS ps x y).1 (ullS ps x y).2.1 a0 a1).1, (meetS (ullS ps x y).1 (ullS ps x y).2.1 a0 a1).2.1, d0, d1⟩, 0) else (noFill, 24)) else (noFill, (ullS ps x y).2.2)

set_option maxRecDepth 100000 in
set_option maxHeartbeats 4000000 in
theorem moved_any (ps : List P3) (id al ah t0 t1 u0 u1 v0 v1 h0 h1 : Int) (A B C : Option Addr) (n c mm d l ee : Nat) (x y a0 a1 d0 d1 : Int) (w : World) (hp : TabIn w A n ps) (ht : tabOk ps = true) (hle : firstX ps ≤ lastX ps) :
  Calls Tryz.prog 87 #[.agg #[.int .i64 id, .int .i64 al, .int .i64 ah, .slice A n c, .slice B mm d, .slice C l ee, .int .i64 t0, .int .i64 t1, .int .i64 u0, .int .i64 u1, .int .i64 v0, .int .i64 v1, .int .i64 h0, .int .i64 h1], rv x y, rv a0 a1, rv d0 d1] w fun e w' => e = .returned (ft (movedS ps id x y a0 a1 d0 d1)) ∧ Below w.heap.size w w' := by
 have HE := Lib.hid (show Below w.heap.size w (((((w.alloc (.cells #[.int .i64 id, .int .i64 al, .int .i64 ah, .slice A n c, .slice B mm d, .slice C l ee, .int .i64 t0, .int .i64 t1, .int .i64 u0, .int .i64 u1, .int .i64 v0, .int .i64 v1, .int .i64 h0, .int .i64 h1] 50)).alloc (.cells #[.int .i64 x, .int .i64 y] 30)).alloc (.cells #[.int .i64 a0, .int .i64 a1] 30)).alloc (.cells #[.int .i64 d0, .int .i64 d1] 30)).alloc (.cells #[.int .i64 0, .int .i64 0, .int .i64 0, .int .i64 0, .int .i64 0, .int .i64 0] 53)) from below_a5 (Below.refl _ _))
 have HK := Lib.hid (boxes5' w 50 30 30 30 53 #[.int .i64 id, .int .i64 al, .int .i64 ah, .slice A n c, .slice B mm d, .slice C l ee, .int .i64 t0, .int .i64 t1, .int .i64 u0, .int .i64 u1, .int .i64 v0, .int .i64 v1, .int .i64 h0, .int .i64 h1] #[.int .i64 x, .int .i64 y] #[.int .i64 a0, .int .i64 a1] #[.int .i64 d0, .int .i64 d1] #[.int .i64 0, .int .i64 0, .int .i64 0, .int .i64 0, .int .i64 0, .int .i64 0])
 obtain ⟨R, hR⟩ : ∃ R, movedS ps id x y a0 a1 d0 d1 = R := ⟨_, rfl⟩
 obtain ⟨U, hU⟩ : ∃ U, ullS ps x y = U := ⟨_, rfl⟩
 have C1 : Hid (∀ W, Below w.heap.size w W → Calls Tryz.prog 83 #[.agg #[.int .i64 id, .int .i64 al, .int .i64 ah, .slice A n c, .slice B mm d, .slice C l ee, .int .i64 t0, .int .i64 t1, .int .i64 u0, .int .i64 u1, .int .i64 v0, .int .i64 v1, .int .i64 h0, .int .i64 h1], rv x y] W fun e w' => e = .returned (rt U) ∧ Below W.heap.size W w') := Lib.hid fun W hW => by
  rw [← hU]; exact ullages_any ps id al ah t0 t1 u0 u1 v0 v1 h0 h1 A B C n c mm d l ee x y W (hp.below hW) ht hle
 have HR := Lib.hid hR
 rw [hR]
 unfold movedS at HR
 rw [hU] at HR
 clear hR hU hp ht hle
 obtain ⟨p, q, r⟩ := U
 have C2 : Hid (∀ W, Calls Tryz.prog 129 #[rv p q, rv a0 a1] W fun e w' => e = .returned (rt (meetS p q a0 a1)) ∧ Below W.heap.size W w') := Lib.hid fun W => meet_any p q a0 a1 W
 dsimp only at HR
 generalize meetS p q a0 a1 = M at *
 obtain ⟨j, k, e2⟩ := M
 dsimp only at HR
 go_enter Tryz.func87, Tryz.ntmps87
 go_wp2_with fail
 obtain ⟨W0, hW0⟩ : ∃ W0, (((((w.alloc (.cells #[.int .i64 id, .int .i64 al, .int .i64 ah, .slice A n c, .slice B mm d, .slice C l ee, .int .i64 t0, .int .i64 t1, .int .i64 u0, .int .i64 u1, .int .i64 v0, .int .i64 v1, .int .i64 h0, .int .i64 h1] 50)).alloc (.cells #[.int .i64 x, .int .i64 y] 30)).alloc (.cells #[.int .i64 a0, .int .i64 a1] 30)).alloc (.cells #[.int .i64 d0, .int .i64 d1] 30)).alloc (.cells #[.int .i64 0, .int .i64 0, .int .i64 0, .int .i64 0, .int .i64 0, .int .i64 0] 53)) = W0 := ⟨_, rfl⟩
 rw [hW0] at HE HK ⊢
 clear hW0
 obtain ⟨G, hG⟩ : ∃ G, w.heap.size = G := ⟨_, rfl⟩
 rw [hG] at HK ⊢
 have HG := Lib.hid hG; clear hG
 refine (C1.out _ HE.out).mono ?_
 rintro e w1 ⟨rfl, hb⟩
 have HE1 := Lib.hid (below_then (below_then HE.out hb) (below_alloc1 w1 (.cells #[.int .i64 p, .int .i64 q] 30))); have HK1 := Lib.hid ((HK.out.on hb).new 30 #[.int .i64 p, .int .i64 q])
 have hlt := (HK.out.on hb _ (.head _)).lt
 clear hb HE HK C1
 go_upto_region 2 with fail
 obtain ⟨W1, hW1⟩ : ∃ W1, w1.alloc (.cells #[.int .i64 p, .int .i64 q] 30) = W1 := ⟨_, rfl⟩
 rw [hW1] at HE1 HK1 ⊢
 clear hW1
 obtain ⟨N, hN⟩ : ∃ N, w1.heap.size = N := ⟨_, rfl⟩
 rw [hN] at HK1 hlt ⊢
 clear hN
 by_cases g : r = 0
 ·subst g
  have p := HK1.out _ (.head _)
  have p0 := p.cell 0
  have pf0 := p.frozen 0
  have p1 := p.cell 1
  have pf1 := p.frozen 1
  simp at p0 pf0 p1 pf1
  clear p
  have aa := HK1.out _ (.tail _ (.tail _ (.tail _ (.head _))))
  have aa0 := aa.cell 0
  have aa1 := aa.cell 1
  simp at aa0 aa1
  clear aa
  go_wp2_with fail
  refine (C2.out _).mono ?_
  rintro e w2 ⟨rfl, hb⟩
  have hne : ∀ p ∈ ([(G + 1 + 1 + 1 + 1, 53, #[.int .i64 0, .int .i64 0, .int .i64 0, .int .i64 0, .int .i64 0, .int .i64 0]), (G + 1 + 1 + 1, 30, #[.int .i64 d0, .int .i64 d1]), (G + 1 + 1, 30, #[.int .i64 a0, .int .i64 a1]), (G + 1, 30, #[.int .i64 x, .int .i64 y]), (G, 50, #[.int .i64 id, .int .i64 al, .int .i64 ah, .slice A n c, .slice B mm d, .slice C l ee, .int .i64 t0, .int .i64 t1, .int .i64 u0, .int .i64 u1, .int .i64 v0, .int .i64 v1, .int .i64 h0, .int .i64 h1])] : List (Nat × TypeId × Array Value)), p.1 ≠ N := by
   intro p hp
   simp only [List.mem_cons, List.not_mem_nil, or_false] at hp
   rcases hp with rfl | rfl | rfl | rfl | rfl <;> (dsimp only; omega)
  have HE2 := Lib.hid (((below_then HE1.out hb).setCell (p := ⟨N, 0, none⟩) (by have := HG.out; simp; omega) (.int .i64 j)).setCell (p := ⟨N, 1, none⟩) (by have := HG.out; simp; omega) (.int .i64 k))
  have HK2 := Lib.hid (Boxes.set2 (HK1.out.on hb) hne (.int .i64 j) (.int .i64 k))
  have HKb := Lib.hid (HK1.out.on hb)
  clear hb HE1 HK1 C2 hne p0 p1 pf0 pf1
  have b := HKb.out _ (.head _)
  have b0 := b.cell 0
  have bf0 := b.frozen 0
  have b1 := b.cell 1
  have bf1 := b.frozen 1
  simp at b0 bf0 b1 bf1
  clear b
  go_upto_region 5 with fail
  obtain ⟨W3, hW3⟩ : ∃ W3, (w2.setCell ⟨N, 0, none⟩ (.int .i64 j)).setCell ⟨N, 1, none⟩ (.int .i64 k) = W3 := ⟨_, rfl⟩
  rw [hW3] at HE2 HK2 ⊢
  clear hW3 HKb b0 b1 bf0 bf1
  by_cases g2 : e2 = 0
  ·have eR : R = (⟨id, 3, j, k, d0, d1⟩, 0) := by rw [← HR.out]; simp [g2]
   subst eR
   subst g2
   clear HR
   have p := HK2.out _ (.head _)
   have p0 := p.cell 0
   have p1 := p.cell 1
   simp at p0 p1
   clear p
   have r := HK2.out _ (.tail _ (.tail _ (.head _)))
   have r0 := r.cell 0
   have r1 := r.cell 1
   simp at r0 r1
   clear r
   have s := HK2.out _ (.tail _ (.tail _ (.tail _ (.tail _ (.tail _ (.head _))))))
   have s0 := s.cell 0
   simp at s0
   clear s
   go_upto_region 7 with fail
   refine wp_region_lit ?_
   refine wpList_plain rfl (fun K hK => ?_)
   go_simp
   refine hK _ _ ?_
   clear hK K
   refine wpList_plain rfl (fun K hK => ?_)
   go_simp
   refine hK _ _ ?_
   clear hK K
   refine wpList_plain rfl (fun K hK => ?_)
   go_simp
   refine hK _ _ ?_
   clear hK K
   refine wpList_plain rfl (fun K hK => ?_)
   go_simp
   refine hK _ _ ?_
   clear hK K
   refine wpList_plain rfl (fun K hK => ?_)
   go_simp
   refine hK _ _ ?_
   clear hK K
   have HKR : Hid (Blk (W3.setRow (G + 1 + 1 + 1 + 1) #[.int .i64 id, .int .i64 3, .int .i64 j, .int .i64 k, .int .i64 d0, .int .i64 d1]) (G + 1 + 1 + 1 + 1) 53 #[.int .i64 id, .int .i64 3, .int .i64 j, .int .i64 k, .int .i64 d0, .int .i64 d1]) := Lib.hid (setRow_heap W3 (G + 1 + 1 + 1 + 1) _ _ 53 _ (HK2.out _ (.tail _ (.head _))))
   have HE9 := Lib.hid (below_setRow HE2.out (show w.heap.size ≤ G + 1 + 1 + 1 + 1 by have := HG.out; omega) #[.int .i64 id, .int .i64 3, .int .i64 j, .int .i64 k, .int .i64 d0, .int .i64 d1])
   refine wpList_store_row rfl 53 (.tmp 8) (.tmp 35) rfl (G + 1 + 1 + 1 + 1) #[.int .i64 id, .int .i64 3, .int .i64 j, .int .i64 k, .int .i64 d0, .int .i64 d1] rfl rfl 53 _ (HK2.out _ (.tail _ (.head _))) (by kernel_rfl) rfl (by kernel_rfl) ?_
   obtain ⟨W9, hW9⟩ : ∃ W9, W3.setRow (G + 1 + 1 + 1 + 1) #[.int .i64 id, .int .i64 3, .int .i64 j, .int .i64 k, .int .i64 d0, .int .i64 d1] = W9 := ⟨_, rfl⟩
   rw [hW9] at HKR HE9 ⊢
   clear hW9
   go_wp2
   exact bodyPost_ret (v := .tuple #[.agg #[.int .i64 id, .int .i64 3, .int .i64 j, .int .i64 k, .int .i64 d0, .int .i64 d1], .int .i64 0]) (results_cell_tmp_row Tryz.results87 _ _ (G + 1 + 1 + 1 + 1) 53 #[.int .i64 id, .int .i64 3, .int .i64 j, .int .i64 k, .int .i64 d0, .int .i64 d1] (0, 0) _ _ rfl rfl HKR.out Tryz.underlying53 rfl (by kernel_rfl)) rfl ⟨rfl, HE9.out⟩
  ·have eR : R = (noFill, 24) := by rw [← HR.out]; simp [g2]
   subst eR
   clear HR
   go_upto_region 6 with fail
   refine wp_region_lit ?_
   refine wpList_plain rfl (fun K hK => ?_)
   go_simp
   refine hK _ _ ?_
   clear hK K
   have HKR : Hid (Blk (W3.setRow (G + 1 + 1 + 1 + 1) #[.int .i64 0, .int .i64 0, .int .i64 0, .int .i64 0, .int .i64 0, .int .i64 0]) (G + 1 + 1 + 1 + 1) 53 #[.int .i64 0, .int .i64 0, .int .i64 0, .int .i64 0, .int .i64 0, .int .i64 0]) := Lib.hid (setRow_heap W3 (G + 1 + 1 + 1 + 1) _ _ 53 _ (HK2.out _ (.tail _ (.head _))))
   have HE9 := Lib.hid (below_setRow HE2.out (show w.heap.size ≤ G + 1 + 1 + 1 + 1 by have := HG.out; omega) #[.int .i64 0, .int .i64 0, .int .i64 0, .int .i64 0, .int .i64 0, .int .i64 0])
   refine wpList_store_row rfl 53 (.tmp 8) (.tmp 30) rfl (G + 1 + 1 + 1 + 1) #[.int .i64 0, .int .i64 0, .int .i64 0, .int .i64 0, .int .i64 0, .int .i64 0] rfl rfl 53 _ (HK2.out _ (.tail _ (.head _))) (by kernel_rfl) rfl (by kernel_rfl) ?_
   obtain ⟨W9, hW9⟩ : ∃ W9, W3.setRow (G + 1 + 1 + 1 + 1) #[.int .i64 0, .int .i64 0, .int .i64 0, .int .i64 0, .int .i64 0, .int .i64 0] = W9 := ⟨_, rfl⟩
   rw [hW9] at HKR HE9 ⊢
   clear hW9
   go_wp2
   exact bodyPost_ret (v := .tuple #[.agg #[.int .i64 0, .int .i64 0, .int .i64 0, .int .i64 0, .int .i64 0, .int .i64 0], .int .i64 24]) (results_cell_tmp_row Tryz.results87 _ _ (G + 1 + 1 + 1 + 1) 53 #[.int .i64 0, .int .i64 0, .int .i64 0, .int .i64 0, .int .i64 0, .int .i64 0] (0, 0) _ _ rfl rfl HKR.out Tryz.underlying53 rfl (by kernel_rfl)) rfl ⟨rfl, HE9.out⟩
 ·have eR : R = (noFill, r) := by rw [← HR.out, if_neg g]
  subst eR
  clear HR C2
  go_upto_region 3 with fail
  refine wp_region_lit ?_
  refine wpList_plain rfl (fun K hK => ?_)
  go_simp
  refine hK _ _ ?_
  clear hK K
  refine wpList_plain rfl (fun K hK => ?_)
  go_simp
  refine hK _ _ ?_
  clear hK K
  have HKR : Hid (Blk (W1.setRow (G + 1 + 1 + 1 + 1) #[.int .i64 0, .int .i64 0, .int .i64 0, .int .i64 0, .int .i64 0, .int .i64 0]) (G + 1 + 1 + 1 + 1) 53 #[.int .i64 0, .int .i64 0, .int .i64 0, .int .i64 0, .int .i64 0, .int .i64 0]) := Lib.hid (setRow_heap W1 (G + 1 + 1 + 1 + 1) _ _ 53 _ (HK1.out _ (.tail _ (.head _))))
  have HE9 := Lib.hid (below_setRow HE1.out (show w.heap.size ≤ G + 1 + 1 + 1 + 1 by have := HG.out; omega) #[.int .i64 0, .int .i64 0, .int .i64 0, .int .i64 0, .int .i64 0, .int .i64 0])
  refine wpList_store_row rfl 53 (.tmp 8) (.tmp 20) rfl (G + 1 + 1 + 1 + 1) #[.int .i64 0, .int .i64 0, .int .i64 0, .int .i64 0, .int .i64 0, .int .i64 0] rfl rfl 53 _ (HK1.out _ (.tail _ (.head _))) (by kernel_rfl) rfl (by kernel_rfl) ?_
  obtain ⟨W9, hW9⟩ : ∃ W9, W1.setRow (G + 1 + 1 + 1 + 1) #[.int .i64 0, .int .i64 0, .int .i64 0, .int .i64 0, .int .i64 0, .int .i64 0] = W9 := ⟨_, rfl⟩
  rw [hW9] at HKR HE9 ⊢
  clear hW9
  go_wp2
  exact bodyPost_ret (v := .tuple #[.agg #[.int .i64 0, .int .i64 0, .int .i64 0, .int .i64 0, .int .i64 0, .int .i64 0], .int .i64 r]) (results_cell_tmp_row Tryz.results87 _ _ (G + 1 + 1 + 1 + 1) 53 #[.int .i64 0, .int .i64 0, .int .i64 0, .int .i64 0, .int .i64 0, .int .i64 0] (0, 0) _ _ rfl rfl HKR.out Tryz.underlying53 rfl (by kernel_rfl)) rfl ⟨rfl, HE9.out⟩
end

section
open Go.RowKit

theorem eqlFillS (a b c d e f a' b' c' d' e' f' : Int) (w : World) : (binOp .eql 53 (.agg #[.int .i64 a, .int .i64 b, .int .i64 c, .int .i64 d, .int .i64 e, .int .i64 f]) (.agg #[.int .i64 a', .int .i64 b', .int .i64 c', .int .i64 d', .int .i64 e', .int .i64 f'])).run Tryz.prog w = .ok (.bool ((a == a' && b == b') && ((c == c' && d == d') && (e == e' && f == f')))) w := eqlFill a b c d e f a' b' c' d' e' f' _ rfl w
attribute [local go_sem ↓] eqlFillS
set_option maxRecDepth 100000 in
set_option maxHeartbeats 4000000 in
theorem emptyVal_to (id al ah t0 t1 u0 u1 v0 v1 h0 h1 : Int) (A B C : Option Addr) (n c mm d l ee : Nat) (x0 x1 d0 d1 : Int) (ne nd : Bool) (w : World) (g1 : (x0 == 0 && x1 == 0) = ne) (g2 : (d0 == 0 && d1 == 0) = nd) :
  Calls Tryz.prog 175 #[.agg #[.int .i64 id, .int .i64 al, .int .i64 ah, .slice A n c, .slice B mm d, .slice C l ee, .int .i64 t0, .int .i64 t1, .int .i64 u0, .int .i64 u1, .int .i64 v0, .int .i64 v1, .int .i64 h0, .int .i64 h1], .agg #[.int .i64 id, .int .i64 0, .int .i64 x0, .int .i64 x1, .int .i64 d0, .int .i64 d1]] w fun e w' => e = .returned (.bool (ne && nd)) ∧ Below w.heap.size w w' := by
 cases ne <;> cases nd
 all_goals
  go_enter Tryz.func175, Tryz.ntmps175
  go_wp2
  go_ret
  exact ⟨rfl, below_a2 (Below.refl _ _)⟩

set_option maxRecDepth 100000 in
set_option maxHeartbeats 4000000 in
theorem filledVal_to (id al ah t0 t1 u0 u1 v0 v1 h0 h1 : Int) (A B C : Option Addr) (n c mm d l ee : Nat) (st x0 x1 d0 d1 : Int) (ne bd : Bool) (w : World) (g1 : (x0 == 0 && x1 == 0) = ne) (g2 : densS d0 d1 = bd) :
  Calls Tryz.prog 178 #[.agg #[.int .i64 id, .int .i64 al, .int .i64 ah, .slice A n c, .slice B mm d, .slice C l ee, .int .i64 t0, .int .i64 t1, .int .i64 u0, .int .i64 u1, .int .i64 v0, .int .i64 v1, .int .i64 h0, .int .i64 h1], .agg #[.int .i64 id, .int .i64 st, .int .i64 x0, .int .i64 x1, .int .i64 d0, .int .i64 d1]] w fun e w' => e = .returned (.bool (ne && bd)) ∧ Below w.heap.size w w' := by
 have HE := Lib.hid (show Below w.heap.size w ((w.alloc (.cells #[.int .i64 id, .int .i64 al, .int .i64 ah, .slice A n c, .slice B mm d, .slice C l ee, .int .i64 t0, .int .i64 t1, .int .i64 u0, .int .i64 u1, .int .i64 v0, .int .i64 v1, .int .i64 h0, .int .i64 h1] 50)).alloc (.cells #[.int .i64 id, .int .i64 st, .int .i64 x0, .int .i64 x1, .int .i64 d0, .int .i64 d1] 53)) from below_a2 (Below.refl _ _))
 have HK := Lib.hid (boxes2' w 50 53 #[.int .i64 id, .int .i64 al, .int .i64 ah, .slice A n c, .slice B mm d, .slice C l ee, .int .i64 t0, .int .i64 t1, .int .i64 u0, .int .i64 u1, .int .i64 v0, .int .i64 v1, .int .i64 h0, .int .i64 h1] #[.int .i64 id, .int .i64 st, .int .i64 x0, .int .i64 x1, .int .i64 d0, .int .i64 d1])
 have CC : Hid (∀ W, Calls Tryz.prog 95 #[rv d0 d1] W fun e w' => e = .returned (.bool bd) ∧ Below W.heap.size W w') := Lib.hid fun W => isDensity_to d0 d1 bd W g2
 clear g2
 cases ne
 ·clear HK CC
  go_enter Tryz.func178, Tryz.ntmps178
  go_wp2
  go_ret
  exact ⟨rfl, HE.out⟩
 ·go_enter Tryz.func178, Tryz.ntmps178
  go_wp2_with fail
  refine (CC.out _).mono ?_
  rintro e w1 ⟨rfl, hb⟩
  have HE1 := Lib.hid (below_then HE.out hb)
  clear hb HE HK CC g1
  cases bd
  all_goals
   go_wp2
   go_ret
   exact ⟨rfl, HE1.out⟩

set_option maxRecDepth 100000 in
set_option maxHeartbeats 4000000 in
theorem partlyVal_to (ps : List P3) (id al ah t0 t1 u0 u1 v0 v1 h0 h1 : Int) (A B C : Option Addr) (n c mm d l ee : Nat) (st x0 x1 d0 d1 : Int) (bi bd : Bool) (w : World) (hp : TabIn w A n ps) (ht : tabOk ps = true) (g1 : inB x0 x1 (firstX ps) (lastX ps) = bi) (g2 : densS d0 d1 = bd) :
  Calls Tryz.prog 182 #[.agg #[.int .i64 id, .int .i64 al, .int .i64 ah, .slice A n c, .slice B mm d, .slice C l ee, .int .i64 t0, .int .i64 t1, .int .i64 u0, .int .i64 u1, .int .i64 v0, .int .i64 v1, .int .i64 h0, .int .i64 h1], .agg #[.int .i64 id, .int .i64 st, .int .i64 x0, .int .i64 x1, .int .i64 d0, .int .i64 d1]] w fun e w' => e = .returned (.bool (bi && bd)) ∧ Below w.heap.size w w' := by
 have HE := Lib.hid (show Below w.heap.size w ((w.alloc (.cells #[.int .i64 id, .int .i64 al, .int .i64 ah, .slice A n c, .slice B mm d, .slice C l ee, .int .i64 t0, .int .i64 t1, .int .i64 u0, .int .i64 u1, .int .i64 v0, .int .i64 v1, .int .i64 h0, .int .i64 h1] 50)).alloc (.cells #[.int .i64 id, .int .i64 st, .int .i64 x0, .int .i64 x1, .int .i64 d0, .int .i64 d1] 53)) from below_a2 (Below.refl _ _))
 have HK := Lib.hid (boxes2' w 50 53 #[.int .i64 id, .int .i64 al, .int .i64 ah, .slice A n c, .slice B mm d, .slice C l ee, .int .i64 t0, .int .i64 t1, .int .i64 u0, .int .i64 u1, .int .i64 v0, .int .i64 v1, .int .i64 h0, .int .i64 h1] #[.int .i64 id, .int .i64 st, .int .i64 x0, .int .i64 x1, .int .i64 d0, .int .i64 d1])
 have C1 : Hid (∀ W, Below w.heap.size w W → Calls Tryz.prog 96 #[rv x0 x1, tv A n c] W fun e w' => e = .returned (.bool bi) ∧ Below W.heap.size W w') := Lib.hid fun W hW => inPlaces_to A n c ps x0 x1 bi W (hp.below hW) ht g1
 have C2 : Hid (∀ W, Calls Tryz.prog 95 #[rv d0 d1] W fun e w' => e = .returned (.bool bd) ∧ Below W.heap.size W w') := Lib.hid fun W => isDensity_to d0 d1 bd W g2
 clear g2 g1 ht hp
 go_enter Tryz.func182, Tryz.ntmps182
 go_wp2_with fail
 obtain ⟨W0, hW0⟩ : ∃ W0, ((w.alloc (.cells #[.int .i64 id, .int .i64 al, .int .i64 ah, .slice A n c, .slice B mm d, .slice C l ee, .int .i64 t0, .int .i64 t1, .int .i64 u0, .int .i64 u1, .int .i64 v0, .int .i64 v1, .int .i64 h0, .int .i64 h1] 50)).alloc (.cells #[.int .i64 id, .int .i64 st, .int .i64 x0, .int .i64 x1, .int .i64 d0, .int .i64 d1] 53)) = W0 := ⟨_, rfl⟩
 rw [hW0] at HE HK ⊢
 clear hW0
 obtain ⟨G, hG⟩ : ∃ G, w.heap.size = G := ⟨_, rfl⟩
 rw [hG] at HK ⊢
 have HG := Lib.hid hG; clear hG
 refine (C1.out _ HE.out).mono ?_
 rintro e w1 ⟨rfl, hb⟩
 have HE1 := Lib.hid (below_then HE.out hb)
 have HK1 := Lib.hid (HK.out.on hb)
 clear hb HE HK C1
 cases bi
 ·clear HK1
  go_wp2
  go_ret
  exact ⟨rfl, HE1.out⟩
 have q := HK1.out _ (.head _)
 have q4 := q.cell 4
 have q5 := q.cell 5
 simp at q4 q5
 clear q
 go_wp2_with fail
 refine (C2.out _).mono ?_
 rintro e w2 ⟨rfl, hb⟩
 have HE2 := Lib.hid (below_then HE1.out hb)
 clear hb HE1 HK1 C2 q4 q5
 cases bd
 all_goals
  go_wp2
  go_ret
  exact ⟨rfl, HE2.out⟩
end

end Go.Proofs.YtekkiedlajhaiaaGreat
