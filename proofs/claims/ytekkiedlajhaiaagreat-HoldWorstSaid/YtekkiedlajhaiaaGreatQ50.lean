/- What is wanted besides of the texts ahead. -/
import Derived.Deep.AppendLies
import Derived.Deep.Onto
import Derived.Test.YtekkiedlajhaiaaGreatQ07
import Derived.Test.YtekkiedlajhaiaaGreatQ03
import Derived.Deep.Slices
import Derived.Deep.Strs
import Derived.Test.YtekkiedlajhaiaaGreatQ00
import Derived.Deep.DeepCutAuto
import Derived.Test.YtekkiedlajhaiaaGreatQ26
import Derived.Test.YtekkiedlajhaiaaGreatQ17
import Derived.Test.YtekkiedlajhaiaaGreatQ04
import Derived.Test.YtekkiedlajhaiaaGreatQ08
import Derived.StillTailTactics
import Derived.RegionTactic
import Derived.BigQuiet
import Derived.Deep.RegionHeld3
import Derived.Test.YtekkiedlajhaiaaGreatQ09
import Derived.Test.YtekkiedlajhaiaaGreatQ23
import Derived.Test.YtekkiedlajhaiaaGreatQ21
import Derived.Test.YtekkiedlajhaiaaGreatQ18
import Derived.Test.YtekkiedlajhaiaaGreatQ22
import Derived.Test.YtekkiedlajhaiaaGreatQ25
import Derived.Test.YtekkiedlajhaiaaGreatQ24
import Derived.Test.YtekkiedlajhaiaaGreatQ98
set_option linter.unusedVariables false
set_option linter.unusedSimpArgs false
set_option linter.constructorNameAsVariable false
namespace Go.Proofs.YtekkiedlajhaiaaGreat

section
open Go.RowKit
theorem Tryz.infoP : (Tryz.prog.info? 93).map (fun i => (i.zero, i.size, i.bytes)) = some (some (.agg #[.int .i64 0, .int .i64 0, .int .i64 0]), 3, 24) := by kernel_rfl
theorem ptCells_snoc (l : List P3) (r : P3) : ptCells (l ++ [r]) = ptCells l ++ [.int .i64 r.1, .int .i64 r.2.1, .int .i64 r.2.2] := by simp [ptCells]
end

section
open Go.ChangeShapes Go.WideShapes Go.ChangeAt Go.RowKit Go.Joins Go.Deep
theorem okWide_arr {P : Program} {w : World} {r : Reach} {base : Nat} {t e : TypeId} {n : Nat} {v : Value} (ht : P.underlying t = some (.array n e)) (h : Value.okWide P w r base t v) : ∃ cs, v = .agg cs ∧ cs.size = P.cellsOf t := by
  simp only [Value.okWide, ht] at h
  obtain ⟨cs, h1, h2, _⟩ := h
  exact ⟨cs, h1, h2⟩
end

section
open Go.RowKit
open Go.RowKit
attribute [local go_sem ↓] eqlRange neqRange
theorem OwnRuns.mem {base : Nat} {w : World} {v : Value} {r : Int × Int} (ho : OwnRuns base w v [r]) :
    ∃ g cap, v = .slice (some ⟨g, 0, none⟩) 1 cap ∧ g < w.heap.size ∧ RunsMem w g 0 [r] := by
  have ho' : w.ownsRow base 30 2 v 1 (runCells [r]) := ho
  obtain ⟨g, cap, rfl, _, h2⟩ := ho'.form (by omega)
  refine ⟨g, cap, rfl, h2, fun k p hp => ?_⟩
  have c0 := ho'.cellAt 0 (by omega)
  have c1 := ho'.cellAt 1 (by omega)
  cases k with
  | zero => simp at hp; subst hp; exact ⟨c0, c1⟩
  | succ k => simp at hp
end

section
open Go.RowKit
abbrev fv (W N D : Int) : Value := .agg #[.int .i64 W, .int .i64 N, .int .i64 D]
end

section
open Go.RowKit
theorem pAt_lo (p q : P3) (x : Int) : (pAt p q x).1 = (p.2.1 * (max (q.1 - p.1) 1 - (x - p.1)) + q.2.1 * (x - p.1)) / max (q.1 - p.1) 1 := by
  simp only [pAt, riseS]
  have e : p.2.1 * (max (q.1 - p.1) 1 - (x - p.1)) + q.2.1 * (x - p.1) = (x - p.1) * (q.2.1 - p.2.1) + p.2.1 * max (q.1 - p.1) 1 := by grind
  rw [e, Int.add_mul_ediv_right _ _ (by omega)]
  omega
theorem pAt_hi (p q : P3) (x : Int) : (pAt p q x).2 = -(((-p.2.2) * (max (q.1 - p.1) 1 - (x - p.1)) + (-q.2.2) * (x - p.1)) / max (q.1 - p.1) 1) := by
  simp only [pAt, riseS]
  have e : (-p.2.2) * (max (q.1 - p.1) 1 - (x - p.1)) + (-q.2.2) * (x - p.1) = (x - p.1) * (p.2.2 - q.2.2) + (-p.2.2) * max (q.1 - p.1) 1 := by grind
  rw [e, Int.add_mul_ediv_right _ _ (by omega)]
  omega
end

section
open Go.RowKit
theorem pAt_high_way (p q : P3) : (∀ x y, x ≤ y → (pAt p q x).2 ≤ (pAt p q y).2) ∨ (∀ x y, x ≤ y → (pAt p q y).2 ≤ (pAt p q x).2) := by
  rcases Int.le_total 0 (p.2.2 - q.2.2) with c | c
  · exact .inr fun x y h => by have := riseS_up (D := q.1 - p.1) (show x - p.1 ≤ y - p.1 by omega) c; simp only [pAt]; omega
  · exact .inl fun x y h => by have := riseS_down (D := q.1 - p.1) (show x - p.1 ≤ y - p.1 by omega) c; simp only [pAt]; omega
theorem foldG_le : ∀ (l : List (Int × Int)) (s : Int × Int × Bool), s.2.2 = true → ((l.foldl stepG s).1 ≤ s.1 ∧ s.2.1 ≤ (l.foldl stepG s).2.1) ∧ (∀ r ∈ l, (l.foldl stepG s).1 ≤ r.1 ∧ r.2 ≤ (l.foldl stepG s).2.1)
  | [], s, _ => ⟨⟨Int.le_refl _, Int.le_refl _⟩, fun r h => by simp at h⟩
  | z :: l, s, h => by
    rw [List.foldl_cons]
    have e : stepG s z = (min s.1 z.1, max s.2.1 z.2, true) := by unfold stepG; rw [if_pos h]
    obtain ⟨h1, h2⟩ := foldG_le l (stepG s z) (by rw [e])
    rw [e] at h1 h2 ⊢
    dsimp only at h1
    refine ⟨by omega, fun r hr => ?_⟩
    rcases List.mem_cons.1 hr with rfl | hr
    · omega
    · exact h2 r hr
theorem foldG_has {l : List (Int × Int)} {r : Int × Int} (hr : r ∈ l) : (foldG l).1 ≤ r.1 ∧ r.2 ≤ (foldG l).2.1 := by
  cases l with
  | nil => simp at hr
  | cons z l =>
    unfold foldG
    rw [List.foldl_cons]
    have e : stepG (0, 0, false) z = (z.1, z.2, true) := rfl
    obtain ⟨h1, h2⟩ := foldG_le l (stepG (0, 0, false) z) (by rw [e])
    rw [e] at h1 h2 ⊢
    rcases List.mem_cons.1 hr with rfl | hr
    · exact h1
    · exact h2 r hr
theorem over_corner {ps : List P3} {a b c : Int} (h : c ∈ cornersS ps a b) : (overGood ps a b).1 ≤ (atS ps c).1 ∧ (atS ps c).2 ≤ (overGood ps a b).2.1 :=
  foldG_has (List.mem_map_of_mem h)
theorem corner_mem {ps : List P3} {a b c : Int} (hab : a ≤ b) (h : c = a ∨ c = b ∨ (a ≤ c ∧ c ≤ b ∧ ∃ p ∈ ps, p.1 = c)) : c ∈ cornersS ps a b := by
  unfold cornersS
  rw [List.cons_append, List.mem_cons]
  by_cases h1 : c = a
  · exact .inl h1
  · refine .inr (List.mem_append.2 ?_)
    by_cases h2 : c = b
    · right; rw [if_pos (by omega)]; simp [h2]
    · rcases h with h | h | ⟨h3, h4, p, hp, rfl⟩
      · exact absurd h h1
      · exact absurd h h2
      · left
        exact List.mem_map.2 ⟨p, List.mem_filter.2 ⟨hp, by simp; omega⟩, rfl⟩
theorem over_has {ps : List P3} {a b x : Int} (ht : tabOk ps = true) (h0 : firstX ps ≤ a) (h1 : a ≤ x) (h2 : x ≤ b) (h3 : b ≤ lastX ps) : (overGood ps a b).1 ≤ (atS ps x).1 ∧ (atS ps x).2 ≤ (overGood ps a b).2.1 := by
  obtain ⟨i, pq, hi, b1, b2, _⟩ := piece_at ht (show firstX ps ≤ x by omega) (show x ≤ lastX ps by omega)
  obtain ⟨m1, m2, _⟩ := piece_mem ht hi
  have c1 : max a pq.1.1 ∈ cornersS ps a b := corner_mem (by omega) (by
    rcases Int.le_total pq.1.1 a with c | c
    · left; omega
    · right; right; exact ⟨by omega, by omega, pq.1, m1, by omega⟩)
  have c2 : min b pq.2.1 ∈ cornersS ps a b := corner_mem (by omega) (by
    rcases Int.le_total b pq.2.1 with c | c
    · right; left; omega
    · right; right; exact ⟨by omega, by omega, pq.2, m2, by omega⟩)
  have o1 := over_corner c1
  have o2 := over_corner c2
  rw [atS_any ht hi (by omega) (by omega)] at o1 o2 ⊢
  have k1 : max a pq.1.1 ≤ x := by omega
  have k2 : x ≤ min b pq.2.1 := by omega
  constructor
  · rcases pAt_low_way pq.1 pq.2 with w | w
    · have := w _ _ k1; omega
    · have := w _ _ k2; omega
  · rcases pAt_high_way pq.1 pq.2 with w | w
    · have := w _ _ k2; omega
    · have := w _ _ k1; omega
end

section
open Go.RowKit
set_option maxRecDepth 100000 in
set_option maxHeartbeats 4000000 in
theorem volume1_0 (a kv km kh s : Nat) (x y z p q : Int) (id al ah t0 t1 u0 u1 v0 v1 h0 h1 : Int) (A B C : Option Addr) (n c mm d l ee : Nat) (fh st x0 x1 d0 d1 : Int) (Bh Bf : Nat) (w : World) (hB : Blk w Bh 50 #[.int .i64 id, .int .i64 al, .int .i64 ah, .slice A n c, .slice B mm d, .slice C l ee, .int .i64 t0, .int .i64 t1, .int .i64 u0, .int .i64 u1, .int .i64 v0, .int .i64 v1, .int .i64 h0, .int .i64 h1]) (fB : Blk w Bf 53 #[.int .i64 fh, .int .i64 st, .int .i64 x0, .int .i64 x1, .int .i64 d0, .int .i64 d1])
  (hC : ∀ W, Below w.heap.size w W → Calls Tryz.prog 176 #[.agg #[.int .i64 id, .int .i64 al, .int .i64 ah, .slice A n c, .slice B mm d, .slice C l ee, .int .i64 t0, .int .i64 t1, .int .i64 u0, .int .i64 u1, .int .i64 v0, .int .i64 v1, .int .i64 h0, .int .i64 h1], .agg #[.int .i64 fh, .int .i64 st, .int .i64 x0, .int .i64 x1, .int .i64 d0, .int .i64 d1]] W fun e w' => e = .returned (rv p q) ∧ Below W.heap.size W w') :
  Calls Tryz.prog 51 #[.agg #[fnV a, fnV 176, fnV km, fnV kh, fnV s, .int .i64 x, .int .i64 y, .int .i64 z], .pointer (some ⟨Bh, 0, none⟩), .pointer (some ⟨Bf, 0, none⟩)] w fun e w' => e = .returned (rv p q) ∧ Below w.heap.size w w' := by
 have HE := Lib.hid (show Below w.heap.size w ((w.alloc (.cells #[fnV a, fnV 176, fnV km, fnV kh, fnV s, .int .i64 x, .int .i64 y, .int .i64 z] 101)).alloc (.cells #[.int .i64 0, .int .i64 0] 30)) from below_a2 (Below.refl _ _))
 have HK := Lib.hid (boxes2' w 101 30 #[fnV a, fnV 176, fnV km, fnV kh, fnV s, .int .i64 x, .int .i64 y, .int .i64 z] #[.int .i64 0, .int .i64 0])
 have CC := Lib.hid hC
 have HH := Lib.hid (blkOn hB HE.out)
 have HF := Lib.hid (blkOn fB HE.out)
 clear hB fB hC
 go_enter Tryz.func51, Tryz.ntmps51
 go_upto_region 1 with fail
 obtain ⟨W0, hW0⟩ : ∃ W0, ((w.alloc (.cells #[fnV a, fnV 176, fnV km, fnV kh, fnV s, .int .i64 x, .int .i64 y, .int .i64 z] 101)).alloc (.cells #[.int .i64 0, .int .i64 0] 30)) = W0 := ⟨_, rfl⟩
 rw [hW0] at HE HK HH HF ⊢
 clear hW0
 obtain ⟨G, hG⟩ : ∃ G, w.heap.size = G := ⟨_, rfl⟩
 rw [hG] at HK ⊢
 have HG := Lib.hid hG; clear hG
 have hh := HH.out
 have ff := HF.out
 have s0 := hh.cell 0
 have s1 := hh.cell 1
 have s2 := hh.cell 2
 have s3 := hh.cell 3
 have s4 := hh.cell 4
 have s5 := hh.cell 5
 have s6 := hh.cell 6
 have s7 := hh.cell 7
 have s8 := hh.cell 8
 have s9 := hh.cell 9
 have s10 := hh.cell 10
 have s11 := hh.cell 11
 have s12 := hh.cell 12
 have s13 := hh.cell 13
 simp at s0 s1 s2 s3 s4 s5 s6 s7 s8 s9 s10 s11 s12 s13
 have f0 := ff.cell 0
 have f1 := ff.cell 1
 have f2 := ff.cell 2
 have f3 := ff.cell 3
 have f4 := ff.cell 4
 have f5 := ff.cell 5
 simp at f0 f1 f2 f3 f4 f5
 have p := HK.out _ (.tail _ (.head _))
 have p1 := p.cell 1
 simp at p1
 clear p
 clear hh ff HH HF
 go_wp2_with fail
 refine (CC.out _ HE.out).mono ?_
 rintro e w1 ⟨rfl, hb⟩
 have HE1 := Lib.hid (below_then HE.out hb); have HK1 := Lib.hid (HK.out.on hb)
 clear hb HE HK CC p1 s0 s1 s2 s3 s4 s5 s6 s7 s8 s9 s10 s11 s12 s13 f0 f1 f2 f3 f4 f5
 have z := HK1.out _ (.head _)
 have z0 := z.cell 0
 have zf0 := z.frozen 0
 have z1 := z.cell 1
 have zf1 := z.frozen 1
 have zl := z.lt
 simp at z0 zf0 z1 zf1
 clear z
 go_wp2
 refine bodyPost_ret (v := rv p q) (by simp [results, Tryz.results51, go_sem, z0, z1]) rfl ⟨rfl, ?_⟩
 have hg := HG.out
 repeat (first | exact HE1.out | refine Below.setCell ?_ (by simp <;> omega) _)
set_option maxRecDepth 100000 in
set_option maxHeartbeats 4000000 in
theorem volume1_1 (a kv km kh s : Nat) (x y z p q : Int) (id al ah t0 t1 u0 u1 v0 v1 h0 h1 : Int) (A B C : Option Addr) (n c mm d l ee : Nat) (fh st x0 x1 d0 d1 : Int) (Bh Bf : Nat) (w : World) (hB : Blk w Bh 50 #[.int .i64 id, .int .i64 al, .int .i64 ah, .slice A n c, .slice B mm d, .slice C l ee, .int .i64 t0, .int .i64 t1, .int .i64 u0, .int .i64 u1, .int .i64 v0, .int .i64 v1, .int .i64 h0, .int .i64 h1]) (fB : Blk w Bf 53 #[.int .i64 fh, .int .i64 st, .int .i64 x0, .int .i64 x1, .int .i64 d0, .int .i64 d1])
  (hC : ∀ W, Below w.heap.size w W → Calls Tryz.prog 179 #[.agg #[.int .i64 id, .int .i64 al, .int .i64 ah, .slice A n c, .slice B mm d, .slice C l ee, .int .i64 t0, .int .i64 t1, .int .i64 u0, .int .i64 u1, .int .i64 v0, .int .i64 v1, .int .i64 h0, .int .i64 h1], .agg #[.int .i64 fh, .int .i64 st, .int .i64 x0, .int .i64 x1, .int .i64 d0, .int .i64 d1]] W fun e w' => e = .returned (rv p q) ∧ Below W.heap.size W w') :
  Calls Tryz.prog 51 #[.agg #[fnV a, fnV 179, fnV km, fnV kh, fnV s, .int .i64 x, .int .i64 y, .int .i64 z], .pointer (some ⟨Bh, 0, none⟩), .pointer (some ⟨Bf, 0, none⟩)] w fun e w' => e = .returned (rv p q) ∧ Below w.heap.size w w' := by
 have HE := Lib.hid (show Below w.heap.size w ((w.alloc (.cells #[fnV a, fnV 179, fnV km, fnV kh, fnV s, .int .i64 x, .int .i64 y, .int .i64 z] 101)).alloc (.cells #[.int .i64 0, .int .i64 0] 30)) from below_a2 (Below.refl _ _))
 have HK := Lib.hid (boxes2' w 101 30 #[fnV a, fnV 179, fnV km, fnV kh, fnV s, .int .i64 x, .int .i64 y, .int .i64 z] #[.int .i64 0, .int .i64 0])
 have CC := Lib.hid hC
 have HH := Lib.hid (blkOn hB HE.out)
 have HF := Lib.hid (blkOn fB HE.out)
 clear hB fB hC
 go_enter Tryz.func51, Tryz.ntmps51
 go_upto_region 1 with fail
 obtain ⟨W0, hW0⟩ : ∃ W0, ((w.alloc (.cells #[fnV a, fnV 179, fnV km, fnV kh, fnV s, .int .i64 x, .int .i64 y, .int .i64 z] 101)).alloc (.cells #[.int .i64 0, .int .i64 0] 30)) = W0 := ⟨_, rfl⟩
 rw [hW0] at HE HK HH HF ⊢
 clear hW0
 obtain ⟨G, hG⟩ : ∃ G, w.heap.size = G := ⟨_, rfl⟩
 rw [hG] at HK ⊢
 have HG := Lib.hid hG; clear hG
 have hh := HH.out
 have ff := HF.out
 have s0 := hh.cell 0
 have s1 := hh.cell 1
 have s2 := hh.cell 2
 have s3 := hh.cell 3
 have s4 := hh.cell 4
 have s5 := hh.cell 5
 have s6 := hh.cell 6
 have s7 := hh.cell 7
 have s8 := hh.cell 8
 have s9 := hh.cell 9
 have s10 := hh.cell 10
 have s11 := hh.cell 11
 have s12 := hh.cell 12
 have s13 := hh.cell 13
 simp at s0 s1 s2 s3 s4 s5 s6 s7 s8 s9 s10 s11 s12 s13
 have f0 := ff.cell 0
 have f1 := ff.cell 1
 have f2 := ff.cell 2
 have f3 := ff.cell 3
 have f4 := ff.cell 4
 have f5 := ff.cell 5
 simp at f0 f1 f2 f3 f4 f5
 have p := HK.out _ (.tail _ (.head _))
 have p1 := p.cell 1
 simp at p1
 clear p
 clear hh ff HH HF
 go_wp2_with fail
 refine (CC.out _ HE.out).mono ?_
 rintro e w1 ⟨rfl, hb⟩
 have HE1 := Lib.hid (below_then HE.out hb); have HK1 := Lib.hid (HK.out.on hb)
 clear hb HE HK CC p1 s0 s1 s2 s3 s4 s5 s6 s7 s8 s9 s10 s11 s12 s13 f0 f1 f2 f3 f4 f5
 have z := HK1.out _ (.head _)
 have z0 := z.cell 0
 have zf0 := z.frozen 0
 have z1 := z.cell 1
 have zf1 := z.frozen 1
 have zl := z.lt
 simp at z0 zf0 z1 zf1
 clear z
 go_wp2
 refine bodyPost_ret (v := rv p q) (by simp [results, Tryz.results51, go_sem, z0, z1]) rfl ⟨rfl, ?_⟩
 have hg := HG.out
 repeat (first | exact HE1.out | refine Below.setCell ?_ (by simp <;> omega) _)
set_option maxRecDepth 100000 in
set_option maxHeartbeats 4000000 in
theorem volume1_2 (a kv km kh s : Nat) (x y z p q : Int) (id al ah t0 t1 u0 u1 v0 v1 h0 h1 : Int) (A B C : Option Addr) (n c mm d l ee : Nat) (fh st x0 x1 d0 d1 : Int) (Bh Bf : Nat) (w : World) (hB : Blk w Bh 50 #[.int .i64 id, .int .i64 al, .int .i64 ah, .slice A n c, .slice B mm d, .slice C l ee, .int .i64 t0, .int .i64 t1, .int .i64 u0, .int .i64 u1, .int .i64 v0, .int .i64 v1, .int .i64 h0, .int .i64 h1]) (fB : Blk w Bf 53 #[.int .i64 fh, .int .i64 st, .int .i64 x0, .int .i64 x1, .int .i64 d0, .int .i64 d1])
  (hC : ∀ W, Below w.heap.size w W → Calls Tryz.prog 183 #[.agg #[.int .i64 id, .int .i64 al, .int .i64 ah, .slice A n c, .slice B mm d, .slice C l ee, .int .i64 t0, .int .i64 t1, .int .i64 u0, .int .i64 u1, .int .i64 v0, .int .i64 v1, .int .i64 h0, .int .i64 h1], .agg #[.int .i64 fh, .int .i64 st, .int .i64 x0, .int .i64 x1, .int .i64 d0, .int .i64 d1]] W fun e w' => e = .returned (rv p q) ∧ Below W.heap.size W w') :
  Calls Tryz.prog 51 #[.agg #[fnV a, fnV 183, fnV km, fnV kh, fnV s, .int .i64 x, .int .i64 y, .int .i64 z], .pointer (some ⟨Bh, 0, none⟩), .pointer (some ⟨Bf, 0, none⟩)] w fun e w' => e = .returned (rv p q) ∧ Below w.heap.size w w' := by
 have HE := Lib.hid (show Below w.heap.size w ((w.alloc (.cells #[fnV a, fnV 183, fnV km, fnV kh, fnV s, .int .i64 x, .int .i64 y, .int .i64 z] 101)).alloc (.cells #[.int .i64 0, .int .i64 0] 30)) from below_a2 (Below.refl _ _))
 have HK := Lib.hid (boxes2' w 101 30 #[fnV a, fnV 183, fnV km, fnV kh, fnV s, .int .i64 x, .int .i64 y, .int .i64 z] #[.int .i64 0, .int .i64 0])
 have CC := Lib.hid hC
 have HH := Lib.hid (blkOn hB HE.out)
 have HF := Lib.hid (blkOn fB HE.out)
 clear hB fB hC
 go_enter Tryz.func51, Tryz.ntmps51
 go_upto_region 1 with fail
 obtain ⟨W0, hW0⟩ : ∃ W0, ((w.alloc (.cells #[fnV a, fnV 183, fnV km, fnV kh, fnV s, .int .i64 x, .int .i64 y, .int .i64 z] 101)).alloc (.cells #[.int .i64 0, .int .i64 0] 30)) = W0 := ⟨_, rfl⟩
 rw [hW0] at HE HK HH HF ⊢
 clear hW0
 obtain ⟨G, hG⟩ : ∃ G, w.heap.size = G := ⟨_, rfl⟩
 rw [hG] at HK ⊢
 have HG := Lib.hid hG; clear hG
 have hh := HH.out
 have ff := HF.out
 have s0 := hh.cell 0
 have s1 := hh.cell 1
 have s2 := hh.cell 2
 have s3 := hh.cell 3
 have s4 := hh.cell 4
 have s5 := hh.cell 5
 have s6 := hh.cell 6
 have s7 := hh.cell 7
 have s8 := hh.cell 8
 have s9 := hh.cell 9
 have s10 := hh.cell 10
 have s11 := hh.cell 11
 have s12 := hh.cell 12
 have s13 := hh.cell 13
 simp at s0 s1 s2 s3 s4 s5 s6 s7 s8 s9 s10 s11 s12 s13
 have f0 := ff.cell 0
 have f1 := ff.cell 1
 have f2 := ff.cell 2
 have f3 := ff.cell 3
 have f4 := ff.cell 4
 have f5 := ff.cell 5
 simp at f0 f1 f2 f3 f4 f5
 have p := HK.out _ (.tail _ (.head _))
 have p1 := p.cell 1
 simp at p1
 clear p
 clear hh ff HH HF
 go_wp2_with fail
 refine (CC.out _ HE.out).mono ?_
 rintro e w1 ⟨rfl, hb⟩
 have HE1 := Lib.hid (below_then HE.out hb); have HK1 := Lib.hid (HK.out.on hb)
 clear hb HE HK CC p1 s0 s1 s2 s3 s4 s5 s6 s7 s8 s9 s10 s11 s12 s13 f0 f1 f2 f3 f4 f5
 have z := HK1.out _ (.head _)
 have z0 := z.cell 0
 have zf0 := z.frozen 0
 have z1 := z.cell 1
 have zf1 := z.frozen 1
 have zl := z.lt
 simp at z0 zf0 z1 zf1
 clear z
 go_wp2
 refine bodyPost_ret (v := rv p q) (by simp [results, Tryz.results51, go_sem, z0, z1]) rfl ⟨rfl, ?_⟩
 have hg := HG.out
 repeat (first | exact HE1.out | refine Below.setCell ?_ (by simp <;> omega) _)
theorem volume1_any (h : HoldD) (m : HoldM) (f : FillD) (Bh Bf : Nat) (w : World) (hi : HoldIn w h m) (q0 : 0 ≤ f.st) (q5 : f.st ≤ 5) (hB : Blk w Bh 50 (holdCells h m)) (fB : Blk w Bf 53 (fillCells f)) :
    Calls Tryz.prog 51 #[.agg (mM f.st), .pointer (some ⟨Bh, 0, none⟩), .pointer (some ⟨Bf, 0, none⟩)] w fun e w' => e = .returned (rv (volS h f).1 (volS h f).2) ∧ Below w.heap.size w w' := by
  have hC := fun W (hW : Below w.heap.size w W) => volF_to h m f W (hi.below hW) q0 q5
  obtain ⟨id, al, ah, vol, mom, hei, t0, t1, u0, u1, v0, v1, h0, h1⟩ := h
  obtain ⟨A, n, c, B, mm, d, C, l, ee⟩ := m
  obtain ⟨fh, st, x0, x1, d0, d1⟩ := f
  dsimp only at hC q0 q5 hB fB ⊢
  rcases st_cases q0 q5 with rfl | rfl | rfl | rfl | rfl | rfl
  · rw [show mM 0 = emptyM from rfl]
    exact volume1_0 _ 0 _ _ _ _ _ _ _ _ id al ah t0 t1 u0 u1 v0 v1 h0 h1 A B C n c mm d l ee fh 0 x0 x1 d0 d1 Bh Bf w hB fB hC
  · rw [show mM 1 = filledM 137 from rfl]
    exact volume1_1 _ 0 _ _ _ _ _ _ _ _ id al ah t0 t1 u0 u1 v0 v1 h0 h1 A B C n c mm d l ee fh 1 x0 x1 d0 d1 Bh Bf w hB fB hC
  · rw [show mM 2 = filledM 138 from rfl]
    exact volume1_1 _ 0 _ _ _ _ _ _ _ _ id al ah t0 t1 u0 u1 v0 v1 h0 h1 A B C n c mm d l ee fh 2 x0 x1 d0 d1 Bh Bf w hB fB hC
  · rw [show mM 3 = partlyM 140 from rfl]
    exact volume1_2 _ 0 _ _ _ _ _ _ _ _ id al ah t0 t1 u0 u1 v0 v1 h0 h1 A B C n c mm d l ee fh 3 x0 x1 d0 d1 Bh Bf w hB fB hC
  · rw [show mM 4 = heldM from rfl]
    exact volume1_2 _ 0 _ _ _ _ _ _ _ _ id al ah t0 t1 u0 u1 v0 v1 h0 h1 A B C n c mm d l ee fh 4 x0 x1 d0 d1 Bh Bf w hB fB hC
  · rw [show mM 5 = heldM from rfl]
    exact volume1_2 _ 0 _ _ _ _ _ _ _ _ id al ah t0 t1 u0 u1 v0 v1 h0 h1 A B C n c mm d l ee fh 5 x0 x1 d0 d1 Bh Bf w hB fB hC
set_option maxRecDepth 100000 in
set_option maxHeartbeats 4000000 in
theorem height1_0 (a kv km kh s : Nat) (x y z p q : Int) (id al ah t0 t1 u0 u1 v0 v1 h0 h1 : Int) (A B C : Option Addr) (n c mm d l ee : Nat) (fh st x0 x1 d0 d1 : Int) (Bh Bf : Nat) (w : World) (hB : Blk w Bh 50 #[.int .i64 id, .int .i64 al, .int .i64 ah, .slice A n c, .slice B mm d, .slice C l ee, .int .i64 t0, .int .i64 t1, .int .i64 u0, .int .i64 u1, .int .i64 v0, .int .i64 v1, .int .i64 h0, .int .i64 h1]) (fB : Blk w Bf 53 #[.int .i64 fh, .int .i64 st, .int .i64 x0, .int .i64 x1, .int .i64 d0, .int .i64 d1])
  (hC : ∀ W, Below w.heap.size w W → Calls Tryz.prog 176 #[.agg #[.int .i64 id, .int .i64 al, .int .i64 ah, .slice A n c, .slice B mm d, .slice C l ee, .int .i64 t0, .int .i64 t1, .int .i64 u0, .int .i64 u1, .int .i64 v0, .int .i64 v1, .int .i64 h0, .int .i64 h1], .agg #[.int .i64 fh, .int .i64 st, .int .i64 x0, .int .i64 x1, .int .i64 d0, .int .i64 d1]] W fun e w' => e = .returned (rv p q) ∧ Below W.heap.size W w') :
  Calls Tryz.prog 56 #[.agg #[fnV a, fnV kv, fnV km, fnV 176, fnV s, .int .i64 x, .int .i64 y, .int .i64 z], .pointer (some ⟨Bh, 0, none⟩), .pointer (some ⟨Bf, 0, none⟩)] w fun e w' => e = .returned (rv p q) ∧ Below w.heap.size w w' := by
 have HE := Lib.hid (show Below w.heap.size w ((w.alloc (.cells #[fnV a, fnV kv, fnV km, fnV 176, fnV s, .int .i64 x, .int .i64 y, .int .i64 z] 101)).alloc (.cells #[.int .i64 0, .int .i64 0] 30)) from below_a2 (Below.refl _ _))
 have HK := Lib.hid (boxes2' w 101 30 #[fnV a, fnV kv, fnV km, fnV 176, fnV s, .int .i64 x, .int .i64 y, .int .i64 z] #[.int .i64 0, .int .i64 0])
 have CC := Lib.hid hC
 have HH := Lib.hid (blkOn hB HE.out)
 have HF := Lib.hid (blkOn fB HE.out)
 clear hB fB hC
 go_enter Tryz.func56, Tryz.ntmps56
 go_upto_region 1 with fail
 obtain ⟨W0, hW0⟩ : ∃ W0, ((w.alloc (.cells #[fnV a, fnV kv, fnV km, fnV 176, fnV s, .int .i64 x, .int .i64 y, .int .i64 z] 101)).alloc (.cells #[.int .i64 0, .int .i64 0] 30)) = W0 := ⟨_, rfl⟩
 rw [hW0] at HE HK HH HF ⊢
 clear hW0
 obtain ⟨G, hG⟩ : ∃ G, w.heap.size = G := ⟨_, rfl⟩
 rw [hG] at HK ⊢
 have HG := Lib.hid hG; clear hG
 have hh := HH.out
 have ff := HF.out
 have s0 := hh.cell 0
 have s1 := hh.cell 1
 have s2 := hh.cell 2
 have s3 := hh.cell 3
 have s4 := hh.cell 4
 have s5 := hh.cell 5
 have s6 := hh.cell 6
 have s7 := hh.cell 7
 have s8 := hh.cell 8
 have s9 := hh.cell 9
 have s10 := hh.cell 10
 have s11 := hh.cell 11
 have s12 := hh.cell 12
 have s13 := hh.cell 13
 simp at s0 s1 s2 s3 s4 s5 s6 s7 s8 s9 s10 s11 s12 s13
 have f0 := ff.cell 0
 have f1 := ff.cell 1
 have f2 := ff.cell 2
 have f3 := ff.cell 3
 have f4 := ff.cell 4
 have f5 := ff.cell 5
 simp at f0 f1 f2 f3 f4 f5
 have p := HK.out _ (.tail _ (.head _))
 have p3 := p.cell 3
 simp at p3
 clear p
 clear hh ff HH HF
 go_wp2_with fail
 refine (CC.out _ HE.out).mono ?_
 rintro e w1 ⟨rfl, hb⟩
 have HE1 := Lib.hid (below_then HE.out hb); have HK1 := Lib.hid (HK.out.on hb)
 clear hb HE HK CC p3 s0 s1 s2 s3 s4 s5 s6 s7 s8 s9 s10 s11 s12 s13 f0 f1 f2 f3 f4 f5
 have z := HK1.out _ (.head _)
 have z0 := z.cell 0
 have zf0 := z.frozen 0
 have z1 := z.cell 1
 have zf1 := z.frozen 1
 have zl := z.lt
 simp at z0 zf0 z1 zf1
 clear z
 go_wp2
 refine bodyPost_ret (v := rv p q) (by simp [results, Tryz.results56, go_sem, z0, z1]) rfl ⟨rfl, ?_⟩
 have hg := HG.out
 repeat (first | exact HE1.out | refine Below.setCell ?_ (by simp <;> omega) _)
set_option maxRecDepth 100000 in
set_option maxHeartbeats 4000000 in
theorem height1_1 (a kv km kh s : Nat) (x y z p q : Int) (id al ah t0 t1 u0 u1 v0 v1 h0 h1 : Int) (A B C : Option Addr) (n c mm d l ee : Nat) (fh st x0 x1 d0 d1 : Int) (Bh Bf : Nat) (w : World) (hB : Blk w Bh 50 #[.int .i64 id, .int .i64 al, .int .i64 ah, .slice A n c, .slice B mm d, .slice C l ee, .int .i64 t0, .int .i64 t1, .int .i64 u0, .int .i64 u1, .int .i64 v0, .int .i64 v1, .int .i64 h0, .int .i64 h1]) (fB : Blk w Bf 53 #[.int .i64 fh, .int .i64 st, .int .i64 x0, .int .i64 x1, .int .i64 d0, .int .i64 d1])
  (hC : ∀ W, Below w.heap.size w W → Calls Tryz.prog 180 #[.agg #[.int .i64 id, .int .i64 al, .int .i64 ah, .slice A n c, .slice B mm d, .slice C l ee, .int .i64 t0, .int .i64 t1, .int .i64 u0, .int .i64 u1, .int .i64 v0, .int .i64 v1, .int .i64 h0, .int .i64 h1], .agg #[.int .i64 fh, .int .i64 st, .int .i64 x0, .int .i64 x1, .int .i64 d0, .int .i64 d1]] W fun e w' => e = .returned (rv p q) ∧ Below W.heap.size W w') :
  Calls Tryz.prog 56 #[.agg #[fnV a, fnV kv, fnV km, fnV 180, fnV s, .int .i64 x, .int .i64 y, .int .i64 z], .pointer (some ⟨Bh, 0, none⟩), .pointer (some ⟨Bf, 0, none⟩)] w fun e w' => e = .returned (rv p q) ∧ Below w.heap.size w w' := by
 have HE := Lib.hid (show Below w.heap.size w ((w.alloc (.cells #[fnV a, fnV kv, fnV km, fnV 180, fnV s, .int .i64 x, .int .i64 y, .int .i64 z] 101)).alloc (.cells #[.int .i64 0, .int .i64 0] 30)) from below_a2 (Below.refl _ _))
 have HK := Lib.hid (boxes2' w 101 30 #[fnV a, fnV kv, fnV km, fnV 180, fnV s, .int .i64 x, .int .i64 y, .int .i64 z] #[.int .i64 0, .int .i64 0])
 have CC := Lib.hid hC
 have HH := Lib.hid (blkOn hB HE.out)
 have HF := Lib.hid (blkOn fB HE.out)
 clear hB fB hC
 go_enter Tryz.func56, Tryz.ntmps56
 go_upto_region 1 with fail
 obtain ⟨W0, hW0⟩ : ∃ W0, ((w.alloc (.cells #[fnV a, fnV kv, fnV km, fnV 180, fnV s, .int .i64 x, .int .i64 y, .int .i64 z] 101)).alloc (.cells #[.int .i64 0, .int .i64 0] 30)) = W0 := ⟨_, rfl⟩
 rw [hW0] at HE HK HH HF ⊢
 clear hW0
 obtain ⟨G, hG⟩ : ∃ G, w.heap.size = G := ⟨_, rfl⟩
 rw [hG] at HK ⊢
 have HG := Lib.hid hG; clear hG
 have hh := HH.out
 have ff := HF.out
 have s0 := hh.cell 0
 have s1 := hh.cell 1
 have s2 := hh.cell 2
 have s3 := hh.cell 3
 have s4 := hh.cell 4
 have s5 := hh.cell 5
 have s6 := hh.cell 6
 have s7 := hh.cell 7
 have s8 := hh.cell 8
 have s9 := hh.cell 9
 have s10 := hh.cell 10
 have s11 := hh.cell 11
 have s12 := hh.cell 12
 have s13 := hh.cell 13
 simp at s0 s1 s2 s3 s4 s5 s6 s7 s8 s9 s10 s11 s12 s13
 have f0 := ff.cell 0
 have f1 := ff.cell 1
 have f2 := ff.cell 2
 have f3 := ff.cell 3
 have f4 := ff.cell 4
 have f5 := ff.cell 5
 simp at f0 f1 f2 f3 f4 f5
 have p := HK.out _ (.tail _ (.head _))
 have p3 := p.cell 3
 simp at p3
 clear p
 clear hh ff HH HF
 go_wp2_with fail
 refine (CC.out _ HE.out).mono ?_
 rintro e w1 ⟨rfl, hb⟩
 have HE1 := Lib.hid (below_then HE.out hb); have HK1 := Lib.hid (HK.out.on hb)
 clear hb HE HK CC p3 s0 s1 s2 s3 s4 s5 s6 s7 s8 s9 s10 s11 s12 s13 f0 f1 f2 f3 f4 f5
 have z := HK1.out _ (.head _)
 have z0 := z.cell 0
 have zf0 := z.frozen 0
 have z1 := z.cell 1
 have zf1 := z.frozen 1
 have zl := z.lt
 simp at z0 zf0 z1 zf1
 clear z
 go_wp2
 refine bodyPost_ret (v := rv p q) (by simp [results, Tryz.results56, go_sem, z0, z1]) rfl ⟨rfl, ?_⟩
 have hg := HG.out
 repeat (first | exact HE1.out | refine Below.setCell ?_ (by simp <;> omega) _)
set_option maxRecDepth 100000 in
set_option maxHeartbeats 4000000 in
theorem height1_2 (a kv km kh s : Nat) (x y z p q : Int) (id al ah t0 t1 u0 u1 v0 v1 h0 h1 : Int) (A B C : Option Addr) (n c mm d l ee : Nat) (fh st x0 x1 d0 d1 : Int) (Bh Bf : Nat) (w : World) (hB : Blk w Bh 50 #[.int .i64 id, .int .i64 al, .int .i64 ah, .slice A n c, .slice B mm d, .slice C l ee, .int .i64 t0, .int .i64 t1, .int .i64 u0, .int .i64 u1, .int .i64 v0, .int .i64 v1, .int .i64 h0, .int .i64 h1]) (fB : Blk w Bf 53 #[.int .i64 fh, .int .i64 st, .int .i64 x0, .int .i64 x1, .int .i64 d0, .int .i64 d1])
  (hC : ∀ W, Below w.heap.size w W → Calls Tryz.prog 184 #[.agg #[.int .i64 id, .int .i64 al, .int .i64 ah, .slice A n c, .slice B mm d, .slice C l ee, .int .i64 t0, .int .i64 t1, .int .i64 u0, .int .i64 u1, .int .i64 v0, .int .i64 v1, .int .i64 h0, .int .i64 h1], .agg #[.int .i64 fh, .int .i64 st, .int .i64 x0, .int .i64 x1, .int .i64 d0, .int .i64 d1]] W fun e w' => e = .returned (rv p q) ∧ Below W.heap.size W w') :
  Calls Tryz.prog 56 #[.agg #[fnV a, fnV kv, fnV km, fnV 184, fnV s, .int .i64 x, .int .i64 y, .int .i64 z], .pointer (some ⟨Bh, 0, none⟩), .pointer (some ⟨Bf, 0, none⟩)] w fun e w' => e = .returned (rv p q) ∧ Below w.heap.size w w' := by
 have HE := Lib.hid (show Below w.heap.size w ((w.alloc (.cells #[fnV a, fnV kv, fnV km, fnV 184, fnV s, .int .i64 x, .int .i64 y, .int .i64 z] 101)).alloc (.cells #[.int .i64 0, .int .i64 0] 30)) from below_a2 (Below.refl _ _))
 have HK := Lib.hid (boxes2' w 101 30 #[fnV a, fnV kv, fnV km, fnV 184, fnV s, .int .i64 x, .int .i64 y, .int .i64 z] #[.int .i64 0, .int .i64 0])
 have CC := Lib.hid hC
 have HH := Lib.hid (blkOn hB HE.out)
 have HF := Lib.hid (blkOn fB HE.out)
 clear hB fB hC
 go_enter Tryz.func56, Tryz.ntmps56
 go_upto_region 1 with fail
 obtain ⟨W0, hW0⟩ : ∃ W0, ((w.alloc (.cells #[fnV a, fnV kv, fnV km, fnV 184, fnV s, .int .i64 x, .int .i64 y, .int .i64 z] 101)).alloc (.cells #[.int .i64 0, .int .i64 0] 30)) = W0 := ⟨_, rfl⟩
 rw [hW0] at HE HK HH HF ⊢
 clear hW0
 obtain ⟨G, hG⟩ : ∃ G, w.heap.size = G := ⟨_, rfl⟩
 rw [hG] at HK ⊢
 have HG := Lib.hid hG; clear hG
 have hh := HH.out
 have ff := HF.out
 have s0 := hh.cell 0
 have s1 := hh.cell 1
 have s2 := hh.cell 2
 have s3 := hh.cell 3
 have s4 := hh.cell 4
 have s5 := hh.cell 5
 have s6 := hh.cell 6
 have s7 := hh.cell 7
 have s8 := hh.cell 8
 have s9 := hh.cell 9
 have s10 := hh.cell 10
 have s11 := hh.cell 11
 have s12 := hh.cell 12
 have s13 := hh.cell 13
 simp at s0 s1 s2 s3 s4 s5 s6 s7 s8 s9 s10 s11 s12 s13
 have f0 := ff.cell 0
 have f1 := ff.cell 1
 have f2 := ff.cell 2
 have f3 := ff.cell 3
 have f4 := ff.cell 4
 have f5 := ff.cell 5
 simp at f0 f1 f2 f3 f4 f5
 have p := HK.out _ (.tail _ (.head _))
 have p3 := p.cell 3
 simp at p3
 clear p
 clear hh ff HH HF
 go_wp2_with fail
 refine (CC.out _ HE.out).mono ?_
 rintro e w1 ⟨rfl, hb⟩
 have HE1 := Lib.hid (below_then HE.out hb); have HK1 := Lib.hid (HK.out.on hb)
 clear hb HE HK CC p3 s0 s1 s2 s3 s4 s5 s6 s7 s8 s9 s10 s11 s12 s13 f0 f1 f2 f3 f4 f5
 have z := HK1.out _ (.head _)
 have z0 := z.cell 0
 have zf0 := z.frozen 0
 have z1 := z.cell 1
 have zf1 := z.frozen 1
 have zl := z.lt
 simp at z0 zf0 z1 zf1
 clear z
 go_wp2
 refine bodyPost_ret (v := rv p q) (by simp [results, Tryz.results56, go_sem, z0, z1]) rfl ⟨rfl, ?_⟩
 have hg := HG.out
 repeat (first | exact HE1.out | refine Below.setCell ?_ (by simp <;> omega) _)
theorem height1_any (h : HoldD) (m : HoldM) (f : FillD) (Bh Bf : Nat) (w : World) (hi : HoldIn w h m) (q0 : 0 ≤ f.st) (q5 : f.st ≤ 5) (hB : Blk w Bh 50 (holdCells h m)) (fB : Blk w Bf 53 (fillCells f)) :
    Calls Tryz.prog 56 #[.agg (mM f.st), .pointer (some ⟨Bh, 0, none⟩), .pointer (some ⟨Bf, 0, none⟩)] w fun e w' => e = .returned (rv (heiS h f).1 (heiS h f).2) ∧ Below w.heap.size w w' := by
  have hC := fun W (hW : Below w.heap.size w W) => heiF_to h m f W (hi.below hW) q0 q5
  obtain ⟨id, al, ah, vol, mom, hei, t0, t1, u0, u1, v0, v1, h0, h1⟩ := h
  obtain ⟨A, n, c, B, mm, d, C, l, ee⟩ := m
  obtain ⟨fh, st, x0, x1, d0, d1⟩ := f
  dsimp only at hC q0 q5 hB fB ⊢
  rcases st_cases q0 q5 with rfl | rfl | rfl | rfl | rfl | rfl
  · rw [show mM 0 = emptyM from rfl]
    exact height1_0 _ _ _ 0 _ _ _ _ _ _ id al ah t0 t1 u0 u1 v0 v1 h0 h1 A B C n c mm d l ee fh 0 x0 x1 d0 d1 Bh Bf w hB fB hC
  · rw [show mM 1 = filledM 137 from rfl]
    exact height1_1 _ _ _ 0 _ _ _ _ _ _ id al ah t0 t1 u0 u1 v0 v1 h0 h1 A B C n c mm d l ee fh 1 x0 x1 d0 d1 Bh Bf w hB fB hC
  · rw [show mM 2 = filledM 138 from rfl]
    exact height1_1 _ _ _ 0 _ _ _ _ _ _ id al ah t0 t1 u0 u1 v0 v1 h0 h1 A B C n c mm d l ee fh 2 x0 x1 d0 d1 Bh Bf w hB fB hC
  · rw [show mM 3 = partlyM 140 from rfl]
    exact height1_2 _ _ _ 0 _ _ _ _ _ _ id al ah t0 t1 u0 u1 v0 v1 h0 h1 A B C n c mm d l ee fh 3 x0 x1 d0 d1 Bh Bf w hB fB hC
  · rw [show mM 4 = heldM from rfl]
    exact height1_2 _ _ _ 0 _ _ _ _ _ _ id al ah t0 t1 u0 u1 v0 v1 h0 h1 A B C n c mm d l ee fh 4 x0 x1 d0 d1 Bh Bf w hB fB hC
  · rw [show mM 5 = heldM from rfl]
    exact height1_2 _ _ _ 0 _ _ _ _ _ _ id al ah t0 t1 u0 u1 v0 v1 h0 h1 A B C n c mm d l ee fh 5 x0 x1 d0 d1 Bh Bf w hB fB hC
end

section
open Go.RowKit
set_option maxRecDepth 100000 in
set_option maxHeartbeats 4000000 in
theorem tell_vol (E p q : Int) (M : Array Value) (id al ah t0 t1 u0 u1 v0 v1 h0 h1 : Int) (A B C : Option Addr) (n c mm d l ee : Nat) (fh st x0 x1 d0 d1 : Int) (Bh Bf : Nat) (w : World) (g0 : E = 0 → 0 ≤ st ∧ st ≤ 5) (gM : mM st = M)
  (C1 : ∀ W, Below w.heap.size w W → Calls Tryz.prog 66 #[.agg #[.int .i64 id, .int .i64 al, .int .i64 ah, .slice A n c, .slice B mm d, .slice C l ee, .int .i64 t0, .int .i64 t1, .int .i64 u0, .int .i64 u1, .int .i64 v0, .int .i64 v1, .int .i64 h0, .int .i64 h1], .agg #[.int .i64 fh, .int .i64 st, .int .i64 x0, .int .i64 x1, .int .i64 d0, .int .i64 d1]] W fun e w' => e = .returned (.int .i64 E) ∧ Below W.heap.size W w')
  (C3 : E = 0 → ∀ W, Below w.heap.size w W → Calls Tryz.prog 51 #[.agg M, .pointer (some ⟨Bh, 0, none⟩), .pointer (some ⟨Bf, 0, none⟩)] W fun e w' => e = .returned (rv p q) ∧ Below W.heap.size W w') :
  Calls Tryz.prog 50 #[.agg #[.int .i64 id, .int .i64 al, .int .i64 ah, .slice A n c, .slice B mm d, .slice C l ee, .int .i64 t0, .int .i64 t1, .int .i64 u0, .int .i64 u1, .int .i64 v0, .int .i64 v1, .int .i64 h0, .int .i64 h1], .agg #[.int .i64 fh, .int .i64 st, .int .i64 x0, .int .i64 x1, .int .i64 d0, .int .i64 d1], .func (.func 51) #[] #[.pointer (some ⟨Bh, 0, none⟩), .pointer (some ⟨Bf, 0, none⟩)]] w fun e w' => e = .returned (rt (if E = 0 then (p, q, 0) else (0, 0, E))) ∧ Below w.heap.size w w' := by
 have HE := Lib.hid (show Below w.heap.size w (((w.alloc (.cells #[.int .i64 id, .int .i64 al, .int .i64 ah, .slice A n c, .slice B mm d, .slice C l ee, .int .i64 t0, .int .i64 t1, .int .i64 u0, .int .i64 u1, .int .i64 v0, .int .i64 v1, .int .i64 h0, .int .i64 h1] 50)).alloc (.cells #[.int .i64 fh, .int .i64 st, .int .i64 x0, .int .i64 x1, .int .i64 d0, .int .i64 d1] 53)).alloc (.cells #[.int .i64 0, .int .i64 0] 30)) from below_a3 (Below.refl _ _))
 have HK := Lib.hid (boxes3' w 50 53 30 #[.int .i64 id, .int .i64 al, .int .i64 ah, .slice A n c, .slice B mm d, .slice C l ee, .int .i64 t0, .int .i64 t1, .int .i64 u0, .int .i64 u1, .int .i64 v0, .int .i64 v1, .int .i64 h0, .int .i64 h1] #[.int .i64 fh, .int .i64 st, .int .i64 x0, .int .i64 x1, .int .i64 d0, .int .i64 d1] #[.int .i64 0, .int .i64 0])
 have D1 := Lib.hid C1
 have D2 : Hid (E = 0 → ∀ W, Calls Tryz.prog 57 #[.agg #[.int .i64 fh, .int .i64 st, .int .i64 x0, .int .i64 x1, .int .i64 d0, .int .i64 d1]] W fun e w' => e = .returned (.agg M) ∧ Below W.heap.size W w') := Lib.hid fun h W => by rw [← gM]; exact meaningOf_any fh st x0 x1 d0 d1 W (g0 h).1 (g0 h).2
 have D3 := Lib.hid C3
 clear C1 C3 g0 gM
 by_cases g : E = 0
 ·rw [if_pos g]
  have X2 := Lib.hid (D2.out g)
  have X3 := Lib.hid (D3.out g)
  clear D2 D3
  subst g
  go_enter Tryz.func50, Tryz.ntmps50
  go_wp2_with fail
  obtain ⟨W0, hW0⟩ : ∃ W0, (((w.alloc (.cells #[.int .i64 id, .int .i64 al, .int .i64 ah, .slice A n c, .slice B mm d, .slice C l ee, .int .i64 t0, .int .i64 t1, .int .i64 u0, .int .i64 u1, .int .i64 v0, .int .i64 v1, .int .i64 h0, .int .i64 h1] 50)).alloc (.cells #[.int .i64 fh, .int .i64 st, .int .i64 x0, .int .i64 x1, .int .i64 d0, .int .i64 d1] 53)).alloc (.cells #[.int .i64 0, .int .i64 0] 30)) = W0 := ⟨_, rfl⟩
  rw [hW0] at HE HK ⊢
  clear hW0
  obtain ⟨G, hG⟩ : ∃ G, w.heap.size = G := ⟨_, rfl⟩
  rw [hG] at HK ⊢
  have HG := Lib.hid hG; clear hG
  refine (D1.out _ HE.out).mono ?_
  rintro e w1 ⟨rfl, hb⟩
  have HE1 := Lib.hid (below_then HE.out hb); have HK1 := Lib.hid (HK.out.on hb)
  clear hb HE HK D1
  have f := HK1.out _ (.tail _ (.head _))
  have f0 := f.cell 0
  have f1 := f.cell 1
  have f2 := f.cell 2
  have f3 := f.cell 3
  have f4 := f.cell 4
  have f5 := f.cell 5
  simp at f0 f1 f2 f3 f4 f5
  clear f
  go_wp2_with fail
  refine (X2.out _).mono ?_
  rintro e w2 ⟨rfl, hb⟩
  have HE2 := Lib.hid (below_then HE1.out hb); have HK2 := Lib.hid (HK1.out.on hb)
  clear hb HE1 HK1 X2 f0 f1 f2 f3 f4 f5
  go_wp2_with fail
  refine (X3.out _ HE2.out).mono ?_
  rintro e w3 ⟨rfl, hb⟩
  have HE3 := Lib.hid (below_then HE2.out hb); have HK3 := Lib.hid (HK2.out.on hb)
  clear hb HE2 HK2 X3
  have z := HK3.out _ (.head _)
  have z0 := z.cell 0
  have zf0 := z.frozen 0
  have z1 := z.cell 1
  have zf1 := z.frozen 1
  have zl := z.lt
  simp at z0 zf0 z1 zf1
  clear z
  go_wp2
  refine bodyPost_ret (v := rt (p, q, 0)) (by simp [results, Tryz.results50, go_sem, z0, z1]) rfl ⟨rfl, ?_⟩
  have hg := HG.out
  repeat (first | exact HE3.out | refine Below.setCell ?_ (by simp <;> omega) _)
 ·rw [if_neg g]
  clear D2 D3
  go_enter Tryz.func50, Tryz.ntmps50
  go_wp2_with fail
  obtain ⟨W0, hW0⟩ : ∃ W0, (((w.alloc (.cells #[.int .i64 id, .int .i64 al, .int .i64 ah, .slice A n c, .slice B mm d, .slice C l ee, .int .i64 t0, .int .i64 t1, .int .i64 u0, .int .i64 u1, .int .i64 v0, .int .i64 v1, .int .i64 h0, .int .i64 h1] 50)).alloc (.cells #[.int .i64 fh, .int .i64 st, .int .i64 x0, .int .i64 x1, .int .i64 d0, .int .i64 d1] 53)).alloc (.cells #[.int .i64 0, .int .i64 0] 30)) = W0 := ⟨_, rfl⟩
  rw [hW0] at HE HK ⊢
  clear hW0
  obtain ⟨G, hG⟩ : ∃ G, w.heap.size = G := ⟨_, rfl⟩
  rw [hG] at HK ⊢
  have HG := Lib.hid hG; clear hG
  refine (D1.out _ HE.out).mono ?_
  rintro e w1 ⟨rfl, hb⟩
  have HE1 := Lib.hid (below_then HE.out hb); have HK1 := Lib.hid (HK.out.on hb)
  clear hb HE HK D1
  have z := HK1.out _ (.head _)
  have z0 := z.cell 0
  have zf0 := z.frozen 0
  have z1 := z.cell 1
  have zf1 := z.frozen 1
  have zl := z.lt
  simp at z0 zf0 z1 zf1
  clear z
  go_wp2
  refine bodyPost_ret (v := rt (0, 0, E)) (by simp [results, Tryz.results50, go_sem, z0, z1]) rfl ⟨rfl, ?_⟩
  have hg := HG.out
  repeat (first | exact HE1.out | refine Below.setCell ?_ (by simp <;> omega) _)
set_option maxRecDepth 100000 in
set_option maxHeartbeats 4000000 in
theorem tell_hei (E p q : Int) (M : Array Value) (id al ah t0 t1 u0 u1 v0 v1 h0 h1 : Int) (A B C : Option Addr) (n c mm d l ee : Nat) (fh st x0 x1 d0 d1 : Int) (Bh Bf : Nat) (w : World) (g0 : E = 0 → 0 ≤ st ∧ st ≤ 5) (gM : mM st = M)
  (C1 : ∀ W, Below w.heap.size w W → Calls Tryz.prog 66 #[.agg #[.int .i64 id, .int .i64 al, .int .i64 ah, .slice A n c, .slice B mm d, .slice C l ee, .int .i64 t0, .int .i64 t1, .int .i64 u0, .int .i64 u1, .int .i64 v0, .int .i64 v1, .int .i64 h0, .int .i64 h1], .agg #[.int .i64 fh, .int .i64 st, .int .i64 x0, .int .i64 x1, .int .i64 d0, .int .i64 d1]] W fun e w' => e = .returned (.int .i64 E) ∧ Below W.heap.size W w')
  (C3 : E = 0 → ∀ W, Below w.heap.size w W → Calls Tryz.prog 56 #[.agg M, .pointer (some ⟨Bh, 0, none⟩), .pointer (some ⟨Bf, 0, none⟩)] W fun e w' => e = .returned (rv p q) ∧ Below W.heap.size W w') :
  Calls Tryz.prog 50 #[.agg #[.int .i64 id, .int .i64 al, .int .i64 ah, .slice A n c, .slice B mm d, .slice C l ee, .int .i64 t0, .int .i64 t1, .int .i64 u0, .int .i64 u1, .int .i64 v0, .int .i64 v1, .int .i64 h0, .int .i64 h1], .agg #[.int .i64 fh, .int .i64 st, .int .i64 x0, .int .i64 x1, .int .i64 d0, .int .i64 d1], .func (.func 56) #[] #[.pointer (some ⟨Bh, 0, none⟩), .pointer (some ⟨Bf, 0, none⟩)]] w fun e w' => e = .returned (rt (if E = 0 then (p, q, 0) else (0, 0, E))) ∧ Below w.heap.size w w' := by
 have HE := Lib.hid (show Below w.heap.size w (((w.alloc (.cells #[.int .i64 id, .int .i64 al, .int .i64 ah, .slice A n c, .slice B mm d, .slice C l ee, .int .i64 t0, .int .i64 t1, .int .i64 u0, .int .i64 u1, .int .i64 v0, .int .i64 v1, .int .i64 h0, .int .i64 h1] 50)).alloc (.cells #[.int .i64 fh, .int .i64 st, .int .i64 x0, .int .i64 x1, .int .i64 d0, .int .i64 d1] 53)).alloc (.cells #[.int .i64 0, .int .i64 0] 30)) from below_a3 (Below.refl _ _))
 have HK := Lib.hid (boxes3' w 50 53 30 #[.int .i64 id, .int .i64 al, .int .i64 ah, .slice A n c, .slice B mm d, .slice C l ee, .int .i64 t0, .int .i64 t1, .int .i64 u0, .int .i64 u1, .int .i64 v0, .int .i64 v1, .int .i64 h0, .int .i64 h1] #[.int .i64 fh, .int .i64 st, .int .i64 x0, .int .i64 x1, .int .i64 d0, .int .i64 d1] #[.int .i64 0, .int .i64 0])
 have D1 := Lib.hid C1
 have D2 : Hid (E = 0 → ∀ W, Calls Tryz.prog 57 #[.agg #[.int .i64 fh, .int .i64 st, .int .i64 x0, .int .i64 x1, .int .i64 d0, .int .i64 d1]] W fun e w' => e = .returned (.agg M) ∧ Below W.heap.size W w') := Lib.hid fun h W => by rw [← gM]; exact meaningOf_any fh st x0 x1 d0 d1 W (g0 h).1 (g0 h).2
 have D3 := Lib.hid C3
 clear C1 C3 g0 gM
 by_cases g : E = 0
 ·rw [if_pos g]
  have X2 := Lib.hid (D2.out g)
  have X3 := Lib.hid (D3.out g)
  clear D2 D3
  subst g
  go_enter Tryz.func50, Tryz.ntmps50
  go_wp2_with fail
  obtain ⟨W0, hW0⟩ : ∃ W0, (((w.alloc (.cells #[.int .i64 id, .int .i64 al, .int .i64 ah, .slice A n c, .slice B mm d, .slice C l ee, .int .i64 t0, .int .i64 t1, .int .i64 u0, .int .i64 u1, .int .i64 v0, .int .i64 v1, .int .i64 h0, .int .i64 h1] 50)).alloc (.cells #[.int .i64 fh, .int .i64 st, .int .i64 x0, .int .i64 x1, .int .i64 d0, .int .i64 d1] 53)).alloc (.cells #[.int .i64 0, .int .i64 0] 30)) = W0 := ⟨_, rfl⟩
  rw [hW0] at HE HK ⊢
  clear hW0
  obtain ⟨G, hG⟩ : ∃ G, w.heap.size = G := ⟨_, rfl⟩
  rw [hG] at HK ⊢
  have HG := Lib.hid hG; clear hG
  refine (D1.out _ HE.out).mono ?_
  rintro e w1 ⟨rfl, hb⟩
  have HE1 := Lib.hid (below_then HE.out hb); have HK1 := Lib.hid (HK.out.on hb)
  clear hb HE HK D1
  have f := HK1.out _ (.tail _ (.head _))
  have f0 := f.cell 0
  have f1 := f.cell 1
  have f2 := f.cell 2
  have f3 := f.cell 3
  have f4 := f.cell 4
  have f5 := f.cell 5
  simp at f0 f1 f2 f3 f4 f5
  clear f
  go_wp2_with fail
  refine (X2.out _).mono ?_
  rintro e w2 ⟨rfl, hb⟩
  have HE2 := Lib.hid (below_then HE1.out hb); have HK2 := Lib.hid (HK1.out.on hb)
  clear hb HE1 HK1 X2 f0 f1 f2 f3 f4 f5
  go_wp2_with fail
  refine (X3.out _ HE2.out).mono ?_
  rintro e w3 ⟨rfl, hb⟩
  have HE3 := Lib.hid (below_then HE2.out hb); have HK3 := Lib.hid (HK2.out.on hb)
  clear hb HE2 HK2 X3
  have z := HK3.out _ (.head _)
  have z0 := z.cell 0
  have zf0 := z.frozen 0
  have z1 := z.cell 1
  have zf1 := z.frozen 1
  have zl := z.lt
  simp at z0 zf0 z1 zf1
  clear z
  go_wp2
  refine bodyPost_ret (v := rt (p, q, 0)) (by simp [results, Tryz.results50, go_sem, z0, z1]) rfl ⟨rfl, ?_⟩
  have hg := HG.out
  repeat (first | exact HE3.out | refine Below.setCell ?_ (by simp <;> omega) _)
 ·rw [if_neg g]
  clear D2 D3
  go_enter Tryz.func50, Tryz.ntmps50
  go_wp2_with fail
  obtain ⟨W0, hW0⟩ : ∃ W0, (((w.alloc (.cells #[.int .i64 id, .int .i64 al, .int .i64 ah, .slice A n c, .slice B mm d, .slice C l ee, .int .i64 t0, .int .i64 t1, .int .i64 u0, .int .i64 u1, .int .i64 v0, .int .i64 v1, .int .i64 h0, .int .i64 h1] 50)).alloc (.cells #[.int .i64 fh, .int .i64 st, .int .i64 x0, .int .i64 x1, .int .i64 d0, .int .i64 d1] 53)).alloc (.cells #[.int .i64 0, .int .i64 0] 30)) = W0 := ⟨_, rfl⟩
  rw [hW0] at HE HK ⊢
  clear hW0
  obtain ⟨G, hG⟩ : ∃ G, w.heap.size = G := ⟨_, rfl⟩
  rw [hG] at HK ⊢
  have HG := Lib.hid hG; clear hG
  refine (D1.out _ HE.out).mono ?_
  rintro e w1 ⟨rfl, hb⟩
  have HE1 := Lib.hid (below_then HE.out hb); have HK1 := Lib.hid (HK.out.on hb)
  clear hb HE HK D1
  have z := HK1.out _ (.head _)
  have z0 := z.cell 0
  have zf0 := z.frozen 0
  have z1 := z.cell 1
  have zf1 := z.frozen 1
  have zl := z.lt
  simp at z0 zf0 z1 zf1
  clear z
  go_wp2
  refine bodyPost_ret (v := rt (0, 0, E)) (by simp [results, Tryz.results50, go_sem, z0, z1]) rfl ⟨rfl, ?_⟩
  have hg := HG.out
  repeat (first | exact HE1.out | refine Below.setCell ?_ (by simp <;> omega) _)
set_option maxRecDepth 100000 in
set_option maxHeartbeats 4000000 in
theorem hVolume_any (h : HoldD) (m : HoldM) (f : FillD) (w : World) (hi : HoldIn w h m) :
  Calls Tryz.prog 18 #[holdV h m, fillV f] w fun e w' => e = .returned (rt (tellS h f (volS h f))) ∧ Below w.heap.size w w' := by
 have HI := Lib.hid hi
 obtain ⟨R, hR⟩ : ∃ R, tellS h f (volS h f) = R := ⟨_, rfl⟩
 have CT : Hid (∀ W Bh Bf, Below w.heap.size w W → Blk W Bh 50 (holdCells h m) → Blk W Bf 53 (fillCells f) → Calls Tryz.prog 50 #[holdV h m, fillV f, .func (.func 51) #[] #[.pointer (some ⟨Bh, 0, none⟩), .pointer (some ⟨Bf, 0, none⟩)]] W fun e w' => e = .returned (rt R) ∧ Below W.heap.size W w') := Lib.hid fun W Bh Bf hW hB fB => by
  rw [← hR]
  exact tell_vol (fillErr h f) (volS h f).1 (volS h f).2 (mM f.st) h.id h.al h.ah h.t0 h.t1 h.u0 h.u1 h.v0 h.v1 h.h0 h.h1 m.A m.B m.C m.n m.c m.m m.d m.l m.e f.hold f.st f.x0 f.x1 f.d0 f.d1 Bh Bf W fill_state rfl
   (fun V hV => checkFill_any h m f V (HI.out.below (below_then hW hV)))
   (fun e V hV => volume1_any h m f Bh Bf V (HI.out.below (below_then hW hV)) (fill_state e).1 (fill_state e).2 (blkOn hB hV) (blkOn fB hV))
 rw [hR]
 clear hR hi HI
 obtain ⟨id, al, ah, vol, mom, hei, t0, t1, u0, u1, v0, v1, h0, h1⟩ := h
 obtain ⟨A, n, c, B, mm, d, C, l, ee⟩ := m
 obtain ⟨fh, st, x0, x1, d0, d1⟩ := f
 obtain ⟨ra, rb, re⟩ := R
 have HE := Lib.hid (show Below w.heap.size w (((w.alloc (.cells #[.int .i64 id, .int .i64 al, .int .i64 ah, .slice A n c, .slice B mm d, .slice C l ee, .int .i64 t0, .int .i64 t1, .int .i64 u0, .int .i64 u1, .int .i64 v0, .int .i64 v1, .int .i64 h0, .int .i64 h1] 50)).alloc (.cells #[.int .i64 fh, .int .i64 st, .int .i64 x0, .int .i64 x1, .int .i64 d0, .int .i64 d1] 53)).alloc (.cells #[.int .i64 0, .int .i64 0] 30)) from below_a3 (Below.refl _ _))
 have HK := Lib.hid (boxes3' w 50 53 30 #[.int .i64 id, .int .i64 al, .int .i64 ah, .slice A n c, .slice B mm d, .slice C l ee, .int .i64 t0, .int .i64 t1, .int .i64 u0, .int .i64 u1, .int .i64 v0, .int .i64 v1, .int .i64 h0, .int .i64 h1] #[.int .i64 fh, .int .i64 st, .int .i64 x0, .int .i64 x1, .int .i64 d0, .int .i64 d1] #[.int .i64 0, .int .i64 0])
 go_enter Tryz.func18, Tryz.ntmps18
 go_wp2_with fail
 obtain ⟨W0, hW0⟩ : ∃ W0, (((w.alloc (.cells #[.int .i64 id, .int .i64 al, .int .i64 ah, .slice A n c, .slice B mm d, .slice C l ee, .int .i64 t0, .int .i64 t1, .int .i64 u0, .int .i64 u1, .int .i64 v0, .int .i64 v1, .int .i64 h0, .int .i64 h1] 50)).alloc (.cells #[.int .i64 fh, .int .i64 st, .int .i64 x0, .int .i64 x1, .int .i64 d0, .int .i64 d1] 53)).alloc (.cells #[.int .i64 0, .int .i64 0] 30)) = W0 := ⟨_, rfl⟩
 rw [hW0] at HE HK ⊢
 clear hW0
 obtain ⟨G, hG⟩ : ∃ G, w.heap.size = G := ⟨_, rfl⟩
 rw [hG] at HK ⊢
 have HG := Lib.hid hG; clear hG
 refine (CT.out _ _ _ HE.out (HK.out _ (.tail _ (.tail _ (.head _)))) (HK.out _ (.tail _ (.head _)))).mono ?_
 rintro e w1 ⟨rfl, hb⟩
 have HE1 := Lib.hid (below_then HE.out hb); have HK1 := Lib.hid (HK.out.on hb)
 clear hb HE HK CT
 have z := HK1.out _ (.head _)
 have z0 := z.cell 0
 have zf0 := z.frozen 0
 have z1 := z.cell 1
 have zf1 := z.frozen 1
 have zl := z.lt
 simp at z0 zf0 z1 zf1
 clear z
 go_wp2
 refine bodyPost_ret (v := rt (ra, rb, re)) (by simp [results, Tryz.results18, go_sem, z0, z1]) rfl ⟨rfl, ?_⟩
 have hg := HG.out
 repeat (first | exact HE1.out | refine Below.setCell ?_ (by simp <;> omega) _)
set_option maxRecDepth 100000 in
set_option maxHeartbeats 4000000 in
theorem hHeight_any (h : HoldD) (m : HoldM) (f : FillD) (w : World) (hi : HoldIn w h m) :
  Calls Tryz.prog 22 #[holdV h m, fillV f] w fun e w' => e = .returned (rt (tellS h f (heiS h f))) ∧ Below w.heap.size w w' := by
 have HI := Lib.hid hi
 obtain ⟨R, hR⟩ : ∃ R, tellS h f (heiS h f) = R := ⟨_, rfl⟩
 have CT : Hid (∀ W Bh Bf, Below w.heap.size w W → Blk W Bh 50 (holdCells h m) → Blk W Bf 53 (fillCells f) → Calls Tryz.prog 50 #[holdV h m, fillV f, .func (.func 56) #[] #[.pointer (some ⟨Bh, 0, none⟩), .pointer (some ⟨Bf, 0, none⟩)]] W fun e w' => e = .returned (rt R) ∧ Below W.heap.size W w') := Lib.hid fun W Bh Bf hW hB fB => by
  rw [← hR]
  exact tell_hei (fillErr h f) (heiS h f).1 (heiS h f).2 (mM f.st) h.id h.al h.ah h.t0 h.t1 h.u0 h.u1 h.v0 h.v1 h.h0 h.h1 m.A m.B m.C m.n m.c m.m m.d m.l m.e f.hold f.st f.x0 f.x1 f.d0 f.d1 Bh Bf W fill_state rfl
   (fun V hV => checkFill_any h m f V (HI.out.below (below_then hW hV)))
   (fun e V hV => height1_any h m f Bh Bf V (HI.out.below (below_then hW hV)) (fill_state e).1 (fill_state e).2 (blkOn hB hV) (blkOn fB hV))
 rw [hR]
 clear hR hi HI
 obtain ⟨id, al, ah, vol, mom, hei, t0, t1, u0, u1, v0, v1, h0, h1⟩ := h
 obtain ⟨A, n, c, B, mm, d, C, l, ee⟩ := m
 obtain ⟨fh, st, x0, x1, d0, d1⟩ := f
 obtain ⟨ra, rb, re⟩ := R
 have HE := Lib.hid (show Below w.heap.size w (((w.alloc (.cells #[.int .i64 id, .int .i64 al, .int .i64 ah, .slice A n c, .slice B mm d, .slice C l ee, .int .i64 t0, .int .i64 t1, .int .i64 u0, .int .i64 u1, .int .i64 v0, .int .i64 v1, .int .i64 h0, .int .i64 h1] 50)).alloc (.cells #[.int .i64 fh, .int .i64 st, .int .i64 x0, .int .i64 x1, .int .i64 d0, .int .i64 d1] 53)).alloc (.cells #[.int .i64 0, .int .i64 0] 30)) from below_a3 (Below.refl _ _))
 have HK := Lib.hid (boxes3' w 50 53 30 #[.int .i64 id, .int .i64 al, .int .i64 ah, .slice A n c, .slice B mm d, .slice C l ee, .int .i64 t0, .int .i64 t1, .int .i64 u0, .int .i64 u1, .int .i64 v0, .int .i64 v1, .int .i64 h0, .int .i64 h1] #[.int .i64 fh, .int .i64 st, .int .i64 x0, .int .i64 x1, .int .i64 d0, .int .i64 d1] #[.int .i64 0, .int .i64 0])
 go_enter Tryz.func22, Tryz.ntmps22
 go_wp2_with fail
 obtain ⟨W0, hW0⟩ : ∃ W0, (((w.alloc (.cells #[.int .i64 id, .int .i64 al, .int .i64 ah, .slice A n c, .slice B mm d, .slice C l ee, .int .i64 t0, .int .i64 t1, .int .i64 u0, .int .i64 u1, .int .i64 v0, .int .i64 v1, .int .i64 h0, .int .i64 h1] 50)).alloc (.cells #[.int .i64 fh, .int .i64 st, .int .i64 x0, .int .i64 x1, .int .i64 d0, .int .i64 d1] 53)).alloc (.cells #[.int .i64 0, .int .i64 0] 30)) = W0 := ⟨_, rfl⟩
 rw [hW0] at HE HK ⊢
 clear hW0
 obtain ⟨G, hG⟩ : ∃ G, w.heap.size = G := ⟨_, rfl⟩
 rw [hG] at HK ⊢
 have HG := Lib.hid hG; clear hG
 refine (CT.out _ _ _ HE.out (HK.out _ (.tail _ (.tail _ (.head _)))) (HK.out _ (.tail _ (.head _)))).mono ?_
 rintro e w1 ⟨rfl, hb⟩
 have HE1 := Lib.hid (below_then HE.out hb); have HK1 := Lib.hid (HK.out.on hb)
 clear hb HE HK CT
 have z := HK1.out _ (.head _)
 have z0 := z.cell 0
 have zf0 := z.frozen 0
 have z1 := z.cell 1
 have zf1 := z.frozen 1
 have zl := z.lt
 simp at z0 zf0 z1 zf1
 clear z
 go_wp2
 refine bodyPost_ret (v := rt (ra, rb, re)) (by simp [results, Tryz.results22, go_sem, z0, z1]) rfl ⟨rfl, ?_⟩
 have hg := HG.out
 repeat (first | exact HE1.out | refine Below.setCell ?_ (by simp <;> omega) _)
end

end Go.Proofs.YtekkiedlajhaiaaGreat
