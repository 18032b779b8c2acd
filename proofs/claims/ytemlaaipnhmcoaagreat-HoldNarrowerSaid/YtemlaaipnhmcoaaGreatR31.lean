/- The contracts of tell with its closures, Volume, Mass, Moment, Heel and Height (hold). Their condition: the hold's tables lie in memory. -/
import Derived.Test.YtemlaaipnhmcoaaGreatR28
import Derived.Test.YtemlaaipnhmcoaaGreatR23
import Derived.Test.YtemlaaipnhmcoaaGreatR30
set_option linter.unusedVariables false
set_option linter.unusedSimpArgs false
set_option linter.constructorNameAsVariable false
namespace Go.Proofs.YtemlaaipnhmcoaaGreat

section
open Go.RowKit

def volS (h : HoldD) (f : FillD) : Int × Int := if f.st = 0 then (0, 0) else if f.st ≤ 2 then (h.v0, h.v1) else ((overS h.vol f.x0 f.x1).1, (overS h.vol f.x0 f.x1).2.1)
def momS (h : HoldD) (f : FillD) : Int × Int := if f.st = 0 then (0, 0) else if f.st = 1 then (h.t0, h.t1) else if f.st = 2 then (h.u0, h.u1) else if f.st = 3 then ((overS h.mom f.x0 f.x1).1, (overS h.mom f.x0 f.x1).2.1) else (0, 0)
def heiS (h : HoldD) (f : FillD) : Int × Int := if f.st = 0 then (0, 0) else if f.st ≤ 2 then (h.h0, h.h1) else ((overS h.hei f.x0 f.x1).1, (overS h.hei f.x0 f.x1).2.1)
def volF (st : Int) : Nat := if st = 0 then 188 else if st ≤ 2 then 191 else 195
def momF (st : Int) : Nat := if st = 0 then 188 else if st = 1 then 150 else if st = 2 then 151 else if st = 3 then 153 else 188
def heiF (st : Int) : Nat := if st = 0 then 188 else if st ≤ 2 then 192 else 196
theorem volF_to (h : HoldD) (m : HoldM) (f : FillD) (w : World) (hi : HoldIn w h m) (q0 : 0 ≤ f.st) (q5 : f.st ≤ 5) :
    Calls Tryz.prog (volF f.st) #[holdV h m, fillV f] w fun e w' => e = .returned (rv (volS h f).1 (volS h f).2) ∧ Below w.heap.size w w' := by
  obtain ⟨id, al, ah, vol, mom, hei, t0, t1, u0, u1, v0, v1, h0, h1⟩ := h
  obtain ⟨A, n, c, B, mm, d, C, l, ee⟩ := m
  obtain ⟨fh, st, x0, x1, d0, d1⟩ := f
  obtain ⟨i1, i2, i3⟩ := hi
  dsimp only at i1 i2 i3 q0 q5
  rcases st_cases q0 q5 with rfl | rfl | rfl | rfl | rfl | rfl
  · exact nothing_to id al ah t0 t1 u0 u1 v0 v1 h0 h1 A B C n c mm d l ee fh 0 x0 x1 d0 d1 w
  · exact filledVol_to id al ah t0 t1 u0 u1 v0 v1 h0 h1 A B C n c mm d l ee fh 1 x0 x1 d0 d1 w
  · exact filledVol_to id al ah t0 t1 u0 u1 v0 v1 h0 h1 A B C n c mm d l ee fh 2 x0 x1 d0 d1 w
  · exact partlyVol_to vol id al ah t0 t1 u0 u1 v0 v1 h0 h1 A B C n c mm d l ee fh 3 x0 x1 d0 d1 w i1
  · exact partlyVol_to vol id al ah t0 t1 u0 u1 v0 v1 h0 h1 A B C n c mm d l ee fh 4 x0 x1 d0 d1 w i1
  · exact partlyVol_to vol id al ah t0 t1 u0 u1 v0 v1 h0 h1 A B C n c mm d l ee fh 5 x0 x1 d0 d1 w i1
theorem momF_to (h : HoldD) (m : HoldM) (f : FillD) (w : World) (hi : HoldIn w h m) (q0 : 0 ≤ f.st) (q5 : f.st ≤ 5) :
    Calls Tryz.prog (momF f.st) #[holdV h m, fillV f] w fun e w' => e = .returned (rv (momS h f).1 (momS h f).2) ∧ Below w.heap.size w w' := by
  obtain ⟨id, al, ah, vol, mom, hei, t0, t1, u0, u1, v0, v1, h0, h1⟩ := h
  obtain ⟨A, n, c, B, mm, d, C, l, ee⟩ := m
  obtain ⟨fh, st, x0, x1, d0, d1⟩ := f
  obtain ⟨i1, i2, i3⟩ := hi
  dsimp only at i1 i2 i3 q0 q5
  rcases st_cases q0 q5 with rfl | rfl | rfl | rfl | rfl | rfl
  · exact nothing_to id al ah t0 t1 u0 u1 v0 v1 h0 h1 A B C n c mm d l ee fh 0 x0 x1 d0 d1 w
  · exact meanTrim_to id al ah t0 t1 u0 u1 v0 v1 h0 h1 A B C n c mm d l ee fh 1 x0 x1 d0 d1 w
  · exact meanUntr_to id al ah t0 t1 u0 u1 v0 v1 h0 h1 A B C n c mm d l ee fh 2 x0 x1 d0 d1 w
  · exact meanMom_to mom id al ah t0 t1 u0 u1 v0 v1 h0 h1 A B C n c mm d l ee fh 3 x0 x1 d0 d1 w i2
  · exact nothing_to id al ah t0 t1 u0 u1 v0 v1 h0 h1 A B C n c mm d l ee fh 4 x0 x1 d0 d1 w
  · exact nothing_to id al ah t0 t1 u0 u1 v0 v1 h0 h1 A B C n c mm d l ee fh 5 x0 x1 d0 d1 w
theorem heiF_to (h : HoldD) (m : HoldM) (f : FillD) (w : World) (hi : HoldIn w h m) (q0 : 0 ≤ f.st) (q5 : f.st ≤ 5) :
    Calls Tryz.prog (heiF f.st) #[holdV h m, fillV f] w fun e w' => e = .returned (rv (heiS h f).1 (heiS h f).2) ∧ Below w.heap.size w w' := by
  obtain ⟨id, al, ah, vol, mom, hei, t0, t1, u0, u1, v0, v1, h0, h1⟩ := h
  obtain ⟨A, n, c, B, mm, d, C, l, ee⟩ := m
  obtain ⟨fh, st, x0, x1, d0, d1⟩ := f
  obtain ⟨i1, i2, i3⟩ := hi
  dsimp only at i1 i2 i3 q0 q5
  rcases st_cases q0 q5 with rfl | rfl | rfl | rfl | rfl | rfl
  · exact nothing_to id al ah t0 t1 u0 u1 v0 v1 h0 h1 A B C n c mm d l ee fh 0 x0 x1 d0 d1 w
  · exact filledHei_to id al ah t0 t1 u0 u1 v0 v1 h0 h1 A B C n c mm d l ee fh 1 x0 x1 d0 d1 w
  · exact filledHei_to id al ah t0 t1 u0 u1 v0 v1 h0 h1 A B C n c mm d l ee fh 2 x0 x1 d0 d1 w
  · exact partlyHei_to hei id al ah t0 t1 u0 u1 v0 v1 h0 h1 A B C n c mm d l ee fh 3 x0 x1 d0 d1 w i3
  · exact partlyHei_to hei id al ah t0 t1 u0 u1 v0 v1 h0 h1 A B C n c mm d l ee fh 4 x0 x1 d0 d1 w i3
  · exact partlyHei_to hei id al ah t0 t1 u0 u1 v0 v1 h0 h1 A B C n c mm d l ee fh 5 x0 x1 d0 d1 w i3
abbrev fillCells (f : FillD) : Array Value := #[.int .i64 f.hold, .int .i64 f.st, .int .i64 f.x0, .int .i64 f.x1, .int .i64 f.d0, .int .i64 f.d1]
set_option maxRecDepth 100000 in
set_option maxHeartbeats 4000000 in
theorem moment1_0 (a kv km kh s : Nat) (x y z p q : Int) (id al ah t0 t1 u0 u1 v0 v1 h0 h1 : Int) (A B C : Option Addr) (n c mm d l ee : Nat) (fh st x0 x1 d0 d1 : Int) (Bh Bf : Nat) (w : World) (hB : Blk w Bh 35 #[.int .i64 id, .int .i64 al, .int .i64 ah, .slice A n c, .slice B mm d, .slice C l ee, .int .i64 t0, .int .i64 t1, .int .i64 u0, .int .i64 u1, .int .i64 v0, .int .i64 v1, .int .i64 h0, .int .i64 h1]) (fB : Blk w Bf 55 #[.int .i64 fh, .int .i64 st, .int .i64 x0, .int .i64 x1, .int .i64 d0, .int .i64 d1])
  (hC : ∀ W, Below w.heap.size w W → Calls Tryz.prog 188 #[.agg #[.int .i64 id, .int .i64 al, .int .i64 ah, .slice A n c, .slice B mm d, .slice C l ee, .int .i64 t0, .int .i64 t1, .int .i64 u0, .int .i64 u1, .int .i64 v0, .int .i64 v1, .int .i64 h0, .int .i64 h1], .agg #[.int .i64 fh, .int .i64 st, .int .i64 x0, .int .i64 x1, .int .i64 d0, .int .i64 d1]] W fun e w' => e = .returned (rv p q) ∧ Below W.heap.size W w') :
  Calls Tryz.prog 84 #[.agg #[fnV a, fnV kv, fnV 188, fnV kh, fnV s, .int .i64 x, .int .i64 y, .int .i64 z], .pointer (some ⟨Bh, 0, none⟩), .pointer (some ⟨Bf, 0, none⟩)] w fun e w' => e = .returned (rv p q) ∧ Below w.heap.size w w' := by
 have HE := Lib.hid (show Below w.heap.size w ((w.alloc (.cells #[fnV a, fnV kv, fnV 188, fnV kh, fnV s, .int .i64 x, .int .i64 y, .int .i64 z] 123)).alloc (.cells #[.int .i64 0, .int .i64 0] 30)) from below_a2 (Below.refl _ _))
 have HK := Lib.hid (boxes2' w 123 30 #[fnV a, fnV kv, fnV 188, fnV kh, fnV s, .int .i64 x, .int .i64 y, .int .i64 z] #[.int .i64 0, .int .i64 0])
 have CC := Lib.hid hC
 have HH := Lib.hid (blkOn hB HE.out)
 have HF := Lib.hid (blkOn fB HE.out)
 clear hB fB hC
 go_enter Tryz.func84, Tryz.ntmps84
 go_upto_region 1 with fail
 obtain ⟨W0, hW0⟩ : ∃ W0, ((w.alloc (.cells #[fnV a, fnV kv, fnV 188, fnV kh, fnV s, .int .i64 x, .int .i64 y, .int .i64 z] 123)).alloc (.cells #[.int .i64 0, .int .i64 0] 30)) = W0 := ⟨_, rfl⟩
 rw [hW0] at HE HK HH HF ⊢
 clear hW0
 obtain ⟨G, hG⟩ : ∃ G, w.heap.size = G := ⟨_, rfl⟩
 rw [hG] at HK ⊢
 have HG := Lib.hid hG; clear hG
 have hh := HH.out
 have ff := HF.out
 have s0 := hh.cell 0
 have s1 := hh.cell 1
 have s2 := hh.cell 2
 have s3 := hh.cell 3
 have s4 := hh.cell 4
 have s5 := hh.cell 5
 have s6 := hh.cell 6
 have s7 := hh.cell 7
 have s8 := hh.cell 8
 have s9 := hh.cell 9
 have s10 := hh.cell 10
 have s11 := hh.cell 11
 have s12 := hh.cell 12
 have s13 := hh.cell 13
 simp at s0 s1 s2 s3 s4 s5 s6 s7 s8 s9 s10 s11 s12 s13
 have f0 := ff.cell 0
 have f1 := ff.cell 1
 have f2 := ff.cell 2
 have f3 := ff.cell 3
 have f4 := ff.cell 4
 have f5 := ff.cell 5
 simp at f0 f1 f2 f3 f4 f5
 have p := HK.out _ (.tail _ (.head _))
 have p2 := p.cell 2
 simp at p2
 clear p
 clear hh ff HH HF
 go_wp2_with fail
 refine (CC.out _ HE.out).mono ?_
 rintro e w1 ⟨rfl, hb⟩
 have HE1 := Lib.hid (below_then HE.out hb); have HK1 := Lib.hid (HK.out.on hb)
 clear hb HE HK CC p2 s0 s1 s2 s3 s4 s5 s6 s7 s8 s9 s10 s11 s12 s13 f0 f1 f2 f3 f4 f5
 have z := HK1.out _ (.head _)
 have z0 := z.cell 0
 have zf0 := z.frozen 0
 have z1 := z.cell 1
 have zf1 := z.frozen 1
 have zl := z.lt
 simp at z0 zf0 z1 zf1
 clear z
 go_wp2
 refine bodyPost_ret (v := rv p q) (by simp [results, Tryz.results84, go_sem, z0, z1]) rfl ⟨rfl, ?_⟩
 have hg := HG.out
 repeat (first | exact HE1.out | refine Below.setCell ?_ (by simp <;> omega) _)

set_option maxRecDepth 100000 in
set_option maxHeartbeats 4000000 in
theorem moment1_1 (a kv km kh s : Nat) (x y z p q : Int) (id al ah t0 t1 u0 u1 v0 v1 h0 h1 : Int) (A B C : Option Addr) (n c mm d l ee : Nat) (fh st x0 x1 d0 d1 : Int) (Bh Bf : Nat) (w : World) (hB : Blk w Bh 35 #[.int .i64 id, .int .i64 al, .int .i64 ah, .slice A n c, .slice B mm d, .slice C l ee, .int .i64 t0, .int .i64 t1, .int .i64 u0, .int .i64 u1, .int .i64 v0, .int .i64 v1, .int .i64 h0, .int .i64 h1]) (fB : Blk w Bf 55 #[.int .i64 fh, .int .i64 st, .int .i64 x0, .int .i64 x1, .int .i64 d0, .int .i64 d1])
  (hC : ∀ W, Below w.heap.size w W → Calls Tryz.prog 150 #[.agg #[.int .i64 id, .int .i64 al, .int .i64 ah, .slice A n c, .slice B mm d, .slice C l ee, .int .i64 t0, .int .i64 t1, .int .i64 u0, .int .i64 u1, .int .i64 v0, .int .i64 v1, .int .i64 h0, .int .i64 h1], .agg #[.int .i64 fh, .int .i64 st, .int .i64 x0, .int .i64 x1, .int .i64 d0, .int .i64 d1]] W fun e w' => e = .returned (rv p q) ∧ Below W.heap.size W w') :
  Calls Tryz.prog 84 #[.agg #[fnV a, fnV kv, fnV 150, fnV kh, fnV s, .int .i64 x, .int .i64 y, .int .i64 z], .pointer (some ⟨Bh, 0, none⟩), .pointer (some ⟨Bf, 0, none⟩)] w fun e w' => e = .returned (rv p q) ∧ Below w.heap.size w w' := by
 have HE := Lib.hid (show Below w.heap.size w ((w.alloc (.cells #[fnV a, fnV kv, fnV 150, fnV kh, fnV s, .int .i64 x, .int .i64 y, .int .i64 z] 123)).alloc (.cells #[.int .i64 0, .int .i64 0] 30)) from below_a2 (Below.refl _ _))
 have HK := Lib.hid (boxes2' w 123 30 #[fnV a, fnV kv, fnV 150, fnV kh, fnV s, .int .i64 x, .int .i64 y, .int .i64 z] #[.int .i64 0, .int .i64 0])
 have CC := Lib.hid hC
 have HH := Lib.hid (blkOn hB HE.out)
 have HF := Lib.hid (blkOn fB HE.out)
 clear hB fB hC
 go_enter Tryz.func84, Tryz.ntmps84
 go_upto_region 1 with fail
 obtain ⟨W0, hW0⟩ : ∃ W0, ((w.alloc (.cells #[fnV a, fnV kv, fnV 150, fnV kh, fnV s, .int .i64 x, .int .i64 y, .int .i64 z] 123)).alloc (.cells #[.int .i64 0, .int .i64 0] 30)) = W0 := ⟨_, rfl⟩
 rw [hW0] at HE HK HH HF ⊢
 clear hW0
 obtain ⟨G, hG⟩ : ∃ G, w.heap.size = G := ⟨_, rfl⟩
 rw [hG] at HK ⊢
 have HG := Lib.hid hG; clear hG
 have hh := HH.out
 have ff := HF.out
 have s0 := hh.cell 0
 have s1 := hh.cell 1
 have s2 := hh.cell 2
 have s3 := hh.cell 3
 have s4 := hh.cell 4
 have s5 := hh.cell 5
 have s6 := hh.cell 6
 have s7 := hh.cell 7
 have s8 := hh.cell 8
 have s9 := hh.cell 9
 have s10 := hh.cell 10
 have s11 := hh.cell 11
 have s12 := hh.cell 12
 have s13 := hh.cell 13
 simp at s0 s1 s2 s3 s4 s5 s6 s7 s8 s9 s10 s11 s12 s13
 have f0 := ff.cell 0
 have f1 := ff.cell 1
 have f2 := ff.cell 2
 have f3 := ff.cell 3
 have f4 := ff.cell 4
 have f5 := ff.cell 5
 simp at f0 f1 f2 f3 f4 f5
 have p := HK.out _ (.tail _ (.head _))
 have p2 := p.cell 2
 simp at p2
 clear p
 clear hh ff HH HF
 go_wp2_with fail
 refine (CC.out _ HE.out).mono ?_
 rintro e w1 ⟨rfl, hb⟩
 have HE1 := Lib.hid (below_then HE.out hb); have HK1 := Lib.hid (HK.out.on hb)
 clear hb HE HK CC p2 s0 s1 s2 s3 s4 s5 s6 s7 s8 s9 s10 s11 s12 s13 f0 f1 f2 f3 f4 f5
 have z := HK1.out _ (.head _)
 have z0 := z.cell 0
 have zf0 := z.frozen 0
 have z1 := z.cell 1
 have zf1 := z.frozen 1
 have zl := z.lt
 simp at z0 zf0 z1 zf1
 clear z
 go_wp2
 refine bodyPost_ret (v := rv p q) (by simp [results, Tryz.results84, go_sem, z0, z1]) rfl ⟨rfl, ?_⟩
 have hg := HG.out
 repeat (first | exact HE1.out | refine Below.setCell ?_ (by simp <;> omega) _)

set_option maxRecDepth 100000 in
set_option maxHeartbeats 4000000 in
theorem moment1_2 (a kv km kh s : Nat) (x y z p q : Int) (id al ah t0 t1 u0 u1 v0 v1 h0 h1 : Int) (A B C : Option Addr) (n c mm d l ee : Nat) (fh st x0 x1 d0 d1 : Int) (Bh Bf : Nat) (w : World) (hB : Blk w Bh 35 #[.int .i64 id, .int .i64 al, .int .i64 ah, .slice A n c, .slice B mm d, .slice C l ee, .int .i64 t0, .int .i64 t1, .int .i64 u0, .int .i64 u1, .int .i64 v0, .int .i64 v1, .int .i64 h0, .int .i64 h1]) (fB : Blk w Bf 55 #[.int .i64 fh, .int .i64 st, .int .i64 x0, .int .i64 x1, .int .i64 d0, .int .i64 d1])
  (hC : ∀ W, Below w.heap.size w W → Calls Tryz.prog 151 #[.agg #[.int .i64 id, .int .i64 al, .int .i64 ah, .slice A n c, .slice B mm d, .slice C l ee, .int .i64 t0, .int .i64 t1, .int .i64 u0, .int .i64 u1, .int .i64 v0, .int .i64 v1, .int .i64 h0, .int .i64 h1], .agg #[.int .i64 fh, .int .i64 st, .int .i64 x0, .int .i64 x1, .int .i64 d0, .int .i64 d1]] W fun e w' => e = .returned (rv p q) ∧ Below W.heap.size W w') :
  Calls Tryz.prog 84 #[.agg #[fnV a, fnV kv, fnV 151, fnV kh, fnV s, .int .i64 x, .int .i64 y, .int .i64 z], .pointer (some ⟨Bh, 0, none⟩), .pointer (some ⟨Bf, 0, none⟩)] w fun e w' => e = .returned (rv p q) ∧ Below w.heap.size w w' := by
 have HE := Lib.hid (show Below w.heap.size w ((w.alloc (.cells #[fnV a, fnV kv, fnV 151, fnV kh, fnV s, .int .i64 x, .int .i64 y, .int .i64 z] 123)).alloc (.cells #[.int .i64 0, .int .i64 0] 30)) from below_a2 (Below.refl _ _))
 have HK := Lib.hid (boxes2' w 123 30 #[fnV a, fnV kv, fnV 151, fnV kh, fnV s, .int .i64 x, .int .i64 y, .int .i64 z] #[.int .i64 0, .int .i64 0])
 have CC := Lib.hid hC
 have HH := Lib.hid (blkOn hB HE.out)
 have HF := Lib.hid (blkOn fB HE.out)
 clear hB fB hC
 go_enter Tryz.func84, Tryz.ntmps84
 go_upto_region 1 with fail
 obtain ⟨W0, hW0⟩ : ∃ W0, ((w.alloc (.cells #[fnV a, fnV kv, fnV 151, fnV kh, fnV s, .int .i64 x, .int .i64 y, .int .i64 z] 123)).alloc (.cells #[.int .i64 0, .int .i64 0] 30)) = W0 := ⟨_, rfl⟩
 rw [hW0] at HE HK HH HF ⊢
 clear hW0
 obtain ⟨G, hG⟩ : ∃ G, w.heap.size = G := ⟨_, rfl⟩
 rw [hG] at HK ⊢
 have HG := Lib.hid hG; clear hG
 have hh := HH.out
 have ff := HF.out
 have s0 := hh.cell 0
 have s1 := hh.cell 1
 have s2 := hh.cell 2
 have s3 := hh.cell 3
 have s4 := hh.cell 4
 have s5 := hh.cell 5
 have s6 := hh.cell 6
 have s7 := hh.cell 7
 have s8 := hh.cell 8
 have s9 := hh.cell 9
 have s10 := hh.cell 10
 have s11 := hh.cell 11
 have s12 := hh.cell 12
 have s13 := hh.cell 13
 simp at s0 s1 s2 s3 s4 s5 s6 s7 s8 s9 s10 s11 s12 s13
 have f0 := ff.cell 0
 have f1 := ff.cell 1
 have f2 := ff.cell 2
 have f3 := ff.cell 3
 have f4 := ff.cell 4
 have f5 := ff.cell 5
 simp at f0 f1 f2 f3 f4 f5
 have p := HK.out _ (.tail _ (.head _))
 have p2 := p.cell 2
 simp at p2
 clear p
 clear hh ff HH HF
 go_wp2_with fail
 refine (CC.out _ HE.out).mono ?_
 rintro e w1 ⟨rfl, hb⟩
 have HE1 := Lib.hid (below_then HE.out hb); have HK1 := Lib.hid (HK.out.on hb)
 clear hb HE HK CC p2 s0 s1 s2 s3 s4 s5 s6 s7 s8 s9 s10 s11 s12 s13 f0 f1 f2 f3 f4 f5
 have z := HK1.out _ (.head _)
 have z0 := z.cell 0
 have zf0 := z.frozen 0
 have z1 := z.cell 1
 have zf1 := z.frozen 1
 have zl := z.lt
 simp at z0 zf0 z1 zf1
 clear z
 go_wp2
 refine bodyPost_ret (v := rv p q) (by simp [results, Tryz.results84, go_sem, z0, z1]) rfl ⟨rfl, ?_⟩
 have hg := HG.out
 repeat (first | exact HE1.out | refine Below.setCell ?_ (by simp <;> omega) _)

set_option maxRecDepth 100000 in
set_option maxHeartbeats 4000000 in
theorem moment1_3 (a kv km kh s : Nat) (x y z p q : Int) (id al ah t0 t1 u0 u1 v0 v1 h0 h1 : Int) (A B C : Option Addr) (n c mm d l ee : Nat) (fh st x0 x1 d0 d1 : Int) (Bh Bf : Nat) (w : World) (hB : Blk w Bh 35 #[.int .i64 id, .int .i64 al, .int .i64 ah, .slice A n c, .slice B mm d, .slice C l ee, .int .i64 t0, .int .i64 t1, .int .i64 u0, .int .i64 u1, .int .i64 v0, .int .i64 v1, .int .i64 h0, .int .i64 h1]) (fB : Blk w Bf 55 #[.int .i64 fh, .int .i64 st, .int .i64 x0, .int .i64 x1, .int .i64 d0, .int .i64 d1])
  (hC : ∀ W, Below w.heap.size w W → Calls Tryz.prog 153 #[.agg #[.int .i64 id, .int .i64 al, .int .i64 ah, .slice A n c, .slice B mm d, .slice C l ee, .int .i64 t0, .int .i64 t1, .int .i64 u0, .int .i64 u1, .int .i64 v0, .int .i64 v1, .int .i64 h0, .int .i64 h1], .agg #[.int .i64 fh, .int .i64 st, .int .i64 x0, .int .i64 x1, .int .i64 d0, .int .i64 d1]] W fun e w' => e = .returned (rv p q) ∧ Below W.heap.size W w') :
  Calls Tryz.prog 84 #[.agg #[fnV a, fnV kv, fnV 153, fnV kh, fnV s, .int .i64 x, .int .i64 y, .int .i64 z], .pointer (some ⟨Bh, 0, none⟩), .pointer (some ⟨Bf, 0, none⟩)] w fun e w' => e = .returned (rv p q) ∧ Below w.heap.size w w' := by
 have HE := Lib.hid (show Below w.heap.size w ((w.alloc (.cells #[fnV a, fnV kv, fnV 153, fnV kh, fnV s, .int .i64 x, .int .i64 y, .int .i64 z] 123)).alloc (.cells #[.int .i64 0, .int .i64 0] 30)) from below_a2 (Below.refl _ _))
 have HK := Lib.hid (boxes2' w 123 30 #[fnV a, fnV kv, fnV 153, fnV kh, fnV s, .int .i64 x, .int .i64 y, .int .i64 z] #[.int .i64 0, .int .i64 0])
 have CC := Lib.hid hC
 have HH := Lib.hid (blkOn hB HE.out)
 have HF := Lib.hid (blkOn fB HE.out)
 clear hB fB hC
 go_enter Tryz.func84, Tryz.ntmps84
 go_upto_region 1 with fail
 obtain ⟨W0, hW0⟩ : ∃ W0, ((w.alloc (.cells #[fnV a, fnV kv, fnV 153, fnV kh, fnV s, .int .i64 x, .int .i64 y, .int .i64 z] 123)).alloc (.cells #[.int .i64 0, .int .i64 0] 30)) = W0 := ⟨_, rfl⟩
 rw [hW0] at HE HK HH HF ⊢
 clear hW0
 obtain ⟨G, hG⟩ : ∃ G, w.heap.size = G := ⟨_, rfl⟩
 rw [hG] at HK ⊢
 have HG := Lib.hid hG; clear hG
 have hh := HH.out
 have ff := HF.out
 have s0 := hh.cell 0
 have s1 := hh.cell 1
 have s2 := hh.cell 2
 have s3 := hh.cell 3
 have s4 := hh.cell 4
 have s5 := hh.cell 5
 have s6 := hh.cell 6
 have s7 := hh.cell 7
 have s8 := hh.cell 8
 have s9 := hh.cell 9
 have s10 := hh.cell 10
 have s11 := hh.cell 11
 have s12 := hh.cell 12
 have s13 := hh.cell 13
 simp at s0 s1 s2 s3 s4 s5 s6 s7 s8 s9 s10 s11 s12 s13
 have f0 := ff.cell 0
 have f1 := ff.cell 1
 have f2 := ff.cell 2
 have f3 := ff.cell 3
 have f4 := ff.cell 4
 have f5 := ff.cell 5
 simp at f0 f1 f2 f3 f4 f5
 have p := HK.out _ (.tail _ (.head _))
 have p2 := p.cell 2
 simp at p2
 clear p
 clear hh ff HH HF
 go_wp2_with fail
 refine (CC.out _ HE.out).mono ?_
 rintro e w1 ⟨rfl, hb⟩
 have HE1 := Lib.hid (below_then HE.out hb); have HK1 := Lib.hid (HK.out.on hb)
 clear hb HE HK CC p2 s0 s1 s2 s3 s4 s5 s6 s7 s8 s9 s10 s11 s12 s13 f0 f1 f2 f3 f4 f5
 have z := HK1.out _ (.head _)
 have z0 := z.cell 0
 have zf0 := z.frozen 0
 have z1 := z.cell 1
 have zf1 := z.frozen 1
 have zl := z.lt
 simp at z0 zf0 z1 zf1
 clear z
 go_wp2
 refine bodyPost_ret (v := rv p q) (by simp [results, Tryz.results84, go_sem, z0, z1]) rfl ⟨rfl, ?_⟩
 have hg := HG.out
 repeat (first | exact HE1.out | refine Below.setCell ?_ (by simp <;> omega) _)
theorem moment1_any (h : HoldD) (m : HoldM) (f : FillD) (Bh Bf : Nat) (w : World) (hi : HoldIn w h m) (q0 : 0 ≤ f.st) (q5 : f.st ≤ 5) (hB : Blk w Bh 35 (holdCells h m)) (fB : Blk w Bf 55 (fillCells f)) :
    Calls Tryz.prog 84 #[.agg (mM f.st), .pointer (some ⟨Bh, 0, none⟩), .pointer (some ⟨Bf, 0, none⟩)] w fun e w' => e = .returned (rv (momS h f).1 (momS h f).2) ∧ Below w.heap.size w w' := by
  have hC := fun W (hW : Below w.heap.size w W) => momF_to h m f W (hi.below hW) q0 q5
  obtain ⟨id, al, ah, vol, mom, hei, t0, t1, u0, u1, v0, v1, h0, h1⟩ := h
  obtain ⟨A, n, c, B, mm, d, C, l, ee⟩ := m
  obtain ⟨fh, st, x0, x1, d0, d1⟩ := f
  dsimp only at hC q0 q5 hB fB ⊢
  rcases st_cases q0 q5 with rfl | rfl | rfl | rfl | rfl | rfl
  · rw [show mM 0 = emptyM from rfl]
    exact moment1_0 _ _ 0 _ _ _ _ _ _ _ id al ah t0 t1 u0 u1 v0 v1 h0 h1 A B C n c mm d l ee fh 0 x0 x1 d0 d1 Bh Bf w hB fB hC
  · rw [show mM 1 = filledM 150 from rfl]
    exact moment1_1 _ _ 0 _ _ _ _ _ _ _ id al ah t0 t1 u0 u1 v0 v1 h0 h1 A B C n c mm d l ee fh 1 x0 x1 d0 d1 Bh Bf w hB fB hC
  · rw [show mM 2 = filledM 151 from rfl]
    exact moment1_2 _ _ 0 _ _ _ _ _ _ _ id al ah t0 t1 u0 u1 v0 v1 h0 h1 A B C n c mm d l ee fh 2 x0 x1 d0 d1 Bh Bf w hB fB hC
  · rw [show mM 3 = partlyM 153 from rfl]
    exact moment1_3 _ _ 0 _ _ _ _ _ _ _ id al ah t0 t1 u0 u1 v0 v1 h0 h1 A B C n c mm d l ee fh 3 x0 x1 d0 d1 Bh Bf w hB fB hC
  · rw [show mM 4 = heldM from rfl]
    exact moment1_0 _ _ 0 _ _ _ _ _ _ _ id al ah t0 t1 u0 u1 v0 v1 h0 h1 A B C n c mm d l ee fh 4 x0 x1 d0 d1 Bh Bf w hB fB hC
  · rw [show mM 5 = heldM from rfl]
    exact moment1_0 _ _ 0 _ _ _ _ _ _ _ id al ah t0 t1 u0 u1 v0 v1 h0 h1 A B C n c mm d l ee fh 5 x0 x1 d0 d1 Bh Bf w hB fB hC
end

end Go.Proofs.YtemlaaipnhmcoaaGreat
