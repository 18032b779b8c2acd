/- The contracts of CheckTank (hold and the specification of layer 2). Condition: the tables lie in memory. -/
import Derived.Test.YtmdilbmgopggaaaGreatQ22
import Derived.Test.YtmdilbmgopggaaaGreatQ19
import Derived.Test.YtmdilbmgopggaaaGreatQ20
import Derived.Test.YtmdilbmgopggaaaGreatQ21
import Derived.Test.YtmdilbmgopggaaaGreatQB
set_option linter.unusedVariables false
set_option linter.unusedSimpArgs false
set_option linter.constructorNameAsVariable false
namespace Go.Proofs.YtmdilbmgopggaaaGreat

section
open Go.RowKit

abbrev tankCells (t : TankD) (m : HoldM) : Array Value := #[.int .i64 t.id, .int .i64 t.al, .int .i64 t.ah, .slice m.A m.n m.c, .slice m.B m.m m.d, .slice m.C m.l m.e]
abbrev tankV (t : TankD) (m : HoldM) : Value := .agg (tankCells t m)
/-- a tank is valid -/
def tankS (t : TankD) : Bool := (decide (1 ≤ t.id ∧ t.id ≤ 9) && inB t.al t.ah (-1000000) 1000000) && ctRest risesS t.vol t.sur t.hei 0
def tankErr (t : TankD) : Int := if tankS t = true then 0 else 21
theorem tankErr_of {h : TankD} {t : Bool} (e : tankS h = t) : tankErr h = if t = true then 0 else 21 := by unfold tankErr; rw [e]

set_option maxRecDepth 100000 in
set_option maxHeartbeats 8000000 in
theorem checkTank_any (t : TankD) (m : HoldM) (w : World) (hi : TankIn w t m) :
    Calls Tryz.prog 40 #[tankV t m] w fun e w' => e = .returned (.int .i64 (tankErr t)) ∧ Below w.heap.size w w' := by
  obtain ⟨id, al, ah, vol, mom, hei⟩ := t
  obtain ⟨A, n, c, B, mm, d, C, l, ee⟩ := m
  obtain ⟨i1, i2, i3⟩ := hi
  dsimp only at i1 i2 i3
  obtain ⟨r, hr⟩ : ∃ r, tankS ⟨id, al, ah, vol, mom, hei⟩ = r := ⟨_, rfl⟩
  rw [tankErr_of hr]
  have HE := Lib.hid (below_alloc1 w (.cells #[.int .i64 id, .int .i64 al, .int .i64 ah, .slice A n c, .slice B mm d, .slice C l ee] 43))
  have HK := Lib.hid (boxes1' w 43 #[.int .i64 id, .int .i64 al, .int .i64 ah, .slice A n c, .slice B mm d, .slice C l ee])
  have CW : Hid (∀ W a b lo hi t, inB a b lo hi = t → Calls Tryz.prog 94 #[rv a b, .int .i64 lo, .int .i64 hi] W fun e w' => e = .returned (.bool t) ∧ Below W.heap.size W w') := Lib.hid fun W a b lo hi t ht => hwithin_to a b lo hi t W ht
  have CT : Hid (∀ W, Below w.heap.size w W → Calls Tryz.prog 95 #[tv A n c, tv B mm d, tv C l ee, .func (.func 116) #[] #[]] W fun e w' => e = .returned (.bool (ctRest risesS vol mom hei 0)) ∧ Below W.heap.size W w') := Lib.hid fun W hW =>
    checkTables_rises A n c B mm d C l ee vol mom hei W (i1.below hW) (i2.below hW) (i3.below hW)
  have HR : Hid (((decide (1 ≤ id ∧ id ≤ 9) && inB al ah (-1000000) 1000000) && ctRest risesS vol mom hei 0) = r) := Lib.hid hr
  obtain ⟨CR, hCR⟩ : ∃ f, ctRest risesS vol mom hei 0 = f := ⟨_, rfl⟩
  rw [hCR] at CT HR
  clear hr i1 i2 i3 hCR
  have hid : (id < 1 ∧ decide (1 ≤ id ∧ id ≤ 9) = false) ∨ (¬ id < 1 ∧ 9 < id ∧ decide (1 ≤ id ∧ id ≤ 9) = false) ∨ (¬ id < 1 ∧ ¬ 9 < id ∧ decide (1 ≤ id ∧ id ≤ 9) = true) := by
    by_cases g1 : id < 1
    · exact .inl ⟨g1, decide_eq_false (by omega)⟩
    · by_cases g2 : 9 < id
      · exact .inr (.inl ⟨g1, g2, decide_eq_false (by omega)⟩)
      · exact .inr (.inr ⟨g1, g2, decide_eq_true (by omega)⟩)
  rcases hid with ⟨g1, hd⟩ | ⟨g1, g2, hd⟩ | ⟨g1, g2, hd⟩
  · have hf : r = false := by rw [← HR.out, hd]; rfl
    subst hf
    clear hd HR
    go_enter Tryz.func40, Tryz.ntmps40
    go_wp2
    go_ret
    exact ⟨rfl, HE.out⟩
  · have hf : r = false := by rw [← HR.out, hd]; rfl
    subst hf
    clear hd HR
    go_enter Tryz.func40, Tryz.ntmps40
    go_wp2
    go_ret
    exact ⟨rfl, HE.out⟩
  · obtain ⟨b1, hb1⟩ : ∃ b, inB al ah (-1000000) 1000000 = b := ⟨_, rfl⟩
    have HR2 : Hid ((b1 && CR) = r) := Lib.hid (by rw [← HR.out, hd, hb1]; rfl)
    have C1 := Lib.hid (fun W => CW.out W al ah (-1000000) 1000000 b1 hb1)
    clear hd HR hb1
    go_enter Tryz.func40, Tryz.ntmps40
    go_wp2_with fail
    obtain ⟨W0, hW0⟩ : ∃ W0, w.alloc (.cells #[.int .i64 id, .int .i64 al, .int .i64 ah, .slice A n c, .slice B mm d, .slice C l ee] 43) = W0 := ⟨_, rfl⟩
    rw [hW0] at HE HK ⊢
    clear hW0
    obtain ⟨G, hG⟩ : ∃ G, w.heap.size = G := ⟨_, rfl⟩
    rw [hG] at HK ⊢
    have HG := Lib.hid hG; clear hG
    refine (C1.out _).mono ?_
    rintro e w1 ⟨rfl, hb⟩
    have HE1 := Lib.hid (below_then HE.out hb); have HK1 := Lib.hid (HK.out.on hb)
    clear hb HE HK
    cases b1
    · have hf : r = false := by rw [← HR2.out]; rfl
      subst hf
      clear HR2
      go_wp2
      go_ret
      exact ⟨rfl, HE1.out⟩
    · have hf : CR = r := by rw [← HR2.out]; rfl
      subst hf
      clear HR2
      have z := HK1.out _ (.head _)
      have z3 := z.cell 3
      have z4 := z.cell 4
      have z5 := z.cell 5
      simp at z3 z4 z5
      clear z
      go_wp2_with fail
      refine (CT.out _ HE1.out).mono ?_
      rintro e w3 ⟨rfl, hb⟩
      have HE3 := Lib.hid (below_then HE1.out hb)
      clear hb z3 z4 z5
      cases CR
      · go_wp2
        go_ret
        exact ⟨rfl, HE3.out⟩
      · go_wp2
        go_ret
        exact ⟨rfl, HE3.out⟩
end

section
open Go.RowKit

set_option maxRecDepth 100000 in
set_option maxHeartbeats 8000000 in
theorem sCheckTank_any (t : TankD) (m : HoldM) (w : World) (hi : TankIn w t m) :
    Calls Tryz.prog 41 #[tankV t m] w fun e w' => e = .returned (.int .i64 (tankErr t)) ∧ Below w.heap.size w w' := by
  obtain ⟨id, al, ah, vol, mom, hei⟩ := t
  obtain ⟨A, n, c, B, mm, d, C, l, ee⟩ := m
  obtain ⟨i1, i2, i3⟩ := hi
  dsimp only at i1 i2 i3
  obtain ⟨r, hr⟩ : ∃ r, tankS ⟨id, al, ah, vol, mom, hei⟩ = r := ⟨_, rfl⟩
  rw [tankErr_of hr]
  have HE := Lib.hid (below_alloc1 w (.cells #[.int .i64 id, .int .i64 al, .int .i64 ah, .slice A n c, .slice B mm d, .slice C l ee] 43))
  have HK := Lib.hid (boxes1' w 43 #[.int .i64 id, .int .i64 al, .int .i64 ah, .slice A n c, .slice B mm d, .slice C l ee])
  obtain ⟨bd, e0⟩ : ∃ b, decide (1 ≤ id ∧ id ≤ 9) = b := ⟨_, rfl⟩
  obtain ⟨b1, e1⟩ : ∃ b, inB al ah (-1000000) 1000000 = b := ⟨_, rfl⟩
  obtain ⟨m1, em1⟩ : ∃ b, measuresS vol = b := ⟨_, rfl⟩
  obtain ⟨m2, em2⟩ : ∃ b, measuresS mom = b := ⟨_, rfl⟩
  obtain ⟨m3, em3⟩ : ∃ b, measuresS hei = b := ⟨_, rfl⟩
  obtain ⟨a1, ea1⟩ : ∃ b, alongS vol mom = b := ⟨_, rfl⟩
  obtain ⟨a2, ea2⟩ : ∃ b, alongS vol hei = b := ⟨_, rfl⟩
  obtain ⟨r1, er1⟩ : ∃ b, risesS vol = b := ⟨_, rfl⟩
  obtain ⟨r2, er2⟩ : ∃ b, risesS hei = b := ⟨_, rfl⟩
  have D0 : Hid (∀ W, Calls Tryz.prog 97 #[.int .i64 id, .int .i64 1, .int .i64 9] W fun e w' => e = .returned (.bool bd) ∧ Below W.heap.size W w') := Lib.hid fun W => between_to id 1 9 bd W e0
  have D1 : Hid (∀ W, Calls Tryz.prog 98 #[rv al ah] W fun e w' => e = .returned (.bool b1) ∧ Below W.heap.size W w') := Lib.hid fun W => splace_to al ah b1 W e1
  have M1 : Hid (∀ W, Below w.heap.size w W → Calls Tryz.prog 100 #[tv A n c] W fun e w' => e = .returned (.bool m1) ∧ Below W.heap.size W w') := Lib.hid fun W hW => em1 ▸ stable_any A n c vol W (i1.below hW)
  have M2 : Hid (∀ W, Below w.heap.size w W → Calls Tryz.prog 100 #[tv B mm d] W fun e w' => e = .returned (.bool m2) ∧ Below W.heap.size W w') := Lib.hid fun W hW => em2 ▸ stable_any B mm d mom W (i2.below hW)
  have M3 : Hid (∀ W, Below w.heap.size w W → Calls Tryz.prog 100 #[tv C l ee] W fun e w' => e = .returned (.bool m3) ∧ Below W.heap.size W w') := Lib.hid fun W hW => em3 ▸ stable_any C l ee hei W (i3.below hW)
  have L1 : Hid (m1 = true → m2 = true → ∀ W, Below w.heap.size w W → Calls Tryz.prog 101 #[tv A n c, tv B mm d] W fun e w' => e = .returned (.bool a1) ∧ Below W.heap.size W w') := Lib.hid fun x y W hW => ea1 ▸ salong_any A n c B mm d vol mom W (i1.below hW) (i2.below hW) (measures_ok (em1.trans x)) (measures_ok (em2.trans y))
  have L2 : Hid (m1 = true → m3 = true → ∀ W, Below w.heap.size w W → Calls Tryz.prog 101 #[tv A n c, tv C l ee] W fun e w' => e = .returned (.bool a2) ∧ Below W.heap.size W w') := Lib.hid fun x y W hW => ea2 ▸ salong_any A n c C l ee vol hei W (i1.below hW) (i3.below hW) (measures_ok (em1.trans x)) (measures_ok (em3.trans y))
  have O1 : Hid (m1 = true → ∀ W, Below w.heap.size w W → Calls Tryz.prog 117 #[tv A n c] W fun e w' => e = .returned (.bool r1) ∧ Below W.heap.size W w') := Lib.hid fun x W hW => er1 ▸ srises_any A n c vol W (i1.below hW) (measures_ok (em1.trans x))
  have O2 : Hid (m3 = true → ∀ W, Below w.heap.size w W → Calls Tryz.prog 117 #[tv C l ee] W fun e w' => e = .returned (.bool r2) ∧ Below W.heap.size W w') := Lib.hid fun x W hW => er2 ▸ srises_any C l ee hei W (i3.below hW) (measures_ok (em3.trans x))
  have ee0 : tankS ⟨id, al, ah, vol, mom, hei⟩ = ((bd && b1) && (m1 && ((m2 && a1) && ((m3 && a2) && (r1 && r2))))) := by
    rw [← e0, ← e1, ← em1, ← em2, ← em3, ← ea1, ← ea2, ← er1, ← er2]; rfl
  rw [ct_turn, Bool.and_assoc] at ee0
  have HR := Lib.hid (ee0.symm.trans hr)
  clear ee0
  clear hr i1 i2 i3 e0 e1 em1 em2 em3 ea1 ea2 er1 er2
  go_enter Tryz.func41, Tryz.ntmps41
  go_wp2_with fail
  obtain ⟨W0, hW0⟩ : ∃ W0, w.alloc (.cells #[.int .i64 id, .int .i64 al, .int .i64 ah, .slice A n c, .slice B mm d, .slice C l ee] 43) = W0 := ⟨_, rfl⟩
  rw [hW0] at HE HK ⊢
  clear hW0
  obtain ⟨G, hG⟩ : ∃ G, w.heap.size = G := ⟨_, rfl⟩
  rw [hG] at HK ⊢
  have HG := Lib.hid hG; clear hG
  refine (D0.out _).mono ?_
  rintro e w1 ⟨rfl, hb⟩
  have HE1 := Lib.hid (below_then HE.out hb); have HK1 := Lib.hid (HK.out.on hb)
  clear hb HE HK
  cases bd
  · have hf : r = false := by rw [← HR.out]; rfl
    subst hf
    clear HR
    go_wp2
    go_ret
    exact ⟨rfl, HE1.out⟩
  have z := HK1.out _ (.head _)
  have z1 := z.cell 1
  have z2 := z.cell 2
  simp at z1 z2
  clear z
  go_wp2_with fail
  refine (D1.out _).mono ?_
  rintro e w2 ⟨rfl, hb⟩
  have HE2 := Lib.hid (below_then HE1.out hb); have HK2 := Lib.hid (HK1.out.on hb)
  clear hb HE1 HK1 z1 z2
  cases b1
  · have hf : r = false := by rw [← HR.out]; rfl
    subst hf
    clear HR
    go_wp2
    go_ret
    exact ⟨rfl, HE2.out⟩
  have z := HK2.out _ (.head _)
  have z3 := z.cell 3
  simp at z3
  clear z
  go_wp2_with fail
  refine (M1.out _ HE2.out).mono ?_
  rintro e w3 ⟨rfl, hb⟩
  have HE3 := Lib.hid (below_then HE2.out hb); have HK3 := Lib.hid (HK2.out.on hb)
  clear hb HE2 HK2 z3
  cases m1
  · have hf : r = false := by rw [← HR.out]; rfl
    subst hf
    clear HR
    go_wp2
    go_ret
    exact ⟨rfl, HE3.out⟩
  have z := HK3.out _ (.head _)
  have z4 := z.cell 4
  simp at z4
  clear z
  go_wp2_with fail
  refine (M2.out _ HE3.out).mono ?_
  rintro e w4 ⟨rfl, hb⟩
  have HE4 := Lib.hid (below_then HE3.out hb); have HK4 := Lib.hid (HK3.out.on hb)
  clear hb HE3 HK3 z4
  cases m2
  · have hf : r = false := by rw [← HR.out]; rfl
    subst hf
    clear HR
    go_wp2
    go_ret
    exact ⟨rfl, HE4.out⟩
  have z := HK4.out _ (.head _)
  have z5 := z.cell 5
  simp at z5
  clear z
  go_wp2_with fail
  refine (M3.out _ HE4.out).mono ?_
  rintro e w5 ⟨rfl, hb⟩
  have HE5 := Lib.hid (below_then HE4.out hb); have HK5 := Lib.hid (HK4.out.on hb)
  clear hb HE4 HK4 z5
  cases m3
  · have hf : r = false := by rw [← HR.out]; rfl
    subst hf
    clear HR
    go_wp2
    go_ret
    exact ⟨rfl, HE5.out⟩
  have z := HK5.out _ (.head _)
  have z3 := z.cell 3
  have z4 := z.cell 4
  simp at z3 z4
  clear z
  go_wp2_with fail
  refine (L1.out (by trivial) (by trivial) _ HE5.out).mono ?_
  rintro e w6 ⟨rfl, hb⟩
  have HE6 := Lib.hid (below_then HE5.out hb); have HK6 := Lib.hid (HK5.out.on hb)
  clear hb HE5 HK5 z3 z4
  cases a1
  · have hf : r = false := by rw [← HR.out]; rfl
    subst hf
    clear HR
    go_wp2
    go_ret
    exact ⟨rfl, HE6.out⟩
  have z := HK6.out _ (.head _)
  have z3 := z.cell 3
  have z5 := z.cell 5
  simp at z3 z5
  clear z
  go_wp2_with fail
  refine (L2.out (by trivial) (by trivial) _ HE6.out).mono ?_
  rintro e w7 ⟨rfl, hb⟩
  have HE7 := Lib.hid (below_then HE6.out hb); have HK7 := Lib.hid (HK6.out.on hb)
  clear hb HE6 HK6 z3 z5
  cases a2
  · have hf : r = false := by rw [← HR.out]; rfl
    subst hf
    clear HR
    go_wp2
    go_ret
    exact ⟨rfl, HE7.out⟩
  have z := HK7.out _ (.head _)
  have z3 := z.cell 3
  simp at z3
  clear z
  go_wp2_with fail
  refine (O1.out (by trivial) _ HE7.out).mono ?_
  rintro e w8 ⟨rfl, hb⟩
  have HE8 := Lib.hid (below_then HE7.out hb); have HK8 := Lib.hid (HK7.out.on hb)
  clear hb HE7 HK7 z3
  cases r1
  · have hf : r = false := by rw [← HR.out]; rfl
    subst hf
    clear HR
    go_wp2
    go_ret
    exact ⟨rfl, HE8.out⟩
  have z := HK8.out _ (.head _)
  have z5 := z.cell 5
  simp at z5
  clear z
  go_wp2_with fail
  refine (O2.out (by trivial) _ HE8.out).mono ?_
  rintro e w9 ⟨rfl, hb⟩
  have HE9 := Lib.hid (below_then HE8.out hb); have HK9 := Lib.hid (HK8.out.on hb)
  clear hb HE8 HK8 z5
  cases r2
  · have hf : r = false := by rw [← HR.out]; rfl
    subst hf
    clear HR
    go_wp2
    go_ret
    exact ⟨rfl, HE9.out⟩
  have hf : r = true := by rw [← HR.out]; rfl
  subst hf
  clear HR
  go_wp2
  go_ret
  exact ⟨rfl, HE9.out⟩
end

section
open Go.RowKit

theorem tank_tab {t : TankD} (h : tankS t = true) : tabOk t.vol = true := by
  unfold tankS ctRest at h
  cases hm : measuresS t.vol
  · rw [hm] at h; simp at h
  · exact measures_ok hm
end

end Go.Proofs.YtmdilbmgopggaaaGreat
