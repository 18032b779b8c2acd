/- What a valid level is; the contract of CheckLevel (hold). Its condition: the tank's tables lie in memory. -/
import Derived.Test.YtemlaaipnhmcoaaGreatR13
set_option linter.unusedVariables false
set_option linter.unusedSimpArgs false
set_option linter.constructorNameAsVariable false
namespace Go.Proofs.YtemlaaipnhmcoaaGreat

section
open Go.RowKit

structure TankD where
  id : Int
  al : Int
  ah : Int
  vol : List P3
  sur : List P3
  hei : List P3
abbrev tankCells (t : TankD) (m : HoldM) : Array Value := #[.int .i64 t.id, .int .i64 t.al, .int .i64 t.ah, .slice m.A m.n m.c, .slice m.B m.m m.d, .slice m.C m.l m.e]
abbrev tankV (t : TankD) (m : HoldM) : Value := .agg (tankCells t m)
def TankIn (w : World) (t : TankD) (m : HoldM) : Prop := TabIn w m.A m.n t.vol ∧ TabIn w m.B m.m t.sur ∧ TabIn w m.C m.l t.hei
theorem TankIn.below {w w' : World} {t : TankD} {m : HoldM} (i : TankIn w t m) (hb : Below w.heap.size w w') : TankIn w' t m := ⟨i.1.below hb, i.2.1.below hb, i.2.2.below hb⟩
def tankS (t : TankD) : Bool := (decide (1 ≤ t.id ∧ t.id ≤ 9) && inB t.al t.ah (-1000000) 1000000) && ctRest risesS t.vol t.sur t.hei 0
def tankErr (t : TankD) : Int := if tankS t = true then 0 else 21
theorem tankErr_of {h : TankD} {t : Bool} (e : tankS h = t) : tankErr h = if t = true then 0 else 21 := by unfold tankErr; rw [e]

set_option maxRecDepth 100000 in
set_option maxHeartbeats 8000000 in
theorem checkTank_any (t : TankD) (m : HoldM) (w : World) (hi : TankIn w t m) :
  Calls Tryz.prog 68 #[tankV t m] w fun e w' => e = .returned (.int .i64 (tankErr t)) ∧ Below w.heap.size w w' := by
 obtain ⟨id, al, ah, vol, mom, hei⟩ := t
 obtain ⟨A, n, c, B, mm, d, C, l, ee⟩ := m
 obtain ⟨i1, i2, i3⟩ := hi
 dsimp only at i1 i2 i3
 obtain ⟨r, hr⟩ : ∃ r, tankS ⟨id, al, ah, vol, mom, hei⟩ = r := ⟨_, rfl⟩
 rw [tankErr_of hr]
 have HE := Lib.hid (below_alloc1 w (.cells #[.int .i64 id, .int .i64 al, .int .i64 ah, .slice A n c, .slice B mm d, .slice C l ee] 38))
 have HK := Lib.hid (boxes1' w 38 #[.int .i64 id, .int .i64 al, .int .i64 ah, .slice A n c, .slice B mm d, .slice C l ee])
 have CW : Hid (∀ W a b lo hi t, inB a b lo hi = t → Calls Tryz.prog 99 #[rv a b, .int .i64 lo, .int .i64 hi] W fun e w' => e = .returned (.bool t) ∧ Below W.heap.size W w') := Lib.hid fun W a b lo hi t ht => hwithin_to a b lo hi t W ht
 have CT : Hid (∀ W, Below w.heap.size w W → Calls Tryz.prog 100 #[tv A n c, tv B mm d, tv C l ee, .func (.func 123) #[] #[]] W fun e w' => e = .returned (.bool (ctRest risesS vol mom hei 0)) ∧ Below W.heap.size W w') := Lib.hid fun W hW =>
  checkTables_rises A n c B mm d C l ee vol mom hei W (i1.below hW) (i2.below hW) (i3.below hW)
 have HR : Hid (((decide (1 ≤ id ∧ id ≤ 9) && inB al ah (-1000000) 1000000) && ctRest risesS vol mom hei 0) = r) := Lib.hid hr
 obtain ⟨CR, hCR⟩ : ∃ f, ctRest risesS vol mom hei 0 = f := ⟨_, rfl⟩
 rw [hCR] at CT HR
 clear hr i1 i2 i3 hCR
 have hid : (id < 1 ∧ decide (1 ≤ id ∧ id ≤ 9) = false) ∨ (¬ id < 1 ∧ 9 < id ∧ decide (1 ≤ id ∧ id ≤ 9) = false) ∨ (¬ id < 1 ∧ ¬ 9 < id ∧ decide (1 ≤ id ∧ id ≤ 9) = true) := by
  by_cases g1 : id < 1
  ·exact .inl ⟨g1, decide_eq_false (by omega)⟩
  ·by_cases g2 : 9 < id
   ·exact .inr (.inl ⟨g1, g2, decide_eq_false (by omega)⟩)
   ·exact .inr (.inr ⟨g1, g2, decide_eq_true (by omega)⟩)
 rcases hid with ⟨g1, hd⟩ | ⟨g1, g2, hd⟩ | ⟨g1, g2, hd⟩
 ·have hf : r = false := by rw [← HR.out, hd]; rfl
  subst hf
  clear hd HR
  go_enter Tryz.func68, Tryz.ntmps68
  go_wp2
  go_ret
  exact ⟨rfl, HE.out⟩
 ·have hf : r = false := by rw [← HR.out, hd]; rfl
  subst hf
  clear hd HR
  go_enter Tryz.func68, Tryz.ntmps68
  go_wp2
  go_ret
  exact ⟨rfl, HE.out⟩
 ·obtain ⟨b1, hb1⟩ : ∃ b, inB al ah (-1000000) 1000000 = b := ⟨_, rfl⟩
  have HR2 : Hid ((b1 && CR) = r) := Lib.hid (by rw [← HR.out, hd, hb1]; rfl)
  have C1 := Lib.hid (fun W => CW.out W al ah (-1000000) 1000000 b1 hb1)
  clear hd HR hb1
  go_enter Tryz.func68, Tryz.ntmps68
  go_wp2_with fail
  obtain ⟨W0, hW0⟩ : ∃ W0, w.alloc (.cells #[.int .i64 id, .int .i64 al, .int .i64 ah, .slice A n c, .slice B mm d, .slice C l ee] 38) = W0 := ⟨_, rfl⟩
  rw [hW0] at HE HK ⊢
  clear hW0
  obtain ⟨G, hG⟩ : ∃ G, w.heap.size = G := ⟨_, rfl⟩
  rw [hG] at HK ⊢
  have HG := Lib.hid hG; clear hG
  refine (C1.out _).mono ?_
  rintro e w1 ⟨rfl, hb⟩
  have HE1 := Lib.hid (below_then HE.out hb); have HK1 := Lib.hid (HK.out.on hb)
  clear hb HE HK
  cases b1
  ·have hf : r = false := by rw [← HR2.out]; rfl
   subst hf
   clear HR2
   go_wp2
   go_ret
   exact ⟨rfl, HE1.out⟩
  ·have hf : CR = r := by rw [← HR2.out]; rfl
   subst hf
   clear HR2
   have z := HK1.out _ (.head _)
   have z3 := z.cell 3
   have z4 := z.cell 4
   have z5 := z.cell 5
   simp at z3 z4 z5
   clear z
   go_wp2_with fail
   refine (CT.out _ HE1.out).mono ?_
   rintro e w3 ⟨rfl, hb⟩
   have HE3 := Lib.hid (below_then HE1.out hb)
   clear hb z3 z4 z5
   cases CR
   ·go_wp2
    go_ret
    exact ⟨rfl, HE3.out⟩
   ·go_wp2
    go_ret
    exact ⟨rfl, HE3.out⟩
end

section
open Go.RowKit

def amtRest (h : HoldD) : Nat → Bool
  | 0 => amountS h.t0 h.t1 && (amountS h.u0 h.u1 && (amountS h.v0 h.v1 && (amountS h.h0 h.h1 && ctRest fallsS h.vol h.mom h.hei 0)))
  | 1 => amountS h.u0 h.u1 && (amountS h.v0 h.v1 && (amountS h.h0 h.h1 && ctRest fallsS h.vol h.mom h.hei 0))
  | 2 => amountS h.v0 h.v1 && (amountS h.h0 h.h1 && ctRest fallsS h.vol h.mom h.hei 0)
  | 3 => amountS h.h0 h.h1 && ctRest fallsS h.vol h.mom h.hei 0
  | _ => ctRest fallsS h.vol h.mom h.hei 0
def holdS (h : HoldD) : Bool := (decide (1 ≤ h.id ∧ h.id ≤ 9) && inB h.al h.ah (-1000000) 1000000) && amtRest h 0
def holdErr (h : HoldD) : Int := if holdS h = true then 0 else 20
theorem rix0 (a b c d e f g h : Int) (w : World) : (Instr.index 135 (.agg #[.int .i64 a, .int .i64 b, .int .i64 c, .int .i64 d, .int .i64 e, .int .i64 f, .int .i64 g, .int .i64 h]) (.int .i64 0)).run Tryz.prog w = .ok (rv a b) w := by kernel_rfl
theorem rix1 (a b c d e f g h : Int) (w : World) : (Instr.index 135 (.agg #[.int .i64 a, .int .i64 b, .int .i64 c, .int .i64 d, .int .i64 e, .int .i64 f, .int .i64 g, .int .i64 h]) (.int .i64 1)).run Tryz.prog w = .ok (rv c d) w := by kernel_rfl
theorem rix2 (a b c d e f g h : Int) (w : World) : (Instr.index 135 (.agg #[.int .i64 a, .int .i64 b, .int .i64 c, .int .i64 d, .int .i64 e, .int .i64 f, .int .i64 g, .int .i64 h]) (.int .i64 2)).run Tryz.prog w = .ok (rv e f) w := by kernel_rfl
theorem rix3 (a b c d e f g h : Int) (w : World) : (Instr.index 135 (.agg #[.int .i64 a, .int .i64 b, .int .i64 c, .int .i64 d, .int .i64 e, .int .i64 f, .int .i64 g, .int .i64 h]) (.int .i64 3)).run Tryz.prog w = .ok (rv g h) w := by kernel_rfl
attribute [local go_sem ↓] rix0 rix1 rix2 rix3
theorem holdErr_of {h : HoldD} {t : Bool} (e : holdS h = t) : holdErr h = if t = true then 0 else 20 := by unfold holdErr; rw [e]

set_option maxRecDepth 100000 in
set_option maxHeartbeats 8000000 in
theorem checkHold_any (h : HoldD) (m : HoldM) (w : World) (hi : HoldIn w h m) :
  Calls Tryz.prog 51 #[holdV h m] w fun e w' => e = .returned (.int .i64 (holdErr h)) ∧ Below w.heap.size w w' := by
 obtain ⟨id, al, ah, vol, mom, hei, t0, t1, u0, u1, v0, v1, h0, h1⟩ := h
 obtain ⟨A, n, c, B, mm, d, C, l, ee⟩ := m
 obtain ⟨i1, i2, i3⟩ := hi
 dsimp only at i1 i2 i3
 obtain ⟨r, hr⟩ : ∃ r, holdS ⟨id, al, ah, vol, mom, hei, t0, t1, u0, u1, v0, v1, h0, h1⟩ = r := ⟨_, rfl⟩
 rw [holdErr_of hr]
 have HE := Lib.hid (below_alloc1 w (.cells #[.int .i64 id, .int .i64 al, .int .i64 ah, .slice A n c, .slice B mm d, .slice C l ee, .int .i64 t0, .int .i64 t1, .int .i64 u0, .int .i64 u1, .int .i64 v0, .int .i64 v1, .int .i64 h0, .int .i64 h1] 35))
 have HK := Lib.hid (boxes1' w 35 #[.int .i64 id, .int .i64 al, .int .i64 ah, .slice A n c, .slice B mm d, .slice C l ee, .int .i64 t0, .int .i64 t1, .int .i64 u0, .int .i64 u1, .int .i64 v0, .int .i64 v1, .int .i64 h0, .int .i64 h1])
 have CW : Hid (∀ W a b lo hi t, inB a b lo hi = t → Calls Tryz.prog 99 #[rv a b, .int .i64 lo, .int .i64 hi] W fun e w' => e = .returned (.bool t) ∧ Below W.heap.size W w') := Lib.hid fun W a b lo hi t ht => hwithin_to a b lo hi t W ht
 have CT : Hid (∀ W, Below w.heap.size w W → Calls Tryz.prog 100 #[tv A n c, tv B mm d, tv C l ee, .func (.func 101) #[] #[]] W fun e w' => e = .returned (.bool (ctRest fallsS vol mom hei 0)) ∧ Below W.heap.size W w') := Lib.hid fun W hW =>
  checkTables_falls A n c B mm d C l ee vol mom hei W (i1.below hW) (i2.below hW) (i3.below hW)
 have HR : Hid (((decide (1 ≤ id ∧ id ≤ 9) && inB al ah (-1000000) 1000000) && amtRest ⟨id, al, ah, vol, mom, hei, t0, t1, u0, u1, v0, v1, h0, h1⟩ 0) = r) := Lib.hid hr
 obtain ⟨AR, hAR⟩ : ∃ f, amtRest ⟨id, al, ah, vol, mom, hei, t0, t1, u0, u1, v0, v1, h0, h1⟩ = f := ⟨_, rfl⟩
 obtain ⟨CR, hCR⟩ : ∃ f, ctRest fallsS vol mom hei 0 = f := ⟨_, rfl⟩
 have a0 : AR 0 = (amountS t0 t1 && AR 1) := by rw [← hAR]; rfl
 have a1 : AR 1 = (amountS u0 u1 && AR 2) := by rw [← hAR]; rfl
 have a2 : AR 2 = (amountS v0 v1 && AR 3) := by rw [← hAR]; rfl
 have a3 : AR 3 = (amountS h0 h1 && AR 4) := by rw [← hAR]; rfl
 have a4 : AR 4 = CR := by rw [← hAR, ← hCR]; rfl
 rw [hAR] at HR
 rw [hCR] at CT
 have HA := Lib.hid (And.intro a0 (And.intro a1 (And.intro a2 (And.intro a3 a4))))
 clear hr i1 i2 i3 hAR hCR a0 a1 a2 a3 a4
 have hid : (id < 1 ∧ decide (1 ≤ id ∧ id ≤ 9) = false) ∨ (¬ id < 1 ∧ 9 < id ∧ decide (1 ≤ id ∧ id ≤ 9) = false) ∨ (¬ id < 1 ∧ ¬ 9 < id ∧ decide (1 ≤ id ∧ id ≤ 9) = true) := by
  by_cases g1 : id < 1
  ·exact .inl ⟨g1, decide_eq_false (by omega)⟩
  ·by_cases g2 : 9 < id
   ·exact .inr (.inl ⟨g1, g2, decide_eq_false (by omega)⟩)
   ·exact .inr (.inr ⟨g1, g2, decide_eq_true (by omega)⟩)
 rcases hid with ⟨g1, hd⟩ | ⟨g1, g2, hd⟩ | ⟨g1, g2, hd⟩
 ·have hf : r = false := by rw [← HR.out, hd]; rfl
  subst hf
  clear hd HR
  go_enter Tryz.func51, Tryz.ntmps51
  go_wp2
  go_ret
  exact ⟨rfl, HE.out⟩
 ·have hf : r = false := by rw [← HR.out, hd]; rfl
  subst hf
  clear hd HR
  go_enter Tryz.func51, Tryz.ntmps51
  go_wp2
  go_ret
  exact ⟨rfl, HE.out⟩
 ·obtain ⟨b1, hb1⟩ : ∃ b, inB al ah (-1000000) 1000000 = b := ⟨_, rfl⟩
  have HR2 : Hid ((b1 && AR 0) = r) := Lib.hid (by rw [← HR.out, hd, hb1]; rfl)
  have C1 := Lib.hid (fun W => CW.out W al ah (-1000000) 1000000 b1 hb1)
  clear hd HR hb1
  go_enter Tryz.func51, Tryz.ntmps51
  go_wp2_with fail
  obtain ⟨W0, hW0⟩ : ∃ W0, w.alloc (.cells #[.int .i64 id, .int .i64 al, .int .i64 ah, .slice A n c, .slice B mm d, .slice C l ee, .int .i64 t0, .int .i64 t1, .int .i64 u0, .int .i64 u1, .int .i64 v0, .int .i64 v1, .int .i64 h0, .int .i64 h1] 35) = W0 := ⟨_, rfl⟩
  rw [hW0] at HE HK ⊢
  clear hW0
  obtain ⟨G, hG⟩ : ∃ G, w.heap.size = G := ⟨_, rfl⟩
  rw [hG] at HK ⊢
  have HG := Lib.hid hG; clear hG
  refine (C1.out _).mono ?_
  rintro e w1 ⟨rfl, hb⟩
  have HE1 := Lib.hid (below_then HE.out hb); have HK1 := Lib.hid (HK.out.on hb)
  clear hb HE HK
  cases b1
  ·have hf : r = false := by rw [← HR2.out]; rfl
   subst hf
   clear HR2
   go_wp2
   go_ret
   exact ⟨rfl, HE1.out⟩
  ·have HR3 : Hid (AR 0 = r) := Lib.hid (by rw [← HR2.out]; rfl)
   clear HR2
   have z := HK1.out _ (.head _)
   have z6 := z.cell 6
   have z7 := z.cell 7
   have z8 := z.cell 8
   have z9 := z.cell 9
   have z10 := z.cell 10
   have z11 := z.cell 11
   have z12 := z.cell 12
   have z13 := z.cell 13
   simp at z6 z7 z8 z9 z10 z11 z12 z13
   clear z
   go_wp2_with fail
   clear z6 z7 z8 z9 z10 z11 z12 z13
   go_loopw [28] (fun i wr => ∃ k : Nat, k ≤ 4 ∧ i = .int .i64 k ∧ Hid (AR k = r) ∧ Below w1.heap.size w1 wr) (fun i _ => 4 - (intOf i).toNat)
   case atStart => exact ⟨0, by omega, rfl, HR3, Below.refl _ _⟩
   case round =>
    obtain ⟨k, hk, rfl, HP, hB⟩ := hrel
    have HB := Lib.hid hB
    clear hB
    have hkk : k = 0 ∨ k = 1 ∨ k = 2 ∨ k = 3 ∨ k = 4 := by omega
    rcases hkk with rfl | rfl | rfl | rfl | rfl
    ·obtain ⟨b2, hb2⟩ : ∃ b, inB t0 t1 0 1000000000 = b := ⟨_, rfl⟩
     have HP2 : Hid ((b2 && AR 1) = r) := Lib.hid (by rw [← HP.out, HA.out.1]; unfold amountS; rw [hb2])
     have C2 := Lib.hid (fun W => CW.out W t0 t1 0 1000000000 b2 hb2)
     clear hb2 HP
     go_wp2_with fail
     refine (C2.out _).mono ?_
     rintro e w2 ⟨rfl, hb⟩
     have HB2 := Lib.hid (below_then (below_then HB.out (below_alloc1 wr (.cells #[.int .i64 t0, .int .i64 t1] 30))) hb)
     clear hb
     cases b2
     ·have hf : r = false := by rw [← HP2.out]; rfl
      subst hf
      go_wp2
      go_ret
      exact ⟨rfl, below_then HE1.out HB2.out⟩
     ·have HP3 : Hid (AR (0 + 1) = r) := Lib.hid (by rw [← HP2.out]; rfl)
      clear HP2
      go_wp2
      go_roundw
      case rel => exact ⟨0 + 1, by omega, by go_num, HP3, HB2.out⟩
      case measure => simp [intOf]
    ·obtain ⟨b2, hb2⟩ : ∃ b, inB u0 u1 0 1000000000 = b := ⟨_, rfl⟩
     have HP2 : Hid ((b2 && AR 2) = r) := Lib.hid (by rw [← HP.out, HA.out.2.1]; unfold amountS; rw [hb2])
     have C2 := Lib.hid (fun W => CW.out W u0 u1 0 1000000000 b2 hb2)
     clear hb2 HP
     go_wp2_with fail
     refine (C2.out _).mono ?_
     rintro e w2 ⟨rfl, hb⟩
     have HB2 := Lib.hid (below_then (below_then HB.out (below_alloc1 wr (.cells #[.int .i64 u0, .int .i64 u1] 30))) hb)
     clear hb
     cases b2
     ·have hf : r = false := by rw [← HP2.out]; rfl
      subst hf
      go_wp2
      go_ret
      exact ⟨rfl, below_then HE1.out HB2.out⟩
     ·have HP3 : Hid (AR (1 + 1) = r) := Lib.hid (by rw [← HP2.out]; rfl)
      clear HP2
      go_wp2
      go_roundw
      case rel => exact ⟨1 + 1, by omega, by go_num, HP3, HB2.out⟩
      case measure => simp [intOf]
    ·obtain ⟨b2, hb2⟩ : ∃ b, inB v0 v1 0 1000000000 = b := ⟨_, rfl⟩
     have HP2 : Hid ((b2 && AR 3) = r) := Lib.hid (by rw [← HP.out, HA.out.2.2.1]; unfold amountS; rw [hb2])
     have C2 := Lib.hid (fun W => CW.out W v0 v1 0 1000000000 b2 hb2)
     clear hb2 HP
     go_wp2_with fail
     refine (C2.out _).mono ?_
     rintro e w2 ⟨rfl, hb⟩
     have HB2 := Lib.hid (below_then (below_then HB.out (below_alloc1 wr (.cells #[.int .i64 v0, .int .i64 v1] 30))) hb)
     clear hb
     cases b2
     ·have hf : r = false := by rw [← HP2.out]; rfl
      subst hf
      go_wp2
      go_ret
      exact ⟨rfl, below_then HE1.out HB2.out⟩
     ·have HP3 : Hid (AR (2 + 1) = r) := Lib.hid (by rw [← HP2.out]; rfl)
      clear HP2
      go_wp2
      go_roundw
      case rel => exact ⟨2 + 1, by omega, by go_num, HP3, HB2.out⟩
      case measure => simp [intOf]
    ·obtain ⟨b2, hb2⟩ : ∃ b, inB h0 h1 0 1000000000 = b := ⟨_, rfl⟩
     have HP2 : Hid ((b2 && AR 4) = r) := Lib.hid (by rw [← HP.out, HA.out.2.2.2.1]; unfold amountS; rw [hb2])
     have C2 := Lib.hid (fun W => CW.out W h0 h1 0 1000000000 b2 hb2)
     clear hb2 HP
     go_wp2_with fail
     refine (C2.out _).mono ?_
     rintro e w2 ⟨rfl, hb⟩
     have HB2 := Lib.hid (below_then (below_then HB.out (below_alloc1 wr (.cells #[.int .i64 h0, .int .i64 h1] 30))) hb)
     clear hb
     cases b2
     ·have hf : r = false := by rw [← HP2.out]; rfl
      subst hf
      go_wp2
      go_ret
      exact ⟨rfl, below_then HE1.out HB2.out⟩
     ·have HP3 : Hid (AR (3 + 1) = r) := Lib.hid (by rw [← HP2.out]; rfl)
      clear HP2
      go_wp2
      go_roundw
      case rel => exact ⟨3 + 1, by omega, by go_num, HP3, HB2.out⟩
      case measure => simp [intOf]
    ·have hf : CR = r := by rw [← HP.out, HA.out.2.2.2.2]
     subst hf
     have HE2 := Lib.hid (below_then HE1.out HB.out)
     have z := HK1.out.on HB.out _ (.head _)
     have z3 := z.cell 3
     have z4 := z.cell 4
     have z5 := z.cell 5
     simp at z3 z4 z5
     clear z HP HR3
     go_wp2_with fail
     refine (CT.out _ HE2.out).mono ?_
     rintro e w3 ⟨rfl, hb⟩
     have HE3 := Lib.hid (below_then HE2.out hb)
     clear hb z3 z4 z5
     cases CR
     ·go_wp2
      go_ret
      exact ⟨rfl, HE3.out⟩
     ·go_wp2
      go_ret
      exact ⟨rfl, HE3.out⟩
end

section
open Go.RowKit

structure LevelD where
  tank : Int
  pr : Bool
  s0 : Int
  s1 : Int
  d0 : Int
  d1 : Int
abbrev levelV (l : LevelD) : Value := .agg #[.int .i64 l.tank, .bool l.pr, .int .i64 l.s0, .int .i64 l.s1, .int .i64 l.d0, .int .i64 l.d1]
def levelS (t : TankD) (l : LevelD) : Bool := decide (l.tank = t.id) && (densS l.d0 l.d1 && (inB l.s0 l.s1 (firstX t.vol) (lastX t.vol) && (!l.pr || decide (l.s0 = lastX t.vol))))
def levelErr (t : TankD) (l : LevelD) : Int := if tankS t = true then (if levelS t l = true then 0 else 23) else 21
theorem levelErr_of {t : TankD} {l : LevelD} {a b : Bool} (h : tankS t = a) (g : levelS t l = b) : levelErr t l = if a = true then (if b = true then 0 else 23) else 21 := by unfold levelErr; rw [h, g]
theorem mkL {W2 w1 : World} {a b c : Value} {A B : Nat} (hb : Below W2.heap.size W2 w1) (h : W2.cell? ⟨B, 1, none⟩ = some a ∧ W2.cell? ⟨B, 2, none⟩ = some b ∧ W2.cell? ⟨A, 3, none⟩ = some c) (h1 : A < W2.heap.size) (h2 : B < W2.heap.size) :
    w1.cell? ⟨B, 1, none⟩ = some a ∧ w1.cell? ⟨B, 2, none⟩ = some b ∧ w1.cell? ⟨A, 3, none⟩ = some c ∧ Below W2.heap.size W2 w1 := ⟨((bcell hb).1 _ _ h2).trans h.1, ((bcell hb).1 _ _ h2).trans h.2.1, ((bcell hb).1 _ _ h1).trans h.2.2, hb⟩
theorem belowL {W2 w0 : World} {a b c : Value} {A B : Nat} (h : w0.cell? ⟨B, 1, none⟩ = some a ∧ w0.cell? ⟨B, 2, none⟩ = some b ∧ w0.cell? ⟨A, 3, none⟩ = some c ∧ Below W2.heap.size W2 w0) : Below W2.heap.size W2 w0 := h.2.2.2
theorem tank_tab {t : TankD} (h : tankS t = true) : tabOk t.vol = true := by
  unfold tankS ctRest at h
  cases hm : measuresS t.vol
  · rw [hm] at h; simp at h
  · exact measures_ok hm

set_option maxRecDepth 100000 in
set_option maxHeartbeats 8000000 in
theorem checkLevel_any (t : TankD) (m : HoldM) (lv : LevelD) (w : World) (hi : TankIn w t m) :
  Calls Tryz.prog 139 #[tankV t m, levelV lv] w fun e w' => e = .returned (.int .i64 (levelErr t lv)) ∧ Below w.heap.size w w' := by
 have CC : Hid (∀ W, Below w.heap.size w W → Calls Tryz.prog 68 #[tankV t m] W fun e w' => e = .returned (.int .i64 (tankErr t)) ∧ Below W.heap.size W w') := Lib.hid fun W hW => checkTank_any t m W (hi.below hW)
 obtain ⟨bt, hbt⟩ : ∃ b, tankS t = b := ⟨_, rfl⟩
 obtain ⟨bl, hbl⟩ : ∃ b, levelS t lv = b := ⟨_, rfl⟩
 rw [levelErr_of hbt hbl]
 rw [tankErr_of hbt] at CC
 have HV : Hid (bt = true → tabOk t.vol = true) := Lib.hid fun x => tank_tab (hbt.trans x)
 obtain ⟨id, al, ah, vol, sur, hei⟩ := t
 obtain ⟨A, n, c, B, mm, d, C, l, ee⟩ := m
 obtain ⟨tk, pr, s0, s1, d0, d1⟩ := lv
 obtain ⟨i1, i2, i3⟩ := hi
 dsimp only at i1 i2 i3 HV
 have HE := Lib.hid (show Below w.heap.size w ((w.alloc (.cells #[.int .i64 id, .int .i64 al, .int .i64 ah, .slice A n c, .slice B mm d, .slice C l ee] 38)).alloc (.cells #[.int .i64 tk, .bool pr, .int .i64 s0, .int .i64 s1, .int .i64 d0, .int .i64 d1] 86)) from below_a2 (Below.refl _ _))
 have HK := Lib.hid (boxes2' w 38 86 #[.int .i64 id, .int .i64 al, .int .i64 ah, .slice A n c, .slice B mm d, .slice C l ee] #[.int .i64 tk, .bool pr, .int .i64 s0, .int .i64 s1, .int .i64 d0, .int .i64 d1])
 obtain ⟨bd, ebd⟩ : ∃ b, densS d0 d1 = b := ⟨_, rfl⟩
 obtain ⟨bi, ebi⟩ : ∃ b, inB s0 s1 (firstX vol) (lastX vol) = b := ⟨_, rfl⟩
 have C1 : Hid (∀ W, Calls Tryz.prog 128 #[rv d0 d1] W fun e w' => e = .returned (.bool bd) ∧ Below W.heap.size W w') := Lib.hid fun W => isDensity_to d0 d1 bd W ebd
 have C2 : Hid (bt = true → ∀ W, Below w.heap.size w W → Calls Tryz.prog 183 #[rv s0 s1, tv A n c] W fun e w' => e = .returned (.bool bi) ∧ Below W.heap.size W w') := Lib.hid fun x W hW => inPlaces_to A n c vol s0 s1 bi W (i1.below hW) (HV.out x) ebi
 have C3 : Hid (bt = true → ∀ W, Below w.heap.size w W → Calls Tryz.prog 77 #[tv A n c] W fun e w' => e = .returned (rv (firstX vol) (lastX vol)) ∧ Below W.heap.size W w') := Lib.hid fun x W hW => hplaces_tab A n c vol W (i1.below hW) (HV.out x)
 have e0 : levelS ⟨id, al, ah, vol, sur, hei⟩ ⟨tk, pr, s0, s1, d0, d1⟩ = (decide (tk = id) && (bd && (bi && (!pr || decide (s0 = lastX vol))))) := by rw [← ebd, ← ebi]; rfl
 have HR := Lib.hid (e0.symm.trans hbl)
 clear e0 hbl hbt i1 i2 i3 HV ebd ebi
 generalize firstX vol = f1 at *
 generalize lastX vol = f2 at *
 go_enter Tryz.func139, Tryz.ntmps139
 go_wp2_with fail
 obtain ⟨W0, hW0⟩ : ∃ W0, ((w.alloc (.cells #[.int .i64 id, .int .i64 al, .int .i64 ah, .slice A n c, .slice B mm d, .slice C l ee] 38)).alloc (.cells #[.int .i64 tk, .bool pr, .int .i64 s0, .int .i64 s1, .int .i64 d0, .int .i64 d1] 86)) = W0 := ⟨_, rfl⟩
 rw [hW0] at HE HK ⊢
 clear hW0
 obtain ⟨G, hG⟩ : ∃ G, w.heap.size = G := ⟨_, rfl⟩
 rw [hG] at HK ⊢
 have HG := Lib.hid hG; clear hG
 refine (CC.out _ HE.out).mono ?_
 rintro e w1 ⟨rfl, hb⟩
 have HE1 := Lib.hid (below_then HE.out hb); have HK1 := Lib.hid (HK.out.on hb)
 clear hb HE HK
 cases bt
 ·simp only [Bool.false_eq_true, if_false]
  clear HR
  go_wp2
  go_ret
  exact ⟨rfl, HE1.out⟩
 simp only [if_true]
 have y := HK1.out _ (.tail _ (.head _))
 have y0 := y.cell 0
 have z := HK1.out _ (.head _)
 have z0 := z.cell 0
 have z4 := z.cell 4
 have z5 := z.cell 5
 simp at y0 z0 z4 z5
 clear y z
 by_cases hk : tk = id
 ·subst hk
  have x1 : (tk == tk) = true := by simp
  go_wp2_with fail
  refine (C1.out _).mono ?_
  rintro e w2 ⟨rfl, hb⟩
  have HE2 := Lib.hid (below_then HE1.out hb); have HK2 := Lib.hid (HK1.out.on hb)
  clear hb HE1 HK1 y0 z0 z4 z5
  cases bd
  ·have hf : bl = false := by rw [← HR.out]; simp
   subst hf
   clear HR
   go_wp2
   go_ret
   exact ⟨rfl, HE2.out⟩
  have y3 := (HK2.out _ (.tail _ (.head _))).cell 3
  have z2 := (HK2.out _ (.head _)).cell 2
  have z3 := (HK2.out _ (.head _)).cell 3
  simp at y3 z2 z3
  go_wp2_with fail
  refine (C2.out (by trivial) _ HE2.out).mono ?_
  rintro e w3 ⟨rfl, hb⟩
  have HE3 := Lib.hid (below_then HE2.out hb); have HK3 := Lib.hid (HK2.out.on hb)
  clear hb HE2 HK2 y3 z2 z3
  cases bi
  ·have hf : bl = false := by rw [← HR.out]; simp
   subst hf
   clear HR
   go_wp2
   go_ret
   exact ⟨rfl, HE3.out⟩
  have z1 := (HK3.out _ (.head _)).cell 1
  have y3 := (HK3.out _ (.tail _ (.head _))).cell 3
  have z2 := (HK3.out _ (.head _)).cell 2
  simp at z1 y3 z2
  cases pr
  ·have hf : bl = true := by rw [← HR.out]; simp
   subst hf
   clear HR
   go_wp2_with fail
   go_region
   go_wp2
   go_ret
   exact ⟨rfl, HE3.out.drew⟩
  have la := (HK3.out _ (.tail _ (.head _))).lt
  have l1 := (HK3.out _ (.head _)).lt
  by_cases hs : s0 = f2
  ·have hf : bl = true := by rw [← HR.out]; simp [hs]
   subst hf
   clear HR
   have x2 : (s0 == f2) = true := by simp [hs]
   go_wp2_with fail
   go_region_held3 (fun w' => w'.cell? ⟨G + 1, 1, none⟩ = some (.bool true) ∧ w'.cell? ⟨G + 1, 2, none⟩ = some (.int .i64 s0) ∧ w'.cell? ⟨G, 3, none⟩ = some (.slice A n c) ∧ Below w3.heap.size w3 w')
    (first | assumption | exact mkL (Below.refl _ _).drew ⟨z1, z2, y3⟩ la l1 | exact mkL (below_then (belowL (by assumption)) (by assumption)) ⟨z1, z2, y3⟩ la l1)
    (first
     | (go_at_call 77; (with_reducible refine (C3.out (by trivial) _ (below_then HE3.out (belowL (by assumption)))).mono ?_); rintro e y1 ⟨rfl, hy1⟩; have T1 := Lib.hid (below_then (belowL (W2 := w3) (A := G) (B := G + 1) (by assumption)) hy1))
     | fail)
   all_goals go_wp2
   all_goals go_ret
   all_goals exact ⟨rfl, below_then HE3.out T1.out⟩
  ·have hf : bl = false := by rw [← HR.out]; simp [hs]
   subst hf
   clear HR
   have x2 : (s0 == f2) = false := beq_eq_false_iff_ne.2 hs
   go_wp2_with fail
   go_region_held3 (fun w' => w'.cell? ⟨G + 1, 1, none⟩ = some (.bool true) ∧ w'.cell? ⟨G + 1, 2, none⟩ = some (.int .i64 s0) ∧ w'.cell? ⟨G, 3, none⟩ = some (.slice A n c) ∧ Below w3.heap.size w3 w')
    (first | assumption | exact mkL (Below.refl _ _).drew ⟨z1, z2, y3⟩ la l1 | exact mkL (below_then (belowL (by assumption)) (by assumption)) ⟨z1, z2, y3⟩ la l1)
    (first
     | (go_at_call 77; (with_reducible refine (C3.out (by trivial) _ (below_then HE3.out (belowL (by assumption)))).mono ?_); rintro e y1 ⟨rfl, hy1⟩; have T1 := Lib.hid (below_then (belowL (W2 := w3) (A := G) (B := G + 1) (by assumption)) hy1))
     | fail)
   all_goals go_wp2
   all_goals go_ret
   all_goals exact ⟨rfl, below_then HE3.out T1.out⟩
 ·have hf : bl = false := by rw [← HR.out]; simp [hk]
  subst hf
  have x1 : (tk == id) = false := beq_eq_false_iff_ne.2 hk
  clear HR
  go_wp2
  go_ret
  exact ⟨rfl, HE1.out⟩
end

end Go.Proofs.YtemlaaipnhmcoaaGreat
