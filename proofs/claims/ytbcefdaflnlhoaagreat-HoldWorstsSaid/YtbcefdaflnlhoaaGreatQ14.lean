/- Arguments opened: a tank, an amount. No conditions. -/
import Derived.Test.YtbcefdaflnlhoaaGreatQ13
import Derived.Test.YtbcefdaflnlhoaaGreatQ00
import Derived.Test.YtbcefdaflnlhoaaGreatQ06
set_option linter.unusedVariables false
set_option linter.unusedSimpArgs false
set_option linter.constructorNameAsVariable false
namespace Go.Proofs.YtbcefdaflnlhoaaGreat

section
open Go.RowKit
attribute [local go_sem ↓] eqlRange neqRange
/-- what a hold has in it -/
structure FillD where
  hold : Int
  st : Int
  x0 : Int
  x1 : Int
  d0 : Int
  d1 : Int
abbrev fillV (f : FillD) : Value := .agg #[.int .i64 f.hold, .int .i64 f.st, .int .i64 f.x0, .int .i64 f.x1, .int .i64 f.d0, .int .i64 f.d1]
/-- ullage and density fit the state -/
def stateS (st : Int) (ne nd inp de : Bool) : Bool := (decide (st = 0) && (ne && nd)) || ((decide (1 ≤ st ∧ st ≤ 2) && (ne && de)) || (decide (3 ≤ st ∧ st ≤ 5) && (inp && de)))
/-- a fill is one of a valid hold -/
def fillS (h : HoldD) (f : FillD) : Bool := decide (f.hold = h.id) && stateS f.st (f.x0 == 0 && f.x1 == 0) (f.d0 == 0 && f.d1 == 0) (inB f.x0 f.x1 (firstX h.vol) (lastX h.vol)) (densS f.d0 f.d1)
def fillErr (h : HoldD) (f : FillD) : Int := if holdS h = true then (if fillS h f = true then 0 else 22) else 20
theorem fillErr_of {h : HoldD} {f : FillD} {a b : Bool} (g : holdS h = a) (e : fillS h f = b) : fillErr h f = if a = true then (if b = true then 0 else 22) else 20 := by unfold fillErr; rw [g, e]
theorem hold_tab {h : HoldD} (e : holdS h = true) : tabOk h.vol = true := by
  cases hm : measuresS h.vol
  · unfold holdS amtRest ctRest at e
    rw [hm] at e
    simp at e
  · exact measures_ok hm

set_option maxHeartbeats 1000000 in
theorem sFilled_to (n : Int) (t : Bool) (w : World) (h : decide (1 ≤ n ∧ n ≤ 2) = t) :
    Calls Tryz.prog 71 #[.int .i64 n] w fun e w' => e = .returned (.bool t) ∧ Below w.heap.size w w' := by
  have C : Hid (∀ W, Calls Tryz.prog 50 #[.int .i64 n, .int .i64 1, .int .i64 2] W fun e w' => e = .returned (.bool t) ∧ Below W.heap.size W w') := Lib.hid fun W => between_to n 1 2 t W h
  clear h
  go_enter Tryz.func71, Tryz.ntmps71
  go_wp2_with fail
  refine (C.out _).mono ?_
  rintro e w1 ⟨rfl, hb⟩
  have HB := Lib.hid hb; clear hb
  go_wp2
  go_ret
  exact ⟨rfl, HB.out⟩
set_option maxHeartbeats 1000000 in
theorem sFree_to (n : Int) (t : Bool) (w : World) (h : decide (3 ≤ n ∧ n ≤ 5) = t) :
    Calls Tryz.prog 75 #[.int .i64 n] w fun e w' => e = .returned (.bool t) ∧ Below w.heap.size w w' := by
  have C : Hid (∀ W, Calls Tryz.prog 50 #[.int .i64 n, .int .i64 3, .int .i64 5] W fun e w' => e = .returned (.bool t) ∧ Below W.heap.size W w') := Lib.hid fun W => between_to n 3 5 t W h
  clear h
  go_enter Tryz.func75, Tryz.ntmps75
  go_wp2_with fail
  refine (C.out _).mono ?_
  rintro e w1 ⟨rfl, hb⟩
  have HB := Lib.hid hb; clear hb
  go_wp2
  go_ret
  exact ⟨rfl, HB.out⟩

set_option maxRecDepth 100000 in
set_option maxHeartbeats 8000000 in
theorem sCheckFill_any (h : HoldD) (m : HoldM) (f : FillD) (w : World) (hi : HoldIn w h m) :
    Calls Tryz.prog 69 #[holdV h m, fillV f] w fun e w' => e = .returned (.int .i64 (fillErr h f)) ∧ Below w.heap.size w w' := by
  have CC : Hid (∀ W, Below w.heap.size w W → Calls Tryz.prog 116 #[holdV h m] W fun e w' => e = .returned (.int .i64 (holdErr h)) ∧ Below W.heap.size W w') := Lib.hid fun W hW => sCheckHold_any h m W (hi.below hW)
  obtain ⟨bt, hbt⟩ : ∃ b, holdS h = b := ⟨_, rfl⟩
  obtain ⟨bl, hbl⟩ : ∃ b, fillS h f = b := ⟨_, rfl⟩
  rw [fillErr_of hbt hbl]
  rw [holdErr_of hbt] at CC
  have HV : Hid (bt = true → tabOk h.vol = true) := Lib.hid fun x => hold_tab (hbt.trans x)
  obtain ⟨id, al, ah, vol, mom, hei, t0, t1, u0, u1, v0, v1, h0, h1⟩ := h
  obtain ⟨A, n, c, B, mm, d, C, l, ee⟩ := m
  obtain ⟨fh, st, x0, x1, d0, d1⟩ := f
  obtain ⟨i1, i2, i3⟩ := hi
  dsimp only at i1 i2 i3 HV
  have HE := Lib.hid (show Below w.heap.size w ((w.alloc (.cells #[.int .i64 id, .int .i64 al, .int .i64 ah, .slice A n c, .slice B mm d, .slice C l ee, .int .i64 t0, .int .i64 t1, .int .i64 u0, .int .i64 u1, .int .i64 v0, .int .i64 v1, .int .i64 h0, .int .i64 h1] 45)).alloc (.cells #[.int .i64 fh, .int .i64 st, .int .i64 x0, .int .i64 x1, .int .i64 d0, .int .i64 d1] 47)) from below_a2 (Below.refl _ _))
  have HK := Lib.hid (boxes2' w 45 47 #[.int .i64 id, .int .i64 al, .int .i64 ah, .slice A n c, .slice B mm d, .slice C l ee, .int .i64 t0, .int .i64 t1, .int .i64 u0, .int .i64 u1, .int .i64 v0, .int .i64 v1, .int .i64 h0, .int .i64 h1] #[.int .i64 fh, .int .i64 st, .int .i64 x0, .int .i64 x1, .int .i64 d0, .int .i64 d1])
  obtain ⟨bd, ebd⟩ : ∃ b, densS d0 d1 = b := ⟨_, rfl⟩
  obtain ⟨bi, ebi⟩ : ∃ b, inB x0 x1 (firstX vol) (lastX vol) = b := ⟨_, rfl⟩
  obtain ⟨ne, ene⟩ : ∃ b, (x0 == 0 && x1 == 0) = b := ⟨_, rfl⟩
  obtain ⟨nd, end'⟩ : ∃ b, (d0 == 0 && d1 == 0) = b := ⟨_, rfl⟩
  have C1 : Hid (∀ W, Calls Tryz.prog 58 #[rv d0 d1] W fun e w' => e = .returned (.bool bd) ∧ Below W.heap.size W w') := Lib.hid fun W => sdensity_to d0 d1 bd W ebd
  have C2 : Hid (bt = true → ∀ W, Below w.heap.size w W → Calls Tryz.prog 59 #[tv A n c, rv x0 x1] W fun e w' => e = .returned (.bool bi) ∧ Below W.heap.size W w') := Lib.hid fun x W hW => splaces_to A n c vol x0 x1 bi W (i1.below hW) (HV.out x) ebi
  have e0 : fillS ⟨id, al, ah, vol, mom, hei, t0, t1, u0, u1, v0, v1, h0, h1⟩ ⟨fh, st, x0, x1, d0, d1⟩ = (decide (fh = id) && stateS st ne nd bi bd) := by rw [← ebd, ← ebi, ← ene, ← end']; rfl
  have HR := Lib.hid (e0.symm.trans hbl)
  have C4 : Hid (∀ W t, decide (1 ≤ st ∧ st ≤ 2) = t → Calls Tryz.prog 71 #[.int .i64 st] W fun e w' => e = .returned (.bool t) ∧ Below W.heap.size W w') := Lib.hid fun W t h => sFilled_to st t W h
  have C5 : Hid (∀ W t, decide (3 ≤ st ∧ st ≤ 5) = t → Calls Tryz.prog 75 #[.int .i64 st] W fun e w' => e = .returned (.bool t) ∧ Below W.heap.size W w') := Lib.hid fun W t h => sFree_to st t W h
  clear e0 hbl hbt i1 i2 i3 HV ebd ebi
  have HNE := Lib.hid ene
  have HND := Lib.hid end'
  clear ene end'
  go_enter Tryz.func69, Tryz.ntmps69
  go_wp2_with fail
  obtain ⟨W0, hW0⟩ : ∃ W0, ((w.alloc (.cells #[.int .i64 id, .int .i64 al, .int .i64 ah, .slice A n c, .slice B mm d, .slice C l ee, .int .i64 t0, .int .i64 t1, .int .i64 u0, .int .i64 u1, .int .i64 v0, .int .i64 v1, .int .i64 h0, .int .i64 h1] 45)).alloc (.cells #[.int .i64 fh, .int .i64 st, .int .i64 x0, .int .i64 x1, .int .i64 d0, .int .i64 d1] 47)) = W0 := ⟨_, rfl⟩
  rw [hW0] at HE HK ⊢
  clear hW0
  obtain ⟨G, hG⟩ : ∃ G, w.heap.size = G := ⟨_, rfl⟩
  rw [hG] at HK ⊢
  have HG := Lib.hid hG; clear hG
  refine (CC.out _ HE.out).mono ?_
  rintro e w1 ⟨rfl, hb⟩
  have HE1 := Lib.hid (below_then HE.out hb); have HK1 := Lib.hid (HK.out.on hb)
  clear hb HE HK
  cases bt
  · simp only [Bool.false_eq_true, if_false]
    clear HR HNE HND
    go_wp2
    go_ret
    exact ⟨rfl, HE1.out⟩
  simp only [if_true]
  have HEN := Lib.hid (below_then HE1.out (below_alloc1 w1 (.cells #[.int .i64 0, .int .i64 0] 23)))
  have HKN := Lib.hid (HK1.out.new 23 #[.int .i64 0, .int .i64 0])
  clear HE1 HK1
  go_upto_region 4 with fail
  obtain ⟨W2, hW2⟩ : ∃ W2, w1.alloc (.cells #[.int .i64 0, .int .i64 0] 23) = W2 := ⟨_, rfl⟩
  rw [hW2] at HEN HKN ⊢
  clear hW2
  obtain ⟨N, hN⟩ : ∃ N, w1.heap.size = N := ⟨_, rfl⟩
  rw [hN] at HKN ⊢
  have HN := Lib.hid hN
  clear hN
  have hst : (st = 0 ∧ decide (1 ≤ st ∧ st ≤ 2) = false ∧ decide (3 ≤ st ∧ st ≤ 5) = false) ∨ (st ≠ 0 ∧ decide (1 ≤ st ∧ st ≤ 2) = true ∧ decide (3 ≤ st ∧ st ≤ 5) = false) ∨ (st ≠ 0 ∧ decide (1 ≤ st ∧ st ≤ 2) = false ∧ decide (3 ≤ st ∧ st ≤ 5) = true) ∨ (st ≠ 0 ∧ decide (1 ≤ st ∧ st ≤ 2) = false ∧ decide (3 ≤ st ∧ st ≤ 5) = false) := by
    by_cases g0 : st = 0
    · exact .inl ⟨g0, decide_eq_false (by omega), decide_eq_false (by omega)⟩
    · by_cases g1 : 1 ≤ st ∧ st ≤ 2
      · exact .inr (.inl ⟨g0, decide_eq_true g1, decide_eq_false (by omega)⟩)
      · by_cases g2 : 3 ≤ st ∧ st ≤ 5
        · exact .inr (.inr (.inl ⟨g0, decide_eq_false g1, decide_eq_true g2⟩))
        · exact .inr (.inr (.inr ⟨g0, decide_eq_false g1, decide_eq_false g2⟩))
  have q0 := (HKN.out _ (.tail _ (.head _))).cell 0
  have z1 := (HKN.out _ (.tail _ (.head _))).cell 1
  have z2 := (HKN.out _ (.tail _ (.head _))).cell 2
  have z3 := (HKN.out _ (.tail _ (.head _))).cell 3
  have z4 := (HKN.out _ (.tail _ (.head _))).cell 4
  have z5 := (HKN.out _ (.tail _ (.head _))).cell 5
  have n0 := (HKN.out _ (.head _)).cell 0
  have n1 := (HKN.out _ (.head _)).cell 1
  have p0 := (HKN.out _ (.tail _ (.tail _ (.head _)))).cell 0
  have p3 := (HKN.out _ (.tail _ (.tail _ (.head _)))).cell 3
  simp at q0 z1 z2 z3 z4 z5 n0 n1 p0 p3
  rcases hst with ⟨g0, g1, g2⟩ | ⟨g0, g1, g2⟩ | ⟨g0, g1, g2⟩ | ⟨g0, g1, g2⟩
  · have F1 := Lib.hid (fun W => C4.out W false g1)
    have F2 := Lib.hid (fun W => C5.out W false g2)
    have HR0 : Hid ((decide (fh = id) && (ne && nd)) = bl) := Lib.hid (by rw [← HR.out]; unfold stateS; rw [g1, g2]; simp [g0])
    clear HR
    have HR := HR0
    clear HR0
    have b0 : (st == 0) = true := by simp [g0]
    clear g0 g1 g2
    have e1 := HNE.out
    have e2 := HND.out
    clear HNE HND
    cases ne
    · skip
      go_wp2_with fail
      refine (F1.out _).mono ?_
      rintro e y1 ⟨rfl, hb⟩
      have HE1 := Lib.hid (below_then HEN.out hb); have HK1 := Lib.hid (HKN.out.on hb)
      clear hb HEN HKN q0 z1 z2 z3 z4 z5 n0 n1 p0 p3
      have q0 := (HK1.out _ (.tail _ (.head _))).cell 0
      have z1 := (HK1.out _ (.tail _ (.head _))).cell 1
      have z2 := (HK1.out _ (.tail _ (.head _))).cell 2
      have z3 := (HK1.out _ (.tail _ (.head _))).cell 3
      have z4 := (HK1.out _ (.tail _ (.head _))).cell 4
      have z5 := (HK1.out _ (.tail _ (.head _))).cell 5
      have n0 := (HK1.out _ (.head _)).cell 0
      have n1 := (HK1.out _ (.head _)).cell 1
      have p0 := (HK1.out _ (.tail _ (.tail _ (.head _)))).cell 0
      have p3 := (HK1.out _ (.tail _ (.tail _ (.head _)))).cell 3
      simp at q0 z1 z2 z3 z4 z5 n0 n1 p0 p3
      go_wp2_with fail
      refine (F2.out _).mono ?_
      rintro e y2 ⟨rfl, hb⟩
      have HE2 := Lib.hid (below_then HE1.out hb); have HK2 := Lib.hid (HK1.out.on hb)
      clear hb HE1 HK1 q0 z1 z2 z3 z4 z5 n0 n1 p0 p3
      have q0 := (HK2.out _ (.tail _ (.head _))).cell 0
      have z1 := (HK2.out _ (.tail _ (.head _))).cell 1
      have z2 := (HK2.out _ (.tail _ (.head _))).cell 2
      have z3 := (HK2.out _ (.tail _ (.head _))).cell 3
      have z4 := (HK2.out _ (.tail _ (.head _))).cell 4
      have z5 := (HK2.out _ (.tail _ (.head _))).cell 5
      have n0 := (HK2.out _ (.head _)).cell 0
      have n1 := (HK2.out _ (.head _)).cell 1
      have p0 := (HK2.out _ (.tail _ (.tail _ (.head _)))).cell 0
      have p3 := (HK2.out _ (.tail _ (.tail _ (.head _)))).cell 3
      simp at q0 z1 z2 z3 z4 z5 n0 n1 p0 p3
      by_cases hk : fh = id
      · subst hk
        have hf : bl = false := by rw [← HR.out]; simp
        subst hf
        have b1 : (fh == fh) = true := by simp
        clear HR
        go_wp2
        go_ret
        exact ⟨rfl, HE2.out⟩
      · have hf : bl = false := by rw [← HR.out]; simp [hk]
        subst hf
        have b1 : (fh == id) = false := beq_eq_false_iff_ne.2 hk
        clear HR
        go_wp2
        go_ret
        exact ⟨rfl, HE2.out⟩
    cases nd
    · skip
      go_wp2_with fail
      refine (F1.out _).mono ?_
      rintro e y1 ⟨rfl, hb⟩
      have HE1 := Lib.hid (below_then HEN.out hb); have HK1 := Lib.hid (HKN.out.on hb)
      clear hb HEN HKN q0 z1 z2 z3 z4 z5 n0 n1 p0 p3
      have q0 := (HK1.out _ (.tail _ (.head _))).cell 0
      have z1 := (HK1.out _ (.tail _ (.head _))).cell 1
      have z2 := (HK1.out _ (.tail _ (.head _))).cell 2
      have z3 := (HK1.out _ (.tail _ (.head _))).cell 3
      have z4 := (HK1.out _ (.tail _ (.head _))).cell 4
      have z5 := (HK1.out _ (.tail _ (.head _))).cell 5
      have n0 := (HK1.out _ (.head _)).cell 0
      have n1 := (HK1.out _ (.head _)).cell 1
      have p0 := (HK1.out _ (.tail _ (.tail _ (.head _)))).cell 0
      have p3 := (HK1.out _ (.tail _ (.tail _ (.head _)))).cell 3
      simp at q0 z1 z2 z3 z4 z5 n0 n1 p0 p3
      go_wp2_with fail
      refine (F2.out _).mono ?_
      rintro e y2 ⟨rfl, hb⟩
      have HE2 := Lib.hid (below_then HE1.out hb); have HK2 := Lib.hid (HK1.out.on hb)
      clear hb HE1 HK1 q0 z1 z2 z3 z4 z5 n0 n1 p0 p3
      have q0 := (HK2.out _ (.tail _ (.head _))).cell 0
      have z1 := (HK2.out _ (.tail _ (.head _))).cell 1
      have z2 := (HK2.out _ (.tail _ (.head _))).cell 2
      have z3 := (HK2.out _ (.tail _ (.head _))).cell 3
      have z4 := (HK2.out _ (.tail _ (.head _))).cell 4
      have z5 := (HK2.out _ (.tail _ (.head _))).cell 5
      have n0 := (HK2.out _ (.head _)).cell 0
      have n1 := (HK2.out _ (.head _)).cell 1
      have p0 := (HK2.out _ (.tail _ (.tail _ (.head _)))).cell 0
      have p3 := (HK2.out _ (.tail _ (.tail _ (.head _)))).cell 3
      simp at q0 z1 z2 z3 z4 z5 n0 n1 p0 p3
      by_cases hk : fh = id
      · subst hk
        have hf : bl = false := by rw [← HR.out]; simp
        subst hf
        have b1 : (fh == fh) = true := by simp
        clear HR
        go_wp2
        go_ret
        exact ⟨rfl, HE2.out⟩
      · have hf : bl = false := by rw [← HR.out]; simp [hk]
        subst hf
        have b1 : (fh == id) = false := beq_eq_false_iff_ne.2 hk
        clear HR
        go_wp2
        go_ret
        exact ⟨rfl, HE2.out⟩
    · skip
      go_wp2_with fail
      refine (F1.out _).mono ?_
      rintro e y1 ⟨rfl, hb⟩
      have HE1 := Lib.hid (below_then HEN.out hb); have HK1 := Lib.hid (HKN.out.on hb)
      clear hb HEN HKN q0 z1 z2 z3 z4 z5 n0 n1 p0 p3
      have q0 := (HK1.out _ (.tail _ (.head _))).cell 0
      have z1 := (HK1.out _ (.tail _ (.head _))).cell 1
      have z2 := (HK1.out _ (.tail _ (.head _))).cell 2
      have z3 := (HK1.out _ (.tail _ (.head _))).cell 3
      have z4 := (HK1.out _ (.tail _ (.head _))).cell 4
      have z5 := (HK1.out _ (.tail _ (.head _))).cell 5
      have n0 := (HK1.out _ (.head _)).cell 0
      have n1 := (HK1.out _ (.head _)).cell 1
      have p0 := (HK1.out _ (.tail _ (.tail _ (.head _)))).cell 0
      have p3 := (HK1.out _ (.tail _ (.tail _ (.head _)))).cell 3
      simp at q0 z1 z2 z3 z4 z5 n0 n1 p0 p3
      go_wp2_with fail
      refine (F2.out _).mono ?_
      rintro e y2 ⟨rfl, hb⟩
      have HE2 := Lib.hid (below_then HE1.out hb); have HK2 := Lib.hid (HK1.out.on hb)
      clear hb HE1 HK1 q0 z1 z2 z3 z4 z5 n0 n1 p0 p3
      have q0 := (HK2.out _ (.tail _ (.head _))).cell 0
      have z1 := (HK2.out _ (.tail _ (.head _))).cell 1
      have z2 := (HK2.out _ (.tail _ (.head _))).cell 2
      have z3 := (HK2.out _ (.tail _ (.head _))).cell 3
      have z4 := (HK2.out _ (.tail _ (.head _))).cell 4
      have z5 := (HK2.out _ (.tail _ (.head _))).cell 5
      have n0 := (HK2.out _ (.head _)).cell 0
      have n1 := (HK2.out _ (.head _)).cell 1
      have p0 := (HK2.out _ (.tail _ (.tail _ (.head _)))).cell 0
      have p3 := (HK2.out _ (.tail _ (.tail _ (.head _)))).cell 3
      simp at q0 z1 z2 z3 z4 z5 n0 n1 p0 p3
      by_cases hk : fh = id
      · subst hk
        have hf : bl = true := by rw [← HR.out]; simp
        subst hf
        have b1 : (fh == fh) = true := by simp
        clear HR
        go_wp2
        go_ret
        exact ⟨rfl, HE2.out⟩
      · have hf : bl = false := by rw [← HR.out]; simp [hk]
        subst hf
        have b1 : (fh == id) = false := beq_eq_false_iff_ne.2 hk
        clear HR
        go_wp2
        go_ret
        exact ⟨rfl, HE2.out⟩
  · have F1 := Lib.hid (fun W => C4.out W true g1)
    have F2 := Lib.hid (fun W => C5.out W false g2)
    have HR0 : Hid ((decide (fh = id) && (ne && bd)) = bl) := Lib.hid (by rw [← HR.out]; unfold stateS; rw [g1, g2]; simp [g0])
    clear HR
    have HR := HR0
    clear HR0
    have b0 : (st == 0) = false := beq_eq_false_iff_ne.2 g0
    clear g0 g1 g2
    have e1 := HNE.out
    clear HNE HND
    go_wp2_with fail
    refine (F1.out _).mono ?_
    rintro e y1 ⟨rfl, hb⟩
    have HE1 := Lib.hid (below_then HEN.out hb); have HK1 := Lib.hid (HKN.out.on hb)
    clear hb HEN HKN q0 z1 z2 z3 z4 z5 n0 n1 p0 p3
    have q0 := (HK1.out _ (.tail _ (.head _))).cell 0
    have z1 := (HK1.out _ (.tail _ (.head _))).cell 1
    have z2 := (HK1.out _ (.tail _ (.head _))).cell 2
    have z3 := (HK1.out _ (.tail _ (.head _))).cell 3
    have z4 := (HK1.out _ (.tail _ (.head _))).cell 4
    have z5 := (HK1.out _ (.tail _ (.head _))).cell 5
    have n0 := (HK1.out _ (.head _)).cell 0
    have n1 := (HK1.out _ (.head _)).cell 1
    have p0 := (HK1.out _ (.tail _ (.tail _ (.head _)))).cell 0
    have p3 := (HK1.out _ (.tail _ (.tail _ (.head _)))).cell 3
    simp at q0 z1 z2 z3 z4 z5 n0 n1 p0 p3
    cases ne
    · skip
      go_wp2_with fail
      refine (F2.out _).mono ?_
      rintro e y2 ⟨rfl, hb⟩
      have HE2 := Lib.hid (below_then HE1.out hb); have HK2 := Lib.hid (HK1.out.on hb)
      clear hb HE1 HK1 q0 z1 z2 z3 z4 z5 n0 n1 p0 p3
      have q0 := (HK2.out _ (.tail _ (.head _))).cell 0
      have z1 := (HK2.out _ (.tail _ (.head _))).cell 1
      have z2 := (HK2.out _ (.tail _ (.head _))).cell 2
      have z3 := (HK2.out _ (.tail _ (.head _))).cell 3
      have z4 := (HK2.out _ (.tail _ (.head _))).cell 4
      have z5 := (HK2.out _ (.tail _ (.head _))).cell 5
      have n0 := (HK2.out _ (.head _)).cell 0
      have n1 := (HK2.out _ (.head _)).cell 1
      have p0 := (HK2.out _ (.tail _ (.tail _ (.head _)))).cell 0
      have p3 := (HK2.out _ (.tail _ (.tail _ (.head _)))).cell 3
      simp at q0 z1 z2 z3 z4 z5 n0 n1 p0 p3
      by_cases hk : fh = id
      · subst hk
        have hf : bl = false := by rw [← HR.out]; simp
        subst hf
        have b1 : (fh == fh) = true := by simp
        clear HR
        go_wp2
        go_ret
        exact ⟨rfl, HE2.out⟩
      · have hf : bl = false := by rw [← HR.out]; simp [hk]
        subst hf
        have b1 : (fh == id) = false := beq_eq_false_iff_ne.2 hk
        clear HR
        go_wp2
        go_ret
        exact ⟨rfl, HE2.out⟩
    go_wp2_with fail
    refine (C1.out _).mono ?_
    rintro e y2 ⟨rfl, hb⟩
    have HE2 := Lib.hid (below_then HE1.out hb); have HK2 := Lib.hid (HK1.out.on hb)
    clear hb HE1 HK1 q0 z1 z2 z3 z4 z5 n0 n1 p0 p3
    have q0 := (HK2.out _ (.tail _ (.head _))).cell 0
    have z1 := (HK2.out _ (.tail _ (.head _))).cell 1
    have z2 := (HK2.out _ (.tail _ (.head _))).cell 2
    have z3 := (HK2.out _ (.tail _ (.head _))).cell 3
    have z4 := (HK2.out _ (.tail _ (.head _))).cell 4
    have z5 := (HK2.out _ (.tail _ (.head _))).cell 5
    have n0 := (HK2.out _ (.head _)).cell 0
    have n1 := (HK2.out _ (.head _)).cell 1
    have p0 := (HK2.out _ (.tail _ (.tail _ (.head _)))).cell 0
    have p3 := (HK2.out _ (.tail _ (.tail _ (.head _)))).cell 3
    simp at q0 z1 z2 z3 z4 z5 n0 n1 p0 p3
    cases bd
    · skip
      go_wp2_with fail
      refine (F2.out _).mono ?_
      rintro e y3 ⟨rfl, hb⟩
      have HE3 := Lib.hid (below_then HE2.out hb); have HK3 := Lib.hid (HK2.out.on hb)
      clear hb HE2 HK2 q0 z1 z2 z3 z4 z5 n0 n1 p0 p3
      have q0 := (HK3.out _ (.tail _ (.head _))).cell 0
      have z1 := (HK3.out _ (.tail _ (.head _))).cell 1
      have z2 := (HK3.out _ (.tail _ (.head _))).cell 2
      have z3 := (HK3.out _ (.tail _ (.head _))).cell 3
      have z4 := (HK3.out _ (.tail _ (.head _))).cell 4
      have z5 := (HK3.out _ (.tail _ (.head _))).cell 5
      have n0 := (HK3.out _ (.head _)).cell 0
      have n1 := (HK3.out _ (.head _)).cell 1
      have p0 := (HK3.out _ (.tail _ (.tail _ (.head _)))).cell 0
      have p3 := (HK3.out _ (.tail _ (.tail _ (.head _)))).cell 3
      simp at q0 z1 z2 z3 z4 z5 n0 n1 p0 p3
      by_cases hk : fh = id
      · subst hk
        have hf : bl = false := by rw [← HR.out]; simp
        subst hf
        have b1 : (fh == fh) = true := by simp
        clear HR
        go_wp2
        go_ret
        exact ⟨rfl, HE3.out⟩
      · have hf : bl = false := by rw [← HR.out]; simp [hk]
        subst hf
        have b1 : (fh == id) = false := beq_eq_false_iff_ne.2 hk
        clear HR
        go_wp2
        go_ret
        exact ⟨rfl, HE3.out⟩
    · skip
      go_wp2_with fail
      refine (F2.out _).mono ?_
      rintro e y3 ⟨rfl, hb⟩
      have HE3 := Lib.hid (below_then HE2.out hb); have HK3 := Lib.hid (HK2.out.on hb)
      clear hb HE2 HK2 q0 z1 z2 z3 z4 z5 n0 n1 p0 p3
      have q0 := (HK3.out _ (.tail _ (.head _))).cell 0
      have z1 := (HK3.out _ (.tail _ (.head _))).cell 1
      have z2 := (HK3.out _ (.tail _ (.head _))).cell 2
      have z3 := (HK3.out _ (.tail _ (.head _))).cell 3
      have z4 := (HK3.out _ (.tail _ (.head _))).cell 4
      have z5 := (HK3.out _ (.tail _ (.head _))).cell 5
      have n0 := (HK3.out _ (.head _)).cell 0
      have n1 := (HK3.out _ (.head _)).cell 1
      have p0 := (HK3.out _ (.tail _ (.tail _ (.head _)))).cell 0
      have p3 := (HK3.out _ (.tail _ (.tail _ (.head _)))).cell 3
      simp at q0 z1 z2 z3 z4 z5 n0 n1 p0 p3
      by_cases hk : fh = id
      · subst hk
        have hf : bl = true := by rw [← HR.out]; simp
        subst hf
        have b1 : (fh == fh) = true := by simp
        clear HR
        go_wp2
        go_ret
        exact ⟨rfl, HE3.out⟩
      · have hf : bl = false := by rw [← HR.out]; simp [hk]
        subst hf
        have b1 : (fh == id) = false := beq_eq_false_iff_ne.2 hk
        clear HR
        go_wp2
        go_ret
        exact ⟨rfl, HE3.out⟩
  · have F1 := Lib.hid (fun W => C4.out W false g1)
    have F2 := Lib.hid (fun W => C5.out W true g2)
    have HR0 : Hid ((decide (fh = id) && (bi && bd)) = bl) := Lib.hid (by rw [← HR.out]; unfold stateS; rw [g1, g2]; simp [g0])
    clear HR
    have HR := HR0
    clear HR0
    have b0 : (st == 0) = false := beq_eq_false_iff_ne.2 g0
    clear g0 g1 g2
    clear HNE HND
    go_wp2_with fail
    refine (F1.out _).mono ?_
    rintro e y1 ⟨rfl, hb⟩
    have HE1 := Lib.hid (below_then HEN.out hb); have HK1 := Lib.hid (HKN.out.on hb)
    clear hb HEN HKN q0 z1 z2 z3 z4 z5 n0 n1 p0 p3
    have q0 := (HK1.out _ (.tail _ (.head _))).cell 0
    have z1 := (HK1.out _ (.tail _ (.head _))).cell 1
    have z2 := (HK1.out _ (.tail _ (.head _))).cell 2
    have z3 := (HK1.out _ (.tail _ (.head _))).cell 3
    have z4 := (HK1.out _ (.tail _ (.head _))).cell 4
    have z5 := (HK1.out _ (.tail _ (.head _))).cell 5
    have n0 := (HK1.out _ (.head _)).cell 0
    have n1 := (HK1.out _ (.head _)).cell 1
    have p0 := (HK1.out _ (.tail _ (.tail _ (.head _)))).cell 0
    have p3 := (HK1.out _ (.tail _ (.tail _ (.head _)))).cell 3
    simp at q0 z1 z2 z3 z4 z5 n0 n1 p0 p3
    go_wp2_with fail
    refine (F2.out _).mono ?_
    rintro e y2 ⟨rfl, hb⟩
    have HE2 := Lib.hid (below_then HE1.out hb); have HK2 := Lib.hid (HK1.out.on hb)
    clear hb HE1 HK1 q0 z1 z2 z3 z4 z5 n0 n1 p0 p3
    have q0 := (HK2.out _ (.tail _ (.head _))).cell 0
    have z1 := (HK2.out _ (.tail _ (.head _))).cell 1
    have z2 := (HK2.out _ (.tail _ (.head _))).cell 2
    have z3 := (HK2.out _ (.tail _ (.head _))).cell 3
    have z4 := (HK2.out _ (.tail _ (.head _))).cell 4
    have z5 := (HK2.out _ (.tail _ (.head _))).cell 5
    have n0 := (HK2.out _ (.head _)).cell 0
    have n1 := (HK2.out _ (.head _)).cell 1
    have p0 := (HK2.out _ (.tail _ (.tail _ (.head _)))).cell 0
    have p3 := (HK2.out _ (.tail _ (.tail _ (.head _)))).cell 3
    simp at q0 z1 z2 z3 z4 z5 n0 n1 p0 p3
    go_wp2_with fail
    refine (C2.out (by trivial) _ HE2.out).mono ?_
    rintro e y3 ⟨rfl, hb⟩
    have HE3 := Lib.hid (below_then HE2.out hb); have HK3 := Lib.hid (HK2.out.on hb)
    clear hb HE2 HK2 q0 z1 z2 z3 z4 z5 n0 n1 p0 p3
    have q0 := (HK3.out _ (.tail _ (.head _))).cell 0
    have z1 := (HK3.out _ (.tail _ (.head _))).cell 1
    have z2 := (HK3.out _ (.tail _ (.head _))).cell 2
    have z3 := (HK3.out _ (.tail _ (.head _))).cell 3
    have z4 := (HK3.out _ (.tail _ (.head _))).cell 4
    have z5 := (HK3.out _ (.tail _ (.head _))).cell 5
    have n0 := (HK3.out _ (.head _)).cell 0
    have n1 := (HK3.out _ (.head _)).cell 1
    have p0 := (HK3.out _ (.tail _ (.tail _ (.head _)))).cell 0
    have p3 := (HK3.out _ (.tail _ (.tail _ (.head _)))).cell 3
    simp at q0 z1 z2 z3 z4 z5 n0 n1 p0 p3
    cases bi
    · skip
      by_cases hk : fh = id
      · subst hk
        have hf : bl = false := by rw [← HR.out]; simp
        subst hf
        have b1 : (fh == fh) = true := by simp
        clear HR
        go_wp2
        go_ret
        exact ⟨rfl, HE3.out⟩
      · have hf : bl = false := by rw [← HR.out]; simp [hk]
        subst hf
        have b1 : (fh == id) = false := beq_eq_false_iff_ne.2 hk
        clear HR
        go_wp2
        go_ret
        exact ⟨rfl, HE3.out⟩
    go_wp2_with fail
    refine (C1.out _).mono ?_
    rintro e y4 ⟨rfl, hb⟩
    have HE4 := Lib.hid (below_then HE3.out hb); have HK4 := Lib.hid (HK3.out.on hb)
    clear hb HE3 HK3 q0 z1 z2 z3 z4 z5 n0 n1 p0 p3
    have q0 := (HK4.out _ (.tail _ (.head _))).cell 0
    have z1 := (HK4.out _ (.tail _ (.head _))).cell 1
    have z2 := (HK4.out _ (.tail _ (.head _))).cell 2
    have z3 := (HK4.out _ (.tail _ (.head _))).cell 3
    have z4 := (HK4.out _ (.tail _ (.head _))).cell 4
    have z5 := (HK4.out _ (.tail _ (.head _))).cell 5
    have n0 := (HK4.out _ (.head _)).cell 0
    have n1 := (HK4.out _ (.head _)).cell 1
    have p0 := (HK4.out _ (.tail _ (.tail _ (.head _)))).cell 0
    have p3 := (HK4.out _ (.tail _ (.tail _ (.head _)))).cell 3
    simp at q0 z1 z2 z3 z4 z5 n0 n1 p0 p3
    cases bd
    · skip
      by_cases hk : fh = id
      · subst hk
        have hf : bl = false := by rw [← HR.out]; simp
        subst hf
        have b1 : (fh == fh) = true := by simp
        clear HR
        go_wp2
        go_ret
        exact ⟨rfl, HE4.out⟩
      · have hf : bl = false := by rw [← HR.out]; simp [hk]
        subst hf
        have b1 : (fh == id) = false := beq_eq_false_iff_ne.2 hk
        clear HR
        go_wp2
        go_ret
        exact ⟨rfl, HE4.out⟩
    · skip
      by_cases hk : fh = id
      · subst hk
        have hf : bl = true := by rw [← HR.out]; simp
        subst hf
        have b1 : (fh == fh) = true := by simp
        clear HR
        go_wp2
        go_ret
        exact ⟨rfl, HE4.out⟩
      · have hf : bl = false := by rw [← HR.out]; simp [hk]
        subst hf
        have b1 : (fh == id) = false := beq_eq_false_iff_ne.2 hk
        clear HR
        go_wp2
        go_ret
        exact ⟨rfl, HE4.out⟩
  · have F1 := Lib.hid (fun W => C4.out W false g1)
    have F2 := Lib.hid (fun W => C5.out W false g2)
    have HR0 : Hid ((decide (fh = id) && (false)) = bl) := Lib.hid (by rw [← HR.out]; unfold stateS; rw [g1, g2]; simp [g0])
    clear HR
    have HR := HR0
    clear HR0
    have b0 : (st == 0) = false := beq_eq_false_iff_ne.2 g0
    clear g0 g1 g2
    clear HNE HND
    go_wp2_with fail
    refine (F1.out _).mono ?_
    rintro e y1 ⟨rfl, hb⟩
    have HE1 := Lib.hid (below_then HEN.out hb); have HK1 := Lib.hid (HKN.out.on hb)
    clear hb HEN HKN q0 z1 z2 z3 z4 z5 n0 n1 p0 p3
    have q0 := (HK1.out _ (.tail _ (.head _))).cell 0
    have z1 := (HK1.out _ (.tail _ (.head _))).cell 1
    have z2 := (HK1.out _ (.tail _ (.head _))).cell 2
    have z3 := (HK1.out _ (.tail _ (.head _))).cell 3
    have z4 := (HK1.out _ (.tail _ (.head _))).cell 4
    have z5 := (HK1.out _ (.tail _ (.head _))).cell 5
    have n0 := (HK1.out _ (.head _)).cell 0
    have n1 := (HK1.out _ (.head _)).cell 1
    have p0 := (HK1.out _ (.tail _ (.tail _ (.head _)))).cell 0
    have p3 := (HK1.out _ (.tail _ (.tail _ (.head _)))).cell 3
    simp at q0 z1 z2 z3 z4 z5 n0 n1 p0 p3
    go_wp2_with fail
    refine (F2.out _).mono ?_
    rintro e y2 ⟨rfl, hb⟩
    have HE2 := Lib.hid (below_then HE1.out hb); have HK2 := Lib.hid (HK1.out.on hb)
    clear hb HE1 HK1 q0 z1 z2 z3 z4 z5 n0 n1 p0 p3
    have q0 := (HK2.out _ (.tail _ (.head _))).cell 0
    have z1 := (HK2.out _ (.tail _ (.head _))).cell 1
    have z2 := (HK2.out _ (.tail _ (.head _))).cell 2
    have z3 := (HK2.out _ (.tail _ (.head _))).cell 3
    have z4 := (HK2.out _ (.tail _ (.head _))).cell 4
    have z5 := (HK2.out _ (.tail _ (.head _))).cell 5
    have n0 := (HK2.out _ (.head _)).cell 0
    have n1 := (HK2.out _ (.head _)).cell 1
    have p0 := (HK2.out _ (.tail _ (.tail _ (.head _)))).cell 0
    have p3 := (HK2.out _ (.tail _ (.tail _ (.head _)))).cell 3
    simp at q0 z1 z2 z3 z4 z5 n0 n1 p0 p3
    by_cases hk : fh = id
    · subst hk
      have hf : bl = false := by rw [← HR.out]; simp
      subst hf
      have b1 : (fh == fh) = true := by simp
      clear HR
      go_wp2
      go_ret
      exact ⟨rfl, HE2.out⟩
    · have hf : bl = false := by rw [← HR.out]; simp [hk]
      subst hf
      have b1 : (fh == id) = false := beq_eq_false_iff_ne.2 hk
      clear HR
      go_wp2
      go_ret
      exact ⟨rfl, HE2.out⟩
end

section
open Go.ChangeShapes Go.WideShapes Go.ChangeAt Go.RowKit Go.Joins Go.Deep

theorem Tryz.cellsHold : Tryz.prog.cellsOf 45 = 14 := by kernel_rfl
theorem Tryz.cellsFill : Tryz.prog.cellsOf 47 = 6 := by kernel_rfl
set_option maxRecDepth 100000 in
theorem open_int1 {H : Type} {enc : TypeId × Value → H} {W : World} {fuel : Nat} {c0 : Value} {x : DataW H × List MemPlace} (h : DataW.trod enc Tryz.prog W 0 (fun _ => true) true fuel 3 [c0] = some x) : ∃ a : Int, c0 = .int .i64 a := by
  obtain ⟨p0, e0, _, _⟩ := DataW.trod_int Tryz.underlying3 h
  simp at e0
  exact ⟨p0, e0⟩
set_option maxRecDepth 100000 in
theorem open_range {H : Type} {enc : TypeId × Value → H} {W : World} {fuel : Nat} {c0 c1 : Value} {x : DataW H × List MemPlace} (h : DataW.trod enc Tryz.prog W 0 (fun _ => true) true fuel 23 [c0, c1] = some x) : ∃ a b : Int, c0 = .int .i64 a ∧ c1 = .int .i64 b := by
  obtain ⟨y0, y1, k, _, _, h0, h1⟩ := trod_struct2 Tryz.underlying23 h
  simp only [Tryz.cellsInt] at h0 h1
  obtain ⟨a, e0⟩ := open_int1 (c0 := c0) (by simpa using h0)
  obtain ⟨b, e1⟩ := open_int1 (c0 := c1) (by simpa using h1)
  exact ⟨a, b, e0, e1⟩
set_option maxRecDepth 100000 in
theorem open_tab1 {H : Type} {enc : TypeId × Value → H} {W : World} {fuel : Nat} {c0 : Value} {x : DataW H × List MemPlace} (h : DataW.trod enc Tryz.prog W 0 (fun _ => true) true fuel 26 [c0] = some x) : ∃ (A : Option Addr) (n c : Nat) (ps : List P3), c0 = .slice A n c ∧ TabIn W A n ps := by
  obtain ⟨y0, k, _, _, i0⟩ := trod_struct1 Tryz.underlying26 h
  simp only [Value.cells, Tryz.cellsPts] at i0
  obtain ⟨A, n, c, ps, e, h1, h2, h3⟩ := open_pts (v := c0) (by simpa using i0)
  exact ⟨A, n, c, ps, e, h1, h2, h3⟩
set_option maxRecDepth 100000 in
set_option maxHeartbeats 2000000 in
theorem open_hold {H : Type} {enc : TypeId × Value → H} {W : World} {base : Nat} {v : Value} {d : DataW H} {pl : List MemPlace} (hv : Value.okWide Tryz.prog W .any base 45 v) (h : DataW.Trod enc Tryz.prog W 0 (fun _ => true) true 45 v d pl) :
    ∃ (h : HoldD) (m : HoldM), v = holdV h m ∧ HoldIn W h m := by
  obtain ⟨cs, rfl, hsz⟩ := okWide_struct Tryz.underlying45 hv
  rw [Tryz.cellsHold] at hsz
  obtain ⟨l⟩ := cs
  match l, hsz with
  | [c0, c1, c2, c3, c4, c5, c6, c7, c8, c9, c10, c11, c12, c13], _ =>
    obtain ⟨fuel, hf⟩ := h
    obtain ⟨xs, n, _, hx, _, hlen, hg⟩ := DataW.trod_struct Tryz.underlying45 hf
    obtain ⟨y0, hy0⟩ : ∃ y, xs[0]? = some y := ⟨_, List.getElem?_eq_getElem (by rw [hlen]; decide)⟩
    have g0 := hg 0 _ rfl
    rw [hy0] at g0
    have k0 : DataW.trod enc Tryz.prog W 0 (fun _ => true) true n 3 [c0] = some y0 := by simpa [Value.cells, Tryz.cellsInt, Tryz.cellsRange, Tryz.cellsTable] using g0
    clear g0
    obtain ⟨n0, e0⟩ := open_int1 k0
    subst e0
    obtain ⟨y1, hy1⟩ : ∃ y, xs[1]? = some y := ⟨_, List.getElem?_eq_getElem (by rw [hlen]; decide)⟩
    have g1 := hg 1 _ rfl
    rw [hy1] at g1
    have k1 : DataW.trod enc Tryz.prog W 0 (fun _ => true) true n 23 [c1, c2] = some y1 := by simpa [Value.cells, Tryz.cellsInt, Tryz.cellsRange, Tryz.cellsTable] using g1
    clear g1
    obtain ⟨n1, n2, e1, e2⟩ := open_range k1
    subst e1 e2
    obtain ⟨y2, hy2⟩ : ∃ y, xs[2]? = some y := ⟨_, List.getElem?_eq_getElem (by rw [hlen]; decide)⟩
    have g2 := hg 2 _ rfl
    rw [hy2] at g2
    have k2 : DataW.trod enc Tryz.prog W 0 (fun _ => true) true n 26 [c3] = some y2 := by simpa [Value.cells, Tryz.cellsInt, Tryz.cellsRange, Tryz.cellsTable] using g2
    clear g2
    obtain ⟨A3, m3, q3, ps3, e3, t3⟩ := open_tab1 k2
    subst e3
    obtain ⟨y3, hy3⟩ : ∃ y, xs[3]? = some y := ⟨_, List.getElem?_eq_getElem (by rw [hlen]; decide)⟩
    have g3 := hg 3 _ rfl
    rw [hy3] at g3
    have k3 : DataW.trod enc Tryz.prog W 0 (fun _ => true) true n 26 [c4] = some y3 := by simpa [Value.cells, Tryz.cellsInt, Tryz.cellsRange, Tryz.cellsTable] using g3
    clear g3
    obtain ⟨A4, m4, q4, ps4, e4, t4⟩ := open_tab1 k3
    subst e4
    obtain ⟨y4, hy4⟩ : ∃ y, xs[4]? = some y := ⟨_, List.getElem?_eq_getElem (by rw [hlen]; decide)⟩
    have g4 := hg 4 _ rfl
    rw [hy4] at g4
    have k4 : DataW.trod enc Tryz.prog W 0 (fun _ => true) true n 26 [c5] = some y4 := by simpa [Value.cells, Tryz.cellsInt, Tryz.cellsRange, Tryz.cellsTable] using g4
    clear g4
    obtain ⟨A5, m5, q5, ps5, e5, t5⟩ := open_tab1 k4
    subst e5
    obtain ⟨y5, hy5⟩ : ∃ y, xs[5]? = some y := ⟨_, List.getElem?_eq_getElem (by rw [hlen]; decide)⟩
    have g5 := hg 5 _ rfl
    rw [hy5] at g5
    have k5 : DataW.trod enc Tryz.prog W 0 (fun _ => true) true n 23 [c6, c7] = some y5 := by simpa [Value.cells, Tryz.cellsInt, Tryz.cellsRange, Tryz.cellsTable] using g5
    clear g5
    obtain ⟨n6, n7, e6, e7⟩ := open_range k5
    subst e6 e7
    obtain ⟨y6, hy6⟩ : ∃ y, xs[6]? = some y := ⟨_, List.getElem?_eq_getElem (by rw [hlen]; decide)⟩
    have g6 := hg 6 _ rfl
    rw [hy6] at g6
    have k6 : DataW.trod enc Tryz.prog W 0 (fun _ => true) true n 23 [c8, c9] = some y6 := by simpa [Value.cells, Tryz.cellsInt, Tryz.cellsRange, Tryz.cellsTable] using g6
    clear g6
    obtain ⟨n8, n9, e8, e9⟩ := open_range k6
    subst e8 e9
    obtain ⟨y7, hy7⟩ : ∃ y, xs[7]? = some y := ⟨_, List.getElem?_eq_getElem (by rw [hlen]; decide)⟩
    have g7 := hg 7 _ rfl
    rw [hy7] at g7
    have k7 : DataW.trod enc Tryz.prog W 0 (fun _ => true) true n 23 [c10, c11] = some y7 := by simpa [Value.cells, Tryz.cellsInt, Tryz.cellsRange, Tryz.cellsTable] using g7
    clear g7
    obtain ⟨n10, n11, e10, e11⟩ := open_range k7
    subst e10 e11
    obtain ⟨y8, hy8⟩ : ∃ y, xs[8]? = some y := ⟨_, List.getElem?_eq_getElem (by rw [hlen]; decide)⟩
    have g8 := hg 8 _ rfl
    rw [hy8] at g8
    have k8 : DataW.trod enc Tryz.prog W 0 (fun _ => true) true n 23 [c12, c13] = some y8 := by simpa [Value.cells, Tryz.cellsInt, Tryz.cellsRange, Tryz.cellsTable] using g8
    clear g8
    obtain ⟨n12, n13, e12, e13⟩ := open_range k8
    subst e12 e13
    exact ⟨⟨n0, n1, n2, ps3, ps4, ps5, n6, n7, n8, n9, n10, n11, n12, n13⟩, ⟨A3, m3, q3, A4, m4, q4, A5, m5, q5⟩, rfl, t3, t4, t5⟩
set_option maxRecDepth 100000 in
set_option maxHeartbeats 2000000 in
theorem open_fill {H : Type} {enc : TypeId × Value → H} {W : World} {base : Nat} {v : Value} {d : DataW H} {pl : List MemPlace} (hv : Value.okWide Tryz.prog W .any base 47 v) (h : DataW.Trod enc Tryz.prog W 0 (fun _ => true) true 47 v d pl) :
    ∃ (f : FillD), v = fillV f := by
  obtain ⟨cs, rfl, hsz⟩ := okWide_struct Tryz.underlying47 hv
  rw [Tryz.cellsFill] at hsz
  obtain ⟨l⟩ := cs
  match l, hsz with
  | [c0, c1, c2, c3, c4, c5], _ =>
    obtain ⟨fuel, hf⟩ := h
    obtain ⟨xs, n, _, hx, _, hlen, hg⟩ := DataW.trod_struct Tryz.underlying47 hf
    obtain ⟨y0, hy0⟩ : ∃ y, xs[0]? = some y := ⟨_, List.getElem?_eq_getElem (by rw [hlen]; decide)⟩
    have g0 := hg 0 _ rfl
    rw [hy0] at g0
    have k0 : DataW.trod enc Tryz.prog W 0 (fun _ => true) true n 3 [c0] = some y0 := by simpa [Value.cells, Tryz.cellsInt, Tryz.cellsRange, Tryz.cellsTable] using g0
    clear g0
    obtain ⟨n0, e0⟩ := open_int1 k0
    subst e0
    obtain ⟨y1, hy1⟩ : ∃ y, xs[1]? = some y := ⟨_, List.getElem?_eq_getElem (by rw [hlen]; decide)⟩
    have g1 := hg 1 _ rfl
    rw [hy1] at g1
    have k1 : DataW.trod enc Tryz.prog W 0 (fun _ => true) true n 3 [c1] = some y1 := by simpa [Value.cells, Tryz.cellsInt, Tryz.cellsRange, Tryz.cellsTable] using g1
    clear g1
    obtain ⟨n1, e1⟩ := open_int1 k1
    subst e1
    obtain ⟨y2, hy2⟩ : ∃ y, xs[2]? = some y := ⟨_, List.getElem?_eq_getElem (by rw [hlen]; decide)⟩
    have g2 := hg 2 _ rfl
    rw [hy2] at g2
    have k2 : DataW.trod enc Tryz.prog W 0 (fun _ => true) true n 23 [c2, c3] = some y2 := by simpa [Value.cells, Tryz.cellsInt, Tryz.cellsRange, Tryz.cellsTable] using g2
    clear g2
    obtain ⟨n2, n3, e2, e3⟩ := open_range k2
    subst e2 e3
    obtain ⟨y3, hy3⟩ : ∃ y, xs[3]? = some y := ⟨_, List.getElem?_eq_getElem (by rw [hlen]; decide)⟩
    have g3 := hg 3 _ rfl
    rw [hy3] at g3
    have k3 : DataW.trod enc Tryz.prog W 0 (fun _ => true) true n 23 [c4, c5] = some y3 := by simpa [Value.cells, Tryz.cellsInt, Tryz.cellsRange, Tryz.cellsTable] using g3
    clear g3
    obtain ⟨n4, n5, e4, e5⟩ := open_range k3
    subst e4 e5
    exact ⟨⟨n0, n1, n2, n3, n4, n5⟩, rfl⟩
end

section
open Go.ChangeShapes Go.WideShapes Go.ChangeAt Go.RowKit Go.Joins Go.Deep

theorem Tryz.cellsAmount : Tryz.prog.cellsOf 49 = 4 := by kernel_rfl
set_option maxRecDepth 100000 in
set_option maxHeartbeats 2000000 in
theorem open_amount {H : Type} {enc : TypeId × Value → H} {W : World} {base : Nat} {v : Value} {d : DataW H} {pl : List MemPlace} (hv : Value.okWide Tryz.prog W .any base 49 v) (h : DataW.Trod enc Tryz.prog W 0 (fun _ => true) true 49 v d pl) :
    ∃ a b c d : Int, v = .agg #[.int .i64 a, .int .i64 b, .int .i64 c, .int .i64 d] := by
  obtain ⟨cs, rfl, hsz⟩ := okWide_struct Tryz.underlying49 hv
  rw [Tryz.cellsAmount] at hsz
  obtain ⟨l⟩ := cs
  match l, hsz with
  | [c0, c1, c2, c3], _ =>
    obtain ⟨fuel, hf⟩ := h
    obtain ⟨xs, n, _, hx, _, hlen, hg⟩ := DataW.trod_struct Tryz.underlying49 hf
    obtain ⟨y0, hy0⟩ : ∃ y, xs[0]? = some y := ⟨_, List.getElem?_eq_getElem (by rw [hlen]; decide)⟩
    have g0 := hg 0 _ rfl
    rw [hy0] at g0
    have k0 : DataW.trod enc Tryz.prog W 0 (fun _ => true) true n 23 [c0, c1] = some y0 := by simpa [Value.cells, Tryz.cellsInt, Tryz.cellsRange, Tryz.cellsTable] using g0
    clear g0
    obtain ⟨n0, n1, e0, e1⟩ := open_range k0
    subst e0 e1
    obtain ⟨y1, hy1⟩ : ∃ y, xs[1]? = some y := ⟨_, List.getElem?_eq_getElem (by rw [hlen]; decide)⟩
    have g1 := hg 1 _ rfl
    rw [hy1] at g1
    have k1 : DataW.trod enc Tryz.prog W 0 (fun _ => true) true n 23 [c2, c3] = some y1 := by simpa [Value.cells, Tryz.cellsInt, Tryz.cellsRange, Tryz.cellsTable] using g1
    clear g1
    obtain ⟨n2, n3, e2, e3⟩ := open_range k1
    subst e2 e3
    exact ⟨n0, n1, n2, n3, rfl⟩
end

end Go.Proofs.YtbcefdaflnlhoaaGreat
