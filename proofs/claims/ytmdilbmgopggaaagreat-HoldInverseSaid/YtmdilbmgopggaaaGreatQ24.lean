/- What a valid fill is; the contracts of Filled, Free and CheckFill (the specification of layer 2). Its condition: the hold's tables lie in memory. -/
import Derived.Test.YtmdilbmgopggaaaGreatQ23
set_option linter.unusedVariables false
set_option linter.unusedSimpArgs false
set_option linter.constructorNameAsVariable false
namespace Go.Proofs.YtmdilbmgopggaaaGreat

section
open Go.RowKit
attribute [local go_sem ↓] eqlRange neqRange
/-- what a hold has in it -/
structure FillD where
  hold : Int
  st : Int
  x0 : Int
  x1 : Int
  d0 : Int
  d1 : Int
abbrev fillV (f : FillD) : Value := .agg #[.int .i64 f.hold, .int .i64 f.st, .int .i64 f.x0, .int .i64 f.x1, .int .i64 f.d0, .int .i64 f.d1]
/-- ullage and density fit the state -/
def stateS (st : Int) (ne nd inp de : Bool) : Bool := (decide (st = 0) && (ne && nd)) || ((decide (1 ≤ st ∧ st ≤ 2) && (ne && de)) || (decide (3 ≤ st ∧ st ≤ 5) && (inp && de)))
/-- a fill is one of a valid hold -/
def fillS (h : HoldD) (f : FillD) : Bool := decide (f.hold = h.id) && stateS f.st (f.x0 == 0 && f.x1 == 0) (f.d0 == 0 && f.d1 == 0) (inB f.x0 f.x1 (firstX h.vol) (lastX h.vol)) (densS f.d0 f.d1)
def fillErr (h : HoldD) (f : FillD) : Int := if holdS h = true then (if fillS h f = true then 0 else 22) else 20
theorem fillErr_of {h : HoldD} {f : FillD} {a b : Bool} (g : holdS h = a) (e : fillS h f = b) : fillErr h f = if a = true then (if b = true then 0 else 22) else 20 := by unfold fillErr; rw [g, e]
theorem hold_tab {h : HoldD} (e : holdS h = true) : tabOk h.vol = true := by
  cases hm : measuresS h.vol
  · unfold holdS amtRest ctRest at e
    rw [hm] at e
    simp at e
  · exact measures_ok hm

set_option maxHeartbeats 1000000 in
theorem sFilled_to (n : Int) (t : Bool) (w : World) (h : decide (1 ≤ n ∧ n ≤ 2) = t) :
    Calls Tryz.prog 104 #[.int .i64 n] w fun e w' => e = .returned (.bool t) ∧ Below w.heap.size w w' := by
  have C : Hid (∀ W, Calls Tryz.prog 97 #[.int .i64 n, .int .i64 1, .int .i64 2] W fun e w' => e = .returned (.bool t) ∧ Below W.heap.size W w') := Lib.hid fun W => between_to n 1 2 t W h
  clear h
  go_enter Tryz.func104, Tryz.ntmps104
  go_wp2_with fail
  refine (C.out _).mono ?_
  rintro e w1 ⟨rfl, hb⟩
  have HB := Lib.hid hb; clear hb
  go_wp2
  go_ret
  exact ⟨rfl, HB.out⟩
set_option maxHeartbeats 1000000 in
theorem sFree_to (n : Int) (t : Bool) (w : World) (h : decide (3 ≤ n ∧ n ≤ 5) = t) :
    Calls Tryz.prog 68 #[.int .i64 n] w fun e w' => e = .returned (.bool t) ∧ Below w.heap.size w w' := by
  have C : Hid (∀ W, Calls Tryz.prog 97 #[.int .i64 n, .int .i64 3, .int .i64 5] W fun e w' => e = .returned (.bool t) ∧ Below W.heap.size W w') := Lib.hid fun W => between_to n 3 5 t W h
  clear h
  go_enter Tryz.func68, Tryz.ntmps68
  go_wp2_with fail
  refine (C.out _).mono ?_
  rintro e w1 ⟨rfl, hb⟩
  have HB := Lib.hid hb; clear hb
  go_wp2
  go_ret
  exact ⟨rfl, HB.out⟩

set_option maxRecDepth 100000 in
set_option maxHeartbeats 8000000 in
theorem sCheckFill_any (h : HoldD) (m : HoldM) (f : FillD) (w : World) (hi : HoldIn w h m) :
    Calls Tryz.prog 30 #[holdV h m, fillV f] w fun e w' => e = .returned (.int .i64 (fillErr h f)) ∧ Below w.heap.size w w' := by
  have CC : Hid (∀ W, Below w.heap.size w W → Calls Tryz.prog 28 #[holdV h m] W fun e w' => e = .returned (.int .i64 (holdErr h)) ∧ Below W.heap.size W w') := Lib.hid fun W hW => sCheckHold_any h m W (hi.below hW)
  obtain ⟨bt, hbt⟩ : ∃ b, holdS h = b := ⟨_, rfl⟩
  obtain ⟨bl, hbl⟩ : ∃ b, fillS h f = b := ⟨_, rfl⟩
  rw [fillErr_of hbt hbl]
  rw [holdErr_of hbt] at CC
  have HV : Hid (bt = true → tabOk h.vol = true) := Lib.hid fun x => hold_tab (hbt.trans x)
  obtain ⟨id, al, ah, vol, mom, hei, t0, t1, u0, u1, v0, v1, h0, h1⟩ := h
  obtain ⟨A, n, c, B, mm, d, C, l, ee⟩ := m
  obtain ⟨fh, st, x0, x1, d0, d1⟩ := f
  obtain ⟨i1, i2, i3⟩ := hi
  dsimp only at i1 i2 i3 HV
  have HE := Lib.hid (show Below w.heap.size w ((w.alloc (.cells #[.int .i64 id, .int .i64 al, .int .i64 ah, .slice A n c, .slice B mm d, .slice C l ee, .int .i64 t0, .int .i64 t1, .int .i64 u0, .int .i64 u1, .int .i64 v0, .int .i64 v1, .int .i64 h0, .int .i64 h1] 28)).alloc (.cells #[.int .i64 fh, .int .i64 st, .int .i64 x0, .int .i64 x1, .int .i64 d0, .int .i64 d1] 30)) from below_a2 (Below.refl _ _))
  have HK := Lib.hid (boxes2' w 28 30 #[.int .i64 id, .int .i64 al, .int .i64 ah, .slice A n c, .slice B mm d, .slice C l ee, .int .i64 t0, .int .i64 t1, .int .i64 u0, .int .i64 u1, .int .i64 v0, .int .i64 v1, .int .i64 h0, .int .i64 h1] #[.int .i64 fh, .int .i64 st, .int .i64 x0, .int .i64 x1, .int .i64 d0, .int .i64 d1])
  obtain ⟨bd, ebd⟩ : ∃ b, densS d0 d1 = b := ⟨_, rfl⟩
  obtain ⟨bi, ebi⟩ : ∃ b, inB x0 x1 (firstX vol) (lastX vol) = b := ⟨_, rfl⟩
  obtain ⟨ne, ene⟩ : ∃ b, (x0 == 0 && x1 == 0) = b := ⟨_, rfl⟩
  obtain ⟨nd, end'⟩ : ∃ b, (d0 == 0 && d1 == 0) = b := ⟨_, rfl⟩
  have C1 : Hid (∀ W, Calls Tryz.prog 105 #[rv d0 d1] W fun e w' => e = .returned (.bool bd) ∧ Below W.heap.size W w') := Lib.hid fun W => sdensity_to d0 d1 bd W ebd
  have C2 : Hid (bt = true → ∀ W, Below w.heap.size w W → Calls Tryz.prog 106 #[tv A n c, rv x0 x1] W fun e w' => e = .returned (.bool bi) ∧ Below W.heap.size W w') := Lib.hid fun x W hW => splaces_to A n c vol x0 x1 bi W (i1.below hW) (HV.out x) ebi
  have e0 : fillS ⟨id, al, ah, vol, mom, hei, t0, t1, u0, u1, v0, v1, h0, h1⟩ ⟨fh, st, x0, x1, d0, d1⟩ = (decide (fh = id) && stateS st ne nd bi bd) := by rw [← ebd, ← ebi, ← ene, ← end']; rfl
  have HR := Lib.hid (e0.symm.trans hbl)
  have C4 : Hid (∀ W t, decide (1 ≤ st ∧ st ≤ 2) = t → Calls Tryz.prog 104 #[.int .i64 st] W fun e w' => e = .returned (.bool t) ∧ Below W.heap.size W w') := Lib.hid fun W t h => sFilled_to st t W h
  have C5 : Hid (∀ W t, decide (3 ≤ st ∧ st ≤ 5) = t → Calls Tryz.prog 68 #[.int .i64 st] W fun e w' => e = .returned (.bool t) ∧ Below W.heap.size W w') := Lib.hid fun W t h => sFree_to st t W h
  clear e0 hbl hbt i1 i2 i3 HV ebd ebi
  have HNE := Lib.hid ene
  have HND := Lib.hid end'
  clear ene end'
  go_enter Tryz.func30, Tryz.ntmps30
  go_wp2_with fail
  obtain ⟨W0, hW0⟩ : ∃ W0, ((w.alloc (.cells #[.int .i64 id, .int .i64 al, .int .i64 ah, .slice A n c, .slice B mm d, .slice C l ee, .int .i64 t0, .int .i64 t1, .int .i64 u0, .int .i64 u1, .int .i64 v0, .int .i64 v1, .int .i64 h0, .int .i64 h1] 28)).alloc (.cells #[.int .i64 fh, .int .i64 st, .int .i64 x0, .int .i64 x1, .int .i64 d0, .int .i64 d1] 30)) = W0 := ⟨_, rfl⟩
  rw [hW0] at HE HK ⊢
  clear hW0
  obtain ⟨G, hG⟩ : ∃ G, w.heap.size = G := ⟨_, rfl⟩
  rw [hG] at HK ⊢
  have HG := Lib.hid hG; clear hG
  refine (CC.out _ HE.out).mono ?_
  rintro e w1 ⟨rfl, hb⟩
  have HE1 := Lib.hid (below_then HE.out hb); have HK1 := Lib.hid (HK.out.on hb)
  clear hb HE HK
  cases bt
  · simp only [Bool.false_eq_true, if_false]
    clear HR HNE HND
    go_wp2
    go_ret
    exact ⟨rfl, HE1.out⟩
  simp only [if_true]
  have HEN := Lib.hid (below_then HE1.out (below_alloc1 w1 (.cells #[.int .i64 0, .int .i64 0] 23)))
  have HKN := Lib.hid (HK1.out.new 23 #[.int .i64 0, .int .i64 0])
  clear HE1 HK1
  go_upto_region 4 with fail
  obtain ⟨W2, hW2⟩ : ∃ W2, w1.alloc (.cells #[.int .i64 0, .int .i64 0] 23) = W2 := ⟨_, rfl⟩
  rw [hW2] at HEN HKN ⊢
  clear hW2
  obtain ⟨N, hN⟩ : ∃ N, w1.heap.size = N := ⟨_, rfl⟩
  rw [hN] at HKN ⊢
  have HN := Lib.hid hN
  clear hN
  have hst : (st = 0 ∧ decide (1 ≤ st ∧ st ≤ 2) = false ∧ decide (3 ≤ st ∧ st ≤ 5) = false) ∨ (st ≠ 0 ∧ decide (1 ≤ st ∧ st ≤ 2) = true ∧ decide (3 ≤ st ∧ st ≤ 5) = false) ∨ (st ≠ 0 ∧ decide (1 ≤ st ∧ st ≤ 2) = false ∧ decide (3 ≤ st ∧ st ≤ 5) = true) ∨ (st ≠ 0 ∧ decide (1 ≤ st ∧ st ≤ 2) = false ∧ decide (3 ≤ st ∧ st ≤ 5) = false) := by
    by_cases g0 : st = 0
    · exact .inl ⟨g0, decide_eq_false (by omega), decide_eq_false (by omega)⟩
    · by_cases g1 : 1 ≤ st ∧ st ≤ 2
      · exact .inr (.inl ⟨g0, decide_eq_true g1, decide_eq_false (by omega)⟩)
      · by_cases g2 : 3 ≤ st ∧ st ≤ 5
        · exact .inr (.inr (.inl ⟨g0, decide_eq_false g1, decide_eq_true g2⟩))
        · exact .inr (.inr (.inr ⟨g0, decide_eq_false g1, decide_eq_false g2⟩))
  have q0 := (HKN.out _ (.tail _ (.head _))).cell 0
  have z1 := (HKN.out _ (.tail _ (.head _))).cell 1
  have z2 := (HKN.out _ (.tail _ (.head _))).cell 2
  have z3 := (HKN.out _ (.tail _ (.head _))).cell 3
  have z4 := (HKN.out _ (.tail _ (.head _))).cell 4
  have z5 := (HKN.out _ (.tail _ (.head _))).cell 5
  have n0 := (HKN.out _ (.head _)).cell 0
  have n1 := (HKN.out _ (.head _)).cell 1
  have p0 := (HKN.out _ (.tail _ (.tail _ (.head _)))).cell 0
  have p3 := (HKN.out _ (.tail _ (.tail _ (.head _)))).cell 3
  simp at q0 z1 z2 z3 z4 z5 n0 n1 p0 p3
  rcases hst with ⟨g0, g1, g2⟩ | ⟨g0, g1, g2⟩ | ⟨g0, g1, g2⟩ | ⟨g0, g1, g2⟩
  · have F1 := Lib.hid (fun W => C4.out W false g1)
    have F2 := Lib.hid (fun W => C5.out W false g2)
    have HR0 : Hid ((decide (fh = id) && (ne && nd)) = bl) := Lib.hid (by rw [← HR.out]; unfold stateS; rw [g1, g2]; simp [g0])
    clear HR
    have HR := HR0
    clear HR0
    have b0 : (st == 0) = true := by simp [g0]
    clear g0 g1 g2
    have e1 := HNE.out
    have e2 := HND.out
    clear HNE HND
    cases ne
    · skip
      go_wp2_with fail
      refine (F1.out _).mono ?_
      rintro e y1 ⟨rfl, hb⟩
      have HE1 := Lib.hid (below_then HEN.out hb); have HK1 := Lib.hid (HKN.out.on hb)
      clear hb HEN HKN q0 z1 z2 z3 z4 z5 n0 n1 p0 p3
      have q0 := (HK1.out _ (.tail _ (.head _))).cell 0
      have z1 := (HK1.out _ (.tail _ (.head _))).cell 1
      have z2 := (HK1.out _ (.tail _ (.head _))).cell 2
      have z3 := (HK1.out _ (.tail _ (.head _))).cell 3
      have z4 := (HK1.out _ (.tail _ (.head _))).cell 4
      have z5 := (HK1.out _ (.tail _ (.head _))).cell 5
      have n0 := (HK1.out _ (.head _)).cell 0
      have n1 := (HK1.out _ (.head _)).cell 1
      have p0 := (HK1.out _ (.tail _ (.tail _ (.head _)))).cell 0
      have p3 := (HK1.out _ (.tail _ (.tail _ (.head _)))).cell 3
      simp at q0 z1 z2 z3 z4 z5 n0 n1 p0 p3
      go_wp2_with fail
      refine (F2.out _).mono ?_
      rintro e y2 ⟨rfl, hb⟩
      have HE2 := Lib.hid (below_then HE1.out hb); have HK2 := Lib.hid (HK1.out.on hb)
      clear hb HE1 HK1 q0 z1 z2 z3 z4 z5 n0 n1 p0 p3
      have q0 := (HK2.out _ (.tail _ (.head _))).cell 0
      have z1 := (HK2.out _ (.tail _ (.head _))).cell 1
      have z2 := (HK2.out _ (.tail _ (.head _))).cell 2
      have z3 := (HK2.out _ (.tail _ (.head _))).cell 3
      have z4 := (HK2.out _ (.tail _ (.head _))).cell 4
      have z5 := (HK2.out _ (.tail _ (.head _))).cell 5
      have n0 := (HK2.out _ (.head _)).cell 0
      have n1 := (HK2.out _ (.head _)).cell 1
      have p0 := (HK2.out _ (.tail _ (.tail _ (.head _)))).cell 0
      have p3 := (HK2.out _ (.tail _ (.tail _ (.head _)))).cell 3
      simp at q0 z1 z2 z3 z4 z5 n0 n1 p0 p3
      by_cases hk : fh = id
      · subst hk
        have hf : bl = false := by rw [← HR.out]; simp
        subst hf
        have b1 : (fh == fh) = true := by simp
        clear HR
        go_wp2
        go_ret
        exact ⟨rfl, HE2.out⟩
      · have hf : bl = false := by rw [← HR.out]; simp [hk]
        subst hf
        have b1 : (fh == id) = false := beq_eq_false_iff_ne.2 hk
        clear HR
        go_wp2
        go_ret
        exact ⟨rfl, HE2.out⟩
    cases nd
    · skip
      go_wp2_with fail
      refine (F1.out _).mono ?_
      rintro e y1 ⟨rfl, hb⟩
      have HE1 := Lib.hid (below_then HEN.out hb); have HK1 := Lib.hid (HKN.out.on hb)
      clear hb HEN HKN q0 z1 z2 z3 z4 z5 n0 n1 p0 p3
      have q0 := (HK1.out _ (.tail _ (.head _))).cell 0
      have z1 := (HK1.out _ (.tail _ (.head _))).cell 1
      have z2 := (HK1.out _ (.tail _ (.head _))).cell 2
      have z3 := (HK1.out _ (.tail _ (.head _))).cell 3
      have z4 := (HK1.out _ (.tail _ (.head _))).cell 4
      have z5 := (HK1.out _ (.tail _ (.head _))).cell 5
      have n0 := (HK1.out _ (.head _)).cell 0
      have n1 := (HK1.out _ (.head _)).cell 1
      have p0 := (HK1.out _ (.tail _ (.tail _ (.head _)))).cell 0
      have p3 := (HK1.out _ (.tail _ (.tail _ (.head _)))).cell 3
      simp at q0 z1 z2 z3 z4 z5 n0 n1 p0 p3
      go_wp2_with fail
      refine (F2.out _).mono ?_
      rintro e y2 ⟨rfl, hb⟩
      have HE2 := Lib.hid (below_then HE1.out hb); have HK2 := Lib.hid (HK1.out.on hb)
      clear hb HE1 HK1 q0 z1 z2 z3 z4 z5 n0 n1 p0 p3
      have q0 := (HK2.out _ (.tail _ (.head _))).cell 0
      have z1 := (HK2.out _ (.tail _ (.head _))).cell 1
      have z2 := (HK2.out _ (.tail _ (.head _))).cell 2
      have z3 := (HK2.out _ (.tail _ (.head _))).cell 3
      have z4 := (HK2.out _ (.tail _ (.head _))).cell 4
      have z5 := (HK2.out _ (.tail _ (.head _))).cell 5
      have n0 := (HK2.out _ (.head _)).cell 0
      have n1 := (HK2.out _ (.head _)).cell 1
      have p0 := (HK2.out _ (.tail _ (.tail _ (.head _)))).cell 0
      have p3 := (HK2.out _ (.tail _ (.tail _ (.head _)))).cell 3
      simp at q0 z1 z2 z3 z4 z5 n0 n1 p0 p3
      by_cases hk : fh = id
      · subst hk
        have hf : bl = false := by rw [← HR.out]; simp
        subst hf
        have b1 : (fh == fh) = true := by simp
        clear HR
        go_wp2
        go_ret
        exact ⟨rfl, HE2.out⟩
      · have hf : bl = false := by rw [← HR.out]; simp [hk]
        subst hf
        have b1 : (fh == id) = false := beq_eq_false_iff_ne.2 hk
        clear HR
        go_wp2
        go_ret
        exact ⟨rfl, HE2.out⟩
    · skip
      go_wp2_with fail
      refine (F1.out _).mono ?_
      rintro e y1 ⟨rfl, hb⟩
      have HE1 := Lib.hid (below_then HEN.out hb); have HK1 := Lib.hid (HKN.out.on hb)
      clear hb HEN HKN q0 z1 z2 z3 z4 z5 n0 n1 p0 p3
      have q0 := (HK1.out _ (.tail _ (.head _))).cell 0
      have z1 := (HK1.out _ (.tail _ (.head _))).cell 1
      have z2 := (HK1.out _ (.tail _ (.head _))).cell 2
      have z3 := (HK1.out _ (.tail _ (.head _))).cell 3
      have z4 := (HK1.out _ (.tail _ (.head _))).cell 4
      have z5 := (HK1.out _ (.tail _ (.head _))).cell 5
      have n0 := (HK1.out _ (.head _)).cell 0
      have n1 := (HK1.out _ (.head _)).cell 1
      have p0 := (HK1.out _ (.tail _ (.tail _ (.head _)))).cell 0
      have p3 := (HK1.out _ (.tail _ (.tail _ (.head _)))).cell 3
      simp at q0 z1 z2 z3 z4 z5 n0 n1 p0 p3
      go_wp2_with fail
      refine (F2.out _).mono ?_
      rintro e y2 ⟨rfl, hb⟩
      have HE2 := Lib.hid (below_then HE1.out hb); have HK2 := Lib.hid (HK1.out.on hb)
      clear hb HE1 HK1 q0 z1 z2 z3 z4 z5 n0 n1 p0 p3
      have q0 := (HK2.out _ (.tail _ (.head _))).cell 0
      have z1 := (HK2.out _ (.tail _ (.head _))).cell 1
      have z2 := (HK2.out _ (.tail _ (.head _))).cell 2
      have z3 := (HK2.out _ (.tail _ (.head _))).cell 3
      have z4 := (HK2.out _ (.tail _ (.head _))).cell 4
      have z5 := (HK2.out _ (.tail _ (.head _))).cell 5
      have n0 := (HK2.out _ (.head _)).cell 0
      have n1 := (HK2.out _ (.head _)).cell 1
      have p0 := (HK2.out _ (.tail _ (.tail _ (.head _)))).cell 0
      have p3 := (HK2.out _ (.tail _ (.tail _ (.head _)))).cell 3
      simp at q0 z1 z2 z3 z4 z5 n0 n1 p0 p3
      by_cases hk : fh = id
      · subst hk
        have hf : bl = true := by rw [← HR.out]; simp
        subst hf
        have b1 : (fh == fh) = true := by simp
        clear HR
        go_wp2
        go_ret
        exact ⟨rfl, HE2.out⟩
      · have hf : bl = false := by rw [← HR.out]; simp [hk]
        subst hf
        have b1 : (fh == id) = false := beq_eq_false_iff_ne.2 hk
        clear HR
        go_wp2
        go_ret
        exact ⟨rfl, HE2.out⟩
  · have F1 := Lib.hid (fun W => C4.out W true g1)
    have F2 := Lib.hid (fun W => C5.out W false g2)
    have HR0 : Hid ((decide (fh = id) && (ne && bd)) = bl) := Lib.hid (by rw [← HR.out]; unfold stateS; rw [g1, g2]; simp [g0])
    clear HR
    have HR := HR0
    clear HR0
    have b0 : (st == 0) = false := beq_eq_false_iff_ne.2 g0
    clear g0 g1 g2
    have e1 := HNE.out
    clear HNE HND
    go_wp2_with fail
    refine (F1.out _).mono ?_
    rintro e y1 ⟨rfl, hb⟩
    have HE1 := Lib.hid (below_then HEN.out hb); have HK1 := Lib.hid (HKN.out.on hb)
    clear hb HEN HKN q0 z1 z2 z3 z4 z5 n0 n1 p0 p3
    have q0 := (HK1.out _ (.tail _ (.head _))).cell 0
    have z1 := (HK1.out _ (.tail _ (.head _))).cell 1
    have z2 := (HK1.out _ (.tail _ (.head _))).cell 2
    have z3 := (HK1.out _ (.tail _ (.head _))).cell 3
    have z4 := (HK1.out _ (.tail _ (.head _))).cell 4
    have z5 := (HK1.out _ (.tail _ (.head _))).cell 5
    have n0 := (HK1.out _ (.head _)).cell 0
    have n1 := (HK1.out _ (.head _)).cell 1
    have p0 := (HK1.out _ (.tail _ (.tail _ (.head _)))).cell 0
    have p3 := (HK1.out _ (.tail _ (.tail _ (.head _)))).cell 3
    simp at q0 z1 z2 z3 z4 z5 n0 n1 p0 p3
    cases ne
    · skip
      go_wp2_with fail
      refine (F2.out _).mono ?_
      rintro e y2 ⟨rfl, hb⟩
      have HE2 := Lib.hid (below_then HE1.out hb); have HK2 := Lib.hid (HK1.out.on hb)
      clear hb HE1 HK1 q0 z1 z2 z3 z4 z5 n0 n1 p0 p3
      have q0 := (HK2.out _ (.tail _ (.head _))).cell 0
      have z1 := (HK2.out _ (.tail _ (.head _))).cell 1
      have z2 := (HK2.out _ (.tail _ (.head _))).cell 2
      have z3 := (HK2.out _ (.tail _ (.head _))).cell 3
      have z4 := (HK2.out _ (.tail _ (.head _))).cell 4
      have z5 := (HK2.out _ (.tail _ (.head _))).cell 5
      have n0 := (HK2.out _ (.head _)).cell 0
      have n1 := (HK2.out _ (.head _)).cell 1
      have p0 := (HK2.out _ (.tail _ (.tail _ (.head _)))).cell 0
      have p3 := (HK2.out _ (.tail _ (.tail _ (.head _)))).cell 3
      simp at q0 z1 z2 z3 z4 z5 n0 n1 p0 p3
      by_cases hk : fh = id
      · subst hk
        have hf : bl = false := by rw [← HR.out]; simp
        subst hf
        have b1 : (fh == fh) = true := by simp
        clear HR
        go_wp2
        go_ret
        exact ⟨rfl, HE2.out⟩
      · have hf : bl = false := by rw [← HR.out]; simp [hk]
        subst hf
        have b1 : (fh == id) = false := beq_eq_false_iff_ne.2 hk
        clear HR
        go_wp2
        go_ret
        exact ⟨rfl, HE2.out⟩
    go_wp2_with fail
    refine (C1.out _).mono ?_
    rintro e y2 ⟨rfl, hb⟩
    have HE2 := Lib.hid (below_then HE1.out hb); have HK2 := Lib.hid (HK1.out.on hb)
    clear hb HE1 HK1 q0 z1 z2 z3 z4 z5 n0 n1 p0 p3
    have q0 := (HK2.out _ (.tail _ (.head _))).cell 0
    have z1 := (HK2.out _ (.tail _ (.head _))).cell 1
    have z2 := (HK2.out _ (.tail _ (.head _))).cell 2
    have z3 := (HK2.out _ (.tail _ (.head _))).cell 3
    have z4 := (HK2.out _ (.tail _ (.head _))).cell 4
    have z5 := (HK2.out _ (.tail _ (.head _))).cell 5
    have n0 := (HK2.out _ (.head _)).cell 0
    have n1 := (HK2.out _ (.head _)).cell 1
    have p0 := (HK2.out _ (.tail _ (.tail _ (.head _)))).cell 0
    have p3 := (HK2.out _ (.tail _ (.tail _ (.head _)))).cell 3
    simp at q0 z1 z2 z3 z4 z5 n0 n1 p0 p3
    cases bd
    · skip
      go_wp2_with fail
      refine (F2.out _).mono ?_
      rintro e y3 ⟨rfl, hb⟩
      have HE3 := Lib.hid (below_then HE2.out hb); have HK3 := Lib.hid (HK2.out.on hb)
      clear hb HE2 HK2 q0 z1 z2 z3 z4 z5 n0 n1 p0 p3
      have q0 := (HK3.out _ (.tail _ (.head _))).cell 0
      have z1 := (HK3.out _ (.tail _ (.head _))).cell 1
      have z2 := (HK3.out _ (.tail _ (.head _))).cell 2
      have z3 := (HK3.out _ (.tail _ (.head _))).cell 3
      have z4 := (HK3.out _ (.tail _ (.head _))).cell 4
      have z5 := (HK3.out _ (.tail _ (.head _))).cell 5
      have n0 := (HK3.out _ (.head _)).cell 0
      have n1 := (HK3.out _ (.head _)).cell 1
      have p0 := (HK3.out _ (.tail _ (.tail _ (.head _)))).cell 0
      have p3 := (HK3.out _ (.tail _ (.tail _ (.head _)))).cell 3
      simp at q0 z1 z2 z3 z4 z5 n0 n1 p0 p3
      by_cases hk : fh = id
      · subst hk
        have hf : bl = false := by rw [← HR.out]; simp
        subst hf
        have b1 : (fh == fh) = true := by simp
        clear HR
        go_wp2
        go_ret
        exact ⟨rfl, HE3.out⟩
      · have hf : bl = false := by rw [← HR.out]; simp [hk]
        subst hf
        have b1 : (fh == id) = false := beq_eq_false_iff_ne.2 hk
        clear HR
        go_wp2
        go_ret
        exact ⟨rfl, HE3.out⟩
    · skip
      go_wp2_with fail
      refine (F2.out _).mono ?_
      rintro e y3 ⟨rfl, hb⟩
      have HE3 := Lib.hid (below_then HE2.out hb); have HK3 := Lib.hid (HK2.out.on hb)
      clear hb HE2 HK2 q0 z1 z2 z3 z4 z5 n0 n1 p0 p3
      have q0 := (HK3.out _ (.tail _ (.head _))).cell 0
      have z1 := (HK3.out _ (.tail _ (.head _))).cell 1
      have z2 := (HK3.out _ (.tail _ (.head _))).cell 2
      have z3 := (HK3.out _ (.tail _ (.head _))).cell 3
      have z4 := (HK3.out _ (.tail _ (.head _))).cell 4
      have z5 := (HK3.out _ (.tail _ (.head _))).cell 5
      have n0 := (HK3.out _ (.head _)).cell 0
      have n1 := (HK3.out _ (.head _)).cell 1
      have p0 := (HK3.out _ (.tail _ (.tail _ (.head _)))).cell 0
      have p3 := (HK3.out _ (.tail _ (.tail _ (.head _)))).cell 3
      simp at q0 z1 z2 z3 z4 z5 n0 n1 p0 p3
      by_cases hk : fh = id
      · subst hk
        have hf : bl = true := by rw [← HR.out]; simp
        subst hf
        have b1 : (fh == fh) = true := by simp
        clear HR
        go_wp2
        go_ret
        exact ⟨rfl, HE3.out⟩
      · have hf : bl = false := by rw [← HR.out]; simp [hk]
        subst hf
        have b1 : (fh == id) = false := beq_eq_false_iff_ne.2 hk
        clear HR
        go_wp2
        go_ret
        exact ⟨rfl, HE3.out⟩
  · have F1 := Lib.hid (fun W => C4.out W false g1)
    have F2 := Lib.hid (fun W => C5.out W true g2)
    have HR0 : Hid ((decide (fh = id) && (bi && bd)) = bl) := Lib.hid (by rw [← HR.out]; unfold stateS; rw [g1, g2]; simp [g0])
    clear HR
    have HR := HR0
    clear HR0
    have b0 : (st == 0) = false := beq_eq_false_iff_ne.2 g0
    clear g0 g1 g2
    clear HNE HND
    go_wp2_with fail
    refine (F1.out _).mono ?_
    rintro e y1 ⟨rfl, hb⟩
    have HE1 := Lib.hid (below_then HEN.out hb); have HK1 := Lib.hid (HKN.out.on hb)
    clear hb HEN HKN q0 z1 z2 z3 z4 z5 n0 n1 p0 p3
    have q0 := (HK1.out _ (.tail _ (.head _))).cell 0
    have z1 := (HK1.out _ (.tail _ (.head _))).cell 1
    have z2 := (HK1.out _ (.tail _ (.head _))).cell 2
    have z3 := (HK1.out _ (.tail _ (.head _))).cell 3
    have z4 := (HK1.out _ (.tail _ (.head _))).cell 4
    have z5 := (HK1.out _ (.tail _ (.head _))).cell 5
    have n0 := (HK1.out _ (.head _)).cell 0
    have n1 := (HK1.out _ (.head _)).cell 1
    have p0 := (HK1.out _ (.tail _ (.tail _ (.head _)))).cell 0
    have p3 := (HK1.out _ (.tail _ (.tail _ (.head _)))).cell 3
    simp at q0 z1 z2 z3 z4 z5 n0 n1 p0 p3
    go_wp2_with fail
    refine (F2.out _).mono ?_
    rintro e y2 ⟨rfl, hb⟩
    have HE2 := Lib.hid (below_then HE1.out hb); have HK2 := Lib.hid (HK1.out.on hb)
    clear hb HE1 HK1 q0 z1 z2 z3 z4 z5 n0 n1 p0 p3
    have q0 := (HK2.out _ (.tail _ (.head _))).cell 0
    have z1 := (HK2.out _ (.tail _ (.head _))).cell 1
    have z2 := (HK2.out _ (.tail _ (.head _))).cell 2
    have z3 := (HK2.out _ (.tail _ (.head _))).cell 3
    have z4 := (HK2.out _ (.tail _ (.head _))).cell 4
    have z5 := (HK2.out _ (.tail _ (.head _))).cell 5
    have n0 := (HK2.out _ (.head _)).cell 0
    have n1 := (HK2.out _ (.head _)).cell 1
    have p0 := (HK2.out _ (.tail _ (.tail _ (.head _)))).cell 0
    have p3 := (HK2.out _ (.tail _ (.tail _ (.head _)))).cell 3
    simp at q0 z1 z2 z3 z4 z5 n0 n1 p0 p3
    go_wp2_with fail
    refine (C2.out (by trivial) _ HE2.out).mono ?_
    rintro e y3 ⟨rfl, hb⟩
    have HE3 := Lib.hid (below_then HE2.out hb); have HK3 := Lib.hid (HK2.out.on hb)
    clear hb HE2 HK2 q0 z1 z2 z3 z4 z5 n0 n1 p0 p3
    have q0 := (HK3.out _ (.tail _ (.head _))).cell 0
    have z1 := (HK3.out _ (.tail _ (.head _))).cell 1
    have z2 := (HK3.out _ (.tail _ (.head _))).cell 2
    have z3 := (HK3.out _ (.tail _ (.head _))).cell 3
    have z4 := (HK3.out _ (.tail _ (.head _))).cell 4
    have z5 := (HK3.out _ (.tail _ (.head _))).cell 5
    have n0 := (HK3.out _ (.head _)).cell 0
    have n1 := (HK3.out _ (.head _)).cell 1
    have p0 := (HK3.out _ (.tail _ (.tail _ (.head _)))).cell 0
    have p3 := (HK3.out _ (.tail _ (.tail _ (.head _)))).cell 3
    simp at q0 z1 z2 z3 z4 z5 n0 n1 p0 p3
    cases bi
    · skip
      by_cases hk : fh = id
      · subst hk
        have hf : bl = false := by rw [← HR.out]; simp
        subst hf
        have b1 : (fh == fh) = true := by simp
        clear HR
        go_wp2
        go_ret
        exact ⟨rfl, HE3.out⟩
      · have hf : bl = false := by rw [← HR.out]; simp [hk]
        subst hf
        have b1 : (fh == id) = false := beq_eq_false_iff_ne.2 hk
        clear HR
        go_wp2
        go_ret
        exact ⟨rfl, HE3.out⟩
    go_wp2_with fail
    refine (C1.out _).mono ?_
    rintro e y4 ⟨rfl, hb⟩
    have HE4 := Lib.hid (below_then HE3.out hb); have HK4 := Lib.hid (HK3.out.on hb)
    clear hb HE3 HK3 q0 z1 z2 z3 z4 z5 n0 n1 p0 p3
    have q0 := (HK4.out _ (.tail _ (.head _))).cell 0
    have z1 := (HK4.out _ (.tail _ (.head _))).cell 1
    have z2 := (HK4.out _ (.tail _ (.head _))).cell 2
    have z3 := (HK4.out _ (.tail _ (.head _))).cell 3
    have z4 := (HK4.out _ (.tail _ (.head _))).cell 4
    have z5 := (HK4.out _ (.tail _ (.head _))).cell 5
    have n0 := (HK4.out _ (.head _)).cell 0
    have n1 := (HK4.out _ (.head _)).cell 1
    have p0 := (HK4.out _ (.tail _ (.tail _ (.head _)))).cell 0
    have p3 := (HK4.out _ (.tail _ (.tail _ (.head _)))).cell 3
    simp at q0 z1 z2 z3 z4 z5 n0 n1 p0 p3
    cases bd
    · skip
      by_cases hk : fh = id
      · subst hk
        have hf : bl = false := by rw [← HR.out]; simp
        subst hf
        have b1 : (fh == fh) = true := by simp
        clear HR
        go_wp2
        go_ret
        exact ⟨rfl, HE4.out⟩
      · have hf : bl = false := by rw [← HR.out]; simp [hk]
        subst hf
        have b1 : (fh == id) = false := beq_eq_false_iff_ne.2 hk
        clear HR
        go_wp2
        go_ret
        exact ⟨rfl, HE4.out⟩
    · skip
      by_cases hk : fh = id
      · subst hk
        have hf : bl = true := by rw [← HR.out]; simp
        subst hf
        have b1 : (fh == fh) = true := by simp
        clear HR
        go_wp2
        go_ret
        exact ⟨rfl, HE4.out⟩
      · have hf : bl = false := by rw [← HR.out]; simp [hk]
        subst hf
        have b1 : (fh == id) = false := beq_eq_false_iff_ne.2 hk
        clear HR
        go_wp2
        go_ret
        exact ⟨rfl, HE4.out⟩
  · have F1 := Lib.hid (fun W => C4.out W false g1)
    have F2 := Lib.hid (fun W => C5.out W false g2)
    have HR0 : Hid ((decide (fh = id) && (false)) = bl) := Lib.hid (by rw [← HR.out]; unfold stateS; rw [g1, g2]; simp [g0])
    clear HR
    have HR := HR0
    clear HR0
    have b0 : (st == 0) = false := beq_eq_false_iff_ne.2 g0
    clear g0 g1 g2
    clear HNE HND
    go_wp2_with fail
    refine (F1.out _).mono ?_
    rintro e y1 ⟨rfl, hb⟩
    have HE1 := Lib.hid (below_then HEN.out hb); have HK1 := Lib.hid (HKN.out.on hb)
    clear hb HEN HKN q0 z1 z2 z3 z4 z5 n0 n1 p0 p3
    have q0 := (HK1.out _ (.tail _ (.head _))).cell 0
    have z1 := (HK1.out _ (.tail _ (.head _))).cell 1
    have z2 := (HK1.out _ (.tail _ (.head _))).cell 2
    have z3 := (HK1.out _ (.tail _ (.head _))).cell 3
    have z4 := (HK1.out _ (.tail _ (.head _))).cell 4
    have z5 := (HK1.out _ (.tail _ (.head _))).cell 5
    have n0 := (HK1.out _ (.head _)).cell 0
    have n1 := (HK1.out _ (.head _)).cell 1
    have p0 := (HK1.out _ (.tail _ (.tail _ (.head _)))).cell 0
    have p3 := (HK1.out _ (.tail _ (.tail _ (.head _)))).cell 3
    simp at q0 z1 z2 z3 z4 z5 n0 n1 p0 p3
    go_wp2_with fail
    refine (F2.out _).mono ?_
    rintro e y2 ⟨rfl, hb⟩
    have HE2 := Lib.hid (below_then HE1.out hb); have HK2 := Lib.hid (HK1.out.on hb)
    clear hb HE1 HK1 q0 z1 z2 z3 z4 z5 n0 n1 p0 p3
    have q0 := (HK2.out _ (.tail _ (.head _))).cell 0
    have z1 := (HK2.out _ (.tail _ (.head _))).cell 1
    have z2 := (HK2.out _ (.tail _ (.head _))).cell 2
    have z3 := (HK2.out _ (.tail _ (.head _))).cell 3
    have z4 := (HK2.out _ (.tail _ (.head _))).cell 4
    have z5 := (HK2.out _ (.tail _ (.head _))).cell 5
    have n0 := (HK2.out _ (.head _)).cell 0
    have n1 := (HK2.out _ (.head _)).cell 1
    have p0 := (HK2.out _ (.tail _ (.tail _ (.head _)))).cell 0
    have p3 := (HK2.out _ (.tail _ (.tail _ (.head _)))).cell 3
    simp at q0 z1 z2 z3 z4 z5 n0 n1 p0 p3
    by_cases hk : fh = id
    · subst hk
      have hf : bl = false := by rw [← HR.out]; simp
      subst hf
      have b1 : (fh == fh) = true := by simp
      clear HR
      go_wp2
      go_ret
      exact ⟨rfl, HE2.out⟩
    · have hf : bl = false := by rw [← HR.out]; simp [hk]
      subst hf
      have b1 : (fh == id) = false := beq_eq_false_iff_ne.2 hk
      clear HR
      go_wp2
      go_ret
      exact ⟨rfl, HE2.out⟩
end

end Go.Proofs.YtmdilbmgopggaaaGreat
