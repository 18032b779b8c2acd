/- The contract of CheckFill (hold). Its condition: the hold's tables lie in memory. -/
import Derived.Deep.WholeRow
import Derived.Test.YtemlaaipnhmcoaaGreatR27
import Derived.Test.YtemlaaipnhmcoaaGreatQ98
set_option linter.unusedVariables false
set_option linter.unusedSimpArgs false
set_option linter.constructorNameAsVariable false
namespace Go.Proofs.YtemlaaipnhmcoaaGreat

section
open Go.RowKit

def validF (st : Int) : Nat := if st = 0 then 187 else if st ≤ 2 then 190 else 194
def stB (st : Int) (ne nd bi bd : Bool) : Bool := if st = 0 then (ne && nd) else if st ≤ 2 then (ne && bd) else (bi && bd)
theorem stB_of {st : Int} (h0 : 0 ≤ st) (h5 : st ≤ 5) (ne nd bi bd : Bool) : stateS st ne nd bi bd = stB st ne nd bi bd := by
  rcases st_cases h0 h5 with rfl | rfl | rfl | rfl | rfl | rfl <;> simp [stateS, stB]
theorem valid_to (ps : List P3) (id al ah t0 t1 u0 u1 v0 v1 h0 h1 : Int) (A B C : Option Addr) (n c mm d l ee : Nat) (st x0 x1 d0 d1 : Int) (ne nd bi bd : Bool) (w : World) (q0 : 0 ≤ st) (q5 : st ≤ 5) (hp : TabIn w A n ps) (ht : tabOk ps = true) (g1 : (x0 == 0 && x1 == 0) = ne) (g2 : (d0 == 0 && d1 == 0) = nd) (g3 : inB x0 x1 (firstX ps) (lastX ps) = bi) (g4 : densS d0 d1 = bd) :
    Calls Tryz.prog (validF st) #[.agg #[.int .i64 id, .int .i64 al, .int .i64 ah, .slice A n c, .slice B mm d, .slice C l ee, .int .i64 t0, .int .i64 t1, .int .i64 u0, .int .i64 u1, .int .i64 v0, .int .i64 v1, .int .i64 h0, .int .i64 h1], .agg #[.int .i64 id, .int .i64 st, .int .i64 x0, .int .i64 x1, .int .i64 d0, .int .i64 d1]] w fun e w' => e = .returned (.bool (stB st ne nd bi bd)) ∧ Below w.heap.size w w' := by
  rcases st_cases q0 q5 with rfl | rfl | rfl | rfl | rfl | rfl
  · exact emptyVal_to id al ah t0 t1 u0 u1 v0 v1 h0 h1 A B C n c mm d l ee x0 x1 d0 d1 ne nd w g1 g2
  · exact filledVal_to id al ah t0 t1 u0 u1 v0 v1 h0 h1 A B C n c mm d l ee 1 x0 x1 d0 d1 ne bd w g1 g4
  · exact filledVal_to id al ah t0 t1 u0 u1 v0 v1 h0 h1 A B C n c mm d l ee 2 x0 x1 d0 d1 ne bd w g1 g4
  · exact partlyVal_to ps id al ah t0 t1 u0 u1 v0 v1 h0 h1 A B C n c mm d l ee 3 x0 x1 d0 d1 bi bd w hp ht g3 g4
  · exact partlyVal_to ps id al ah t0 t1 u0 u1 v0 v1 h0 h1 A B C n c mm d l ee 4 x0 x1 d0 d1 bi bd w hp ht g3 g4
  · exact partlyVal_to ps id al ah t0 t1 u0 u1 v0 v1 h0 h1 A B C n c mm d l ee 5 x0 x1 d0 d1 bi bd w hp ht g3 g4

set_option maxRecDepth 100000 in
set_option maxHeartbeats 16000000 in
theorem checkFill_any (h : HoldD) (m : HoldM) (f : FillD) (w : World) (hi : HoldIn w h m) :
  Calls Tryz.prog 53 #[holdV h m, fillV f] w fun e w' => e = .returned (.int .i64 (fillErr h f)) ∧ Below w.heap.size w w' := by
 have CC : Hid (∀ W, Below w.heap.size w W → Calls Tryz.prog 51 #[holdV h m] W fun e w' => e = .returned (.int .i64 (holdErr h)) ∧ Below W.heap.size W w') := Lib.hid fun W hW => checkHold_any h m W (hi.below hW)
 obtain ⟨bt, hbt⟩ : ∃ b, holdS h = b := ⟨_, rfl⟩
 obtain ⟨R, hR⟩ : ∃ R, fillErr h f = R := ⟨_, rfl⟩
 obtain ⟨bl, hbl⟩ : ∃ b, fillS h f = b := ⟨_, rfl⟩
 rw [holdErr_of hbt] at CC
 have HRR := Lib.hid ((fillErr_of hbt hbl).symm.trans hR)
 rw [hR]
 have HV : Hid (bt = true → tabOk h.vol = true) := Lib.hid fun x => hold_tab (hbt.trans x)
 clear hR hbt
 obtain ⟨id, al, ah, vol, mom, hei, t0, t1, u0, u1, v0, v1, h0, h1⟩ := h
 obtain ⟨A, n, c, B, mm, d, C, l, ee⟩ := m
 obtain ⟨fh, st, x0, x1, d0, d1⟩ := f
 obtain ⟨i1, i2, i3⟩ := hi
 dsimp only at i1 i2 i3 HV
 have HE := Lib.hid (show Below w.heap.size w ((w.alloc (.cells #[.int .i64 id, .int .i64 al, .int .i64 ah, .slice A n c, .slice B mm d, .slice C l ee, .int .i64 t0, .int .i64 t1, .int .i64 u0, .int .i64 u1, .int .i64 v0, .int .i64 v1, .int .i64 h0, .int .i64 h1] 35)).alloc (.cells #[.int .i64 fh, .int .i64 st, .int .i64 x0, .int .i64 x1, .int .i64 d0, .int .i64 d1] 55)) from below_a2 (Below.refl _ _))
 have HK := Lib.hid (boxes2' w 35 55 #[.int .i64 id, .int .i64 al, .int .i64 ah, .slice A n c, .slice B mm d, .slice C l ee, .int .i64 t0, .int .i64 t1, .int .i64 u0, .int .i64 u1, .int .i64 v0, .int .i64 v1, .int .i64 h0, .int .i64 h1] #[.int .i64 fh, .int .i64 st, .int .i64 x0, .int .i64 x1, .int .i64 d0, .int .i64 d1])
 obtain ⟨bd, ebd⟩ : ∃ b, densS d0 d1 = b := ⟨_, rfl⟩
 obtain ⟨bi, ebi⟩ : ∃ b, inB x0 x1 (firstX vol) (lastX vol) = b := ⟨_, rfl⟩
 obtain ⟨ne, ene⟩ : ∃ b, (x0 == 0 && x1 == 0) = b := ⟨_, rfl⟩
 obtain ⟨nd, end'⟩ : ∃ b, (d0 == 0 && d1 == 0) = b := ⟨_, rfl⟩
 have HBL : Hid (bl = (decide (fh = id) && stateS st ne nd bi bd)) := Lib.hid (by rw [← hbl, ← ebd, ← ebi, ← ene, ← end']; rfl)
 have CV : Hid (bt = true → 0 ≤ st → st ≤ 5 → ∀ W, Below w.heap.size w W → Calls Tryz.prog (validF st) #[.agg #[.int .i64 id, .int .i64 al, .int .i64 ah, .slice A n c, .slice B mm d, .slice C l ee, .int .i64 t0, .int .i64 t1, .int .i64 u0, .int .i64 u1, .int .i64 v0, .int .i64 v1, .int .i64 h0, .int .i64 h1], .agg #[.int .i64 id, .int .i64 st, .int .i64 x0, .int .i64 x1, .int .i64 d0, .int .i64 d1]] W fun e w' => e = .returned (.bool (stB st ne nd bi bd)) ∧ Below W.heap.size W w') := Lib.hid fun x q0 q5 W hW =>
  valid_to vol id al ah t0 t1 u0 u1 v0 v1 h0 h1 A B C n c mm d l ee st x0 x1 d0 d1 ne nd bi bd W q0 q5 (i1.below hW) (HV.out x) ene end' ebi ebd
 clear hbl i1 i2 i3 HV ebd ebi ene end'
 go_enter Tryz.func53, Tryz.ntmps53
 go_wp2_with fail
 obtain ⟨W0, hW0⟩ : ∃ W0, ((w.alloc (.cells #[.int .i64 id, .int .i64 al, .int .i64 ah, .slice A n c, .slice B mm d, .slice C l ee, .int .i64 t0, .int .i64 t1, .int .i64 u0, .int .i64 u1, .int .i64 v0, .int .i64 v1, .int .i64 h0, .int .i64 h1] 35)).alloc (.cells #[.int .i64 fh, .int .i64 st, .int .i64 x0, .int .i64 x1, .int .i64 d0, .int .i64 d1] 55)) = W0 := ⟨_, rfl⟩
 rw [hW0] at HE HK ⊢
 clear hW0
 obtain ⟨G, hG⟩ : ∃ G, w.heap.size = G := ⟨_, rfl⟩
 rw [hG] at HK ⊢
 have HG := Lib.hid hG; clear hG
 refine (CC.out _ HE.out).mono ?_
 rintro e w1 ⟨rfl, hb⟩
 have HE1 := Lib.hid (below_then HE.out hb); have HK1 := Lib.hid (HK.out.on hb)
 clear hb HE HK CC
 cases bt
 ·have e : R = 20 := by rw [← HRR.out]; rfl
  subst e
  simp only [Bool.false_eq_true, if_false]
  clear HRR HBL CV
  go_wp2
  go_ret
  exact ⟨rfl, HE1.out⟩
 simp only [if_true]
 have HRQ : Hid ((if bl = true then 0 else 22) = R) := Lib.hid (by rw [← HRR.out]; rfl)
 have CW := Lib.hid (CV.out (by trivial))
 clear HRR CV
 go_wp2_with fail
 refine (meanings_any _).mono ?_
 rintro e w2 ⟨rfl, hb⟩
 have HE2 := Lib.hid (below_then (below_then HE1.out hb) (below_alloc1 w2 (.cells allM 141)))
 have HK2 := Lib.hid ((HK1.out.on hb).new 141 allM)
 clear hb HE1 HK1
 rename_i hK
 refine hK _ _ ?_
 refine wpList_plain rfl (fun K2 hK2 => ?_)
 go_simp
 refine hK2 _ _ ?_
 clear hK2 K2
 refine wpList_store_row rfl 141 (.tmp 5) (.tmp 9) rfl w2.heap.size allM rfl rfl 141 _ (heap_alloc_new w2 _) (by kernel_rfl) rfl (by kernel_rfl) ?_
 rw [World.setRow_alloc_new]
 go_upto_region 4 with fail
 obtain ⟨W2, hW2⟩ : ∃ W2, w2.alloc (.cells allM 141) = W2 := ⟨_, rfl⟩
 rw [hW2] at HE2 HK2 ⊢
 clear hW2
 obtain ⟨N, hN⟩ : ∃ N, w2.heap.size = N := ⟨_, rfl⟩
 rw [hN] at HK2 ⊢
 clear hN
 by_cases g : fh = id
 ·subst g
  have HBM : Hid (bl = stateS st ne nd bi bd) := Lib.hid (by rw [HBL.out]; simp)
  clear HBL
  by_cases q0 : 0 ≤ st
  ·by_cases q5 : st ≤ 5
   ·have HR : Hid ((if stB st ne nd bi bd = true then 0 else 22) = R) := Lib.hid (by rw [← HRQ.out, HBM.out, stB_of q0 q5])
    have CX := Lib.hid (CW.out q0 q5)
    clear HRQ HBM CW
    generalize hbv : stB st ne nd bi bd = bv at *
    clear hbv
    rcases st_cases q0 q5 with rfl | rfl | rfl | rfl | rfl | rfl
    all_goals
     first | rw [show validF 0 = 187 from rfl] at CX | rw [show validF 1 = 190 from rfl] at CX | rw [show validF 2 = 190 from rfl] at CX | rw [show validF 3 = 194 from rfl] at CX | rw [show validF 4 = 194 from rfl] at CX | rw [show validF 5 = 194 from rfl] at CX
     have HKM := HK2
     refine wp_region_held_drew (S := fun w' => Boxes w' _) (by kernel_rfl) HKM.out (fun hHeld => ?_)
     refine tK 10 (i := 0) (v := .pointer (some ⟨G + 1, 0, none⟩)) rfl rfl (by kernel_rfl) ?_ hHeld ?_
     ·intro w hSw; clear hSw; go_simp; try with_reducible rfl
     simp only [uZ, uS]
     refine tK 11 (i := 1) (v := .int .i64 fh) rfl rfl (by kernel_rfl) ?_ hHeld ?_
     ·intro w hSw; have c0 := (hSw _ (.tail _ (.head _))).cell 0; simp at c0; clear hSw; go_simp; try with_reducible rfl
     simp only [uZ, uS]
     refine tK 12 (i := 2) (v := .pointer (some ⟨G, 0, none⟩)) rfl rfl (by kernel_rfl) ?_ hHeld ?_
     ·intro w hSw; clear hSw; go_simp; try with_reducible rfl
     simp only [uZ, uS]
     refine tK 13 (i := 3) (v := .int .i64 fh) rfl rfl (by kernel_rfl) ?_ hHeld ?_
     ·intro w hSw; have c0 := (hSw _ (.tail _ (.tail _ (.head _)))).cell 0; simp at c0; clear hSw; go_simp; try with_reducible rfl
     simp only [uZ, uS]
     refine tK 14 (i := 4) (v := .bool false) rfl rfl (by kernel_rfl) ?_ hHeld ?_
     ·intro w hSw; clear hSw; go_simp; try with_reducible rfl
     simp only [uZ, uS]
     refine tK 15 (i := 5) (v := .bool false) rfl rfl (by kernel_rfl) ?_ hHeld ?_
     ·intro w hSw; clear hSw; go_simp; try with_reducible rfl
     simp only [uZ, uS]
     refine tK 16 (i := 6) (v := .pointer (some ⟨G + 1, 1, none⟩)) rfl rfl (by kernel_rfl) ?_ hHeld ?_
     ·intro w hSw; clear hSw; go_simp; try with_reducible rfl
     simp only [uZ, uS]
     refine wpAnyH_take (i := 7) (v := ?_) rfl (by kernel_rfl) (by kernel_rfl) (by kernel_rfl) (fun _ _ _ h => h) (Or.inl ⟨by kernel_rfl, ?_⟩) hHeld ?_
     rotate_left
     ·intro w hSw; have c1 := (hSw _ (.tail _ (.head _))).cell 1; simp at c1; clear hSw; go_simp; try with_reducible rfl
     change wpAnyH _ _ _ _ _ _ _ (Act.put _ (some 17) _) _
     try simp only [Act.put, uA, uZ, uS]
     refine tK 18 (i := 8) (v := .bool false) rfl rfl (by kernel_rfl) ?_ hHeld ?_
     ·intro w hSw; clear hSw; go_simp; try with_reducible rfl
     simp only [uZ, uS]
     refine tK 19 (i := 9) (v := .bool false) rfl rfl (by kernel_rfl) ?_ hHeld ?_
     ·intro w hSw; clear hSw; go_simp; try with_reducible rfl
     simp only [uZ, uS]
     refine tK 20 (i := 10) (v := .bool false) rfl rfl (by kernel_rfl) ?_ hHeld ?_
     ·intro w hSw; clear hSw; go_simp; try with_reducible rfl
     simp only [uZ, uS]
     refine tK 21 (i := 11) (v := .pointer (some ⟨G + 1, 1, none⟩)) rfl rfl (by kernel_rfl) ?_ hHeld ?_
     ·intro w hSw; clear hSw; go_simp; try with_reducible rfl
     simp only [uZ, uS]
     refine wpAnyH_take (i := 12) (v := ?_) rfl (by kernel_rfl) (by kernel_rfl) (by kernel_rfl) (fun _ _ _ h => h) (Or.inl ⟨by kernel_rfl, ?_⟩) hHeld ?_
     rotate_left
     ·intro w hSw; have c1 := (hSw _ (.tail _ (.head _))).cell 1; simp at c1; clear hSw; go_simp; try with_reducible rfl
     change wpAnyH _ _ _ _ _ _ _ (Act.put _ (some 22) _) _
     try simp only [Act.put, uA, uZ, uS]
     refine tK 23 (i := 13) (v := .bool false) rfl rfl (by kernel_rfl) ?_ hHeld ?_
     ·intro w hSw; clear hSw; go_simp; try with_reducible rfl
     simp only [uZ, uS]
     refine tK 24 (i := 14) (v := .bool false) rfl rfl (by kernel_rfl) ?_ hHeld ?_
     ·intro w hSw; clear hSw; go_simp; try with_reducible rfl
     simp only [uZ, uS]
     refine tK 25 (i := 15) (v := .bool false) rfl rfl (by kernel_rfl) ?_ hHeld ?_
     ·intro w hSw; clear hSw; go_simp; try with_reducible rfl
     simp only [uZ, uS]
     refine tK 26 (i := 16) (v := .pointer (some ⟨G + 1, 1, none⟩)) rfl rfl (by kernel_rfl) ?_ hHeld ?_
     ·intro w hSw; clear hSw; go_simp; try with_reducible rfl
     simp only [uZ, uS]
     refine wpAnyH_take (i := 17) (v := ?_) rfl (by kernel_rfl) (by kernel_rfl) (by kernel_rfl) (fun _ _ _ h => h) (Or.inl ⟨by kernel_rfl, ?_⟩) hHeld ?_
     rotate_left
     ·intro w hSw; have c1 := (hSw _ (.tail _ (.head _))).cell 1; simp at c1; clear hSw; go_simp; try with_reducible rfl
     change wpAnyH _ _ _ _ _ _ _ (Act.put _ (some 27) _) _
     try simp only [Act.put, uA, uZ, uS]
     refine wpAnyH_take (i := 18) (v := ?_) rfl (by kernel_rfl) (by kernel_rfl) (by kernel_rfl) (fun _ _ _ h => h) (Or.inl ⟨by kernel_rfl, ?_⟩) hHeld ?_
     rotate_left
     ·intro w hSw; clear hSw; go_simp; try with_reducible rfl
     change wpAnyH _ _ _ _ _ _ _ (Act.put _ (some 28) _) _
     try simp only [Act.put, uA, uZ, uS]
     refine wpAnyH_take (i := 19) (v := ?_) rfl (by kernel_rfl) (by kernel_rfl) (by kernel_rfl) (fun _ _ _ h => h) (Or.inl ⟨by kernel_rfl, ?_⟩) hHeld ?_
     rotate_left
     ·intro w hSw; clear hSw; go_simp; try with_reducible rfl
     change wpAnyH _ _ _ _ _ _ _ (Act.put _ (some 29) _) _
     try simp only [Act.put, uA, uZ, uS]
     refine wpAnyH_take (i := 20) (v := ?_) rfl (by kernel_rfl) (by kernel_rfl) (by kernel_rfl) (fun _ _ _ h => h) (Or.inl ⟨by kernel_rfl, ?_⟩) hHeld ?_
     rotate_left
     ·intro w hSw; have hz := (hSw _ (.head _)); have c0 := hz.cell 0; have c8 := hz.cell 8; have c16 := hz.cell 16; have c24 := hz.cell 24; have c32 := hz.cell 32; have c40 := hz.cell 40; simp at c0 c8 c16 c24 c32 c40; clear hz hSw; go_simp; try with_reducible rfl
     change wpAnyH _ _ _ _ _ _ _ (Act.put _ (some 30) _) _
     try simp only [Act.put, uA, uZ, uS]
     refine wpAnyH_take (i := 21) (v := ?_) rfl (by kernel_rfl) (by kernel_rfl) (by kernel_rfl) (fun _ _ _ h => h) (Or.inl ⟨by kernel_rfl, ?_⟩) hHeld ?_
     rotate_left
     ·intro w hSw; have hz := (hSw _ (.tail _ (.tail _ (.head _)))); have c0 := hz.cell 0; have c1 := hz.cell 1; have c2 := hz.cell 2; have c3 := hz.cell 3; have c4 := hz.cell 4; have c5 := hz.cell 5; have c6 := hz.cell 6; have c7 := hz.cell 7; have c8 := hz.cell 8; have c9 := hz.cell 9; have c10 := hz.cell 10; have c11 := hz.cell 11; have c12 := hz.cell 12; have c13 := hz.cell 13; simp at c0 c1 c2 c3 c4 c5 c6 c7 c8 c9 c10 c11 c12 c13; clear hz hSw; go_simp; try with_reducible rfl
     change wpAnyH _ _ _ _ _ _ _ (Act.put _ (some 31) _) _
     try simp only [Act.put, uA, uZ, uS]
     refine wpAnyH_take (i := 22) (v := ?_) rfl (by kernel_rfl) (by kernel_rfl) (by kernel_rfl) (fun _ _ _ h => h) (Or.inl ⟨by kernel_rfl, ?_⟩) hHeld ?_
     rotate_left
     ·intro w hSw; have hz := (hSw _ (.tail _ (.head _))); have c0 := hz.cell 0; have c1 := hz.cell 1; have c2 := hz.cell 2; have c3 := hz.cell 3; have c4 := hz.cell 4; have c5 := hz.cell 5; simp at c0 c1 c2 c3 c4 c5; clear hz hSw; go_simp; try with_reducible rfl
     change wpAnyH _ _ _ _ _ _ _ (Act.put _ (some 32) _) _
     try simp only [Act.put, uA, uZ, uS]
     refine wpAnyH_ready (rs := [23]) (by kernel_rfl) (by simp) ?_
     refine AllReadyH.cons rfl (fun K hK => ?_) AllReadyH.nil
     go_simp
     (with_reducible refine (CX.out _ (below_then HE2.out (below_drew1 _))).mono ?_)
     rintro e v1 ⟨rfl, hb⟩
     have HE3 := Lib.hid (below_then (below_then HE2.out (below_drew1 _)) hb)
     have hS3 := hHeld.on hb
     clear hb
     refine hK.out _ _ (hS3) (fun hHeld2 => ?_)
     try simp only [Act.put, uA, uZ, uS]
     clear hK K hHeld
     have hHeld := hHeld2
     clear hHeld2
     clear hS3
     cases bv
     ·have e : R = 22 := by rw [← HR.out]; rfl
      subst e
      clear HR
      refine tK 34 (i := 24) (v := .bool true) rfl rfl (by kernel_rfl) ?_ hHeld ?_
      ·intro w hSw; clear hSw; go_simp; try with_reducible rfl
      simp only [uZ, uS]
      refine tK 35 (i := 25) (v := .bool true) rfl rfl (by kernel_rfl) ?_ hHeld ?_
      ·intro w hSw; clear hSw; go_simp; try with_reducible rfl
      simp only [uZ, uS]
      refine wpAnyH_done (by kernel_rfl) ?_ _
      clear hHeld HKM HK2 HE2
      go_wp2
      go_ret
      exact ⟨rfl, HE3.out⟩
     ·have e : R = 0 := by rw [← HR.out]; rfl
      subst e
      clear HR
      refine tK 34 (i := 24) (v := .bool false) rfl rfl (by kernel_rfl) ?_ hHeld ?_
      ·intro w hSw; clear hSw; go_simp; try with_reducible rfl
      simp only [uZ, uS]
      refine tK 35 (i := 25) (v := .bool false) rfl rfl (by kernel_rfl) ?_ hHeld ?_
      ·intro w hSw; clear hSw; go_simp; try with_reducible rfl
      simp only [uZ, uS]
      refine wpAnyH_done (by kernel_rfl) ?_ _
      clear hHeld HKM HK2 HE2
      go_wp2
      go_ret
      exact ⟨rfl, HE3.out⟩
   ·have e : R = 22 := by rw [← HRQ.out, HBM.out]; simp [stateS]; omega
    subst e
    have k0 : decide (st < 0) = false := decide_eq_false (by omega)
    have k1 : decide (6 ≤ st) = true := decide_eq_true (by omega)
    clear HRQ HBM CW
    have HKM : Hid (Boxes W2.drew [(N, 141, allM), (G + 1, 55, #[.int .i64 fh, .int .i64 st, .int .i64 x0, .int .i64 x1, .int .i64 d0, .int .i64 d1]), (G, 35, #[.int .i64 fh, .int .i64 al, .int .i64 ah, .slice A n c, .slice B mm d, .slice C l ee, .int .i64 t0, .int .i64 t1, .int .i64 u0, .int .i64 u1, .int .i64 v0, .int .i64 v1, .int .i64 h0, .int .i64 h1])]) := Lib.hid HK2.out
    refine wp_region_held_drew (S := fun w' => Boxes w' [(N, 141, allM), (G + 1, 55, #[.int .i64 fh, .int .i64 st, .int .i64 x0, .int .i64 x1, .int .i64 d0, .int .i64 d1]), (G, 35, #[.int .i64 fh, .int .i64 al, .int .i64 ah, .slice A n c, .slice B mm d, .slice C l ee, .int .i64 t0, .int .i64 t1, .int .i64 u0, .int .i64 u1, .int .i64 v0, .int .i64 v1, .int .i64 h0, .int .i64 h1])]) (by kernel_rfl) HKM.out (fun hHeld => ?_)
    refine tK 10 (i := 0) (v := .pointer (some ⟨G + 1, 0, none⟩)) rfl rfl (by kernel_rfl) ?_ hHeld ?_
    ·intro w hSw; clear hSw; go_simp; try with_reducible rfl
    simp only [uZ, uS]
    refine tK 11 (i := 1) (v := .int .i64 fh) rfl rfl (by kernel_rfl) ?_ hHeld ?_
    ·intro w hSw; have c0 := (hSw _ (.tail _ (.head _))).cell 0; simp at c0; clear hSw; go_simp; try with_reducible rfl
    simp only [uZ, uS]
    refine tK 12 (i := 2) (v := .pointer (some ⟨G, 0, none⟩)) rfl rfl (by kernel_rfl) ?_ hHeld ?_
    ·intro w hSw; clear hSw; go_simp; try with_reducible rfl
    simp only [uZ, uS]
    refine tK 13 (i := 3) (v := .int .i64 fh) rfl rfl (by kernel_rfl) ?_ hHeld ?_
    ·intro w hSw; have c0 := (hSw _ (.tail _ (.tail _ (.head _)))).cell 0; simp at c0; clear hSw; go_simp; try with_reducible rfl
    simp only [uZ, uS]
    refine tK 14 (i := 4) (v := .bool false) rfl rfl (by kernel_rfl) ?_ hHeld ?_
    ·intro w hSw; clear hSw; go_simp; try with_reducible rfl
    simp only [uZ, uS]
    refine tK 15 (i := 5) (v := .bool false) rfl rfl (by kernel_rfl) ?_ hHeld ?_
    ·intro w hSw; clear hSw; go_simp; try with_reducible rfl
    simp only [uZ, uS]
    refine tK 16 (i := 6) (v := .pointer (some ⟨G + 1, 1, none⟩)) rfl rfl (by kernel_rfl) ?_ hHeld ?_
    ·intro w hSw; clear hSw; go_simp; try with_reducible rfl
    simp only [uZ, uS]
    refine tK 17 (i := 7) (v := .int .i64 st) rfl rfl (by kernel_rfl) ?_ hHeld ?_
    ·intro w hSw; have c1 := (hSw _ (.tail _ (.head _))).cell 1; simp at c1; clear hSw; go_simp; try with_reducible rfl
    simp only [uZ, uS]
    refine tK 18 (i := 8) (v := .bool false) rfl rfl (by kernel_rfl) ?_ hHeld ?_
    ·intro w hSw; clear hSw; go_simp; try with_reducible rfl
    simp only [uZ, uS]
    refine tK 19 (i := 9) (v := .bool false) rfl rfl (by kernel_rfl) ?_ hHeld ?_
    ·intro w hSw; clear hSw; go_simp; try with_reducible rfl
    simp only [uZ, uS]
    refine tK 20 (i := 10) (v := .bool false) rfl rfl (by kernel_rfl) ?_ hHeld ?_
    ·intro w hSw; clear hSw; go_simp; try with_reducible rfl
    simp only [uZ, uS]
    refine tK 21 (i := 11) (v := .pointer (some ⟨G + 1, 1, none⟩)) rfl rfl (by kernel_rfl) ?_ hHeld ?_
    ·intro w hSw; clear hSw; go_simp; try with_reducible rfl
    simp only [uZ, uS]
    refine tK 22 (i := 12) (v := .int .i64 st) rfl rfl (by kernel_rfl) ?_ hHeld ?_
    ·intro w hSw; have c1 := (hSw _ (.tail _ (.head _))).cell 1; simp at c1; clear hSw; go_simp; try with_reducible rfl
    simp only [uZ, uS]
    refine tK 23 (i := 13) (v := .bool true) rfl rfl (by kernel_rfl) ?_ hHeld ?_
    ·intro w hSw; clear hSw; go_simp; try with_reducible rfl
    simp only [uZ, uS]
    refine tK 24 (i := 14) (v := .bool true) rfl rfl (by kernel_rfl) ?_ hHeld ?_
    ·intro w hSw; clear hSw; go_simp; try with_reducible rfl
    simp only [uZ, uS]
    refine tK 25 (i := 15) (v := .bool true) rfl rfl (by kernel_rfl) ?_ hHeld ?_
    ·intro w hSw; clear hSw; go_simp; try with_reducible rfl
    simp only [uZ, uS]
    refine wpAnyH_take (i := 16) (v := undef) rfl (by kernel_rfl) (by kernel_rfl) (by kernel_rfl) (fun _ _ _ h => h) (Or.inr ⟨by kernel_rfl, rfl⟩) hHeld ?_
    change wpAnyH _ _ _ _ _ _ _ (Act.put _ (some 26) _) _
    try simp only [Act.put, uA, uZ, uS]
    refine wpAnyH_take (i := 17) (v := undef) rfl (by kernel_rfl) (by kernel_rfl) (by kernel_rfl) (fun _ _ _ h => h) (Or.inr ⟨by kernel_rfl, rfl⟩) hHeld ?_
    change wpAnyH _ _ _ _ _ _ _ (Act.put _ (some 27) _) _
    try simp only [Act.put, uA, uZ, uS]
    refine wpAnyH_take (i := 18) (v := undef) rfl (by kernel_rfl) (by kernel_rfl) (by kernel_rfl) (fun _ _ _ h => h) (Or.inr ⟨by kernel_rfl, rfl⟩) hHeld ?_
    change wpAnyH _ _ _ _ _ _ _ (Act.put _ (some 28) _) _
    try simp only [Act.put, uA, uZ, uS]
    refine wpAnyH_take (i := 19) (v := undef) rfl (by kernel_rfl) (by kernel_rfl) (by kernel_rfl) (fun _ _ _ h => h) (Or.inr ⟨by kernel_rfl, rfl⟩) hHeld ?_
    change wpAnyH _ _ _ _ _ _ _ (Act.put _ (some 29) _) _
    try simp only [Act.put, uA, uZ, uS]
    refine wpAnyH_take (i := 20) (v := undef) rfl (by kernel_rfl) (by kernel_rfl) (by kernel_rfl) (fun _ _ _ h => h) (Or.inr ⟨by kernel_rfl, rfl⟩) hHeld ?_
    change wpAnyH _ _ _ _ _ _ _ (Act.put _ (some 30) _) _
    try simp only [Act.put, uA, uZ, uS]
    refine wpAnyH_take (i := 21) (v := undef) rfl (by kernel_rfl) (by kernel_rfl) (by kernel_rfl) (fun _ _ _ h => h) (Or.inr ⟨by kernel_rfl, rfl⟩) hHeld ?_
    change wpAnyH _ _ _ _ _ _ _ (Act.put _ (some 31) _) _
    try simp only [Act.put, uA, uZ, uS]
    refine wpAnyH_take (i := 22) (v := undef) rfl (by kernel_rfl) (by kernel_rfl) (by kernel_rfl) (fun _ _ _ h => h) (Or.inr ⟨by kernel_rfl, rfl⟩) hHeld ?_
    change wpAnyH _ _ _ _ _ _ _ (Act.put _ (some 32) _) _
    try simp only [Act.put, uA, uZ, uS]
    refine wpAnyH_take (i := 23) (v := undef) rfl (by kernel_rfl) (by kernel_rfl) (by kernel_rfl) (fun _ _ _ h => h) (Or.inr ⟨by kernel_rfl, rfl⟩) hHeld ?_
    change wpAnyH _ _ _ _ _ _ _ (Act.put _ (some 33) _) _
    try simp only [Act.put, uA, uZ, uS]
    refine wpAnyH_take (i := 24) (v := undef) rfl (by kernel_rfl) (by kernel_rfl) (by kernel_rfl) (fun _ _ _ h => h) (Or.inr ⟨by kernel_rfl, rfl⟩) hHeld ?_
    change wpAnyH _ _ _ _ _ _ _ (Act.put _ (some 34) _) _
    try simp only [Act.put, uA, uZ, uS]
    refine tK 35 (i := 25) (v := .bool true) rfl rfl (by kernel_rfl) ?_ hHeld ?_
    ·intro w hSw; clear hSw; go_simp; try with_reducible rfl
    simp only [uZ, uS]
    refine wpAnyH_done (by kernel_rfl) ?_ _
    have HE3 := Lib.hid HE2.out.drew
    clear hHeld HKM HK2 HE2
    go_wp2
    go_ret
    exact ⟨rfl, HE3.out⟩
  ·have e : R = 22 := by rw [← HRQ.out, HBM.out]; simp [stateS]; omega
   subst e
   have k0 : decide (st < 0) = true := decide_eq_true (by omega)
   clear HRQ HBM CW
   have HKM : Hid (Boxes W2.drew [(N, 141, allM), (G + 1, 55, #[.int .i64 fh, .int .i64 st, .int .i64 x0, .int .i64 x1, .int .i64 d0, .int .i64 d1]), (G, 35, #[.int .i64 fh, .int .i64 al, .int .i64 ah, .slice A n c, .slice B mm d, .slice C l ee, .int .i64 t0, .int .i64 t1, .int .i64 u0, .int .i64 u1, .int .i64 v0, .int .i64 v1, .int .i64 h0, .int .i64 h1])]) := Lib.hid HK2.out
   refine wp_region_held_drew (S := fun w' => Boxes w' [(N, 141, allM), (G + 1, 55, #[.int .i64 fh, .int .i64 st, .int .i64 x0, .int .i64 x1, .int .i64 d0, .int .i64 d1]), (G, 35, #[.int .i64 fh, .int .i64 al, .int .i64 ah, .slice A n c, .slice B mm d, .slice C l ee, .int .i64 t0, .int .i64 t1, .int .i64 u0, .int .i64 u1, .int .i64 v0, .int .i64 v1, .int .i64 h0, .int .i64 h1])]) (by kernel_rfl) HKM.out (fun hHeld => ?_)
   refine tK 10 (i := 0) (v := .pointer (some ⟨G + 1, 0, none⟩)) rfl rfl (by kernel_rfl) ?_ hHeld ?_
   ·intro w hSw; clear hSw; go_simp; try with_reducible rfl
   simp only [uZ, uS]
   refine tK 11 (i := 1) (v := .int .i64 fh) rfl rfl (by kernel_rfl) ?_ hHeld ?_
   ·intro w hSw; have c0 := (hSw _ (.tail _ (.head _))).cell 0; simp at c0; clear hSw; go_simp; try with_reducible rfl
   simp only [uZ, uS]
   refine tK 12 (i := 2) (v := .pointer (some ⟨G, 0, none⟩)) rfl rfl (by kernel_rfl) ?_ hHeld ?_
   ·intro w hSw; clear hSw; go_simp; try with_reducible rfl
   simp only [uZ, uS]
   refine tK 13 (i := 3) (v := .int .i64 fh) rfl rfl (by kernel_rfl) ?_ hHeld ?_
   ·intro w hSw; have c0 := (hSw _ (.tail _ (.tail _ (.head _)))).cell 0; simp at c0; clear hSw; go_simp; try with_reducible rfl
   simp only [uZ, uS]
   refine tK 14 (i := 4) (v := .bool false) rfl rfl (by kernel_rfl) ?_ hHeld ?_
   ·intro w hSw; clear hSw; go_simp; try with_reducible rfl
   simp only [uZ, uS]
   refine tK 15 (i := 5) (v := .bool false) rfl rfl (by kernel_rfl) ?_ hHeld ?_
   ·intro w hSw; clear hSw; go_simp; try with_reducible rfl
   simp only [uZ, uS]
   refine tK 16 (i := 6) (v := .pointer (some ⟨G + 1, 1, none⟩)) rfl rfl (by kernel_rfl) ?_ hHeld ?_
   ·intro w hSw; clear hSw; go_simp; try with_reducible rfl
   simp only [uZ, uS]
   refine tK 17 (i := 7) (v := .int .i64 st) rfl rfl (by kernel_rfl) ?_ hHeld ?_
   ·intro w hSw; have c1 := (hSw _ (.tail _ (.head _))).cell 1; simp at c1; clear hSw; go_simp; try with_reducible rfl
   simp only [uZ, uS]
   refine tK 18 (i := 8) (v := .bool true) rfl rfl (by kernel_rfl) ?_ hHeld ?_
   ·intro w hSw; clear hSw; go_simp; try with_reducible rfl
   simp only [uZ, uS]
   refine tK 19 (i := 9) (v := .bool true) rfl rfl (by kernel_rfl) ?_ hHeld ?_
   ·intro w hSw; clear hSw; go_simp; try with_reducible rfl
   simp only [uZ, uS]
   refine tK 20 (i := 10) (v := .bool true) rfl rfl (by kernel_rfl) ?_ hHeld ?_
   ·intro w hSw; clear hSw; go_simp; try with_reducible rfl
   simp only [uZ, uS]
   refine wpAnyH_take (i := 11) (v := undef) rfl (by kernel_rfl) (by kernel_rfl) (by kernel_rfl) (fun _ _ _ h => h) (Or.inr ⟨by kernel_rfl, rfl⟩) hHeld ?_
   change wpAnyH _ _ _ _ _ _ _ (Act.put _ (some 21) _) _
   try simp only [Act.put, uA, uZ, uS]
   refine wpAnyH_take (i := 12) (v := undef) rfl (by kernel_rfl) (by kernel_rfl) (by kernel_rfl) (fun _ _ _ h => h) (Or.inr ⟨by kernel_rfl, rfl⟩) hHeld ?_
   change wpAnyH _ _ _ _ _ _ _ (Act.put _ (some 22) _) _
   try simp only [Act.put, uA, uZ, uS]
   refine wpAnyH_take (i := 13) (v := undef) rfl (by kernel_rfl) (by kernel_rfl) (by kernel_rfl) (fun _ _ _ h => h) (Or.inr ⟨by kernel_rfl, rfl⟩) hHeld ?_
   change wpAnyH _ _ _ _ _ _ _ (Act.put _ (some 23) _) _
   try simp only [Act.put, uA, uZ, uS]
   refine tK 24 (i := 14) (v := .bool true) rfl rfl (by kernel_rfl) ?_ hHeld ?_
   ·intro w hSw; clear hSw; go_simp; try with_reducible rfl
   simp only [uZ, uS]
   refine tK 25 (i := 15) (v := .bool true) rfl rfl (by kernel_rfl) ?_ hHeld ?_
   ·intro w hSw; clear hSw; go_simp; try with_reducible rfl
   simp only [uZ, uS]
   refine wpAnyH_take (i := 16) (v := undef) rfl (by kernel_rfl) (by kernel_rfl) (by kernel_rfl) (fun _ _ _ h => h) (Or.inr ⟨by kernel_rfl, rfl⟩) hHeld ?_
   change wpAnyH _ _ _ _ _ _ _ (Act.put _ (some 26) _) _
   try simp only [Act.put, uA, uZ, uS]
   refine wpAnyH_take (i := 17) (v := undef) rfl (by kernel_rfl) (by kernel_rfl) (by kernel_rfl) (fun _ _ _ h => h) (Or.inr ⟨by kernel_rfl, rfl⟩) hHeld ?_
   change wpAnyH _ _ _ _ _ _ _ (Act.put _ (some 27) _) _
   try simp only [Act.put, uA, uZ, uS]
   refine wpAnyH_take (i := 18) (v := undef) rfl (by kernel_rfl) (by kernel_rfl) (by kernel_rfl) (fun _ _ _ h => h) (Or.inr ⟨by kernel_rfl, rfl⟩) hHeld ?_
   change wpAnyH _ _ _ _ _ _ _ (Act.put _ (some 28) _) _
   try simp only [Act.put, uA, uZ, uS]
   refine wpAnyH_take (i := 19) (v := undef) rfl (by kernel_rfl) (by kernel_rfl) (by kernel_rfl) (fun _ _ _ h => h) (Or.inr ⟨by kernel_rfl, rfl⟩) hHeld ?_
   change wpAnyH _ _ _ _ _ _ _ (Act.put _ (some 29) _) _
   try simp only [Act.put, uA, uZ, uS]
   refine wpAnyH_take (i := 20) (v := undef) rfl (by kernel_rfl) (by kernel_rfl) (by kernel_rfl) (fun _ _ _ h => h) (Or.inr ⟨by kernel_rfl, rfl⟩) hHeld ?_
   change wpAnyH _ _ _ _ _ _ _ (Act.put _ (some 30) _) _
   try simp only [Act.put, uA, uZ, uS]
   refine wpAnyH_take (i := 21) (v := undef) rfl (by kernel_rfl) (by kernel_rfl) (by kernel_rfl) (fun _ _ _ h => h) (Or.inr ⟨by kernel_rfl, rfl⟩) hHeld ?_
   change wpAnyH _ _ _ _ _ _ _ (Act.put _ (some 31) _) _
   try simp only [Act.put, uA, uZ, uS]
   refine wpAnyH_take (i := 22) (v := undef) rfl (by kernel_rfl) (by kernel_rfl) (by kernel_rfl) (fun _ _ _ h => h) (Or.inr ⟨by kernel_rfl, rfl⟩) hHeld ?_
   change wpAnyH _ _ _ _ _ _ _ (Act.put _ (some 32) _) _
   try simp only [Act.put, uA, uZ, uS]
   refine wpAnyH_take (i := 23) (v := undef) rfl (by kernel_rfl) (by kernel_rfl) (by kernel_rfl) (fun _ _ _ h => h) (Or.inr ⟨by kernel_rfl, rfl⟩) hHeld ?_
   change wpAnyH _ _ _ _ _ _ _ (Act.put _ (some 33) _) _
   try simp only [Act.put, uA, uZ, uS]
   refine wpAnyH_take (i := 24) (v := undef) rfl (by kernel_rfl) (by kernel_rfl) (by kernel_rfl) (fun _ _ _ h => h) (Or.inr ⟨by kernel_rfl, rfl⟩) hHeld ?_
   change wpAnyH _ _ _ _ _ _ _ (Act.put _ (some 34) _) _
   try simp only [Act.put, uA, uZ, uS]
   refine tK 35 (i := 25) (v := .bool true) rfl rfl (by kernel_rfl) ?_ hHeld ?_
   ·intro w hSw; clear hSw; go_simp; try with_reducible rfl
   simp only [uZ, uS]
   refine wpAnyH_done (by kernel_rfl) ?_ _
   have HE3 := Lib.hid HE2.out.drew
   clear hHeld HKM HK2 HE2
   go_wp2
   go_ret
   exact ⟨rfl, HE3.out⟩
 ·have e : R = 22 := by rw [← HRQ.out, HBL.out]; simp [g]
  subst e
  have k0 : (fh == id) = false := beq_eq_false_iff_ne.2 g
  clear HRQ HBL CW
  have HKM : Hid (Boxes W2.drew [(N, 141, allM), (G + 1, 55, #[.int .i64 fh, .int .i64 st, .int .i64 x0, .int .i64 x1, .int .i64 d0, .int .i64 d1]), (G, 35, #[.int .i64 id, .int .i64 al, .int .i64 ah, .slice A n c, .slice B mm d, .slice C l ee, .int .i64 t0, .int .i64 t1, .int .i64 u0, .int .i64 u1, .int .i64 v0, .int .i64 v1, .int .i64 h0, .int .i64 h1])]) := Lib.hid HK2.out
  refine wp_region_held_drew (S := fun w' => Boxes w' [(N, 141, allM), (G + 1, 55, #[.int .i64 fh, .int .i64 st, .int .i64 x0, .int .i64 x1, .int .i64 d0, .int .i64 d1]), (G, 35, #[.int .i64 id, .int .i64 al, .int .i64 ah, .slice A n c, .slice B mm d, .slice C l ee, .int .i64 t0, .int .i64 t1, .int .i64 u0, .int .i64 u1, .int .i64 v0, .int .i64 v1, .int .i64 h0, .int .i64 h1])]) (by kernel_rfl) HKM.out (fun hHeld => ?_)
  refine tK 10 (i := 0) (v := .pointer (some ⟨G + 1, 0, none⟩)) rfl rfl (by kernel_rfl) ?_ hHeld ?_
  ·intro w hSw; clear hSw; go_simp; try with_reducible rfl
  simp only [uZ, uS]
  refine tK 11 (i := 1) (v := .int .i64 fh) rfl rfl (by kernel_rfl) ?_ hHeld ?_
  ·intro w hSw; have c0 := (hSw _ (.tail _ (.head _))).cell 0; simp at c0; clear hSw; go_simp; try with_reducible rfl
  simp only [uZ, uS]
  refine tK 12 (i := 2) (v := .pointer (some ⟨G, 0, none⟩)) rfl rfl (by kernel_rfl) ?_ hHeld ?_
  ·intro w hSw; clear hSw; go_simp; try with_reducible rfl
  simp only [uZ, uS]
  refine tK 13 (i := 3) (v := .int .i64 id) rfl rfl (by kernel_rfl) ?_ hHeld ?_
  ·intro w hSw; have c0 := (hSw _ (.tail _ (.tail _ (.head _)))).cell 0; simp at c0; clear hSw; go_simp; try with_reducible rfl
  simp only [uZ, uS]
  refine tK 14 (i := 4) (v := .bool true) rfl rfl (by kernel_rfl) ?_ hHeld ?_
  ·intro w hSw; clear hSw; go_simp; try with_reducible rfl
  simp only [uZ, uS]
  refine tK 15 (i := 5) (v := .bool true) rfl rfl (by kernel_rfl) ?_ hHeld ?_
  ·intro w hSw; clear hSw; go_simp; try with_reducible rfl
  simp only [uZ, uS]
  refine wpAnyH_take (i := 6) (v := undef) rfl (by kernel_rfl) (by kernel_rfl) (by kernel_rfl) (fun _ _ _ h => h) (Or.inr ⟨by kernel_rfl, rfl⟩) hHeld ?_
  change wpAnyH _ _ _ _ _ _ _ (Act.put _ (some 16) _) _
  try simp only [Act.put, uA, uZ, uS]
  refine wpAnyH_take (i := 7) (v := undef) rfl (by kernel_rfl) (by kernel_rfl) (by kernel_rfl) (fun _ _ _ h => h) (Or.inr ⟨by kernel_rfl, rfl⟩) hHeld ?_
  change wpAnyH _ _ _ _ _ _ _ (Act.put _ (some 17) _) _
  try simp only [Act.put, uA, uZ, uS]
  refine wpAnyH_take (i := 8) (v := undef) rfl (by kernel_rfl) (by kernel_rfl) (by kernel_rfl) (fun _ _ _ h => h) (Or.inr ⟨by kernel_rfl, rfl⟩) hHeld ?_
  change wpAnyH _ _ _ _ _ _ _ (Act.put _ (some 18) _) _
  try simp only [Act.put, uA, uZ, uS]
  refine tK 19 (i := 9) (v := .bool true) rfl rfl (by kernel_rfl) ?_ hHeld ?_
  ·intro w hSw; clear hSw; go_simp; try with_reducible rfl
  simp only [uZ, uS]
  refine tK 20 (i := 10) (v := .bool true) rfl rfl (by kernel_rfl) ?_ hHeld ?_
  ·intro w hSw; clear hSw; go_simp; try with_reducible rfl
  simp only [uZ, uS]
  refine wpAnyH_take (i := 11) (v := undef) rfl (by kernel_rfl) (by kernel_rfl) (by kernel_rfl) (fun _ _ _ h => h) (Or.inr ⟨by kernel_rfl, rfl⟩) hHeld ?_
  change wpAnyH _ _ _ _ _ _ _ (Act.put _ (some 21) _) _
  try simp only [Act.put, uA, uZ, uS]
  refine wpAnyH_take (i := 12) (v := undef) rfl (by kernel_rfl) (by kernel_rfl) (by kernel_rfl) (fun _ _ _ h => h) (Or.inr ⟨by kernel_rfl, rfl⟩) hHeld ?_
  change wpAnyH _ _ _ _ _ _ _ (Act.put _ (some 22) _) _
  try simp only [Act.put, uA, uZ, uS]
  refine wpAnyH_take (i := 13) (v := undef) rfl (by kernel_rfl) (by kernel_rfl) (by kernel_rfl) (fun _ _ _ h => h) (Or.inr ⟨by kernel_rfl, rfl⟩) hHeld ?_
  change wpAnyH _ _ _ _ _ _ _ (Act.put _ (some 23) _) _
  try simp only [Act.put, uA, uZ, uS]
  refine tK 24 (i := 14) (v := .bool true) rfl rfl (by kernel_rfl) ?_ hHeld ?_
  ·intro w hSw; clear hSw; go_simp; try with_reducible rfl
  simp only [uZ, uS]
  refine tK 25 (i := 15) (v := .bool true) rfl rfl (by kernel_rfl) ?_ hHeld ?_
  ·intro w hSw; clear hSw; go_simp; try with_reducible rfl
  simp only [uZ, uS]
  refine wpAnyH_take (i := 16) (v := undef) rfl (by kernel_rfl) (by kernel_rfl) (by kernel_rfl) (fun _ _ _ h => h) (Or.inr ⟨by kernel_rfl, rfl⟩) hHeld ?_
  change wpAnyH _ _ _ _ _ _ _ (Act.put _ (some 26) _) _
  try simp only [Act.put, uA, uZ, uS]
  refine wpAnyH_take (i := 17) (v := undef) rfl (by kernel_rfl) (by kernel_rfl) (by kernel_rfl) (fun _ _ _ h => h) (Or.inr ⟨by kernel_rfl, rfl⟩) hHeld ?_
  change wpAnyH _ _ _ _ _ _ _ (Act.put _ (some 27) _) _
  try simp only [Act.put, uA, uZ, uS]
  refine wpAnyH_take (i := 18) (v := undef) rfl (by kernel_rfl) (by kernel_rfl) (by kernel_rfl) (fun _ _ _ h => h) (Or.inr ⟨by kernel_rfl, rfl⟩) hHeld ?_
  change wpAnyH _ _ _ _ _ _ _ (Act.put _ (some 28) _) _
  try simp only [Act.put, uA, uZ, uS]
  refine wpAnyH_take (i := 19) (v := undef) rfl (by kernel_rfl) (by kernel_rfl) (by kernel_rfl) (fun _ _ _ h => h) (Or.inr ⟨by kernel_rfl, rfl⟩) hHeld ?_
  change wpAnyH _ _ _ _ _ _ _ (Act.put _ (some 29) _) _
  try simp only [Act.put, uA, uZ, uS]
  refine wpAnyH_take (i := 20) (v := undef) rfl (by kernel_rfl) (by kernel_rfl) (by kernel_rfl) (fun _ _ _ h => h) (Or.inr ⟨by kernel_rfl, rfl⟩) hHeld ?_
  change wpAnyH _ _ _ _ _ _ _ (Act.put _ (some 30) _) _
  try simp only [Act.put, uA, uZ, uS]
  refine wpAnyH_take (i := 21) (v := undef) rfl (by kernel_rfl) (by kernel_rfl) (by kernel_rfl) (fun _ _ _ h => h) (Or.inr ⟨by kernel_rfl, rfl⟩) hHeld ?_
  change wpAnyH _ _ _ _ _ _ _ (Act.put _ (some 31) _) _
  try simp only [Act.put, uA, uZ, uS]
  refine wpAnyH_take (i := 22) (v := undef) rfl (by kernel_rfl) (by kernel_rfl) (by kernel_rfl) (fun _ _ _ h => h) (Or.inr ⟨by kernel_rfl, rfl⟩) hHeld ?_
  change wpAnyH _ _ _ _ _ _ _ (Act.put _ (some 32) _) _
  try simp only [Act.put, uA, uZ, uS]
  refine wpAnyH_take (i := 23) (v := undef) rfl (by kernel_rfl) (by kernel_rfl) (by kernel_rfl) (fun _ _ _ h => h) (Or.inr ⟨by kernel_rfl, rfl⟩) hHeld ?_
  change wpAnyH _ _ _ _ _ _ _ (Act.put _ (some 33) _) _
  try simp only [Act.put, uA, uZ, uS]
  refine wpAnyH_take (i := 24) (v := undef) rfl (by kernel_rfl) (by kernel_rfl) (by kernel_rfl) (fun _ _ _ h => h) (Or.inr ⟨by kernel_rfl, rfl⟩) hHeld ?_
  change wpAnyH _ _ _ _ _ _ _ (Act.put _ (some 34) _) _
  try simp only [Act.put, uA, uZ, uS]
  refine tK 35 (i := 25) (v := .bool true) rfl rfl (by kernel_rfl) ?_ hHeld ?_
  ·intro w hSw; clear hSw; go_simp; try with_reducible rfl
  simp only [uZ, uS]
  refine wpAnyH_done (by kernel_rfl) ?_ _
  have HE3 := Lib.hid HE2.out.drew
  clear hHeld HKM HK2 HE2
  go_wp2
  go_ret
  exact ⟨rfl, HE3.out⟩
end

end Go.Proofs.YtemlaaipnhmcoaaGreat
