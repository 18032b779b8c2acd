/- The checks of rising tables (hold and the specification of layer 2). Condition: the tables lie in memory. -/
import Derived.Deep.RegionHeld3
import Derived.Deep.RegionWith
import Derived.Test.YtmdilbmgopggaaaGreatQ19
import Derived.Test.YtmdilbmgopggaaaGreatQ18
import Derived.Deep.QuietTactic
import Derived.BigQuiet
import Derived.Test.YtmdilbmgopggaaaGreatQ21
import Derived.Test.YtmdilbmgopggaaaGreatQ17
import Derived.Test.YtmdilbmgopggaaaGreatQA
set_option linter.unusedVariables false
set_option linter.unusedSimpArgs false
set_option linter.constructorNameAsVariable false
namespace Go.Proofs.YtmdilbmgopggaaaGreat

section
open Go.RowKit
attribute [local go_sem ↓] eqlRange neqRange
attribute [local go_sem ↓] tix0 tix1 tix2
set_option maxRecDepth 100000 in
set_option maxHeartbeats 8000000 in
theorem checkTables_rises (A : Option Addr) (n c : Nat) (B : Option Addr) (m d : Nat) (C : Option Addr) (l e : Nat) (v mo h : List P3) (w : World) (h1 : TabIn w A n v) (h2 : TabIn w B m mo) (h3 : TabIn w C l h) :
    Calls Tryz.prog 95 #[tv A n c, tv B m d, tv C l e, .func (.func 116) #[] #[]] w fun e w' => e = .returned (.bool (ctRest risesS v mo h 0)) ∧ Below w.heap.size w w' := by
  generalize hr : ctRest risesS v mo h 0 = r
  have HR := Lib.hid hr
  have HE := Lib.hid (show Below w.heap.size w (((w.alloc (.cells #[.slice A n c] 26)).alloc (.cells #[.slice B m d] 26)).alloc (.cells #[.slice C l e] 26)) from below_a3 (Below.refl _ _))
  have HK := Lib.hid (boxes3' w 26 26 26 #[.slice A n c] #[.slice B m d] #[.slice C l e])
  have IV : Hid (∀ W, Below w.heap.size w W → TabIn W A n v) := Lib.hid fun W hW => h1.below hW
  have MV : Hid (∀ W t, Below w.heap.size w W → measuresS v = t → Calls Tryz.prog 146 #[tv A n c] W fun e w' => e = .returned (.bool t) ∧ Below W.heap.size W w') := Lib.hid fun W t hW ht => by
    have g := measures_any A n c v W (h1.below hW)
    rw [ht] at g; exact g
  have PV : Hid (measuresS v = true → ∀ W, Below w.heap.size w W → Calls Tryz.prog 120 #[tv A n c] W fun e w' => e = .returned (rv (firstX v) (lastX v)) ∧ Below W.heap.size W w') := Lib.hid fun hq W hW => hplaces_tab A n c v W (h1.below hW) (measures_ok hq)
  have IM : Hid (∀ W, Below w.heap.size w W → TabIn W B m mo) := Lib.hid fun W hW => h2.below hW
  have MM : Hid (∀ W t, Below w.heap.size w W → measuresS mo = t → Calls Tryz.prog 146 #[tv B m d] W fun e w' => e = .returned (.bool t) ∧ Below W.heap.size W w') := Lib.hid fun W t hW ht => by
    have g := measures_any B m d mo W (h2.below hW)
    rw [ht] at g; exact g
  have PM : Hid (measuresS mo = true → ∀ W, Below w.heap.size w W → Calls Tryz.prog 120 #[tv B m d] W fun e w' => e = .returned (rv (firstX mo) (lastX mo)) ∧ Below W.heap.size W w') := Lib.hid fun hq W hW => hplaces_tab B m d mo W (h2.below hW) (measures_ok hq)
  have IH : Hid (∀ W, Below w.heap.size w W → TabIn W C l h) := Lib.hid fun W hW => h3.below hW
  have MH : Hid (∀ W t, Below w.heap.size w W → measuresS h = t → Calls Tryz.prog 146 #[tv C l e] W fun e w' => e = .returned (.bool t) ∧ Below W.heap.size W w') := Lib.hid fun W t hW ht => by
    have g := measures_any C l e h W (h3.below hW)
    rw [ht] at g; exact g
  have PH : Hid (measuresS h = true → ∀ W, Below w.heap.size w W → Calls Tryz.prog 120 #[tv C l e] W fun e w' => e = .returned (rv (firstX h) (lastX h)) ∧ Below W.heap.size W w') := Lib.hid fun hq W hW => hplaces_tab C l e h W (h3.below hW) (measures_ok hq)
  clear h1 h2 h3 hr
  go_enter Tryz.func95, Tryz.ntmps95
  go_wp2_with fail
  obtain ⟨W0, hW0⟩ : ∃ W0, (((w.alloc (.cells #[.slice A n c] 26)).alloc (.cells #[.slice B m d] 26)).alloc (.cells #[.slice C l e] 26)) = W0 := ⟨_, rfl⟩
  rw [hW0] at HE HK ⊢
  clear hW0
  obtain ⟨G, hG⟩ : ∃ G, w.heap.size = G := ⟨_, rfl⟩
  rw [hG] at HK ⊢
  have HG := Lib.hid hG; clear hG
  go_loopw [15] (fun i wr => ∃ k : Nat, k ≤ 3 ∧ i = .int .i64 k ∧ Hid (ctRest risesS v mo h k = r ∧ (1 ≤ k → measuresS v = true) ∧ (3 ≤ k → measuresS h = true)) ∧ Below W0.heap.size W0 wr) (fun i _ => 3 - (intOf i).toNat)
  case atStart => exact ⟨0, by omega, rfl, Lib.hid ⟨HR.out, by omega, by omega⟩, Below.refl _ _⟩
  case round =>
    obtain ⟨k, hk, rfl, HP, hB⟩ := hrel
    have g0 := (HK.out.on hB _ (.tail _ (.tail _ (.head _)))).cell 0
    have l0 := (HK.out.on hB _ (.tail _ (.tail _ (.head _)))).lt
    have g2 := (HK.out.on hB _ (.head _)).cell 0
    simp at g0 l0 g2
    have HB := Lib.hid hB
    clear hB
    have hkk : k = 0 ∨ k = 1 ∨ k = 2 ∨ k = 3 := by omega
    rcases hkk with rfl | rfl | rfl | rfl
    · have HP0 := Lib.hid HP.out.1
      have hw := below_alloc1 wr (.cells #[.slice A n c] 26)
      have HW := Lib.hid (below_then HB.out hw)
      have c0 := (Blk.new wr 26 #[.slice A n c]).cell 0
      have la := (Blk.new wr 26 #[.slice A n c]).lt
      have c1 := ((HK.out.on HB.out).on hw _ (.tail _ (.tail _ (.head _)))).cell 0
      have l1 := ((HK.out.on HB.out).on hw _ (.tail _ (.tail _ (.head _)))).lt
      clear hw g0 g2 l0
      go_upto_region 4 with fail
      obtain ⟨B1, hB1⟩ : ∃ B1, wr.heap.size = B1 := ⟨_, rfl⟩
      obtain ⟨W1, hW1⟩ : ∃ W1, wr.alloc (.cells #[.slice A n c] 26) = W1 := ⟨_, rfl⟩
      rw [hW1] at HW c0 c1 la l1 ⊢
      rw [hB1] at c0 la ⊢
      clear hW1 hB1
      simp at c0 c1 l1
      have HE1 := Lib.hid (below_then HE.out HW.out)
      cases hm : measuresS v
      · have hf : r = false := by rw [← HP0.out]; unfold ctRest; rw [hm]; rfl
        subst hf
        have HM := Lib.hid hm
        clear hm HP HP0 HR
        go_region_with (go_at_call 146; refine (MV.out _ false (below_then HE1.out (Below.refl _ _).drew) HM.out).mono ?_; rintro e y1 ⟨rfl, hy1⟩)
        all_goals go_wp2
        all_goals go_ret
        all_goals exact ⟨rfl, below_then HE1.out (below_d hy1)⟩
      · have HM := Lib.hid hm
        have HP2 : Hid (ctRest risesS v mo h (0 + 1) = r ∧ (1 ≤ 0 + 1 → measuresS v = true) ∧ (3 ≤ 0 + 1 → measuresS h = true)) := Lib.hid ⟨by rw [← HP0.out]; show ctRest risesS v mo h 1 = _; rw [show ctRest risesS v mo h 0 = (measuresS v && ctRest risesS v mo h 1) from rfl, hm]; rfl, fun _ => hm, by omega⟩
        have CX := Lib.hid (PV.out hm)
        have z : (firstX v == firstX v && lastX v == lastX v) = true := by simp
        generalize firstX v = f1 at *
        generalize lastX v = f2 at *
        clear hm HP HP0
        go_region_held3 (fun w' => w'.cell? ⟨B1, 0, none⟩ = some (.slice A n c) ∧ w'.cell? ⟨G, 0, none⟩ = some (.slice A n c) ∧ Below W1.heap.size W1 w')
          (first | assumption | exact mkI (Below.refl _ _).drew ⟨c0, c1⟩ la l1 | exact mkI (below_then (belowI (by assumption)) (by assumption)) ⟨c0, c1⟩ la l1)
          (first | (go_at_call 146; (with_reducible refine (MV.out _ true (below_then HE1.out (belowI (by assumption))) HM.out).mono ?_); rintro e y1 ⟨rfl, hy1⟩; have T1 := Lib.hid (below_then (belowI (W2 := W1) (A := B1) (B := G) (by assumption)) hy1)) | (go_at_call 120; (with_reducible refine (CX.out _ (below_then HE1.out (belowI (by assumption)))).mono ?_); rintro e y2 ⟨rfl, hy2⟩; have T2 := Lib.hid (below_then (belowI (W2 := W1) (A := B1) (B := G) (by assumption)) hy2)) | fail)
        all_goals go_wp2
        all_goals go_roundw
        all_goals try (case rel => exact ⟨0 + 1, by omega, by go_num, HP2, below_then HW.out T2.out⟩)
        all_goals try (case measure => simp [intOf])
    · have HP0 := Lib.hid HP.out.1
      have hw := below_alloc1 wr (.cells #[.slice B m d] 26)
      have HW := Lib.hid (below_then HB.out hw)
      have c0 := (Blk.new wr 26 #[.slice B m d]).cell 0
      have la := (Blk.new wr 26 #[.slice B m d]).lt
      have c1 := ((HK.out.on HB.out).on hw _ (.tail _ (.tail _ (.head _)))).cell 0
      have l1 := ((HK.out.on HB.out).on hw _ (.tail _ (.tail _ (.head _)))).lt
      clear hw g0 g2 l0
      go_upto_region 4 with fail
      obtain ⟨B1, hB1⟩ : ∃ B1, wr.heap.size = B1 := ⟨_, rfl⟩
      obtain ⟨W1, hW1⟩ : ∃ W1, wr.alloc (.cells #[.slice B m d] 26) = W1 := ⟨_, rfl⟩
      rw [hW1] at HW c0 c1 la l1 ⊢
      rw [hB1] at c0 la ⊢
      clear hW1 hB1
      simp at c0 c1 l1
      have HE1 := Lib.hid (below_then HE.out HW.out)
      cases hm : measuresS mo
      · have hf : r = false := by rw [← HP0.out]; unfold ctRest; rw [hm]; rfl
        subst hf
        have HM := Lib.hid hm
        clear hm HP HP0 HR
        go_region_with (go_at_call 146; refine (MM.out _ false (below_then HE1.out (Below.refl _ _).drew) HM.out).mono ?_; rintro e y1 ⟨rfl, hy1⟩)
        all_goals go_wp2
        all_goals go_ret
        all_goals exact ⟨rfl, below_then HE1.out (below_d hy1)⟩
      · have HM := Lib.hid hm
        have HV := Lib.hid (HP.out.2.1 (by omega))
        have CX := Lib.hid (PM.out hm); have CY := Lib.hid (PV.out HV.out)
        have hal : ∃ t, alongS v mo = t := ⟨_, rfl⟩
        obtain ⟨t, hal⟩ := hal
        have hz := along_cases hal
        have HP3 : Hid ((t && ctRest risesS v mo h 2) = r) := Lib.hid (by rw [← HP0.out, show ctRest risesS v mo h 1 = ((measuresS mo && alongS v mo) && ctRest risesS v mo h 2) from rfl, hm, hal]; simp)
        generalize firstX v = f1 at *
        generalize lastX v = f2 at *
        generalize firstX mo = f3 at *
        generalize lastX mo = f4 at *
        clear hm HP HP0 hal
        cases t
        · have hf : r = false := by rw [← HP3.out]; rfl
          subst hf
          clear HP3 HR
          go_region_held3 (fun w' => w'.cell? ⟨B1, 0, none⟩ = some (.slice B m d) ∧ w'.cell? ⟨G, 0, none⟩ = some (.slice A n c) ∧ Below W1.heap.size W1 w')
            (first | assumption | exact mkI (Below.refl _ _).drew ⟨c0, c1⟩ la l1 | exact mkI (below_then (belowI (by assumption)) (by assumption)) ⟨c0, c1⟩ la l1)
            (first | (go_at_call 146; (with_reducible refine (MM.out _ true (below_then HE1.out (belowI (by assumption))) HM.out).mono ?_); rintro e y1 ⟨rfl, hy1⟩; have T1 := Lib.hid (below_then (belowI (W2 := W1) (A := B1) (B := G) (by assumption)) hy1)) | (go_at_call 120; (with_reducible refine (CX.out _ (below_then HE1.out (belowI (by assumption)))).mono ?_); rintro e y2 ⟨rfl, hy2⟩; have T2 := Lib.hid (below_then (belowI (W2 := W1) (A := B1) (B := G) (by assumption)) hy2)) | (go_at_call 120; (with_reducible refine (CY.out _ (below_then HE1.out (belowI (by assumption)))).mono ?_); rintro e y3 ⟨rfl, hy3⟩; have T3 := Lib.hid (below_then (belowI (W2 := W1) (A := B1) (B := G) (by assumption)) hy3)) | fail)
          all_goals go_wp2
          all_goals go_ret
          all_goals exact ⟨rfl, below_then HE1.out T3.out⟩
        · have HP2 : Hid (ctRest risesS v mo h (1 + 1) = r ∧ (1 ≤ 1 + 1 → measuresS v = true) ∧ (3 ≤ 1 + 1 → measuresS h = true)) := Lib.hid ⟨by rw [← HP3.out]; rfl, fun _ => HV.out, by omega⟩
          clear HP3
          go_region_held3 (fun w' => w'.cell? ⟨B1, 0, none⟩ = some (.slice B m d) ∧ w'.cell? ⟨G, 0, none⟩ = some (.slice A n c) ∧ Below W1.heap.size W1 w')
            (first | assumption | exact mkI (Below.refl _ _).drew ⟨c0, c1⟩ la l1 | exact mkI (below_then (belowI (by assumption)) (by assumption)) ⟨c0, c1⟩ la l1)
            (first | (go_at_call 146; (with_reducible refine (MM.out _ true (below_then HE1.out (belowI (by assumption))) HM.out).mono ?_); rintro e y1 ⟨rfl, hy1⟩; have T1 := Lib.hid (below_then (belowI (W2 := W1) (A := B1) (B := G) (by assumption)) hy1)) | (go_at_call 120; (with_reducible refine (CX.out _ (below_then HE1.out (belowI (by assumption)))).mono ?_); rintro e y2 ⟨rfl, hy2⟩; have T2 := Lib.hid (below_then (belowI (W2 := W1) (A := B1) (B := G) (by assumption)) hy2)) | (go_at_call 120; (with_reducible refine (CY.out _ (below_then HE1.out (belowI (by assumption)))).mono ?_); rintro e y3 ⟨rfl, hy3⟩; have T3 := Lib.hid (below_then (belowI (W2 := W1) (A := B1) (B := G) (by assumption)) hy3)) | fail)
          all_goals go_wp2
          all_goals go_roundw
          all_goals try (case rel => exact ⟨1 + 1, by omega, by go_num, HP2, below_then HW.out T3.out⟩)
          all_goals try (case measure => simp [intOf])
    · have HP0 := Lib.hid HP.out.1
      have hw := below_alloc1 wr (.cells #[.slice C l e] 26)
      have HW := Lib.hid (below_then HB.out hw)
      have c0 := (Blk.new wr 26 #[.slice C l e]).cell 0
      have la := (Blk.new wr 26 #[.slice C l e]).lt
      have c1 := ((HK.out.on HB.out).on hw _ (.tail _ (.tail _ (.head _)))).cell 0
      have l1 := ((HK.out.on HB.out).on hw _ (.tail _ (.tail _ (.head _)))).lt
      clear hw g0 g2 l0
      go_upto_region 4 with fail
      obtain ⟨B1, hB1⟩ : ∃ B1, wr.heap.size = B1 := ⟨_, rfl⟩
      obtain ⟨W1, hW1⟩ : ∃ W1, wr.alloc (.cells #[.slice C l e] 26) = W1 := ⟨_, rfl⟩
      rw [hW1] at HW c0 c1 la l1 ⊢
      rw [hB1] at c0 la ⊢
      clear hW1 hB1
      simp at c0 c1 l1
      have HE1 := Lib.hid (below_then HE.out HW.out)
      cases hm : measuresS h
      · have hf : r = false := by rw [← HP0.out]; unfold ctRest; rw [hm]; rfl
        subst hf
        have HM := Lib.hid hm
        clear hm HP HP0 HR
        go_region_with (go_at_call 146; refine (MH.out _ false (below_then HE1.out (Below.refl _ _).drew) HM.out).mono ?_; rintro e y1 ⟨rfl, hy1⟩)
        all_goals go_wp2
        all_goals go_ret
        all_goals exact ⟨rfl, below_then HE1.out (below_d hy1)⟩
      · have HM := Lib.hid hm
        have HV := Lib.hid (HP.out.2.1 (by omega))
        have CX := Lib.hid (PH.out hm); have CY := Lib.hid (PV.out HV.out)
        have hal : ∃ t, alongS v h = t := ⟨_, rfl⟩
        obtain ⟨t, hal⟩ := hal
        have hz := along_cases hal
        have HP3 : Hid ((t && ctRest risesS v mo h 3) = r) := Lib.hid (by rw [← HP0.out, show ctRest risesS v mo h 2 = ((measuresS h && alongS v h) && ctRest risesS v mo h 3) from rfl, hm, hal]; simp)
        generalize firstX v = f1 at *
        generalize lastX v = f2 at *
        generalize firstX h = f3 at *
        generalize lastX h = f4 at *
        clear hm HP HP0 hal
        cases t
        · have hf : r = false := by rw [← HP3.out]; rfl
          subst hf
          clear HP3 HR
          go_region_held3 (fun w' => w'.cell? ⟨B1, 0, none⟩ = some (.slice C l e) ∧ w'.cell? ⟨G, 0, none⟩ = some (.slice A n c) ∧ Below W1.heap.size W1 w')
            (first | assumption | exact mkI (Below.refl _ _).drew ⟨c0, c1⟩ la l1 | exact mkI (below_then (belowI (by assumption)) (by assumption)) ⟨c0, c1⟩ la l1)
            (first | (go_at_call 146; (with_reducible refine (MH.out _ true (below_then HE1.out (belowI (by assumption))) HM.out).mono ?_); rintro e y1 ⟨rfl, hy1⟩; have T1 := Lib.hid (below_then (belowI (W2 := W1) (A := B1) (B := G) (by assumption)) hy1)) | (go_at_call 120; (with_reducible refine (CX.out _ (below_then HE1.out (belowI (by assumption)))).mono ?_); rintro e y2 ⟨rfl, hy2⟩; have T2 := Lib.hid (below_then (belowI (W2 := W1) (A := B1) (B := G) (by assumption)) hy2)) | (go_at_call 120; (with_reducible refine (CY.out _ (below_then HE1.out (belowI (by assumption)))).mono ?_); rintro e y3 ⟨rfl, hy3⟩; have T3 := Lib.hid (below_then (belowI (W2 := W1) (A := B1) (B := G) (by assumption)) hy3)) | fail)
          all_goals go_wp2
          all_goals go_ret
          all_goals exact ⟨rfl, below_then HE1.out T3.out⟩
        · have HP2 : Hid (ctRest risesS v mo h (2 + 1) = r ∧ (1 ≤ 2 + 1 → measuresS v = true) ∧ (3 ≤ 2 + 1 → measuresS h = true)) := Lib.hid ⟨by rw [← HP3.out]; rfl, fun _ => HV.out, fun _ => HM.out⟩
          clear HP3
          go_region_held3 (fun w' => w'.cell? ⟨B1, 0, none⟩ = some (.slice C l e) ∧ w'.cell? ⟨G, 0, none⟩ = some (.slice A n c) ∧ Below W1.heap.size W1 w')
            (first | assumption | exact mkI (Below.refl _ _).drew ⟨c0, c1⟩ la l1 | exact mkI (below_then (belowI (by assumption)) (by assumption)) ⟨c0, c1⟩ la l1)
            (first | (go_at_call 146; (with_reducible refine (MH.out _ true (below_then HE1.out (belowI (by assumption))) HM.out).mono ?_); rintro e y1 ⟨rfl, hy1⟩; have T1 := Lib.hid (below_then (belowI (W2 := W1) (A := B1) (B := G) (by assumption)) hy1)) | (go_at_call 120; (with_reducible refine (CX.out _ (below_then HE1.out (belowI (by assumption)))).mono ?_); rintro e y2 ⟨rfl, hy2⟩; have T2 := Lib.hid (below_then (belowI (W2 := W1) (A := B1) (B := G) (by assumption)) hy2)) | (go_at_call 120; (with_reducible refine (CY.out _ (below_then HE1.out (belowI (by assumption)))).mono ?_); rintro e y3 ⟨rfl, hy3⟩; have T3 := Lib.hid (below_then (belowI (W2 := W1) (A := B1) (B := G) (by assumption)) hy3)) | fail)
          all_goals go_wp2
          all_goals go_roundw
          all_goals try (case rel => exact ⟨2 + 1, by omega, by go_num, HP2, below_then HW.out T3.out⟩)
          all_goals try (case measure => simp [intOf])
    · have HV := Lib.hid (HP.out.2.1 (by omega)); have HH := Lib.hid (HP.out.2.2 (by omega))
      have hr3 : (risesS v && risesS h) = r := HP.out.1
      have O1 := Lib.hid (fun W hW => ordered_rises A n c v W (IV.out W hW) (measures_ok HV.out))
      have O2 := Lib.hid (fun W hW => ordered_rises C l e h W (IH.out W hW) (measures_ok HH.out))
      generalize risesS v = t1 at *
      generalize risesS h = t2 at *
      have HR3 := Lib.hid hr3
      clear hr3 HP HR
      go_wp2_with fail
      refine (O1.out _ (below_then HE.out HB.out)).mono ?_
      rintro e y ⟨rfl, hy⟩
      have HE2 := Lib.hid (below_then (below_then HE.out HB.out) hy)
      clear g0 g2 l0
      have g2 := ((HK.out.on HB.out).on hy _ (.head _)).cell 0
      simp at g2
      clear hy
      cases t1
      · have hf : r = false := by rw [← HR3.out]; rfl
        subst hf
        go_wp2
        go_ret
        exact ⟨rfl, HE2.out⟩
      · have hf : r = t2 := by rw [← HR3.out]; simp
        subst hf
        go_wp2_with fail
        refine (O2.out _ HE2.out).mono ?_
        rintro e z ⟨rfl, hz⟩
        have HE3 := Lib.hid (below_then HE2.out hz)
        clear hz g2
        go_wp2
        go_ret
        exact ⟨rfl, HE3.out⟩
end

section
open Go.RowKit

set_option maxRecDepth 100000 in
set_option maxHeartbeats 8000000 in
theorem srises_any (A : Option Addr) (n c : Nat) (ps : List P3) (w : World) (hp : TabIn w A n ps) (ht : tabOk ps = true) :
    Calls Tryz.prog 117 #[tv A n c] w fun e w' => e = .returned (.bool (risesS ps)) ∧ Below w.heap.size w w' := by
  obtain ⟨hn, hm, hp⟩ := hp
  have h40 := tabOk_len ht
  obtain ⟨b, o, rfl, hb, hc⟩ := hp.block h40.1
  generalize hrr : risesS ps = r
  have HR : Hid (risesS (ps.drop 0) = r) := Lib.hid hrr
  have HE := Lib.hid (below_alloc1 w (.cells #[.slice (some ⟨b, o, none⟩) n c] 26)); have HK := Lib.hid (boxes1' w 26 #[.slice (some ⟨b, o, none⟩) n c])
  have HC := Lib.hid hc; have HN := Lib.hid hn
  have hn1 : 1 ≤ n := by omega
  have hn40 : n ≤ 40 := by omega
  clear hc hn hp ht h40 hm hrr
  go_enter Tryz.func117, Tryz.ntmps117
  go_wp2_with fail
  obtain ⟨W0, hW0⟩ : ∃ W0, w.alloc (.cells #[.slice (some ⟨b, o, none⟩) n c] 26) = W0 := ⟨_, rfl⟩
  rw [hW0] at HE HK ⊢
  clear hW0
  obtain ⟨G, hG⟩ : ∃ G, w.heap.size = G := ⟨_, rfl⟩
  rw [hG] at HK ⊢
  have HG := Lib.hid hG; clear hG
  go_loopw [3] (fun i wr => ∃ k : Nat, k + 1 ≤ n ∧ i = .int .i64 ((k : Int) + 1) ∧ Hid (risesS (ps.drop k) = r) ∧ Below W0.heap.size W0 wr) (fun i _ => n - (intOf i).toNat)
  case atStart => exact ⟨0, by omega, rfl, HR, Below.refl _ _⟩
  case round =>
    obtain ⟨k, hk, rfl, HP, hB⟩ := hrel
    have q0 := (HK.out.on hB _ (.head _)).cell 0
    simp at q0
    by_cases hlt : k + 1 < n
    · obtain ⟨p, hp⟩ : ∃ p, ps[k]? = some p := ⟨_, List.getElem?_eq_getElem (show k < ps.length by rw [← HN.out]; omega)⟩
      obtain ⟨q, hq⟩ : ∃ q, ps[k + 1]? = some q := ⟨_, List.getElem?_eq_getElem (show k + 1 < ps.length by rw [← HN.out]; omega)⟩
      have hEk := below_then HE.out hB
      obtain ⟨c0, c1, c2⟩ := HC.out k p hp
      rw [← hEk.cell (p := ⟨b, o + k * 3 + 1, none⟩) hb] at c1
      rw [← hEk.cell (p := ⟨b, o + k * 3 + 2, none⟩) hb] at c2
      obtain ⟨d0, d1, d2⟩ := HC.out (k + 1) q hq
      rw [← hEk.cell (p := ⟨b, o + (k + 1) * 3 + 1, none⟩) hb] at d1
      rw [← hEk.cell (p := ⟨b, o + (k + 1) * 3 + 2, none⟩) hb] at d2
      have HS := Lib.hid (rises_at hp hq)
      obtain ⟨x, lo, hi⟩ := p
      obtain ⟨y, mo, hj⟩ := q
      dsimp only at c1 c2 d1 d2
      have HB := Lib.hid hB
      clear hp hq hB hEk c0 d0
      have k3 : IntKind.i64.wrap ((k : Int) + 1 - 1) = (k : Int) := by rw [IntWalk.i64_in _ ⟨by omega, by omega⟩]; omega
      have k4 : (0 : Int) ≤ (k : Int) + 1 := by omega
      have k5 : ((k : Int) + 1).toNat = k + 1 := by omega
      have k6 : (k : Int) + 1 < (n : Int) := by omega
      have k7 : (k : Int) < (n : Int) := by omega
      by_cases h1 : mo < lo
      · have hf : r = false := by rw [← HP.out, HS.out, decide_eq_false (by dsimp only; omega)]; rfl
        subst hf
        clear HP HS HR
        have b1 : decide (mo < lo) = true := decide_eq_true h1
        go_wp2_with fail
        go_quiet (fail)
        go_wp2
        go_ret
        exact ⟨rfl, below_then HE.out (below_drewM HB.out _)⟩
      · have b1 : decide (mo < lo) = false := decide_eq_false h1
        by_cases h2 : hj < hi
        · have hf : r = false := by rw [← HP.out, HS.out, decide_eq_true (by dsimp only; omega), decide_eq_false (by dsimp only; omega)]; rfl
          subst hf
          clear HP HS HR
          have b2 : decide (hj < hi) = true := decide_eq_true h2
          go_wp2_with fail
          go_quiet (fail)
          go_wp2
          go_ret
          exact ⟨rfl, below_then HE.out (below_drewM HB.out _)⟩
        · have b2 : decide (hj < hi) = false := decide_eq_false h2
          have HP2 : Hid (risesS (ps.drop (k + 1)) = r) := Lib.hid (by rw [← HP.out, HS.out, decide_eq_true (by dsimp only; omega), decide_eq_true (by dsimp only; omega)]; rfl)
          clear HP HS
          go_wp2_with fail
          go_quiet (fail)
          go_wp2
          go_roundw
          case rel => exact ⟨k + 1, by omega, by go_num, HP2, below_drewM HB.out _⟩
          case measure => simp [intOf]; omega
    · have hf : r = true := by rw [← HP.out, rises_end (by rw [← HN.out]; omega)]
      subst hf
      have HF := Lib.hid (below_then HE.out hB)
      have k6 : ¬ (k : Int) + 1 < (n : Int) := by omega
      clear HP HR hB
      go_wp2
      go_ret
      exact ⟨rfl, HF.out⟩
end

end Go.Proofs.YtmdilbmgopggaaaGreat
