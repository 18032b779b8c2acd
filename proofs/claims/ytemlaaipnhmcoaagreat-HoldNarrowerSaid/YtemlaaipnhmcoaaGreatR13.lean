/- The contract of checkTables (hold), with the closures of CheckHold and CheckTank. Its condition: the tables lie in memory. -/
import Derived.Deep.RegionHeld3
import Derived.Deep.RegionWith
import Derived.Test.YtemlaaipnhmcoaaGreatR12
set_option linter.unusedVariables false
set_option linter.unusedSimpArgs false
set_option linter.constructorNameAsVariable false
namespace Go.Proofs.YtemlaaipnhmcoaaGreat

section
open Go.RowKit
attribute [local go_sem ↓] eqlRange neqRange
theorem mkI {W2 w1 : World} {a b : Value} {A B : Nat} (hb : Below W2.heap.size W2 w1) (h : W2.cell? ⟨A, 0, none⟩ = some a ∧ W2.cell? ⟨B, 0, none⟩ = some b) (h1 : A < W2.heap.size) (h2 : B < W2.heap.size) :
    w1.cell? ⟨A, 0, none⟩ = some a ∧ w1.cell? ⟨B, 0, none⟩ = some b ∧ Below W2.heap.size W2 w1 := ⟨((bcell hb).1 _ _ h1).trans h.1, ((bcell hb).1 _ _ h2).trans h.2, hb⟩
theorem belowI {W2 w0 : World} {a b : Value} {A B : Nat} (h : w0.cell? ⟨A, 0, none⟩ = some a ∧ w0.cell? ⟨B, 0, none⟩ = some b ∧ Below W2.heap.size W2 w0) : Below W2.heap.size W2 w0 := h.2.2
theorem measures_ok {ps : List P3} (h : measuresS ps = true) : tabOk ps = true := by
  unfold measuresS at h
  cases ht : tabOk ps
  · rw [ht] at h; cases h
  · rfl
theorem along_cases {ps qs : List P3} {t : Bool} (h : alongS ps qs = t) : (firstX qs == firstX ps && lastX qs == lastX ps) = t := by
  have e : ∀ a b : Int, (b == a) = decide (a = b) := fun a b => by
    rw [Bool.eq_iff_iff]; simp only [beq_iff_eq, decide_eq_true_eq]; exact ⟨Eq.symm, Eq.symm⟩
  rw [← h, e, e]; rfl
theorem tix0 (A : Option Addr) (n c : Nat) (B : Option Addr) (m d : Nat) (C : Option Addr) (l e : Nat) (w : World) : (Instr.index 162 (.agg #[.slice A n c, .slice B m d, .slice C l e]) (.int .i64 0)).run Tryz.prog w = .ok (tv A n c) w := by kernel_rfl
theorem tix1 (A : Option Addr) (n c : Nat) (B : Option Addr) (m d : Nat) (C : Option Addr) (l e : Nat) (w : World) : (Instr.index 162 (.agg #[.slice A n c, .slice B m d, .slice C l e]) (.int .i64 1)).run Tryz.prog w = .ok (tv B m d) w := by kernel_rfl
theorem tix2 (A : Option Addr) (n c : Nat) (B : Option Addr) (m d : Nat) (C : Option Addr) (l e : Nat) (w : World) : (Instr.index 162 (.agg #[.slice A n c, .slice B m d, .slice C l e]) (.int .i64 2)).run Tryz.prog w = .ok (tv C l e) w := by kernel_rfl
attribute [local go_sem ↓] tix0 tix1 tix2
def ctRest (ord : List P3 → Bool) (v m h : List P3) : Nat → Bool
  | 0 => measuresS v && ((measuresS m && alongS v m) && ((measuresS h && alongS v h) && (ord v && ord h)))
  | 1 => (measuresS m && alongS v m) && ((measuresS h && alongS v h) && (ord v && ord h))
  | 2 => (measuresS h && alongS v h) && (ord v && ord h)
  | _ => ord v && ord h
set_option maxRecDepth 100000 in
set_option maxHeartbeats 8000000 in
theorem checkTables_falls (A : Option Addr) (n c : Nat) (B : Option Addr) (m d : Nat) (C : Option Addr) (l e : Nat) (v mo h : List P3) (w : World) (h1 : TabIn w A n v) (h2 : TabIn w B m mo) (h3 : TabIn w C l h) :
  Calls Tryz.prog 100 #[tv A n c, tv B m d, tv C l e, .func (.func 101) #[] #[]] w fun e w' => e = .returned (.bool (ctRest fallsS v mo h 0)) ∧ Below w.heap.size w w' := by
 generalize hr : ctRest fallsS v mo h 0 = r
 have HR := Lib.hid hr
 have HE := Lib.hid (show Below w.heap.size w (((w.alloc (.cells #[.slice A n c] 33)).alloc (.cells #[.slice B m d] 33)).alloc (.cells #[.slice C l e] 33)) from below_a3 (Below.refl _ _))
 have HK := Lib.hid (boxes3' w 33 33 33 #[.slice A n c] #[.slice B m d] #[.slice C l e])
 have IV : Hid (∀ W, Below w.heap.size w W → TabIn W A n v) := Lib.hid fun W hW => h1.below hW
 have MV : Hid (∀ W t, Below w.heap.size w W → measuresS v = t → Calls Tryz.prog 145 #[tv A n c] W fun e w' => e = .returned (.bool t) ∧ Below W.heap.size W w') := Lib.hid fun W t hW ht => by
  have g := measures_any A n c v W (h1.below hW)
  rw [ht] at g; exact g
 have PV : Hid (measuresS v = true → ∀ W, Below w.heap.size w W → Calls Tryz.prog 77 #[tv A n c] W fun e w' => e = .returned (rv (firstX v) (lastX v)) ∧ Below W.heap.size W w') := Lib.hid fun hq W hW => hplaces_tab A n c v W (h1.below hW) (measures_ok hq)
 have IM : Hid (∀ W, Below w.heap.size w W → TabIn W B m mo) := Lib.hid fun W hW => h2.below hW
 have MM : Hid (∀ W t, Below w.heap.size w W → measuresS mo = t → Calls Tryz.prog 145 #[tv B m d] W fun e w' => e = .returned (.bool t) ∧ Below W.heap.size W w') := Lib.hid fun W t hW ht => by
  have g := measures_any B m d mo W (h2.below hW)
  rw [ht] at g; exact g
 have PM : Hid (measuresS mo = true → ∀ W, Below w.heap.size w W → Calls Tryz.prog 77 #[tv B m d] W fun e w' => e = .returned (rv (firstX mo) (lastX mo)) ∧ Below W.heap.size W w') := Lib.hid fun hq W hW => hplaces_tab B m d mo W (h2.below hW) (measures_ok hq)
 have IH : Hid (∀ W, Below w.heap.size w W → TabIn W C l h) := Lib.hid fun W hW => h3.below hW
 have MH : Hid (∀ W t, Below w.heap.size w W → measuresS h = t → Calls Tryz.prog 145 #[tv C l e] W fun e w' => e = .returned (.bool t) ∧ Below W.heap.size W w') := Lib.hid fun W t hW ht => by
  have g := measures_any C l e h W (h3.below hW)
  rw [ht] at g; exact g
 have PH : Hid (measuresS h = true → ∀ W, Below w.heap.size w W → Calls Tryz.prog 77 #[tv C l e] W fun e w' => e = .returned (rv (firstX h) (lastX h)) ∧ Below W.heap.size W w') := Lib.hid fun hq W hW => hplaces_tab C l e h W (h3.below hW) (measures_ok hq)
 clear h1 h2 h3 hr
 go_enter Tryz.func100, Tryz.ntmps100
 go_wp2_with fail
 obtain ⟨W0, hW0⟩ : ∃ W0, (((w.alloc (.cells #[.slice A n c] 33)).alloc (.cells #[.slice B m d] 33)).alloc (.cells #[.slice C l e] 33)) = W0 := ⟨_, rfl⟩
 rw [hW0] at HE HK ⊢
 clear hW0
 obtain ⟨G, hG⟩ : ∃ G, w.heap.size = G := ⟨_, rfl⟩
 rw [hG] at HK ⊢
 have HG := Lib.hid hG; clear hG
 go_loopw [15] (fun i wr => ∃ k : Nat, k ≤ 3 ∧ i = .int .i64 k ∧ Hid (ctRest fallsS v mo h k = r ∧ (1 ≤ k → measuresS v = true) ∧ (3 ≤ k → measuresS h = true)) ∧ Below W0.heap.size W0 wr) (fun i _ => 3 - (intOf i).toNat)
 case atStart => exact ⟨0, by omega, rfl, Lib.hid ⟨HR.out, by omega, by omega⟩, Below.refl _ _⟩
 case round =>
  obtain ⟨k, hk, rfl, HP, hB⟩ := hrel
  have g0 := (HK.out.on hB _ (.tail _ (.tail _ (.head _)))).cell 0
  have l0 := (HK.out.on hB _ (.tail _ (.tail _ (.head _)))).lt
  have g2 := (HK.out.on hB _ (.head _)).cell 0
  simp at g0 l0 g2
  have HB := Lib.hid hB
  clear hB
  have hkk : k = 0 ∨ k = 1 ∨ k = 2 ∨ k = 3 := by omega
  rcases hkk with rfl | rfl | rfl | rfl
  ·have HP0 := Lib.hid HP.out.1
   have hw := below_alloc1 wr (.cells #[.slice A n c] 33)
   have HW := Lib.hid (below_then HB.out hw)
   have c0 := (Blk.new wr 33 #[.slice A n c]).cell 0
   have la := (Blk.new wr 33 #[.slice A n c]).lt
   have c1 := ((HK.out.on HB.out).on hw _ (.tail _ (.tail _ (.head _)))).cell 0
   have l1 := ((HK.out.on HB.out).on hw _ (.tail _ (.tail _ (.head _)))).lt
   clear hw g0 g2 l0
   go_upto_region 4 with fail
   obtain ⟨B1, hB1⟩ : ∃ B1, wr.heap.size = B1 := ⟨_, rfl⟩
   obtain ⟨W1, hW1⟩ : ∃ W1, wr.alloc (.cells #[.slice A n c] 33) = W1 := ⟨_, rfl⟩
   rw [hW1] at HW c0 c1 la l1 ⊢
   rw [hB1] at c0 la ⊢
   clear hW1 hB1
   simp at c0 c1 l1
   have HE1 := Lib.hid (below_then HE.out HW.out)
   cases hm : measuresS v
   ·have hf : r = false := by rw [← HP0.out]; unfold ctRest; rw [hm]; rfl
    subst hf
    have HM := Lib.hid hm
    clear hm HP HP0 HR
    go_region_with (go_at_call 145; refine (MV.out _ false (below_then HE1.out (Below.refl _ _).drew) HM.out).mono ?_; rintro e y1 ⟨rfl, hy1⟩)
    all_goals go_wp2
    all_goals go_ret
    all_goals exact ⟨rfl, below_then HE1.out (below_d hy1)⟩
   ·have HM := Lib.hid hm
    have HP2 : Hid (ctRest fallsS v mo h (0 + 1) = r ∧ (1 ≤ 0 + 1 → measuresS v = true) ∧ (3 ≤ 0 + 1 → measuresS h = true)) := Lib.hid ⟨by rw [← HP0.out]; show ctRest fallsS v mo h 1 = _; rw [show ctRest fallsS v mo h 0 = (measuresS v && ctRest fallsS v mo h 1) from rfl, hm]; rfl, fun _ => hm, by omega⟩
    have CX := Lib.hid (PV.out hm)
    have z : (firstX v == firstX v && lastX v == lastX v) = true := by simp
    generalize firstX v = f1 at *
    generalize lastX v = f2 at *
    clear hm HP HP0
    go_region_held3 (fun w' => w'.cell? ⟨B1, 0, none⟩ = some (.slice A n c) ∧ w'.cell? ⟨G, 0, none⟩ = some (.slice A n c) ∧ Below W1.heap.size W1 w')
     (first | assumption | exact mkI (Below.refl _ _).drew ⟨c0, c1⟩ la l1 | exact mkI (below_then (belowI (by assumption)) (by assumption)) ⟨c0, c1⟩ la l1)
     (first | (go_at_call 145; (with_reducible refine (MV.out _ true (below_then HE1.out (belowI (by assumption))) HM.out).mono ?_); rintro e y1 ⟨rfl, hy1⟩; have T1 := Lib.hid (below_then (belowI (W2 := W1) (A := B1) (B := G) (by assumption)) hy1)) | (go_at_call 77; (with_reducible refine (CX.out _ (below_then HE1.out (belowI (by assumption)))).mono ?_); rintro e y2 ⟨rfl, hy2⟩; have T2 := Lib.hid (below_then (belowI (W2 := W1) (A := B1) (B := G) (by assumption)) hy2)) | fail)
    all_goals go_wp2
    all_goals go_roundw
    all_goals try (case rel => exact ⟨0 + 1, by omega, by go_num, HP2, below_then HW.out T2.out⟩)
    all_goals try (case measure => simp [intOf])
  ·have HP0 := Lib.hid HP.out.1
   have hw := below_alloc1 wr (.cells #[.slice B m d] 33)
   have HW := Lib.hid (below_then HB.out hw)
   have c0 := (Blk.new wr 33 #[.slice B m d]).cell 0
   have la := (Blk.new wr 33 #[.slice B m d]).lt
   have c1 := ((HK.out.on HB.out).on hw _ (.tail _ (.tail _ (.head _)))).cell 0
   have l1 := ((HK.out.on HB.out).on hw _ (.tail _ (.tail _ (.head _)))).lt
   clear hw g0 g2 l0
   go_upto_region 4 with fail
   obtain ⟨B1, hB1⟩ : ∃ B1, wr.heap.size = B1 := ⟨_, rfl⟩
   obtain ⟨W1, hW1⟩ : ∃ W1, wr.alloc (.cells #[.slice B m d] 33) = W1 := ⟨_, rfl⟩
   rw [hW1] at HW c0 c1 la l1 ⊢
   rw [hB1] at c0 la ⊢
   clear hW1 hB1
   simp at c0 c1 l1
   have HE1 := Lib.hid (below_then HE.out HW.out)
   cases hm : measuresS mo
   ·have hf : r = false := by rw [← HP0.out]; unfold ctRest; rw [hm]; rfl
    subst hf
    have HM := Lib.hid hm
    clear hm HP HP0 HR
    go_region_with (go_at_call 145; refine (MM.out _ false (below_then HE1.out (Below.refl _ _).drew) HM.out).mono ?_; rintro e y1 ⟨rfl, hy1⟩)
    all_goals go_wp2
    all_goals go_ret
    all_goals exact ⟨rfl, below_then HE1.out (below_d hy1)⟩
   ·have HM := Lib.hid hm
    have HV := Lib.hid (HP.out.2.1 (by omega))
    have CX := Lib.hid (PM.out hm); have CY := Lib.hid (PV.out HV.out)
    have hal : ∃ t, alongS v mo = t := ⟨_, rfl⟩
    obtain ⟨t, hal⟩ := hal
    have hz := along_cases hal
    have HP3 : Hid ((t && ctRest fallsS v mo h 2) = r) := Lib.hid (by rw [← HP0.out, show ctRest fallsS v mo h 1 = ((measuresS mo && alongS v mo) && ctRest fallsS v mo h 2) from rfl, hm, hal]; simp)
    generalize firstX v = f1 at *
    generalize lastX v = f2 at *
    generalize firstX mo = f3 at *
    generalize lastX mo = f4 at *
    clear hm HP HP0 hal
    cases t
    ·have hf : r = false := by rw [← HP3.out]; rfl
     subst hf
     clear HP3 HR
     go_region_held3 (fun w' => w'.cell? ⟨B1, 0, none⟩ = some (.slice B m d) ∧ w'.cell? ⟨G, 0, none⟩ = some (.slice A n c) ∧ Below W1.heap.size W1 w')
      (first | assumption | exact mkI (Below.refl _ _).drew ⟨c0, c1⟩ la l1 | exact mkI (below_then (belowI (by assumption)) (by assumption)) ⟨c0, c1⟩ la l1)
      (first | (go_at_call 145; (with_reducible refine (MM.out _ true (below_then HE1.out (belowI (by assumption))) HM.out).mono ?_); rintro e y1 ⟨rfl, hy1⟩; have T1 := Lib.hid (below_then (belowI (W2 := W1) (A := B1) (B := G) (by assumption)) hy1)) | (go_at_call 77; (with_reducible refine (CX.out _ (below_then HE1.out (belowI (by assumption)))).mono ?_); rintro e y2 ⟨rfl, hy2⟩; have T2 := Lib.hid (below_then (belowI (W2 := W1) (A := B1) (B := G) (by assumption)) hy2)) | (go_at_call 77; (with_reducible refine (CY.out _ (below_then HE1.out (belowI (by assumption)))).mono ?_); rintro e y3 ⟨rfl, hy3⟩; have T3 := Lib.hid (below_then (belowI (W2 := W1) (A := B1) (B := G) (by assumption)) hy3)) | fail)
     all_goals go_wp2
     all_goals go_ret
     all_goals exact ⟨rfl, below_then HE1.out T3.out⟩
    ·have HP2 : Hid (ctRest fallsS v mo h (1 + 1) = r ∧ (1 ≤ 1 + 1 → measuresS v = true) ∧ (3 ≤ 1 + 1 → measuresS h = true)) := Lib.hid ⟨by rw [← HP3.out]; rfl, fun _ => HV.out, by omega⟩
     clear HP3
     go_region_held3 (fun w' => w'.cell? ⟨B1, 0, none⟩ = some (.slice B m d) ∧ w'.cell? ⟨G, 0, none⟩ = some (.slice A n c) ∧ Below W1.heap.size W1 w')
      (first | assumption | exact mkI (Below.refl _ _).drew ⟨c0, c1⟩ la l1 | exact mkI (below_then (belowI (by assumption)) (by assumption)) ⟨c0, c1⟩ la l1)
      (first | (go_at_call 145; (with_reducible refine (MM.out _ true (below_then HE1.out (belowI (by assumption))) HM.out).mono ?_); rintro e y1 ⟨rfl, hy1⟩; have T1 := Lib.hid (below_then (belowI (W2 := W1) (A := B1) (B := G) (by assumption)) hy1)) | (go_at_call 77; (with_reducible refine (CX.out _ (below_then HE1.out (belowI (by assumption)))).mono ?_); rintro e y2 ⟨rfl, hy2⟩; have T2 := Lib.hid (below_then (belowI (W2 := W1) (A := B1) (B := G) (by assumption)) hy2)) | (go_at_call 77; (with_reducible refine (CY.out _ (below_then HE1.out (belowI (by assumption)))).mono ?_); rintro e y3 ⟨rfl, hy3⟩; have T3 := Lib.hid (below_then (belowI (W2 := W1) (A := B1) (B := G) (by assumption)) hy3)) | fail)
     all_goals go_wp2
     all_goals go_roundw
     all_goals try (case rel => exact ⟨1 + 1, by omega, by go_num, HP2, below_then HW.out T3.out⟩)
     all_goals try (case measure => simp [intOf])
  ·have HP0 := Lib.hid HP.out.1
   have hw := below_alloc1 wr (.cells #[.slice C l e] 33)
   have HW := Lib.hid (below_then HB.out hw)
   have c0 := (Blk.new wr 33 #[.slice C l e]).cell 0
   have la := (Blk.new wr 33 #[.slice C l e]).lt
   have c1 := ((HK.out.on HB.out).on hw _ (.tail _ (.tail _ (.head _)))).cell 0
   have l1 := ((HK.out.on HB.out).on hw _ (.tail _ (.tail _ (.head _)))).lt
   clear hw g0 g2 l0
   go_upto_region 4 with fail
   obtain ⟨B1, hB1⟩ : ∃ B1, wr.heap.size = B1 := ⟨_, rfl⟩
   obtain ⟨W1, hW1⟩ : ∃ W1, wr.alloc (.cells #[.slice C l e] 33) = W1 := ⟨_, rfl⟩
   rw [hW1] at HW c0 c1 la l1 ⊢
   rw [hB1] at c0 la ⊢
   clear hW1 hB1
   simp at c0 c1 l1
   have HE1 := Lib.hid (below_then HE.out HW.out)
   cases hm : measuresS h
   ·have hf : r = false := by rw [← HP0.out]; unfold ctRest; rw [hm]; rfl
    subst hf
    have HM := Lib.hid hm
    clear hm HP HP0 HR
    go_region_with (go_at_call 145; refine (MH.out _ false (below_then HE1.out (Below.refl _ _).drew) HM.out).mono ?_; rintro e y1 ⟨rfl, hy1⟩)
    all_goals go_wp2
    all_goals go_ret
    all_goals exact ⟨rfl, below_then HE1.out (below_d hy1)⟩
   ·have HM := Lib.hid hm
    have HV := Lib.hid (HP.out.2.1 (by omega))
    have CX := Lib.hid (PH.out hm); have CY := Lib.hid (PV.out HV.out)
    have hal : ∃ t, alongS v h = t := ⟨_, rfl⟩
    obtain ⟨t, hal⟩ := hal
    have hz := along_cases hal
    have HP3 : Hid ((t && ctRest fallsS v mo h 3) = r) := Lib.hid (by rw [← HP0.out, show ctRest fallsS v mo h 2 = ((measuresS h && alongS v h) && ctRest fallsS v mo h 3) from rfl, hm, hal]; simp)
    generalize firstX v = f1 at *
    generalize lastX v = f2 at *
    generalize firstX h = f3 at *
    generalize lastX h = f4 at *
    clear hm HP HP0 hal
    cases t
    ·have hf : r = false := by rw [← HP3.out]; rfl
     subst hf
     clear HP3 HR
     go_region_held3 (fun w' => w'.cell? ⟨B1, 0, none⟩ = some (.slice C l e) ∧ w'.cell? ⟨G, 0, none⟩ = some (.slice A n c) ∧ Below W1.heap.size W1 w')
      (first | assumption | exact mkI (Below.refl _ _).drew ⟨c0, c1⟩ la l1 | exact mkI (below_then (belowI (by assumption)) (by assumption)) ⟨c0, c1⟩ la l1)
      (first | (go_at_call 145; (with_reducible refine (MH.out _ true (below_then HE1.out (belowI (by assumption))) HM.out).mono ?_); rintro e y1 ⟨rfl, hy1⟩; have T1 := Lib.hid (below_then (belowI (W2 := W1) (A := B1) (B := G) (by assumption)) hy1)) | (go_at_call 77; (with_reducible refine (CX.out _ (below_then HE1.out (belowI (by assumption)))).mono ?_); rintro e y2 ⟨rfl, hy2⟩; have T2 := Lib.hid (below_then (belowI (W2 := W1) (A := B1) (B := G) (by assumption)) hy2)) | (go_at_call 77; (with_reducible refine (CY.out _ (below_then HE1.out (belowI (by assumption)))).mono ?_); rintro e y3 ⟨rfl, hy3⟩; have T3 := Lib.hid (below_then (belowI (W2 := W1) (A := B1) (B := G) (by assumption)) hy3)) | fail)
     all_goals go_wp2
     all_goals go_ret
     all_goals exact ⟨rfl, below_then HE1.out T3.out⟩
    ·have HP2 : Hid (ctRest fallsS v mo h (2 + 1) = r ∧ (1 ≤ 2 + 1 → measuresS v = true) ∧ (3 ≤ 2 + 1 → measuresS h = true)) := Lib.hid ⟨by rw [← HP3.out]; rfl, fun _ => HV.out, fun _ => HM.out⟩
     clear HP3
     go_region_held3 (fun w' => w'.cell? ⟨B1, 0, none⟩ = some (.slice C l e) ∧ w'.cell? ⟨G, 0, none⟩ = some (.slice A n c) ∧ Below W1.heap.size W1 w')
      (first | assumption | exact mkI (Below.refl _ _).drew ⟨c0, c1⟩ la l1 | exact mkI (below_then (belowI (by assumption)) (by assumption)) ⟨c0, c1⟩ la l1)
      (first | (go_at_call 145; (with_reducible refine (MH.out _ true (below_then HE1.out (belowI (by assumption))) HM.out).mono ?_); rintro e y1 ⟨rfl, hy1⟩; have T1 := Lib.hid (below_then (belowI (W2 := W1) (A := B1) (B := G) (by assumption)) hy1)) | (go_at_call 77; (with_reducible refine (CX.out _ (below_then HE1.out (belowI (by assumption)))).mono ?_); rintro e y2 ⟨rfl, hy2⟩; have T2 := Lib.hid (below_then (belowI (W2 := W1) (A := B1) (B := G) (by assumption)) hy2)) | (go_at_call 77; (with_reducible refine (CY.out _ (below_then HE1.out (belowI (by assumption)))).mono ?_); rintro e y3 ⟨rfl, hy3⟩; have T3 := Lib.hid (below_then (belowI (W2 := W1) (A := B1) (B := G) (by assumption)) hy3)) | fail)
     all_goals go_wp2
     all_goals go_roundw
     all_goals try (case rel => exact ⟨2 + 1, by omega, by go_num, HP2, below_then HW.out T3.out⟩)
     all_goals try (case measure => simp [intOf])
  ·have HV := Lib.hid (HP.out.2.1 (by omega)); have HH := Lib.hid (HP.out.2.2 (by omega))
   have hr3 : (fallsS v && fallsS h) = r := HP.out.1
   have O1 := Lib.hid (fun W hW => ordered_falls A n c v W (IV.out W hW) (measures_ok HV.out))
   have O2 := Lib.hid (fun W hW => ordered_falls C l e h W (IH.out W hW) (measures_ok HH.out))
   generalize fallsS v = t1 at *
   generalize fallsS h = t2 at *
   have HR3 := Lib.hid hr3
   clear hr3 HP HR
   go_wp2_with fail
   refine (O1.out _ (below_then HE.out HB.out)).mono ?_
   rintro e y ⟨rfl, hy⟩
   have HE2 := Lib.hid (below_then (below_then HE.out HB.out) hy)
   clear g0 g2 l0
   have g2 := ((HK.out.on HB.out).on hy _ (.head _)).cell 0
   simp at g2
   clear hy
   cases t1
   ·have hf : r = false := by rw [← HR3.out]; rfl
    subst hf
    go_wp2
    go_ret
    exact ⟨rfl, HE2.out⟩
   ·have hf : r = t2 := by rw [← HR3.out]; simp
    subst hf
    go_wp2_with fail
    refine (O2.out _ HE2.out).mono ?_
    rintro e z ⟨rfl, hz⟩
    have HE3 := Lib.hid (below_then HE2.out hz)
    clear hz g2
    go_wp2
    go_ret
    exact ⟨rfl, HE3.out⟩
set_option maxRecDepth 100000 in
set_option maxHeartbeats 8000000 in
theorem checkTables_rises (A : Option Addr) (n c : Nat) (B : Option Addr) (m d : Nat) (C : Option Addr) (l e : Nat) (v mo h : List P3) (w : World) (h1 : TabIn w A n v) (h2 : TabIn w B m mo) (h3 : TabIn w C l h) :
  Calls Tryz.prog 100 #[tv A n c, tv B m d, tv C l e, .func (.func 123) #[] #[]] w fun e w' => e = .returned (.bool (ctRest risesS v mo h 0)) ∧ Below w.heap.size w w' := by
 generalize hr : ctRest risesS v mo h 0 = r
 have HR := Lib.hid hr
 have HE := Lib.hid (show Below w.heap.size w (((w.alloc (.cells #[.slice A n c] 33)).alloc (.cells #[.slice B m d] 33)).alloc (.cells #[.slice C l e] 33)) from below_a3 (Below.refl _ _))
 have HK := Lib.hid (boxes3' w 33 33 33 #[.slice A n c] #[.slice B m d] #[.slice C l e])
 have IV : Hid (∀ W, Below w.heap.size w W → TabIn W A n v) := Lib.hid fun W hW => h1.below hW
 have MV : Hid (∀ W t, Below w.heap.size w W → measuresS v = t → Calls Tryz.prog 145 #[tv A n c] W fun e w' => e = .returned (.bool t) ∧ Below W.heap.size W w') := Lib.hid fun W t hW ht => by
  have g := measures_any A n c v W (h1.below hW)
  rw [ht] at g; exact g
 have PV : Hid (measuresS v = true → ∀ W, Below w.heap.size w W → Calls Tryz.prog 77 #[tv A n c] W fun e w' => e = .returned (rv (firstX v) (lastX v)) ∧ Below W.heap.size W w') := Lib.hid fun hq W hW => hplaces_tab A n c v W (h1.below hW) (measures_ok hq)
 have IM : Hid (∀ W, Below w.heap.size w W → TabIn W B m mo) := Lib.hid fun W hW => h2.below hW
 have MM : Hid (∀ W t, Below w.heap.size w W → measuresS mo = t → Calls Tryz.prog 145 #[tv B m d] W fun e w' => e = .returned (.bool t) ∧ Below W.heap.size W w') := Lib.hid fun W t hW ht => by
  have g := measures_any B m d mo W (h2.below hW)
  rw [ht] at g; exact g
 have PM : Hid (measuresS mo = true → ∀ W, Below w.heap.size w W → Calls Tryz.prog 77 #[tv B m d] W fun e w' => e = .returned (rv (firstX mo) (lastX mo)) ∧ Below W.heap.size W w') := Lib.hid fun hq W hW => hplaces_tab B m d mo W (h2.below hW) (measures_ok hq)
 have IH : Hid (∀ W, Below w.heap.size w W → TabIn W C l h) := Lib.hid fun W hW => h3.below hW
 have MH : Hid (∀ W t, Below w.heap.size w W → measuresS h = t → Calls Tryz.prog 145 #[tv C l e] W fun e w' => e = .returned (.bool t) ∧ Below W.heap.size W w') := Lib.hid fun W t hW ht => by
  have g := measures_any C l e h W (h3.below hW)
  rw [ht] at g; exact g
 have PH : Hid (measuresS h = true → ∀ W, Below w.heap.size w W → Calls Tryz.prog 77 #[tv C l e] W fun e w' => e = .returned (rv (firstX h) (lastX h)) ∧ Below W.heap.size W w') := Lib.hid fun hq W hW => hplaces_tab C l e h W (h3.below hW) (measures_ok hq)
 clear h1 h2 h3 hr
 go_enter Tryz.func100, Tryz.ntmps100
 go_wp2_with fail
 obtain ⟨W0, hW0⟩ : ∃ W0, (((w.alloc (.cells #[.slice A n c] 33)).alloc (.cells #[.slice B m d] 33)).alloc (.cells #[.slice C l e] 33)) = W0 := ⟨_, rfl⟩
 rw [hW0] at HE HK ⊢
 clear hW0
 obtain ⟨G, hG⟩ : ∃ G, w.heap.size = G := ⟨_, rfl⟩
 rw [hG] at HK ⊢
 have HG := Lib.hid hG; clear hG
 go_loopw [15] (fun i wr => ∃ k : Nat, k ≤ 3 ∧ i = .int .i64 k ∧ Hid (ctRest risesS v mo h k = r ∧ (1 ≤ k → measuresS v = true) ∧ (3 ≤ k → measuresS h = true)) ∧ Below W0.heap.size W0 wr) (fun i _ => 3 - (intOf i).toNat)
 case atStart => exact ⟨0, by omega, rfl, Lib.hid ⟨HR.out, by omega, by omega⟩, Below.refl _ _⟩
 case round =>
  obtain ⟨k, hk, rfl, HP, hB⟩ := hrel
  have g0 := (HK.out.on hB _ (.tail _ (.tail _ (.head _)))).cell 0
  have l0 := (HK.out.on hB _ (.tail _ (.tail _ (.head _)))).lt
  have g2 := (HK.out.on hB _ (.head _)).cell 0
  simp at g0 l0 g2
  have HB := Lib.hid hB
  clear hB
  have hkk : k = 0 ∨ k = 1 ∨ k = 2 ∨ k = 3 := by omega
  rcases hkk with rfl | rfl | rfl | rfl
  ·have HP0 := Lib.hid HP.out.1
   have hw := below_alloc1 wr (.cells #[.slice A n c] 33)
   have HW := Lib.hid (below_then HB.out hw)
   have c0 := (Blk.new wr 33 #[.slice A n c]).cell 0
   have la := (Blk.new wr 33 #[.slice A n c]).lt
   have c1 := ((HK.out.on HB.out).on hw _ (.tail _ (.tail _ (.head _)))).cell 0
   have l1 := ((HK.out.on HB.out).on hw _ (.tail _ (.tail _ (.head _)))).lt
   clear hw g0 g2 l0
   go_upto_region 4 with fail
   obtain ⟨B1, hB1⟩ : ∃ B1, wr.heap.size = B1 := ⟨_, rfl⟩
   obtain ⟨W1, hW1⟩ : ∃ W1, wr.alloc (.cells #[.slice A n c] 33) = W1 := ⟨_, rfl⟩
   rw [hW1] at HW c0 c1 la l1 ⊢
   rw [hB1] at c0 la ⊢
   clear hW1 hB1
   simp at c0 c1 l1
   have HE1 := Lib.hid (below_then HE.out HW.out)
   cases hm : measuresS v
   ·have hf : r = false := by rw [← HP0.out]; unfold ctRest; rw [hm]; rfl
    subst hf
    have HM := Lib.hid hm
    clear hm HP HP0 HR
    go_region_with (go_at_call 145; refine (MV.out _ false (below_then HE1.out (Below.refl _ _).drew) HM.out).mono ?_; rintro e y1 ⟨rfl, hy1⟩)
    all_goals go_wp2
    all_goals go_ret
    all_goals exact ⟨rfl, below_then HE1.out (below_d hy1)⟩
   ·have HM := Lib.hid hm
    have HP2 : Hid (ctRest risesS v mo h (0 + 1) = r ∧ (1 ≤ 0 + 1 → measuresS v = true) ∧ (3 ≤ 0 + 1 → measuresS h = true)) := Lib.hid ⟨by rw [← HP0.out]; show ctRest risesS v mo h 1 = _; rw [show ctRest risesS v mo h 0 = (measuresS v && ctRest risesS v mo h 1) from rfl, hm]; rfl, fun _ => hm, by omega⟩
    have CX := Lib.hid (PV.out hm)
    have z : (firstX v == firstX v && lastX v == lastX v) = true := by simp
    generalize firstX v = f1 at *
    generalize lastX v = f2 at *
    clear hm HP HP0
    go_region_held3 (fun w' => w'.cell? ⟨B1, 0, none⟩ = some (.slice A n c) ∧ w'.cell? ⟨G, 0, none⟩ = some (.slice A n c) ∧ Below W1.heap.size W1 w')
     (first | assumption | exact mkI (Below.refl _ _).drew ⟨c0, c1⟩ la l1 | exact mkI (below_then (belowI (by assumption)) (by assumption)) ⟨c0, c1⟩ la l1)
     (first | (go_at_call 145; (with_reducible refine (MV.out _ true (below_then HE1.out (belowI (by assumption))) HM.out).mono ?_); rintro e y1 ⟨rfl, hy1⟩; have T1 := Lib.hid (below_then (belowI (W2 := W1) (A := B1) (B := G) (by assumption)) hy1)) | (go_at_call 77; (with_reducible refine (CX.out _ (below_then HE1.out (belowI (by assumption)))).mono ?_); rintro e y2 ⟨rfl, hy2⟩; have T2 := Lib.hid (below_then (belowI (W2 := W1) (A := B1) (B := G) (by assumption)) hy2)) | fail)
    all_goals go_wp2
    all_goals go_roundw
    all_goals try (case rel => exact ⟨0 + 1, by omega, by go_num, HP2, below_then HW.out T2.out⟩)
    all_goals try (case measure => simp [intOf])
  ·have HP0 := Lib.hid HP.out.1
   have hw := below_alloc1 wr (.cells #[.slice B m d] 33)
   have HW := Lib.hid (below_then HB.out hw)
   have c0 := (Blk.new wr 33 #[.slice B m d]).cell 0
   have la := (Blk.new wr 33 #[.slice B m d]).lt
   have c1 := ((HK.out.on HB.out).on hw _ (.tail _ (.tail _ (.head _)))).cell 0
   have l1 := ((HK.out.on HB.out).on hw _ (.tail _ (.tail _ (.head _)))).lt
   clear hw g0 g2 l0
   go_upto_region 4 with fail
   obtain ⟨B1, hB1⟩ : ∃ B1, wr.heap.size = B1 := ⟨_, rfl⟩
   obtain ⟨W1, hW1⟩ : ∃ W1, wr.alloc (.cells #[.slice B m d] 33) = W1 := ⟨_, rfl⟩
   rw [hW1] at HW c0 c1 la l1 ⊢
   rw [hB1] at c0 la ⊢
   clear hW1 hB1
   simp at c0 c1 l1
   have HE1 := Lib.hid (below_then HE.out HW.out)
   cases hm : measuresS mo
   ·have hf : r = false := by rw [← HP0.out]; unfold ctRest; rw [hm]; rfl
    subst hf
    have HM := Lib.hid hm
    clear hm HP HP0 HR
    go_region_with (go_at_call 145; refine (MM.out _ false (below_then HE1.out (Below.refl _ _).drew) HM.out).mono ?_; rintro e y1 ⟨rfl, hy1⟩)
    all_goals go_wp2
    all_goals go_ret
    all_goals exact ⟨rfl, below_then HE1.out (below_d hy1)⟩
   ·have HM := Lib.hid hm
    have HV := Lib.hid (HP.out.2.1 (by omega))
    have CX := Lib.hid (PM.out hm); have CY := Lib.hid (PV.out HV.out)
    have hal : ∃ t, alongS v mo = t := ⟨_, rfl⟩
    obtain ⟨t, hal⟩ := hal
    have hz := along_cases hal
    have HP3 : Hid ((t && ctRest risesS v mo h 2) = r) := Lib.hid (by rw [← HP0.out, show ctRest risesS v mo h 1 = ((measuresS mo && alongS v mo) && ctRest risesS v mo h 2) from rfl, hm, hal]; simp)
    generalize firstX v = f1 at *
    generalize lastX v = f2 at *
    generalize firstX mo = f3 at *
    generalize lastX mo = f4 at *
    clear hm HP HP0 hal
    cases t
    ·have hf : r = false := by rw [← HP3.out]; rfl
     subst hf
     clear HP3 HR
     go_region_held3 (fun w' => w'.cell? ⟨B1, 0, none⟩ = some (.slice B m d) ∧ w'.cell? ⟨G, 0, none⟩ = some (.slice A n c) ∧ Below W1.heap.size W1 w')
      (first | assumption | exact mkI (Below.refl _ _).drew ⟨c0, c1⟩ la l1 | exact mkI (below_then (belowI (by assumption)) (by assumption)) ⟨c0, c1⟩ la l1)
      (first | (go_at_call 145; (with_reducible refine (MM.out _ true (below_then HE1.out (belowI (by assumption))) HM.out).mono ?_); rintro e y1 ⟨rfl, hy1⟩; have T1 := Lib.hid (below_then (belowI (W2 := W1) (A := B1) (B := G) (by assumption)) hy1)) | (go_at_call 77; (with_reducible refine (CX.out _ (below_then HE1.out (belowI (by assumption)))).mono ?_); rintro e y2 ⟨rfl, hy2⟩; have T2 := Lib.hid (below_then (belowI (W2 := W1) (A := B1) (B := G) (by assumption)) hy2)) | (go_at_call 77; (with_reducible refine (CY.out _ (below_then HE1.out (belowI (by assumption)))).mono ?_); rintro e y3 ⟨rfl, hy3⟩; have T3 := Lib.hid (below_then (belowI (W2 := W1) (A := B1) (B := G) (by assumption)) hy3)) | fail)
     all_goals go_wp2
     all_goals go_ret
     all_goals exact ⟨rfl, below_then HE1.out T3.out⟩
    ·have HP2 : Hid (ctRest risesS v mo h (1 + 1) = r ∧ (1 ≤ 1 + 1 → measuresS v = true) ∧ (3 ≤ 1 + 1 → measuresS h = true)) := Lib.hid ⟨by rw [← HP3.out]; rfl, fun _ => HV.out, by omega⟩
     clear HP3
     go_region_held3 (fun w' => w'.cell? ⟨B1, 0, none⟩ = some (.slice B m d) ∧ w'.cell? ⟨G, 0, none⟩ = some (.slice A n c) ∧ Below W1.heap.size W1 w')
      (first | assumption | exact mkI (Below.refl _ _).drew ⟨c0, c1⟩ la l1 | exact mkI (below_then (belowI (by assumption)) (by assumption)) ⟨c0, c1⟩ la l1)
      (first | (go_at_call 145; (with_reducible refine (MM.out _ true (below_then HE1.out (belowI (by assumption))) HM.out).mono ?_); rintro e y1 ⟨rfl, hy1⟩; have T1 := Lib.hid (below_then (belowI (W2 := W1) (A := B1) (B := G) (by assumption)) hy1)) | (go_at_call 77; (with_reducible refine (CX.out _ (below_then HE1.out (belowI (by assumption)))).mono ?_); rintro e y2 ⟨rfl, hy2⟩; have T2 := Lib.hid (below_then (belowI (W2 := W1) (A := B1) (B := G) (by assumption)) hy2)) | (go_at_call 77; (with_reducible refine (CY.out _ (below_then HE1.out (belowI (by assumption)))).mono ?_); rintro e y3 ⟨rfl, hy3⟩; have T3 := Lib.hid (below_then (belowI (W2 := W1) (A := B1) (B := G) (by assumption)) hy3)) | fail)
     all_goals go_wp2
     all_goals go_roundw
     all_goals try (case rel => exact ⟨1 + 1, by omega, by go_num, HP2, below_then HW.out T3.out⟩)
     all_goals try (case measure => simp [intOf])
  ·have HP0 := Lib.hid HP.out.1
   have hw := below_alloc1 wr (.cells #[.slice C l e] 33)
   have HW := Lib.hid (below_then HB.out hw)
   have c0 := (Blk.new wr 33 #[.slice C l e]).cell 0
   have la := (Blk.new wr 33 #[.slice C l e]).lt
   have c1 := ((HK.out.on HB.out).on hw _ (.tail _ (.tail _ (.head _)))).cell 0
   have l1 := ((HK.out.on HB.out).on hw _ (.tail _ (.tail _ (.head _)))).lt
   clear hw g0 g2 l0
   go_upto_region 4 with fail
   obtain ⟨B1, hB1⟩ : ∃ B1, wr.heap.size = B1 := ⟨_, rfl⟩
   obtain ⟨W1, hW1⟩ : ∃ W1, wr.alloc (.cells #[.slice C l e] 33) = W1 := ⟨_, rfl⟩
   rw [hW1] at HW c0 c1 la l1 ⊢
   rw [hB1] at c0 la ⊢
   clear hW1 hB1
   simp at c0 c1 l1
   have HE1 := Lib.hid (below_then HE.out HW.out)
   cases hm : measuresS h
   ·have hf : r = false := by rw [← HP0.out]; unfold ctRest; rw [hm]; rfl
    subst hf
    have HM := Lib.hid hm
    clear hm HP HP0 HR
    go_region_with (go_at_call 145; refine (MH.out _ false (below_then HE1.out (Below.refl _ _).drew) HM.out).mono ?_; rintro e y1 ⟨rfl, hy1⟩)
    all_goals go_wp2
    all_goals go_ret
    all_goals exact ⟨rfl, below_then HE1.out (below_d hy1)⟩
   ·have HM := Lib.hid hm
    have HV := Lib.hid (HP.out.2.1 (by omega))
    have CX := Lib.hid (PH.out hm); have CY := Lib.hid (PV.out HV.out)
    have hal : ∃ t, alongS v h = t := ⟨_, rfl⟩
    obtain ⟨t, hal⟩ := hal
    have hz := along_cases hal
    have HP3 : Hid ((t && ctRest risesS v mo h 3) = r) := Lib.hid (by rw [← HP0.out, show ctRest risesS v mo h 2 = ((measuresS h && alongS v h) && ctRest risesS v mo h 3) from rfl, hm, hal]; simp)
    generalize firstX v = f1 at *
    generalize lastX v = f2 at *
    generalize firstX h = f3 at *
    generalize lastX h = f4 at *
    clear hm HP HP0 hal
    cases t
    ·have hf : r = false := by rw [← HP3.out]; rfl
     subst hf
     clear HP3 HR
     go_region_held3 (fun w' => w'.cell? ⟨B1, 0, none⟩ = some (.slice C l e) ∧ w'.cell? ⟨G, 0, none⟩ = some (.slice A n c) ∧ Below W1.heap.size W1 w')
      (first | assumption | exact mkI (Below.refl _ _).drew ⟨c0, c1⟩ la l1 | exact mkI (below_then (belowI (by assumption)) (by assumption)) ⟨c0, c1⟩ la l1)
      (first | (go_at_call 145; (with_reducible refine (MH.out _ true (below_then HE1.out (belowI (by assumption))) HM.out).mono ?_); rintro e y1 ⟨rfl, hy1⟩; have T1 := Lib.hid (below_then (belowI (W2 := W1) (A := B1) (B := G) (by assumption)) hy1)) | (go_at_call 77; (with_reducible refine (CX.out _ (below_then HE1.out (belowI (by assumption)))).mono ?_); rintro e y2 ⟨rfl, hy2⟩; have T2 := Lib.hid (below_then (belowI (W2 := W1) (A := B1) (B := G) (by assumption)) hy2)) | (go_at_call 77; (with_reducible refine (CY.out _ (below_then HE1.out (belowI (by assumption)))).mono ?_); rintro e y3 ⟨rfl, hy3⟩; have T3 := Lib.hid (below_then (belowI (W2 := W1) (A := B1) (B := G) (by assumption)) hy3)) | fail)
     all_goals go_wp2
     all_goals go_ret
     all_goals exact ⟨rfl, below_then HE1.out T3.out⟩
    ·have HP2 : Hid (ctRest risesS v mo h (2 + 1) = r ∧ (1 ≤ 2 + 1 → measuresS v = true) ∧ (3 ≤ 2 + 1 → measuresS h = true)) := Lib.hid ⟨by rw [← HP3.out]; rfl, fun _ => HV.out, fun _ => HM.out⟩
     clear HP3
     go_region_held3 (fun w' => w'.cell? ⟨B1, 0, none⟩ = some (.slice C l e) ∧ w'.cell? ⟨G, 0, none⟩ = some (.slice A n c) ∧ Below W1.heap.size W1 w')
      (first | assumption | exact mkI (Below.refl _ _).drew ⟨c0, c1⟩ la l1 | exact mkI (below_then (belowI (by assumption)) (by assumption)) ⟨c0, c1⟩ la l1)
      (first | (go_at_call 145; (with_reducible refine (MH.out _ true (below_then HE1.out (belowI (by assumption))) HM.out).mono ?_); rintro e y1 ⟨rfl, hy1⟩; have T1 := Lib.hid (below_then (belowI (W2 := W1) (A := B1) (B := G) (by assumption)) hy1)) | (go_at_call 77; (with_reducible refine (CX.out _ (below_then HE1.out (belowI (by assumption)))).mono ?_); rintro e y2 ⟨rfl, hy2⟩; have T2 := Lib.hid (below_then (belowI (W2 := W1) (A := B1) (B := G) (by assumption)) hy2)) | (go_at_call 77; (with_reducible refine (CY.out _ (below_then HE1.out (belowI (by assumption)))).mono ?_); rintro e y3 ⟨rfl, hy3⟩; have T3 := Lib.hid (below_then (belowI (W2 := W1) (A := B1) (B := G) (by assumption)) hy3)) | fail)
     all_goals go_wp2
     all_goals go_roundw
     all_goals try (case rel => exact ⟨2 + 1, by omega, by go_num, HP2, below_then HW.out T3.out⟩)
     all_goals try (case measure => simp [intOf])
  ·have HV := Lib.hid (HP.out.2.1 (by omega)); have HH := Lib.hid (HP.out.2.2 (by omega))
   have hr3 : (risesS v && risesS h) = r := HP.out.1
   have O1 := Lib.hid (fun W hW => ordered_rises A n c v W (IV.out W hW) (measures_ok HV.out))
   have O2 := Lib.hid (fun W hW => ordered_rises C l e h W (IH.out W hW) (measures_ok HH.out))
   generalize risesS v = t1 at *
   generalize risesS h = t2 at *
   have HR3 := Lib.hid hr3
   clear hr3 HP HR
   go_wp2_with fail
   refine (O1.out _ (below_then HE.out HB.out)).mono ?_
   rintro e y ⟨rfl, hy⟩
   have HE2 := Lib.hid (below_then (below_then HE.out HB.out) hy)
   clear g0 g2 l0
   have g2 := ((HK.out.on HB.out).on hy _ (.head _)).cell 0
   simp at g2
   clear hy
   cases t1
   ·have hf : r = false := by rw [← HR3.out]; rfl
    subst hf
    go_wp2
    go_ret
    exact ⟨rfl, HE2.out⟩
   ·have hf : r = t2 := by rw [← HR3.out]; simp
    subst hf
    go_wp2_with fail
    refine (O2.out _ HE2.out).mono ?_
    rintro e z ⟨rfl, hz⟩
    have HE3 := Lib.hid (below_then HE2.out hz)
    clear hz g2
    go_wp2
    go_ret
    exact ⟨rfl, HE3.out⟩
end

end Go.Proofs.YtemlaaipnhmcoaaGreat
