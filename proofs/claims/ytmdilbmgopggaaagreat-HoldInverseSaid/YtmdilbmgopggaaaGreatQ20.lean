/- The contract of along (the specification of layer 2). Its condition: both tables are valid and lie in memory. -/
import Derived.Test.YtmdilbmgopggaaaGreatQ17
import Derived.Test.YtmdilbmgopggaaaGreatQ19
set_option linter.unusedVariables false
set_option linter.unusedSimpArgs false
set_option linter.constructorNameAsVariable false
namespace Go.Proofs.YtmdilbmgopggaaaGreat

section
open Go.RowKit

set_option maxRecDepth 100000 in
set_option maxHeartbeats 4000000 in
theorem salong_any (A : Option Addr) (n c : Nat) (B : Option Addr) (m d : Nat) (ps qs : List P3) (w : World) (hp : TabIn w A n ps) (hq : TabIn w B m qs) (h1 : tabOk ps = true) (h2 : tabOk qs = true) :
    Calls Tryz.prog 101 #[tv A n c, tv B m d] w fun e w' => e = .returned (.bool (alongS ps qs)) ∧ Below w.heap.size w w' := by
  have HE := Lib.hid (show Below w.heap.size w ((w.alloc (.cells #[.slice A n c] 26)).alloc (.cells #[.slice B m d] 26)) from below_a2 (Below.refl _ _))
  have HK := Lib.hid (boxes2' w 26 26 #[.slice A n c] #[.slice B m d])
  have FP : Hid (∀ W, Below w.heap.size w W → Calls Tryz.prog 76 #[tv A n c] W fun e w' => e = .returned (.int .i64 (firstX ps)) ∧ Below W.heap.size W w') := Lib.hid fun W hW => sFirst_tab A n c ps W (hp.below hW) h1
  have FQ : Hid (∀ W, Below w.heap.size w W → Calls Tryz.prog 76 #[tv B m d] W fun e w' => e = .returned (.int .i64 (firstX qs)) ∧ Below W.heap.size W w') := Lib.hid fun W hW => sFirst_tab B m d qs W (hq.below hW) h2
  have LP : Hid (∀ W, Below w.heap.size w W → Calls Tryz.prog 77 #[tv A n c] W fun e w' => e = .returned (.int .i64 (lastX ps)) ∧ Below W.heap.size W w') := Lib.hid fun W hW => sLast_tab A n c ps W (hp.below hW) h1
  have LQ : Hid (∀ W, Below w.heap.size w W → Calls Tryz.prog 77 #[tv B m d] W fun e w' => e = .returned (.int .i64 (lastX qs)) ∧ Below W.heap.size W w') := Lib.hid fun W hW => sLast_tab B m d qs W (hq.below hW) h2
  have hal : alongS ps qs = (decide (firstX ps = firstX qs) && decide (lastX ps = lastX qs)) := rfl
  rw [hal]
  clear hal
  obtain ⟨R, hR⟩ : ∃ R, (decide (firstX ps = firstX qs) && decide (lastX ps = lastX qs)) = R := ⟨_, rfl⟩
  rw [hR]
  have HR := Lib.hid hR
  clear hR
  generalize firstX ps = f1 at *
  generalize firstX qs = f2 at *
  generalize lastX ps = f3 at *
  generalize lastX qs = f4 at *
  clear hp hq h1 h2
  go_enter Tryz.func101, Tryz.ntmps101
  go_wp2_with fail
  obtain ⟨W1, hW1⟩ : ∃ W1, ((w.alloc (.cells #[.slice A n c] 26)).alloc (.cells #[.slice B m d] 26)) = W1 := ⟨_, rfl⟩
  rw [hW1] at HE HK ⊢
  clear hW1
  obtain ⟨G, hG⟩ : ∃ G, w.heap.size = G := ⟨_, rfl⟩
  rw [hG] at HK ⊢
  have HG := Lib.hid hG; clear hG
  have c0 := (HK.out _ (.tail _ (.head _))).cell 0
  have c1 := (HK.out _ (.head _)).cell 0
  have la := (HK.out _ (.tail _ (.head _))).lt
  have l1 := (HK.out _ (.head _)).lt
  simp at c0 c1
  by_cases he : f1 = f2
  · subst he
    have z1 : (f1 == f1) = true := by simp
    by_cases hl : f3 = f4
    · subst hl
      have hf : R = true := by rw [← HR.out]; simp
      subst hf
      clear HR
      go_region_held3 (fun w' => w'.cell? ⟨G, 0, none⟩ = some (.slice A n c) ∧ w'.cell? ⟨G + 1, 0, none⟩ = some (.slice B m d) ∧ Below W1.heap.size W1 w')
        (first | assumption | exact mkI (Below.refl _ _).drew ⟨c0, c1⟩ la l1 | exact mkI (below_then (belowI (by assumption)) (by assumption)) ⟨c0, c1⟩ la l1)
        (first
          | (go_at_call 76; (with_reducible refine (FP.out _ (below_then HE.out (belowI (by assumption)))).mono ?_); rintro e y1 ⟨rfl, hy1⟩)
          | (go_at_call 76; (with_reducible refine (FQ.out _ (below_then HE.out (belowI (by assumption)))).mono ?_); rintro e y2 ⟨rfl, hy2⟩)
          | (go_at_call 77; (with_reducible refine (LP.out _ (below_then HE.out (belowI (by assumption)))).mono ?_); rintro e y3 ⟨rfl, hy3⟩; have T4 := Lib.hid (below_then (belowI (W2 := W1) (A := G) (B := G + 1) (by assumption)) hy3))
          | (go_at_call 77; (with_reducible refine (LQ.out _ (below_then HE.out (belowI (by assumption)))).mono ?_); rintro e y4 ⟨rfl, hy4⟩; have T4 := Lib.hid (below_then (belowI (W2 := W1) (A := G) (B := G + 1) (by assumption)) hy4))
          | fail)
      all_goals go_wp2
      all_goals go_ret
      all_goals exact ⟨rfl, below_then HE.out T4.out⟩
    · have z2 : (f3 == f4) = false := beq_eq_false_iff_ne.2 hl
      have hf : R = false := by rw [← HR.out]; simp [hl]
      subst hf
      clear hl HR
      go_region_held3 (fun w' => w'.cell? ⟨G, 0, none⟩ = some (.slice A n c) ∧ w'.cell? ⟨G + 1, 0, none⟩ = some (.slice B m d) ∧ Below W1.heap.size W1 w')
        (first | assumption | exact mkI (Below.refl _ _).drew ⟨c0, c1⟩ la l1 | exact mkI (below_then (belowI (by assumption)) (by assumption)) ⟨c0, c1⟩ la l1)
        (first
          | (go_at_call 76; (with_reducible refine (FP.out _ (below_then HE.out (belowI (by assumption)))).mono ?_); rintro e y1 ⟨rfl, hy1⟩)
          | (go_at_call 76; (with_reducible refine (FQ.out _ (below_then HE.out (belowI (by assumption)))).mono ?_); rintro e y2 ⟨rfl, hy2⟩)
          | (go_at_call 77; (with_reducible refine (LP.out _ (below_then HE.out (belowI (by assumption)))).mono ?_); rintro e y3 ⟨rfl, hy3⟩; have T4 := Lib.hid (below_then (belowI (W2 := W1) (A := G) (B := G + 1) (by assumption)) hy3))
          | (go_at_call 77; (with_reducible refine (LQ.out _ (below_then HE.out (belowI (by assumption)))).mono ?_); rintro e y4 ⟨rfl, hy4⟩; have T4 := Lib.hid (below_then (belowI (W2 := W1) (A := G) (B := G + 1) (by assumption)) hy4))
          | fail)
      all_goals go_wp2
      all_goals go_ret
      all_goals exact ⟨rfl, below_then HE.out T4.out⟩
  · have z1 : (f1 == f2) = false := beq_eq_false_iff_ne.2 he
    have hf : R = false := by rw [← HR.out]; simp [he]
    subst hf
    clear he HR
    go_region_with (first
      | (go_at_call 76; (with_reducible refine (FP.out _ (below_then HE.out (Below.refl _ _).drew)).mono ?_); rintro e y1 ⟨rfl, hy1⟩; have T1 := Lib.hid (below_d hy1); have K1 := (HK.out.on T1.out _ (.head _)).cell 0; simp at K1)
      | (go_at_call 76; (with_reducible refine (FQ.out _ (below_then HE.out T1.out)).mono ?_); rintro e y2 ⟨rfl, hy2⟩; have T2 := Lib.hid (below_then T1.out hy2)))
    all_goals go_wp2
    all_goals go_ret
    all_goals exact ⟨rfl, below_then HE.out T2.out⟩
end

end Go.Proofs.YtmdilbmgopggaaaGreat
