/- The contracts of falls and rises (the specification of layer 2). Their condition: the table is valid and lies in memory. -/
import Derived.Test.YtekkiedlajhaiaaGreatQ10
import Derived.Test.YtekkiedlajhaiaaGreatQ12
import Derived.Deep.QuietTactic
import Derived.BigQuiet
import Derived.Test.YtekkiedlajhaiaaGreatQ11
set_option linter.unusedVariables false
set_option linter.unusedSimpArgs false
set_option linter.constructorNameAsVariable false
namespace Go.Proofs.YtekkiedlajhaiaaGreat

section
open Go.RowKit

set_option maxRecDepth 100000 in
set_option maxHeartbeats 4000000 in
theorem salong_any (A : Option Addr) (n c : Nat) (B : Option Addr) (m d : Nat) (ps qs : List P3) (w : World) (hp : TabIn w A n ps) (hq : TabIn w B m qs) (h1 : tabOk ps = true) (h2 : tabOk qs = true) :
  Calls Tryz.prog 159 #[tv A n c, tv B m d] w fun e w' => e = .returned (.bool (alongS ps qs)) ∧ Below w.heap.size w w' := by
 have HE := Lib.hid (show Below w.heap.size w ((w.alloc (.cells #[.slice A n c] 48)).alloc (.cells #[.slice B m d] 48)) from below_a2 (Below.refl _ _))
 have HK := Lib.hid (boxes2' w 48 48 #[.slice A n c] #[.slice B m d])
 have FP : Hid (∀ W, Below w.heap.size w W → Calls Tryz.prog 90 #[tv A n c] W fun e w' => e = .returned (.int .i64 (firstX ps)) ∧ Below W.heap.size W w') := Lib.hid fun W hW => sFirst_tab A n c ps W (hp.below hW) h1
 have FQ : Hid (∀ W, Below w.heap.size w W → Calls Tryz.prog 90 #[tv B m d] W fun e w' => e = .returned (.int .i64 (firstX qs)) ∧ Below W.heap.size W w') := Lib.hid fun W hW => sFirst_tab B m d qs W (hq.below hW) h2
 have LP : Hid (∀ W, Below w.heap.size w W → Calls Tryz.prog 58 #[tv A n c] W fun e w' => e = .returned (.int .i64 (lastX ps)) ∧ Below W.heap.size W w') := Lib.hid fun W hW => sLast_tab A n c ps W (hp.below hW) h1
 have LQ : Hid (∀ W, Below w.heap.size w W → Calls Tryz.prog 58 #[tv B m d] W fun e w' => e = .returned (.int .i64 (lastX qs)) ∧ Below W.heap.size W w') := Lib.hid fun W hW => sLast_tab B m d qs W (hq.below hW) h2
 have hal : alongS ps qs = (decide (firstX ps = firstX qs) && decide (lastX ps = lastX qs)) := rfl
 rw [hal]
 clear hal
 obtain ⟨R, hR⟩ : ∃ R, (decide (firstX ps = firstX qs) && decide (lastX ps = lastX qs)) = R := ⟨_, rfl⟩
 rw [hR]
 have HR := Lib.hid hR
 clear hR
 generalize firstX ps = f1 at *
 generalize firstX qs = f2 at *
 generalize lastX ps = f3 at *
 generalize lastX qs = f4 at *
 clear hp hq h1 h2
 go_enter Tryz.func159, Tryz.ntmps159
 go_wp2_with fail
 obtain ⟨W1, hW1⟩ : ∃ W1, ((w.alloc (.cells #[.slice A n c] 48)).alloc (.cells #[.slice B m d] 48)) = W1 := ⟨_, rfl⟩
 rw [hW1] at HE HK ⊢
 clear hW1
 obtain ⟨G, hG⟩ : ∃ G, w.heap.size = G := ⟨_, rfl⟩
 rw [hG] at HK ⊢
 have HG := Lib.hid hG; clear hG
 have c0 := (HK.out _ (.tail _ (.head _))).cell 0
 have c1 := (HK.out _ (.head _)).cell 0
 have la := (HK.out _ (.tail _ (.head _))).lt
 have l1 := (HK.out _ (.head _)).lt
 simp at c0 c1
 by_cases he : f1 = f2
 ·subst he
  have z1 : (f1 == f1) = true := by simp
  by_cases hl : f3 = f4
  ·subst hl
   have hf : R = true := by rw [← HR.out]; simp
   subst hf
   clear HR
   go_region_held3 (fun w' => w'.cell? ⟨G, 0, none⟩ = some (.slice A n c) ∧ w'.cell? ⟨G + 1, 0, none⟩ = some (.slice B m d) ∧ Below W1.heap.size W1 w')
    (first | assumption | exact mkI (Below.refl _ _).drew ⟨c0, c1⟩ la l1 | exact mkI (below_then (belowI (by assumption)) (by assumption)) ⟨c0, c1⟩ la l1)
    (first
     | (go_at_call 90; (with_reducible refine (FP.out _ (below_then HE.out (belowI (by assumption)))).mono ?_); rintro e y1 ⟨rfl, hy1⟩)
     | (go_at_call 90; (with_reducible refine (FQ.out _ (below_then HE.out (belowI (by assumption)))).mono ?_); rintro e y2 ⟨rfl, hy2⟩)
     | (go_at_call 58; (with_reducible refine (LP.out _ (below_then HE.out (belowI (by assumption)))).mono ?_); rintro e y3 ⟨rfl, hy3⟩; have T4 := Lib.hid (below_then (belowI (W2 := W1) (A := G) (B := G + 1) (by assumption)) hy3))
     | (go_at_call 58; (with_reducible refine (LQ.out _ (below_then HE.out (belowI (by assumption)))).mono ?_); rintro e y4 ⟨rfl, hy4⟩; have T4 := Lib.hid (below_then (belowI (W2 := W1) (A := G) (B := G + 1) (by assumption)) hy4))
     | fail)
   all_goals go_wp2
   all_goals go_ret
   all_goals exact ⟨rfl, below_then HE.out T4.out⟩
  ·have z2 : (f3 == f4) = false := beq_eq_false_iff_ne.2 hl
   have hf : R = false := by rw [← HR.out]; simp [hl]
   subst hf
   clear hl HR
   go_region_held3 (fun w' => w'.cell? ⟨G, 0, none⟩ = some (.slice A n c) ∧ w'.cell? ⟨G + 1, 0, none⟩ = some (.slice B m d) ∧ Below W1.heap.size W1 w')
    (first | assumption | exact mkI (Below.refl _ _).drew ⟨c0, c1⟩ la l1 | exact mkI (below_then (belowI (by assumption)) (by assumption)) ⟨c0, c1⟩ la l1)
    (first
     | (go_at_call 90; (with_reducible refine (FP.out _ (below_then HE.out (belowI (by assumption)))).mono ?_); rintro e y1 ⟨rfl, hy1⟩)
     | (go_at_call 90; (with_reducible refine (FQ.out _ (below_then HE.out (belowI (by assumption)))).mono ?_); rintro e y2 ⟨rfl, hy2⟩)
     | (go_at_call 58; (with_reducible refine (LP.out _ (below_then HE.out (belowI (by assumption)))).mono ?_); rintro e y3 ⟨rfl, hy3⟩; have T4 := Lib.hid (below_then (belowI (W2 := W1) (A := G) (B := G + 1) (by assumption)) hy3))
     | (go_at_call 58; (with_reducible refine (LQ.out _ (below_then HE.out (belowI (by assumption)))).mono ?_); rintro e y4 ⟨rfl, hy4⟩; have T4 := Lib.hid (below_then (belowI (W2 := W1) (A := G) (B := G + 1) (by assumption)) hy4))
     | fail)
   all_goals go_wp2
   all_goals go_ret
   all_goals exact ⟨rfl, below_then HE.out T4.out⟩
 ·have z1 : (f1 == f2) = false := beq_eq_false_iff_ne.2 he
  have hf : R = false := by rw [← HR.out]; simp [he]
  subst hf
  clear he HR
  go_region_with (first
   | (go_at_call 90; (with_reducible refine (FP.out _ (below_then HE.out (Below.refl _ _).drew)).mono ?_); rintro e y1 ⟨rfl, hy1⟩; have T1 := Lib.hid (below_d hy1); have K1 := (HK.out.on T1.out _ (.head _)).cell 0; simp at K1)
   | (go_at_call 90; (with_reducible refine (FQ.out _ (below_then HE.out T1.out)).mono ?_); rintro e y2 ⟨rfl, hy2⟩; have T2 := Lib.hid (below_then T1.out hy2)))
  all_goals go_wp2
  all_goals go_ret
  all_goals exact ⟨rfl, below_then HE.out T2.out⟩
end

section
open Go.RowKit

set_option maxRecDepth 100000 in
set_option maxHeartbeats 8000000 in
theorem sfalls_any (A : Option Addr) (n c : Nat) (ps : List P3) (w : World) (hp : TabIn w A n ps) (ht : tabOk ps = true) :
  Calls Tryz.prog 160 #[tv A n c] w fun e w' => e = .returned (.bool (fallsS ps)) ∧ Below w.heap.size w w' := by
 obtain ⟨hn, hm, hp⟩ := hp
 have h40 := tabOk_len ht
 obtain ⟨b, o, rfl, hb, hc⟩ := hp.block h40.1
 generalize hrr : fallsS ps = r
 have HR : Hid (fallsS (ps.drop 0) = r) := Lib.hid hrr
 have HE := Lib.hid (below_alloc1 w (.cells #[.slice (some ⟨b, o, none⟩) n c] 48)); have HK := Lib.hid (boxes1' w 48 #[.slice (some ⟨b, o, none⟩) n c])
 have HC := Lib.hid hc; have HN := Lib.hid hn
 have hn1 : 1 ≤ n := by omega
 have hn40 : n ≤ 40 := by omega
 clear hc hn hp ht h40 hm hrr
 go_enter Tryz.func160, Tryz.ntmps160
 go_wp2_with fail
 obtain ⟨W0, hW0⟩ : ∃ W0, w.alloc (.cells #[.slice (some ⟨b, o, none⟩) n c] 48) = W0 := ⟨_, rfl⟩
 rw [hW0] at HE HK ⊢
 clear hW0
 obtain ⟨G, hG⟩ : ∃ G, w.heap.size = G := ⟨_, rfl⟩
 rw [hG] at HK ⊢
 have HG := Lib.hid hG; clear hG
 go_loopw [3] (fun i wr => ∃ k : Nat, k + 1 ≤ n ∧ i = .int .i64 ((k : Int) + 1) ∧ Hid (fallsS (ps.drop k) = r) ∧ Below W0.heap.size W0 wr) (fun i _ => n - (intOf i).toNat)
 case atStart => exact ⟨0, by omega, rfl, HR, Below.refl _ _⟩
 case round =>
  obtain ⟨k, hk, rfl, HP, hB⟩ := hrel
  have q0 := (HK.out.on hB _ (.head _)).cell 0
  simp at q0
  by_cases hlt : k + 1 < n
  ·obtain ⟨p, hp⟩ : ∃ p, ps[k]? = some p := ⟨_, List.getElem?_eq_getElem (show k < ps.length by rw [← HN.out]; omega)⟩
   obtain ⟨q, hq⟩ : ∃ q, ps[k + 1]? = some q := ⟨_, List.getElem?_eq_getElem (show k + 1 < ps.length by rw [← HN.out]; omega)⟩
   have hEk := below_then HE.out hB
   obtain ⟨c0, c1, c2⟩ := HC.out k p hp
   rw [← hEk.cell (p := ⟨b, o + k * 3 + 1, none⟩) hb] at c1
   rw [← hEk.cell (p := ⟨b, o + k * 3 + 2, none⟩) hb] at c2
   obtain ⟨d0, d1, d2⟩ := HC.out (k + 1) q hq
   rw [← hEk.cell (p := ⟨b, o + (k + 1) * 3 + 1, none⟩) hb] at d1
   rw [← hEk.cell (p := ⟨b, o + (k + 1) * 3 + 2, none⟩) hb] at d2
   have HS := Lib.hid (falls_at hp hq)
   obtain ⟨x, lo, hi⟩ := p
   obtain ⟨y, mo, hj⟩ := q
   dsimp only at c1 c2 d1 d2
   have HB := Lib.hid hB
   clear hp hq hB hEk c0 d0
   have k3 : IntKind.i64.wrap ((k : Int) + 1 - 1) = (k : Int) := by rw [IntWalk.i64_in _ ⟨by omega, by omega⟩]; omega
   have k4 : (0 : Int) ≤ (k : Int) + 1 := by omega
   have k5 : ((k : Int) + 1).toNat = k + 1 := by omega
   have k6 : (k : Int) + 1 < (n : Int) := by omega
   have k7 : (k : Int) < (n : Int) := by omega
   by_cases h1 : lo < mo
   ·have hf : r = false := by rw [← HP.out, HS.out, decide_eq_false (by dsimp only; omega)]; rfl
    subst hf
    clear HP HS HR
    have b1 : decide (lo < mo) = true := decide_eq_true h1
    go_wp2_with fail
    go_quiet (fail)
    go_wp2
    go_ret
    exact ⟨rfl, below_then HE.out (below_drewM HB.out _)⟩
   ·have b1 : decide (lo < mo) = false := decide_eq_false h1
    by_cases h2 : hi < hj
    ·have hf : r = false := by rw [← HP.out, HS.out, decide_eq_true (by dsimp only; omega), decide_eq_false (by dsimp only; omega)]; rfl
     subst hf
     clear HP HS HR
     have b2 : decide (hi < hj) = true := decide_eq_true h2
     go_wp2_with fail
     go_quiet (fail)
     go_wp2
     go_ret
     exact ⟨rfl, below_then HE.out (below_drewM HB.out _)⟩
    ·have b2 : decide (hi < hj) = false := decide_eq_false h2
     have HP2 : Hid (fallsS (ps.drop (k + 1)) = r) := Lib.hid (by rw [← HP.out, HS.out, decide_eq_true (by dsimp only; omega), decide_eq_true (by dsimp only; omega)]; rfl)
     clear HP HS
     go_wp2_with fail
     go_quiet (fail)
     go_wp2
     go_roundw
     case rel => exact ⟨k + 1, by omega, by go_num, HP2, below_drewM HB.out _⟩
     case measure => simp [intOf]; omega
  ·have hf : r = true := by rw [← HP.out, falls_end (by rw [← HN.out]; omega)]
   subst hf
   have HF := Lib.hid (below_then HE.out hB)
   have k6 : ¬ (k : Int) + 1 < (n : Int) := by omega
   clear HP HR hB
   go_wp2
   go_ret
   exact ⟨rfl, HF.out⟩
set_option maxRecDepth 100000 in
set_option maxHeartbeats 8000000 in
theorem srises_any (A : Option Addr) (n c : Nat) (ps : List P3) (w : World) (hp : TabIn w A n ps) (ht : tabOk ps = true) :
  Calls Tryz.prog 165 #[tv A n c] w fun e w' => e = .returned (.bool (risesS ps)) ∧ Below w.heap.size w w' := by
 obtain ⟨hn, hm, hp⟩ := hp
 have h40 := tabOk_len ht
 obtain ⟨b, o, rfl, hb, hc⟩ := hp.block h40.1
 generalize hrr : risesS ps = r
 have HR : Hid (risesS (ps.drop 0) = r) := Lib.hid hrr
 have HE := Lib.hid (below_alloc1 w (.cells #[.slice (some ⟨b, o, none⟩) n c] 48)); have HK := Lib.hid (boxes1' w 48 #[.slice (some ⟨b, o, none⟩) n c])
 have HC := Lib.hid hc; have HN := Lib.hid hn
 have hn1 : 1 ≤ n := by omega
 have hn40 : n ≤ 40 := by omega
 clear hc hn hp ht h40 hm hrr
 go_enter Tryz.func165, Tryz.ntmps165
 go_wp2_with fail
 obtain ⟨W0, hW0⟩ : ∃ W0, w.alloc (.cells #[.slice (some ⟨b, o, none⟩) n c] 48) = W0 := ⟨_, rfl⟩
 rw [hW0] at HE HK ⊢
 clear hW0
 obtain ⟨G, hG⟩ : ∃ G, w.heap.size = G := ⟨_, rfl⟩
 rw [hG] at HK ⊢
 have HG := Lib.hid hG; clear hG
 go_loopw [3] (fun i wr => ∃ k : Nat, k + 1 ≤ n ∧ i = .int .i64 ((k : Int) + 1) ∧ Hid (risesS (ps.drop k) = r) ∧ Below W0.heap.size W0 wr) (fun i _ => n - (intOf i).toNat)
 case atStart => exact ⟨0, by omega, rfl, HR, Below.refl _ _⟩
 case round =>
  obtain ⟨k, hk, rfl, HP, hB⟩ := hrel
  have q0 := (HK.out.on hB _ (.head _)).cell 0
  simp at q0
  by_cases hlt : k + 1 < n
  ·obtain ⟨p, hp⟩ : ∃ p, ps[k]? = some p := ⟨_, List.getElem?_eq_getElem (show k < ps.length by rw [← HN.out]; omega)⟩
   obtain ⟨q, hq⟩ : ∃ q, ps[k + 1]? = some q := ⟨_, List.getElem?_eq_getElem (show k + 1 < ps.length by rw [← HN.out]; omega)⟩
   have hEk := below_then HE.out hB
   obtain ⟨c0, c1, c2⟩ := HC.out k p hp
   rw [← hEk.cell (p := ⟨b, o + k * 3 + 1, none⟩) hb] at c1
   rw [← hEk.cell (p := ⟨b, o + k * 3 + 2, none⟩) hb] at c2
   obtain ⟨d0, d1, d2⟩ := HC.out (k + 1) q hq
   rw [← hEk.cell (p := ⟨b, o + (k + 1) * 3 + 1, none⟩) hb] at d1
   rw [← hEk.cell (p := ⟨b, o + (k + 1) * 3 + 2, none⟩) hb] at d2
   have HS := Lib.hid (rises_at hp hq)
   obtain ⟨x, lo, hi⟩ := p
   obtain ⟨y, mo, hj⟩ := q
   dsimp only at c1 c2 d1 d2
   have HB := Lib.hid hB
   clear hp hq hB hEk c0 d0
   have k3 : IntKind.i64.wrap ((k : Int) + 1 - 1) = (k : Int) := by rw [IntWalk.i64_in _ ⟨by omega, by omega⟩]; omega
   have k4 : (0 : Int) ≤ (k : Int) + 1 := by omega
   have k5 : ((k : Int) + 1).toNat = k + 1 := by omega
   have k6 : (k : Int) + 1 < (n : Int) := by omega
   have k7 : (k : Int) < (n : Int) := by omega
   by_cases h1 : mo < lo
   ·have hf : r = false := by rw [← HP.out, HS.out, decide_eq_false (by dsimp only; omega)]; rfl
    subst hf
    clear HP HS HR
    have b1 : decide (mo < lo) = true := decide_eq_true h1
    go_wp2_with fail
    go_quiet (fail)
    go_wp2
    go_ret
    exact ⟨rfl, below_then HE.out (below_drewM HB.out _)⟩
   ·have b1 : decide (mo < lo) = false := decide_eq_false h1
    by_cases h2 : hj < hi
    ·have hf : r = false := by rw [← HP.out, HS.out, decide_eq_true (by dsimp only; omega), decide_eq_false (by dsimp only; omega)]; rfl
     subst hf
     clear HP HS HR
     have b2 : decide (hj < hi) = true := decide_eq_true h2
     go_wp2_with fail
     go_quiet (fail)
     go_wp2
     go_ret
     exact ⟨rfl, below_then HE.out (below_drewM HB.out _)⟩
    ·have b2 : decide (hj < hi) = false := decide_eq_false h2
     have HP2 : Hid (risesS (ps.drop (k + 1)) = r) := Lib.hid (by rw [← HP.out, HS.out, decide_eq_true (by dsimp only; omega), decide_eq_true (by dsimp only; omega)]; rfl)
     clear HP HS
     go_wp2_with fail
     go_quiet (fail)
     go_wp2
     go_roundw
     case rel => exact ⟨k + 1, by omega, by go_num, HP2, below_drewM HB.out _⟩
     case measure => simp [intOf]; omega
  ·have hf : r = true := by rw [← HP.out, rises_end (by rw [← HN.out]; omega)]
   subst hf
   have HF := Lib.hid (below_then HE.out hB)
   have k6 : ¬ (k : Int) + 1 < (n : Int) := by omega
   clear HP HR hB
   go_wp2
   go_ret
   exact ⟨rfl, HF.out⟩
end

end Go.Proofs.YtekkiedlajhaiaaGreat
