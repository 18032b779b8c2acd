/- Arguments opened: a hold, a fill. No conditions. -/
import Derived.Test.YtekkiedlajhaiaaGreatQ14
import Derived.Test.YtekkiedlajhaiaaGreatQ00
import Derived.Test.YtekkiedlajhaiaaGreatQ07
import Derived.Test.YtekkiedlajhaiaaGreatQ98
set_option linter.unusedVariables false
set_option linter.unusedSimpArgs false
set_option linter.constructorNameAsVariable false
namespace Go.Proofs.YtekkiedlajhaiaaGreat

section
open Go.RowKit
attribute [local go_sem ↓] eqlRange neqRange
theorem mkP {W2 w1 : World} {a b c : Value} {A B : Nat} (hb : Below W2.heap.size W2 w1) (h : W2.cell? ⟨A, 0, none⟩ = some a ∧ W2.cell? ⟨B, 0, none⟩ = some b ∧ W2.cell? ⟨B, 1, none⟩ = some c) (h1 : A < W2.heap.size) (h2 : B < W2.heap.size) :
    w1.cell? ⟨A, 0, none⟩ = some a ∧ w1.cell? ⟨B, 0, none⟩ = some b ∧ w1.cell? ⟨B, 1, none⟩ = some c ∧ Below W2.heap.size W2 w1 := ⟨((bcell hb).1 _ _ h1).trans h.1, ((bcell hb).1 _ _ h2).trans h.2.1, ((bcell hb).1 _ _ h2).trans h.2.2, hb⟩
theorem belowP {W2 w0 : World} {a b c : Value} {A B : Nat} (h : w0.cell? ⟨A, 0, none⟩ = some a ∧ w0.cell? ⟨B, 0, none⟩ = some b ∧ w0.cell? ⟨B, 1, none⟩ = some c ∧ Below W2.heap.size W2 w0) : Below W2.heap.size W2 w0 := h.2.2.2

set_option maxRecDepth 100000 in
set_option maxHeartbeats 8000000 in
theorem splaces_to (A : Option Addr) (n c : Nat) (ps : List P3) (x y : Int) (t : Bool) (w : World) (hp : TabIn w A n ps) (h : tabOk ps = true) (ht : inB x y (firstX ps) (lastX ps) = t) :
  Calls Tryz.prog 118 #[tv A n c, rv x y] w fun e w' => e = .returned (.bool t) ∧ Below w.heap.size w w' := by
 have HE := Lib.hid (show Below w.heap.size w ((w.alloc (.cells #[.slice A n c] 48)).alloc (.cells #[.int .i64 x, .int .i64 y] 30)) from below_a2 (Below.refl _ _))
 have HK := Lib.hid (boxes2' w 48 30 #[.slice A n c] #[.int .i64 x, .int .i64 y])
 have FP : Hid (∀ W, Below w.heap.size w W → Calls Tryz.prog 90 #[tv A n c] W fun e w' => e = .returned (.int .i64 (firstX ps)) ∧ Below W.heap.size W w') := Lib.hid fun W hW => sFirst_tab A n c ps W (hp.below hW) h
 have LP : Hid (∀ W, Below w.heap.size w W → Calls Tryz.prog 58 #[tv A n c] W fun e w' => e = .returned (.int .i64 (lastX ps)) ∧ Below W.heap.size W w') := Lib.hid fun W hW => sLast_tab A n c ps W (hp.below hW) h
 generalize firstX ps = f at *
 generalize lastX ps = g at *
 have hx := inB_cases ht
 clear hp h ht
 go_enter Tryz.func118, Tryz.ntmps118
 go_wp2_with fail
 obtain ⟨W1, hW1⟩ : ∃ W1, ((w.alloc (.cells #[.slice A n c] 48)).alloc (.cells #[.int .i64 x, .int .i64 y] 30)) = W1 := ⟨_, rfl⟩
 rw [hW1] at HE HK ⊢
 clear hW1
 obtain ⟨G, hG⟩ : ∃ G, w.heap.size = G := ⟨_, rfl⟩
 rw [hG] at HK ⊢
 have HG := Lib.hid hG; clear hG
 have c0 := (HK.out _ (.tail _ (.head _))).cell 0
 have c1 := (HK.out _ (.head _)).cell 0
 have c2 := (HK.out _ (.head _)).cell 1
 have la := (HK.out _ (.tail _ (.head _))).lt
 have l1 := (HK.out _ (.head _)).lt
 simp at c0 c1 c2
 rcases hx with ⟨h1, rfl⟩ | ⟨h1, h2, rfl⟩ | ⟨h1, h2, h3, rfl⟩ | ⟨h1, h2, h3, rfl⟩
 ·have t1 : decide (f ≤ x) = false := decide_eq_false (by omega)
  refine wp_region_held_drew (S := (fun w' => w'.cell? ⟨G, 0, none⟩ = some (.slice A n c) ∧ w'.cell? ⟨G + 1, 0, none⟩ = some (.int .i64 x) ∧ w'.cell? ⟨G + 1, 1, none⟩ = some (.int .i64 y) ∧ Below W1.heap.size W1 w')) (by kernel_rfl) ?_ (fun hHeld => ?_)
  ·exact mkP (Below.refl _ _).drew ⟨c0, c1, c2⟩ la l1
  refine wpAnyH_take (i := 0) (v := ?_) rfl (by kernel_rfl) (by kernel_rfl) (by kernel_rfl) (fun _ _ _ h => h) (Or.inl ⟨by kernel_rfl, ?_⟩) hHeld ?_
  rotate_left
  ·intro w hSw; (try dsimp only at hSw); go_simp; try with_reducible rfl
  change wpAnyH _ _ _ _ _ _ _ (Act.put _ (some 5) _) _
  try simp only [Act.put, uA, uZ, uS]
  refine wpAnyH_take (i := 2) (v := ?_) rfl (by kernel_rfl) (by kernel_rfl) (by kernel_rfl) (fun _ _ _ h => h) (Or.inl ⟨by kernel_rfl, ?_⟩) hHeld ?_
  rotate_left
  ·intro w hSw; (try dsimp only at hSw); go_simp; try with_reducible rfl
  change wpAnyH _ _ _ _ _ _ _ (Act.put _ (some 7) _) _
  try simp only [Act.put, uA, uZ, uS]
  refine wpAnyH_take (i := 3) (v := ?_) rfl (by kernel_rfl) (by kernel_rfl) (by kernel_rfl) (fun _ _ _ h => h) (Or.inl ⟨by kernel_rfl, ?_⟩) hHeld ?_
  rotate_left
  ·intro w hSw; (try dsimp only at hSw); go_simp; try with_reducible rfl
  change wpAnyH _ _ _ _ _ _ _ (Act.put _ (some 8) _) _
  try simp only [Act.put, uA, uZ, uS]
  refine wpAnyH_ready (rs := [1]) (by kernel_rfl) (by simp) ?_
  refine AllReadyH.cons rfl (fun K hK => ?_) AllReadyH.nil
  go_simp
  (with_reducible refine (FP.out _ (below_then HE.out (belowP hHeld))).mono ?_)
  rintro e v1 ⟨rfl, hb1⟩
  refine hK.out _ _ (mkP (below_then (belowP hHeld) hb1) ⟨c0, c1, c2⟩ la l1) (fun hHeld2 => ?_)
  try simp only [Act.put, uA, uZ, uS]
  clear hK K hHeld
  have hHeld := hHeld2
  clear hHeld2
  refine tK 9 (i := 4) (v := .bool false) rfl rfl (by kernel_rfl) ?_ hHeld ?_
  ·intro w hSw; (try dsimp only at hSw); go_simp; try with_reducible rfl
  simp only [uZ, uS]
  refine tK 10 (i := 5) (v := .bool false) rfl rfl (by kernel_rfl) ?_ hHeld ?_
  ·intro w hSw; (try dsimp only at hSw); go_simp; try with_reducible rfl
  simp only [uZ, uS]
  refine wpAnyH_take (i := 6) (v := undef) rfl (by kernel_rfl) (by kernel_rfl) (by kernel_rfl) (fun _ _ _ h => h) (Or.inr ⟨by kernel_rfl, rfl⟩) hHeld ?_
  change wpAnyH _ _ _ _ _ _ _ (Act.put _ (some 11) _) _
  try simp only [Act.put, uA, uZ, uS]
  refine wpAnyH_take (i := 7) (v := undef) rfl (by kernel_rfl) (by kernel_rfl) (by kernel_rfl) (fun _ _ _ h => h) (Or.inr ⟨by kernel_rfl, rfl⟩) hHeld ?_
  change wpAnyH _ _ _ _ _ _ _ (Act.put _ (some 12) _) _
  try simp only [Act.put, uA, uZ, uS]
  refine wpAnyH_take (i := 8) (v := undef) rfl (by kernel_rfl) (by kernel_rfl) (by kernel_rfl) (fun _ _ _ h => h) (Or.inr ⟨by kernel_rfl, rfl⟩) hHeld ?_
  change wpAnyH _ _ _ _ _ _ _ (Act.put _ (some 13) _) _
  try simp only [Act.put, uA, uZ, uS]
  refine wpAnyH_take (i := 9) (v := undef) rfl (by kernel_rfl) (by kernel_rfl) (by kernel_rfl) (fun _ _ _ h => h) (Or.inr ⟨by kernel_rfl, rfl⟩) hHeld ?_
  change wpAnyH _ _ _ _ _ _ _ (Act.put _ (some 14) _) _
  try simp only [Act.put, uA, uZ, uS]
  refine wpAnyH_take (i := 10) (v := undef) rfl (by kernel_rfl) (by kernel_rfl) (by kernel_rfl) (fun _ _ _ h => h) (Or.inr ⟨by kernel_rfl, rfl⟩) hHeld ?_
  change wpAnyH _ _ _ _ _ _ _ (Act.put _ (some 15) _) _
  try simp only [Act.put, uA, uZ, uS]
  refine tK 16 (i := 11) (v := .bool false) rfl rfl (by kernel_rfl) ?_ hHeld ?_
  ·intro w hSw; (try dsimp only at hSw); go_simp; try with_reducible rfl
  simp only [uZ, uS]
  refine tK 17 (i := 12) (v := .bool false) rfl rfl (by kernel_rfl) ?_ hHeld ?_
  ·intro w hSw; (try dsimp only at hSw); go_simp; try with_reducible rfl
  simp only [uZ, uS]
  refine wpAnyH_take (i := 13) (v := undef) rfl (by kernel_rfl) (by kernel_rfl) (by kernel_rfl) (fun _ _ _ h => h) (Or.inr ⟨by kernel_rfl, rfl⟩) hHeld ?_
  change wpAnyH _ _ _ _ _ _ _ (Act.put _ (some 18) _) _
  try simp only [Act.put, uA, uZ, uS]
  refine wpAnyH_take (i := 14) (v := undef) rfl (by kernel_rfl) (by kernel_rfl) (by kernel_rfl) (fun _ _ _ h => h) (Or.inr ⟨by kernel_rfl, rfl⟩) hHeld ?_
  change wpAnyH _ _ _ _ _ _ _ (Act.put _ (some 19) _) _
  try simp only [Act.put, uA, uZ, uS]
  refine wpAnyH_take (i := 15) (v := undef) rfl (by kernel_rfl) (by kernel_rfl) (by kernel_rfl) (fun _ _ _ h => h) (Or.inr ⟨by kernel_rfl, rfl⟩) hHeld ?_
  change wpAnyH _ _ _ _ _ _ _ (Act.put _ (some 20) _) _
  try simp only [Act.put, uA, uZ, uS]
  refine wpAnyH_take (i := 16) (v := undef) rfl (by kernel_rfl) (by kernel_rfl) (by kernel_rfl) (fun _ _ _ h => h) (Or.inr ⟨by kernel_rfl, rfl⟩) hHeld ?_
  change wpAnyH _ _ _ _ _ _ _ (Act.put _ (some 21) _) _
  try simp only [Act.put, uA, uZ, uS]
  refine wpAnyH_take (i := 17) (v := undef) rfl (by kernel_rfl) (by kernel_rfl) (by kernel_rfl) (fun _ _ _ h => h) (Or.inr ⟨by kernel_rfl, rfl⟩) hHeld ?_
  change wpAnyH _ _ _ _ _ _ _ (Act.put _ (some 22) _) _
  try simp only [Act.put, uA, uZ, uS]
  refine tK 23 (i := 18) (v := .bool false) rfl rfl (by kernel_rfl) ?_ hHeld ?_
  ·intro w hSw; (try dsimp only at hSw); go_simp; try with_reducible rfl
  simp only [uZ, uS]
  refine tK 4 (i := 19) (v := .bool false) rfl rfl (by kernel_rfl) ?_ hHeld ?_
  ·intro w hSw; (try dsimp only at hSw); go_simp; try with_reducible rfl
  simp only [uZ, uS]
  refine wpAnyH_done (by kernel_rfl) ?_ _
  have T4 := Lib.hid (below_then HE.out (belowP hHeld))
  clear hHeld hb1 c0 c1 c2
  go_wp2
  go_ret
  exact ⟨rfl, T4.out⟩
 ·have t1 : decide (f ≤ x) = true := decide_eq_true (by omega)
  have t2 : decide (x ≤ y) = false := decide_eq_false (by omega)
  refine wp_region_held_drew (S := (fun w' => w'.cell? ⟨G, 0, none⟩ = some (.slice A n c) ∧ w'.cell? ⟨G + 1, 0, none⟩ = some (.int .i64 x) ∧ w'.cell? ⟨G + 1, 1, none⟩ = some (.int .i64 y) ∧ Below W1.heap.size W1 w')) (by kernel_rfl) ?_ (fun hHeld => ?_)
  ·exact mkP (Below.refl _ _).drew ⟨c0, c1, c2⟩ la l1
  refine wpAnyH_take (i := 0) (v := ?_) rfl (by kernel_rfl) (by kernel_rfl) (by kernel_rfl) (fun _ _ _ h => h) (Or.inl ⟨by kernel_rfl, ?_⟩) hHeld ?_
  rotate_left
  ·intro w hSw; (try dsimp only at hSw); go_simp; try with_reducible rfl
  change wpAnyH _ _ _ _ _ _ _ (Act.put _ (some 5) _) _
  try simp only [Act.put, uA, uZ, uS]
  refine wpAnyH_take (i := 2) (v := ?_) rfl (by kernel_rfl) (by kernel_rfl) (by kernel_rfl) (fun _ _ _ h => h) (Or.inl ⟨by kernel_rfl, ?_⟩) hHeld ?_
  rotate_left
  ·intro w hSw; (try dsimp only at hSw); go_simp; try with_reducible rfl
  change wpAnyH _ _ _ _ _ _ _ (Act.put _ (some 7) _) _
  try simp only [Act.put, uA, uZ, uS]
  refine wpAnyH_take (i := 3) (v := ?_) rfl (by kernel_rfl) (by kernel_rfl) (by kernel_rfl) (fun _ _ _ h => h) (Or.inl ⟨by kernel_rfl, ?_⟩) hHeld ?_
  rotate_left
  ·intro w hSw; (try dsimp only at hSw); go_simp; try with_reducible rfl
  change wpAnyH _ _ _ _ _ _ _ (Act.put _ (some 8) _) _
  try simp only [Act.put, uA, uZ, uS]
  refine wpAnyH_ready (rs := [1]) (by kernel_rfl) (by simp) ?_
  refine AllReadyH.cons rfl (fun K hK => ?_) AllReadyH.nil
  go_simp
  (with_reducible refine (FP.out _ (below_then HE.out (belowP hHeld))).mono ?_)
  rintro e v1 ⟨rfl, hb1⟩
  refine hK.out _ _ (mkP (below_then (belowP hHeld) hb1) ⟨c0, c1, c2⟩ la l1) (fun hHeld2 => ?_)
  try simp only [Act.put, uA, uZ, uS]
  clear hK K hHeld
  have hHeld := hHeld2
  clear hHeld2
  refine tK 9 (i := 4) (v := .bool true) rfl rfl (by kernel_rfl) ?_ hHeld ?_
  ·intro w hSw; (try dsimp only at hSw); go_simp; try with_reducible rfl
  simp only [uZ, uS]
  refine tK 10 (i := 5) (v := .bool true) rfl rfl (by kernel_rfl) ?_ hHeld ?_
  ·intro w hSw; (try dsimp only at hSw); go_simp; try with_reducible rfl
  simp only [uZ, uS]
  refine wpAnyH_take (i := 6) (v := ?_) rfl (by kernel_rfl) (by kernel_rfl) (by kernel_rfl) (fun _ _ _ h => h) (Or.inl ⟨by kernel_rfl, ?_⟩) hHeld ?_
  rotate_left
  ·intro w hSw; (try dsimp only at hSw); go_simp; try with_reducible rfl
  change wpAnyH _ _ _ _ _ _ _ (Act.put _ (some 11) _) _
  try simp only [Act.put, uA, uZ, uS]
  refine wpAnyH_take (i := 7) (v := ?_) rfl (by kernel_rfl) (by kernel_rfl) (by kernel_rfl) (fun _ _ _ h => h) (Or.inl ⟨by kernel_rfl, ?_⟩) hHeld ?_
  rotate_left
  ·intro w hSw; (try dsimp only at hSw); go_simp; try with_reducible rfl
  change wpAnyH _ _ _ _ _ _ _ (Act.put _ (some 12) _) _
  try simp only [Act.put, uA, uZ, uS]
  refine wpAnyH_take (i := 8) (v := ?_) rfl (by kernel_rfl) (by kernel_rfl) (by kernel_rfl) (fun _ _ _ h => h) (Or.inl ⟨by kernel_rfl, ?_⟩) hHeld ?_
  rotate_left
  ·intro w hSw; (try dsimp only at hSw); go_simp; try with_reducible rfl
  change wpAnyH _ _ _ _ _ _ _ (Act.put _ (some 13) _) _
  try simp only [Act.put, uA, uZ, uS]
  refine wpAnyH_take (i := 9) (v := ?_) rfl (by kernel_rfl) (by kernel_rfl) (by kernel_rfl) (fun _ _ _ h => h) (Or.inl ⟨by kernel_rfl, ?_⟩) hHeld ?_
  rotate_left
  ·intro w hSw; (try dsimp only at hSw); go_simp; try with_reducible rfl
  change wpAnyH _ _ _ _ _ _ _ (Act.put _ (some 14) _) _
  try simp only [Act.put, uA, uZ, uS]
  refine tK 15 (i := 10) (v := .bool false) rfl rfl (by kernel_rfl) ?_ hHeld ?_
  ·intro w hSw; (try dsimp only at hSw); go_simp; try with_reducible rfl
  simp only [uZ, uS]
  refine tK 16 (i := 11) (v := .bool false) rfl rfl (by kernel_rfl) ?_ hHeld ?_
  ·intro w hSw; (try dsimp only at hSw); go_simp; try with_reducible rfl
  simp only [uZ, uS]
  refine tK 17 (i := 12) (v := .bool false) rfl rfl (by kernel_rfl) ?_ hHeld ?_
  ·intro w hSw; (try dsimp only at hSw); go_simp; try with_reducible rfl
  simp only [uZ, uS]
  refine wpAnyH_take (i := 13) (v := undef) rfl (by kernel_rfl) (by kernel_rfl) (by kernel_rfl) (fun _ _ _ h => h) (Or.inr ⟨by kernel_rfl, rfl⟩) hHeld ?_
  change wpAnyH _ _ _ _ _ _ _ (Act.put _ (some 18) _) _
  try simp only [Act.put, uA, uZ, uS]
  refine wpAnyH_take (i := 14) (v := undef) rfl (by kernel_rfl) (by kernel_rfl) (by kernel_rfl) (fun _ _ _ h => h) (Or.inr ⟨by kernel_rfl, rfl⟩) hHeld ?_
  change wpAnyH _ _ _ _ _ _ _ (Act.put _ (some 19) _) _
  try simp only [Act.put, uA, uZ, uS]
  refine wpAnyH_take (i := 15) (v := undef) rfl (by kernel_rfl) (by kernel_rfl) (by kernel_rfl) (fun _ _ _ h => h) (Or.inr ⟨by kernel_rfl, rfl⟩) hHeld ?_
  change wpAnyH _ _ _ _ _ _ _ (Act.put _ (some 20) _) _
  try simp only [Act.put, uA, uZ, uS]
  refine wpAnyH_take (i := 16) (v := undef) rfl (by kernel_rfl) (by kernel_rfl) (by kernel_rfl) (fun _ _ _ h => h) (Or.inr ⟨by kernel_rfl, rfl⟩) hHeld ?_
  change wpAnyH _ _ _ _ _ _ _ (Act.put _ (some 21) _) _
  try simp only [Act.put, uA, uZ, uS]
  refine wpAnyH_take (i := 17) (v := undef) rfl (by kernel_rfl) (by kernel_rfl) (by kernel_rfl) (fun _ _ _ h => h) (Or.inr ⟨by kernel_rfl, rfl⟩) hHeld ?_
  change wpAnyH _ _ _ _ _ _ _ (Act.put _ (some 22) _) _
  try simp only [Act.put, uA, uZ, uS]
  refine tK 23 (i := 18) (v := .bool false) rfl rfl (by kernel_rfl) ?_ hHeld ?_
  ·intro w hSw; (try dsimp only at hSw); go_simp; try with_reducible rfl
  simp only [uZ, uS]
  refine tK 4 (i := 19) (v := .bool false) rfl rfl (by kernel_rfl) ?_ hHeld ?_
  ·intro w hSw; (try dsimp only at hSw); go_simp; try with_reducible rfl
  simp only [uZ, uS]
  refine wpAnyH_done (by kernel_rfl) ?_ _
  have T4 := Lib.hid (below_then HE.out (belowP hHeld))
  clear hHeld hb1 c0 c1 c2
  go_wp2
  go_ret
  exact ⟨rfl, T4.out⟩
 all_goals
  go_region_held3 (fun w' => w'.cell? ⟨G, 0, none⟩ = some (.slice A n c) ∧ w'.cell? ⟨G + 1, 0, none⟩ = some (.int .i64 x) ∧ w'.cell? ⟨G + 1, 1, none⟩ = some (.int .i64 y) ∧ Below W1.heap.size W1 w')
   (first | assumption | exact mkP (Below.refl _ _).drew ⟨c0, c1, c2⟩ la l1 | exact mkP (below_then (belowP (by assumption)) (by assumption)) ⟨c0, c1, c2⟩ la l1)
   (first
    | (go_at_call 90; (with_reducible refine (FP.out _ (below_then HE.out (belowP (by assumption)))).mono ?_); rintro e y1 ⟨rfl, hy1⟩)
    | (go_at_call 58; (with_reducible refine (LP.out _ (below_then HE.out (belowP (by assumption)))).mono ?_); rintro e y3 ⟨rfl, hy3⟩; have T4 := Lib.hid (below_then (belowP (W2 := W1) (A := G) (B := G + 1) (by assumption)) hy3))
    | fail)
  all_goals go_wp2
  all_goals go_ret
  all_goals first | exact ⟨rfl, below_then HE.out T4.out⟩ | exact ⟨by rw [show decide (y ≤ g) = false from decide_eq_false (by omega)]; rfl, below_then HE.out T4.out⟩
end

section
open Go.RowKit
attribute [local go_sem ↓] eqlRange neqRange
structure FillD where
  hold : Int
  st : Int
  x0 : Int
  x1 : Int
  d0 : Int
  d1 : Int
abbrev fillV (f : FillD) : Value := .agg #[.int .i64 f.hold, .int .i64 f.st, .int .i64 f.x0, .int .i64 f.x1, .int .i64 f.d0, .int .i64 f.d1]
def stateS (st : Int) (ne nd inp de : Bool) : Bool := (decide (st = 0) && (ne && nd)) || ((decide (1 ≤ st ∧ st ≤ 2) && (ne && de)) || (decide (3 ≤ st ∧ st ≤ 5) && (inp && de)))
def fillS (h : HoldD) (f : FillD) : Bool := decide (f.hold = h.id) && stateS f.st (f.x0 == 0 && f.x1 == 0) (f.d0 == 0 && f.d1 == 0) (inB f.x0 f.x1 (firstX h.vol) (lastX h.vol)) (densS f.d0 f.d1)
def fillErr (h : HoldD) (f : FillD) : Int := if holdS h = true then (if fillS h f = true then 0 else 22) else 20
theorem fillErr_of {h : HoldD} {f : FillD} {a b : Bool} (g : holdS h = a) (e : fillS h f = b) : fillErr h f = if a = true then (if b = true then 0 else 22) else 20 := by unfold fillErr; rw [g, e]
theorem hold_tab {h : HoldD} (e : holdS h = true) : tabOk h.vol = true := by
  cases hm : measuresS h.vol
  · unfold holdS amtRest ctRest at e
    rw [hm] at e
    simp at e
  · exact measures_ok hm

set_option maxHeartbeats 1000000 in
theorem sFilled_to (n : Int) (t : Bool) (w : World) (h : decide (1 ≤ n ∧ n ≤ 2) = t) :
  Calls Tryz.prog 116 #[.int .i64 n] w fun e w' => e = .returned (.bool t) ∧ Below w.heap.size w w' := by
 have C : Hid (∀ W, Calls Tryz.prog 49 #[.int .i64 n, .int .i64 1, .int .i64 2] W fun e w' => e = .returned (.bool t) ∧ Below W.heap.size W w') := Lib.hid fun W => between_to n 1 2 t W h
 clear h
 go_enter Tryz.func116, Tryz.ntmps116
 go_wp2_with fail
 refine (C.out _).mono ?_
 rintro e w1 ⟨rfl, hb⟩
 have HB := Lib.hid hb; clear hb
 go_wp2
 go_ret
 exact ⟨rfl, HB.out⟩
set_option maxHeartbeats 1000000 in
theorem sFree_to (n : Int) (t : Bool) (w : World) (h : decide (3 ≤ n ∧ n ≤ 5) = t) :
  Calls Tryz.prog 13 #[.int .i64 n] w fun e w' => e = .returned (.bool t) ∧ Below w.heap.size w w' := by
 have C : Hid (∀ W, Calls Tryz.prog 49 #[.int .i64 n, .int .i64 3, .int .i64 5] W fun e w' => e = .returned (.bool t) ∧ Below W.heap.size W w') := Lib.hid fun W => between_to n 3 5 t W h
 clear h
 go_enter Tryz.func13, Tryz.ntmps13
 go_wp2_with fail
 refine (C.out _).mono ?_
 rintro e w1 ⟨rfl, hb⟩
 have HB := Lib.hid hb; clear hb
 go_wp2
 go_ret
 exact ⟨rfl, HB.out⟩

set_option maxRecDepth 100000 in
set_option maxHeartbeats 8000000 in
theorem sCheckFill_any (h : HoldD) (m : HoldM) (f : FillD) (w : World) (hi : HoldIn w h m) :
  Calls Tryz.prog 71 #[holdV h m, fillV f] w fun e w' => e = .returned (.int .i64 (fillErr h f)) ∧ Below w.heap.size w w' := by
 have CC : Hid (∀ W, Below w.heap.size w W → Calls Tryz.prog 115 #[holdV h m] W fun e w' => e = .returned (.int .i64 (holdErr h)) ∧ Below W.heap.size W w') := Lib.hid fun W hW => sCheckHold_any h m W (hi.below hW)
 obtain ⟨bt, hbt⟩ : ∃ b, holdS h = b := ⟨_, rfl⟩
 obtain ⟨bl, hbl⟩ : ∃ b, fillS h f = b := ⟨_, rfl⟩
 rw [fillErr_of hbt hbl]
 rw [holdErr_of hbt] at CC
 have HV : Hid (bt = true → tabOk h.vol = true) := Lib.hid fun x => hold_tab (hbt.trans x)
 obtain ⟨id, al, ah, vol, mom, hei, t0, t1, u0, u1, v0, v1, h0, h1⟩ := h
 obtain ⟨A, n, c, B, mm, d, C, l, ee⟩ := m
 obtain ⟨fh, st, x0, x1, d0, d1⟩ := f
 obtain ⟨i1, i2, i3⟩ := hi
 dsimp only at i1 i2 i3 HV
 have HE := Lib.hid (show Below w.heap.size w ((w.alloc (.cells #[.int .i64 id, .int .i64 al, .int .i64 ah, .slice A n c, .slice B mm d, .slice C l ee, .int .i64 t0, .int .i64 t1, .int .i64 u0, .int .i64 u1, .int .i64 v0, .int .i64 v1, .int .i64 h0, .int .i64 h1] 50)).alloc (.cells #[.int .i64 fh, .int .i64 st, .int .i64 x0, .int .i64 x1, .int .i64 d0, .int .i64 d1] 53)) from below_a2 (Below.refl _ _))
 have HK := Lib.hid (boxes2' w 50 53 #[.int .i64 id, .int .i64 al, .int .i64 ah, .slice A n c, .slice B mm d, .slice C l ee, .int .i64 t0, .int .i64 t1, .int .i64 u0, .int .i64 u1, .int .i64 v0, .int .i64 v1, .int .i64 h0, .int .i64 h1] #[.int .i64 fh, .int .i64 st, .int .i64 x0, .int .i64 x1, .int .i64 d0, .int .i64 d1])
 obtain ⟨bd, ebd⟩ : ∃ b, densS d0 d1 = b := ⟨_, rfl⟩
 obtain ⟨bi, ebi⟩ : ∃ b, inB x0 x1 (firstX vol) (lastX vol) = b := ⟨_, rfl⟩
 obtain ⟨ne, ene⟩ : ∃ b, (x0 == 0 && x1 == 0) = b := ⟨_, rfl⟩
 obtain ⟨nd, end'⟩ : ∃ b, (d0 == 0 && d1 == 0) = b := ⟨_, rfl⟩
 have C1 : Hid (∀ W, Calls Tryz.prog 117 #[rv d0 d1] W fun e w' => e = .returned (.bool bd) ∧ Below W.heap.size W w') := Lib.hid fun W => sdensity_to d0 d1 bd W ebd
 have C2 : Hid (bt = true → ∀ W, Below w.heap.size w W → Calls Tryz.prog 118 #[tv A n c, rv x0 x1] W fun e w' => e = .returned (.bool bi) ∧ Below W.heap.size W w') := Lib.hid fun x W hW => splaces_to A n c vol x0 x1 bi W (i1.below hW) (HV.out x) ebi
 have e0 : fillS ⟨id, al, ah, vol, mom, hei, t0, t1, u0, u1, v0, v1, h0, h1⟩ ⟨fh, st, x0, x1, d0, d1⟩ = (decide (fh = id) && stateS st ne nd bi bd) := by rw [← ebd, ← ebi, ← ene, ← end']; rfl
 have HR := Lib.hid (e0.symm.trans hbl)
 have C4 : Hid (∀ W t, decide (1 ≤ st ∧ st ≤ 2) = t → Calls Tryz.prog 116 #[.int .i64 st] W fun e w' => e = .returned (.bool t) ∧ Below W.heap.size W w') := Lib.hid fun W t h => sFilled_to st t W h
 have C5 : Hid (∀ W t, decide (3 ≤ st ∧ st ≤ 5) = t → Calls Tryz.prog 13 #[.int .i64 st] W fun e w' => e = .returned (.bool t) ∧ Below W.heap.size W w') := Lib.hid fun W t h => sFree_to st t W h
 clear e0 hbl hbt i1 i2 i3 HV ebd ebi
 have HNE := Lib.hid ene
 have HND := Lib.hid end'
 clear ene end'
 go_enter Tryz.func71, Tryz.ntmps71
 go_wp2_with fail
 obtain ⟨W0, hW0⟩ : ∃ W0, ((w.alloc (.cells #[.int .i64 id, .int .i64 al, .int .i64 ah, .slice A n c, .slice B mm d, .slice C l ee, .int .i64 t0, .int .i64 t1, .int .i64 u0, .int .i64 u1, .int .i64 v0, .int .i64 v1, .int .i64 h0, .int .i64 h1] 50)).alloc (.cells #[.int .i64 fh, .int .i64 st, .int .i64 x0, .int .i64 x1, .int .i64 d0, .int .i64 d1] 53)) = W0 := ⟨_, rfl⟩
 rw [hW0] at HE HK ⊢
 clear hW0
 obtain ⟨G, hG⟩ : ∃ G, w.heap.size = G := ⟨_, rfl⟩
 rw [hG] at HK ⊢
 have HG := Lib.hid hG; clear hG
 refine (CC.out _ HE.out).mono ?_
 rintro e w1 ⟨rfl, hb⟩
 have HE1 := Lib.hid (below_then HE.out hb); have HK1 := Lib.hid (HK.out.on hb)
 clear hb HE HK
 cases bt
 ·simp only [Bool.false_eq_true, if_false]
  clear HR HNE HND
  go_wp2
  go_ret
  exact ⟨rfl, HE1.out⟩
 simp only [if_true]
 have HEN := Lib.hid (below_then HE1.out (below_alloc1 w1 (.cells #[.int .i64 0, .int .i64 0] 30)))
 have HKN := Lib.hid (HK1.out.new 30 #[.int .i64 0, .int .i64 0])
 clear HE1 HK1
 go_upto_region 4 with fail
 obtain ⟨W2, hW2⟩ : ∃ W2, w1.alloc (.cells #[.int .i64 0, .int .i64 0] 30) = W2 := ⟨_, rfl⟩
 rw [hW2] at HEN HKN ⊢
 clear hW2
 obtain ⟨N, hN⟩ : ∃ N, w1.heap.size = N := ⟨_, rfl⟩
 rw [hN] at HKN ⊢
 have HN := Lib.hid hN
 clear hN
 have hst : (st = 0 ∧ decide (1 ≤ st ∧ st ≤ 2) = false ∧ decide (3 ≤ st ∧ st ≤ 5) = false) ∨ (st ≠ 0 ∧ decide (1 ≤ st ∧ st ≤ 2) = true ∧ decide (3 ≤ st ∧ st ≤ 5) = false) ∨ (st ≠ 0 ∧ decide (1 ≤ st ∧ st ≤ 2) = false ∧ decide (3 ≤ st ∧ st ≤ 5) = true) ∨ (st ≠ 0 ∧ decide (1 ≤ st ∧ st ≤ 2) = false ∧ decide (3 ≤ st ∧ st ≤ 5) = false) := by
  by_cases g0 : st = 0
  ·exact .inl ⟨g0, decide_eq_false (by omega), decide_eq_false (by omega)⟩
  ·by_cases g1 : 1 ≤ st ∧ st ≤ 2
   ·exact .inr (.inl ⟨g0, decide_eq_true g1, decide_eq_false (by omega)⟩)
   ·by_cases g2 : 3 ≤ st ∧ st ≤ 5
    ·exact .inr (.inr (.inl ⟨g0, decide_eq_false g1, decide_eq_true g2⟩))
    ·exact .inr (.inr (.inr ⟨g0, decide_eq_false g1, decide_eq_false g2⟩))
 have q0 := (HKN.out _ (.tail _ (.head _))).cell 0
 have z1 := (HKN.out _ (.tail _ (.head _))).cell 1
 have z2 := (HKN.out _ (.tail _ (.head _))).cell 2
 have z3 := (HKN.out _ (.tail _ (.head _))).cell 3
 have z4 := (HKN.out _ (.tail _ (.head _))).cell 4
 have z5 := (HKN.out _ (.tail _ (.head _))).cell 5
 have n0 := (HKN.out _ (.head _)).cell 0
 have n1 := (HKN.out _ (.head _)).cell 1
 have p0 := (HKN.out _ (.tail _ (.tail _ (.head _)))).cell 0
 have p3 := (HKN.out _ (.tail _ (.tail _ (.head _)))).cell 3
 simp at q0 z1 z2 z3 z4 z5 n0 n1 p0 p3
 rcases hst with ⟨g0, g1, g2⟩ | ⟨g0, g1, g2⟩ | ⟨g0, g1, g2⟩ | ⟨g0, g1, g2⟩
 ·have F1 := Lib.hid (fun W => C4.out W false g1)
  have F2 := Lib.hid (fun W => C5.out W false g2)
  have HR0 : Hid ((decide (fh = id) && (ne && nd)) = bl) := Lib.hid (by rw [← HR.out]; unfold stateS; rw [g1, g2]; simp [g0])
  clear HR
  have HR := HR0
  clear HR0
  have b0 : (st == 0) = true := by simp [g0]
  clear g0 g1 g2
  have e1 := HNE.out
  have e2 := HND.out
  clear HNE HND
  cases ne
  ·skip
   go_wp2_with fail
   refine (F1.out _).mono ?_
   rintro e y1 ⟨rfl, hb⟩
   have HE1 := Lib.hid (below_then HEN.out hb); have HK1 := Lib.hid (HKN.out.on hb)
   clear hb HEN HKN q0 z1 z2 z3 z4 z5 n0 n1 p0 p3
   have q0 := (HK1.out _ (.tail _ (.head _))).cell 0
   have z1 := (HK1.out _ (.tail _ (.head _))).cell 1
   have z2 := (HK1.out _ (.tail _ (.head _))).cell 2
   have z3 := (HK1.out _ (.tail _ (.head _))).cell 3
   have z4 := (HK1.out _ (.tail _ (.head _))).cell 4
   have z5 := (HK1.out _ (.tail _ (.head _))).cell 5
   have n0 := (HK1.out _ (.head _)).cell 0
   have n1 := (HK1.out _ (.head _)).cell 1
   have p0 := (HK1.out _ (.tail _ (.tail _ (.head _)))).cell 0
   have p3 := (HK1.out _ (.tail _ (.tail _ (.head _)))).cell 3
   simp at q0 z1 z2 z3 z4 z5 n0 n1 p0 p3
   go_wp2_with fail
   refine (F2.out _).mono ?_
   rintro e y2 ⟨rfl, hb⟩
   have HE2 := Lib.hid (below_then HE1.out hb); have HK2 := Lib.hid (HK1.out.on hb)
   clear hb HE1 HK1 q0 z1 z2 z3 z4 z5 n0 n1 p0 p3
   have q0 := (HK2.out _ (.tail _ (.head _))).cell 0
   have z1 := (HK2.out _ (.tail _ (.head _))).cell 1
   have z2 := (HK2.out _ (.tail _ (.head _))).cell 2
   have z3 := (HK2.out _ (.tail _ (.head _))).cell 3
   have z4 := (HK2.out _ (.tail _ (.head _))).cell 4
   have z5 := (HK2.out _ (.tail _ (.head _))).cell 5
   have n0 := (HK2.out _ (.head _)).cell 0
   have n1 := (HK2.out _ (.head _)).cell 1
   have p0 := (HK2.out _ (.tail _ (.tail _ (.head _)))).cell 0
   have p3 := (HK2.out _ (.tail _ (.tail _ (.head _)))).cell 3
   simp at q0 z1 z2 z3 z4 z5 n0 n1 p0 p3
   by_cases hk : fh = id
   ·subst hk
    have hf : bl = false := by rw [← HR.out]; simp
    subst hf
    have b1 : (fh == fh) = true := by simp
    clear HR
    go_wp2
    go_ret
    exact ⟨rfl, HE2.out⟩
   ·have hf : bl = false := by rw [← HR.out]; simp [hk]
    subst hf
    have b1 : (fh == id) = false := beq_eq_false_iff_ne.2 hk
    clear HR
    go_wp2
    go_ret
    exact ⟨rfl, HE2.out⟩
  cases nd
  ·skip
   go_wp2_with fail
   refine (F1.out _).mono ?_
   rintro e y1 ⟨rfl, hb⟩
   have HE1 := Lib.hid (below_then HEN.out hb); have HK1 := Lib.hid (HKN.out.on hb)
   clear hb HEN HKN q0 z1 z2 z3 z4 z5 n0 n1 p0 p3
   have q0 := (HK1.out _ (.tail _ (.head _))).cell 0
   have z1 := (HK1.out _ (.tail _ (.head _))).cell 1
   have z2 := (HK1.out _ (.tail _ (.head _))).cell 2
   have z3 := (HK1.out _ (.tail _ (.head _))).cell 3
   have z4 := (HK1.out _ (.tail _ (.head _))).cell 4
   have z5 := (HK1.out _ (.tail _ (.head _))).cell 5
   have n0 := (HK1.out _ (.head _)).cell 0
   have n1 := (HK1.out _ (.head _)).cell 1
   have p0 := (HK1.out _ (.tail _ (.tail _ (.head _)))).cell 0
   have p3 := (HK1.out _ (.tail _ (.tail _ (.head _)))).cell 3
   simp at q0 z1 z2 z3 z4 z5 n0 n1 p0 p3
   go_wp2_with fail
   refine (F2.out _).mono ?_
   rintro e y2 ⟨rfl, hb⟩
   have HE2 := Lib.hid (below_then HE1.out hb); have HK2 := Lib.hid (HK1.out.on hb)
   clear hb HE1 HK1 q0 z1 z2 z3 z4 z5 n0 n1 p0 p3
   have q0 := (HK2.out _ (.tail _ (.head _))).cell 0
   have z1 := (HK2.out _ (.tail _ (.head _))).cell 1
   have z2 := (HK2.out _ (.tail _ (.head _))).cell 2
   have z3 := (HK2.out _ (.tail _ (.head _))).cell 3
   have z4 := (HK2.out _ (.tail _ (.head _))).cell 4
   have z5 := (HK2.out _ (.tail _ (.head _))).cell 5
   have n0 := (HK2.out _ (.head _)).cell 0
   have n1 := (HK2.out _ (.head _)).cell 1
   have p0 := (HK2.out _ (.tail _ (.tail _ (.head _)))).cell 0
   have p3 := (HK2.out _ (.tail _ (.tail _ (.head _)))).cell 3
   simp at q0 z1 z2 z3 z4 z5 n0 n1 p0 p3
   by_cases hk : fh = id
   ·subst hk
    have hf : bl = false := by rw [← HR.out]; simp
    subst hf
    have b1 : (fh == fh) = true := by simp
    clear HR
    go_wp2
    go_ret
    exact ⟨rfl, HE2.out⟩
   ·have hf : bl = false := by rw [← HR.out]; simp [hk]
    subst hf
    have b1 : (fh == id) = false := beq_eq_false_iff_ne.2 hk
    clear HR
    go_wp2
    go_ret
    exact ⟨rfl, HE2.out⟩
  ·skip
   go_wp2_with fail
   refine (F1.out _).mono ?_
   rintro e y1 ⟨rfl, hb⟩
   have HE1 := Lib.hid (below_then HEN.out hb); have HK1 := Lib.hid (HKN.out.on hb)
   clear hb HEN HKN q0 z1 z2 z3 z4 z5 n0 n1 p0 p3
   have q0 := (HK1.out _ (.tail _ (.head _))).cell 0
   have z1 := (HK1.out _ (.tail _ (.head _))).cell 1
   have z2 := (HK1.out _ (.tail _ (.head _))).cell 2
   have z3 := (HK1.out _ (.tail _ (.head _))).cell 3
   have z4 := (HK1.out _ (.tail _ (.head _))).cell 4
   have z5 := (HK1.out _ (.tail _ (.head _))).cell 5
   have n0 := (HK1.out _ (.head _)).cell 0
   have n1 := (HK1.out _ (.head _)).cell 1
   have p0 := (HK1.out _ (.tail _ (.tail _ (.head _)))).cell 0
   have p3 := (HK1.out _ (.tail _ (.tail _ (.head _)))).cell 3
   simp at q0 z1 z2 z3 z4 z5 n0 n1 p0 p3
   go_wp2_with fail
   refine (F2.out _).mono ?_
   rintro e y2 ⟨rfl, hb⟩
   have HE2 := Lib.hid (below_then HE1.out hb); have HK2 := Lib.hid (HK1.out.on hb)
   clear hb HE1 HK1 q0 z1 z2 z3 z4 z5 n0 n1 p0 p3
   have q0 := (HK2.out _ (.tail _ (.head _))).cell 0
   have z1 := (HK2.out _ (.tail _ (.head _))).cell 1
   have z2 := (HK2.out _ (.tail _ (.head _))).cell 2
   have z3 := (HK2.out _ (.tail _ (.head _))).cell 3
   have z4 := (HK2.out _ (.tail _ (.head _))).cell 4
   have z5 := (HK2.out _ (.tail _ (.head _))).cell 5
   have n0 := (HK2.out _ (.head _)).cell 0
   have n1 := (HK2.out _ (.head _)).cell 1
   have p0 := (HK2.out _ (.tail _ (.tail _ (.head _)))).cell 0
   have p3 := (HK2.out _ (.tail _ (.tail _ (.head _)))).cell 3
   simp at q0 z1 z2 z3 z4 z5 n0 n1 p0 p3
   by_cases hk : fh = id
   ·subst hk
    have hf : bl = true := by rw [← HR.out]; simp
    subst hf
    have b1 : (fh == fh) = true := by simp
    clear HR
    go_wp2
    go_ret
    exact ⟨rfl, HE2.out⟩
   ·have hf : bl = false := by rw [← HR.out]; simp [hk]
    subst hf
    have b1 : (fh == id) = false := beq_eq_false_iff_ne.2 hk
    clear HR
    go_wp2
    go_ret
    exact ⟨rfl, HE2.out⟩
 ·have F1 := Lib.hid (fun W => C4.out W true g1)
  have F2 := Lib.hid (fun W => C5.out W false g2)
  have HR0 : Hid ((decide (fh = id) && (ne && bd)) = bl) := Lib.hid (by rw [← HR.out]; unfold stateS; rw [g1, g2]; simp [g0])
  clear HR
  have HR := HR0
  clear HR0
  have b0 : (st == 0) = false := beq_eq_false_iff_ne.2 g0
  clear g0 g1 g2
  have e1 := HNE.out
  clear HNE HND
  go_wp2_with fail
  refine (F1.out _).mono ?_
  rintro e y1 ⟨rfl, hb⟩
  have HE1 := Lib.hid (below_then HEN.out hb); have HK1 := Lib.hid (HKN.out.on hb)
  clear hb HEN HKN q0 z1 z2 z3 z4 z5 n0 n1 p0 p3
  have q0 := (HK1.out _ (.tail _ (.head _))).cell 0
  have z1 := (HK1.out _ (.tail _ (.head _))).cell 1
  have z2 := (HK1.out _ (.tail _ (.head _))).cell 2
  have z3 := (HK1.out _ (.tail _ (.head _))).cell 3
  have z4 := (HK1.out _ (.tail _ (.head _))).cell 4
  have z5 := (HK1.out _ (.tail _ (.head _))).cell 5
  have n0 := (HK1.out _ (.head _)).cell 0
  have n1 := (HK1.out _ (.head _)).cell 1
  have p0 := (HK1.out _ (.tail _ (.tail _ (.head _)))).cell 0
  have p3 := (HK1.out _ (.tail _ (.tail _ (.head _)))).cell 3
  simp at q0 z1 z2 z3 z4 z5 n0 n1 p0 p3
  cases ne
  ·skip
   go_wp2_with fail
   refine (F2.out _).mono ?_
   rintro e y2 ⟨rfl, hb⟩
   have HE2 := Lib.hid (below_then HE1.out hb); have HK2 := Lib.hid (HK1.out.on hb)
   clear hb HE1 HK1 q0 z1 z2 z3 z4 z5 n0 n1 p0 p3
   have q0 := (HK2.out _ (.tail _ (.head _))).cell 0
   have z1 := (HK2.out _ (.tail _ (.head _))).cell 1
   have z2 := (HK2.out _ (.tail _ (.head _))).cell 2
   have z3 := (HK2.out _ (.tail _ (.head _))).cell 3
   have z4 := (HK2.out _ (.tail _ (.head _))).cell 4
   have z5 := (HK2.out _ (.tail _ (.head _))).cell 5
   have n0 := (HK2.out _ (.head _)).cell 0
   have n1 := (HK2.out _ (.head _)).cell 1
   have p0 := (HK2.out _ (.tail _ (.tail _ (.head _)))).cell 0
   have p3 := (HK2.out _ (.tail _ (.tail _ (.head _)))).cell 3
   simp at q0 z1 z2 z3 z4 z5 n0 n1 p0 p3
   by_cases hk : fh = id
   ·subst hk
    have hf : bl = false := by rw [← HR.out]; simp
    subst hf
    have b1 : (fh == fh) = true := by simp
    clear HR
    go_wp2
    go_ret
    exact ⟨rfl, HE2.out⟩
   ·have hf : bl = false := by rw [← HR.out]; simp [hk]
    subst hf
    have b1 : (fh == id) = false := beq_eq_false_iff_ne.2 hk
    clear HR
    go_wp2
    go_ret
    exact ⟨rfl, HE2.out⟩
  go_wp2_with fail
  refine (C1.out _).mono ?_
  rintro e y2 ⟨rfl, hb⟩
  have HE2 := Lib.hid (below_then HE1.out hb); have HK2 := Lib.hid (HK1.out.on hb)
  clear hb HE1 HK1 q0 z1 z2 z3 z4 z5 n0 n1 p0 p3
  have q0 := (HK2.out _ (.tail _ (.head _))).cell 0
  have z1 := (HK2.out _ (.tail _ (.head _))).cell 1
  have z2 := (HK2.out _ (.tail _ (.head _))).cell 2
  have z3 := (HK2.out _ (.tail _ (.head _))).cell 3
  have z4 := (HK2.out _ (.tail _ (.head _))).cell 4
  have z5 := (HK2.out _ (.tail _ (.head _))).cell 5
  have n0 := (HK2.out _ (.head _)).cell 0
  have n1 := (HK2.out _ (.head _)).cell 1
  have p0 := (HK2.out _ (.tail _ (.tail _ (.head _)))).cell 0
  have p3 := (HK2.out _ (.tail _ (.tail _ (.head _)))).cell 3
  simp at q0 z1 z2 z3 z4 z5 n0 n1 p0 p3
  cases bd
  ·skip
   go_wp2_with fail
   refine (F2.out _).mono ?_
   rintro e y3 ⟨rfl, hb⟩
   have HE3 := Lib.hid (below_then HE2.out hb); have HK3 := Lib.hid (HK2.out.on hb)
   clear hb HE2 HK2 q0 z1 z2 z3 z4 z5 n0 n1 p0 p3
   have q0 := (HK3.out _ (.tail _ (.head _))).cell 0
   have z1 := (HK3.out _ (.tail _ (.head _))).cell 1
   have z2 := (HK3.out _ (.tail _ (.head _))).cell 2
   have z3 := (HK3.out _ (.tail _ (.head _))).cell 3
   have z4 := (HK3.out _ (.tail _ (.head _))).cell 4
   have z5 := (HK3.out _ (.tail _ (.head _))).cell 5
   have n0 := (HK3.out _ (.head _)).cell 0
   have n1 := (HK3.out _ (.head _)).cell 1
   have p0 := (HK3.out _ (.tail _ (.tail _ (.head _)))).cell 0
   have p3 := (HK3.out _ (.tail _ (.tail _ (.head _)))).cell 3
   simp at q0 z1 z2 z3 z4 z5 n0 n1 p0 p3
   by_cases hk : fh = id
   ·subst hk
    have hf : bl = false := by rw [← HR.out]; simp
    subst hf
    have b1 : (fh == fh) = true := by simp
    clear HR
    go_wp2
    go_ret
    exact ⟨rfl, HE3.out⟩
   ·have hf : bl = false := by rw [← HR.out]; simp [hk]
    subst hf
    have b1 : (fh == id) = false := beq_eq_false_iff_ne.2 hk
    clear HR
    go_wp2
    go_ret
    exact ⟨rfl, HE3.out⟩
  ·skip
   go_wp2_with fail
   refine (F2.out _).mono ?_
   rintro e y3 ⟨rfl, hb⟩
   have HE3 := Lib.hid (below_then HE2.out hb); have HK3 := Lib.hid (HK2.out.on hb)
   clear hb HE2 HK2 q0 z1 z2 z3 z4 z5 n0 n1 p0 p3
   have q0 := (HK3.out _ (.tail _ (.head _))).cell 0
   have z1 := (HK3.out _ (.tail _ (.head _))).cell 1
   have z2 := (HK3.out _ (.tail _ (.head _))).cell 2
   have z3 := (HK3.out _ (.tail _ (.head _))).cell 3
   have z4 := (HK3.out _ (.tail _ (.head _))).cell 4
   have z5 := (HK3.out _ (.tail _ (.head _))).cell 5
   have n0 := (HK3.out _ (.head _)).cell 0
   have n1 := (HK3.out _ (.head _)).cell 1
   have p0 := (HK3.out _ (.tail _ (.tail _ (.head _)))).cell 0
   have p3 := (HK3.out _ (.tail _ (.tail _ (.head _)))).cell 3
   simp at q0 z1 z2 z3 z4 z5 n0 n1 p0 p3
   by_cases hk : fh = id
   ·subst hk
    have hf : bl = true := by rw [← HR.out]; simp
    subst hf
    have b1 : (fh == fh) = true := by simp
    clear HR
    go_wp2
    go_ret
    exact ⟨rfl, HE3.out⟩
   ·have hf : bl = false := by rw [← HR.out]; simp [hk]
    subst hf
    have b1 : (fh == id) = false := beq_eq_false_iff_ne.2 hk
    clear HR
    go_wp2
    go_ret
    exact ⟨rfl, HE3.out⟩
 ·have F1 := Lib.hid (fun W => C4.out W false g1)
  have F2 := Lib.hid (fun W => C5.out W true g2)
  have HR0 : Hid ((decide (fh = id) && (bi && bd)) = bl) := Lib.hid (by rw [← HR.out]; unfold stateS; rw [g1, g2]; simp [g0])
  clear HR
  have HR := HR0
  clear HR0
  have b0 : (st == 0) = false := beq_eq_false_iff_ne.2 g0
  clear g0 g1 g2
  clear HNE HND
  go_wp2_with fail
  refine (F1.out _).mono ?_
  rintro e y1 ⟨rfl, hb⟩
  have HE1 := Lib.hid (below_then HEN.out hb); have HK1 := Lib.hid (HKN.out.on hb)
  clear hb HEN HKN q0 z1 z2 z3 z4 z5 n0 n1 p0 p3
  have q0 := (HK1.out _ (.tail _ (.head _))).cell 0
  have z1 := (HK1.out _ (.tail _ (.head _))).cell 1
  have z2 := (HK1.out _ (.tail _ (.head _))).cell 2
  have z3 := (HK1.out _ (.tail _ (.head _))).cell 3
  have z4 := (HK1.out _ (.tail _ (.head _))).cell 4
  have z5 := (HK1.out _ (.tail _ (.head _))).cell 5
  have n0 := (HK1.out _ (.head _)).cell 0
  have n1 := (HK1.out _ (.head _)).cell 1
  have p0 := (HK1.out _ (.tail _ (.tail _ (.head _)))).cell 0
  have p3 := (HK1.out _ (.tail _ (.tail _ (.head _)))).cell 3
  simp at q0 z1 z2 z3 z4 z5 n0 n1 p0 p3
  go_wp2_with fail
  refine (F2.out _).mono ?_
  rintro e y2 ⟨rfl, hb⟩
  have HE2 := Lib.hid (below_then HE1.out hb); have HK2 := Lib.hid (HK1.out.on hb)
  clear hb HE1 HK1 q0 z1 z2 z3 z4 z5 n0 n1 p0 p3
  have q0 := (HK2.out _ (.tail _ (.head _))).cell 0
  have z1 := (HK2.out _ (.tail _ (.head _))).cell 1
  have z2 := (HK2.out _ (.tail _ (.head _))).cell 2
  have z3 := (HK2.out _ (.tail _ (.head _))).cell 3
  have z4 := (HK2.out _ (.tail _ (.head _))).cell 4
  have z5 := (HK2.out _ (.tail _ (.head _))).cell 5
  have n0 := (HK2.out _ (.head _)).cell 0
  have n1 := (HK2.out _ (.head _)).cell 1
  have p0 := (HK2.out _ (.tail _ (.tail _ (.head _)))).cell 0
  have p3 := (HK2.out _ (.tail _ (.tail _ (.head _)))).cell 3
  simp at q0 z1 z2 z3 z4 z5 n0 n1 p0 p3
  go_wp2_with fail
  refine (C2.out (by trivial) _ HE2.out).mono ?_
  rintro e y3 ⟨rfl, hb⟩
  have HE3 := Lib.hid (below_then HE2.out hb); have HK3 := Lib.hid (HK2.out.on hb)
  clear hb HE2 HK2 q0 z1 z2 z3 z4 z5 n0 n1 p0 p3
  have q0 := (HK3.out _ (.tail _ (.head _))).cell 0
  have z1 := (HK3.out _ (.tail _ (.head _))).cell 1
  have z2 := (HK3.out _ (.tail _ (.head _))).cell 2
  have z3 := (HK3.out _ (.tail _ (.head _))).cell 3
  have z4 := (HK3.out _ (.tail _ (.head _))).cell 4
  have z5 := (HK3.out _ (.tail _ (.head _))).cell 5
  have n0 := (HK3.out _ (.head _)).cell 0
  have n1 := (HK3.out _ (.head _)).cell 1
  have p0 := (HK3.out _ (.tail _ (.tail _ (.head _)))).cell 0
  have p3 := (HK3.out _ (.tail _ (.tail _ (.head _)))).cell 3
  simp at q0 z1 z2 z3 z4 z5 n0 n1 p0 p3
  cases bi
  ·skip
   by_cases hk : fh = id
   ·subst hk
    have hf : bl = false := by rw [← HR.out]; simp
    subst hf
    have b1 : (fh == fh) = true := by simp
    clear HR
    go_wp2
    go_ret
    exact ⟨rfl, HE3.out⟩
   ·have hf : bl = false := by rw [← HR.out]; simp [hk]
    subst hf
    have b1 : (fh == id) = false := beq_eq_false_iff_ne.2 hk
    clear HR
    go_wp2
    go_ret
    exact ⟨rfl, HE3.out⟩
  go_wp2_with fail
  refine (C1.out _).mono ?_
  rintro e y4 ⟨rfl, hb⟩
  have HE4 := Lib.hid (below_then HE3.out hb); have HK4 := Lib.hid (HK3.out.on hb)
  clear hb HE3 HK3 q0 z1 z2 z3 z4 z5 n0 n1 p0 p3
  have q0 := (HK4.out _ (.tail _ (.head _))).cell 0
  have z1 := (HK4.out _ (.tail _ (.head _))).cell 1
  have z2 := (HK4.out _ (.tail _ (.head _))).cell 2
  have z3 := (HK4.out _ (.tail _ (.head _))).cell 3
  have z4 := (HK4.out _ (.tail _ (.head _))).cell 4
  have z5 := (HK4.out _ (.tail _ (.head _))).cell 5
  have n0 := (HK4.out _ (.head _)).cell 0
  have n1 := (HK4.out _ (.head _)).cell 1
  have p0 := (HK4.out _ (.tail _ (.tail _ (.head _)))).cell 0
  have p3 := (HK4.out _ (.tail _ (.tail _ (.head _)))).cell 3
  simp at q0 z1 z2 z3 z4 z5 n0 n1 p0 p3
  cases bd
  ·skip
   by_cases hk : fh = id
   ·subst hk
    have hf : bl = false := by rw [← HR.out]; simp
    subst hf
    have b1 : (fh == fh) = true := by simp
    clear HR
    go_wp2
    go_ret
    exact ⟨rfl, HE4.out⟩
   ·have hf : bl = false := by rw [← HR.out]; simp [hk]
    subst hf
    have b1 : (fh == id) = false := beq_eq_false_iff_ne.2 hk
    clear HR
    go_wp2
    go_ret
    exact ⟨rfl, HE4.out⟩
  ·skip
   by_cases hk : fh = id
   ·subst hk
    have hf : bl = true := by rw [← HR.out]; simp
    subst hf
    have b1 : (fh == fh) = true := by simp
    clear HR
    go_wp2
    go_ret
    exact ⟨rfl, HE4.out⟩
   ·have hf : bl = false := by rw [← HR.out]; simp [hk]
    subst hf
    have b1 : (fh == id) = false := beq_eq_false_iff_ne.2 hk
    clear HR
    go_wp2
    go_ret
    exact ⟨rfl, HE4.out⟩
 ·have F1 := Lib.hid (fun W => C4.out W false g1)
  have F2 := Lib.hid (fun W => C5.out W false g2)
  have HR0 : Hid ((decide (fh = id) && (false)) = bl) := Lib.hid (by rw [← HR.out]; unfold stateS; rw [g1, g2]; simp [g0])
  clear HR
  have HR := HR0
  clear HR0
  have b0 : (st == 0) = false := beq_eq_false_iff_ne.2 g0
  clear g0 g1 g2
  clear HNE HND
  go_wp2_with fail
  refine (F1.out _).mono ?_
  rintro e y1 ⟨rfl, hb⟩
  have HE1 := Lib.hid (below_then HEN.out hb); have HK1 := Lib.hid (HKN.out.on hb)
  clear hb HEN HKN q0 z1 z2 z3 z4 z5 n0 n1 p0 p3
  have q0 := (HK1.out _ (.tail _ (.head _))).cell 0
  have z1 := (HK1.out _ (.tail _ (.head _))).cell 1
  have z2 := (HK1.out _ (.tail _ (.head _))).cell 2
  have z3 := (HK1.out _ (.tail _ (.head _))).cell 3
  have z4 := (HK1.out _ (.tail _ (.head _))).cell 4
  have z5 := (HK1.out _ (.tail _ (.head _))).cell 5
  have n0 := (HK1.out _ (.head _)).cell 0
  have n1 := (HK1.out _ (.head _)).cell 1
  have p0 := (HK1.out _ (.tail _ (.tail _ (.head _)))).cell 0
  have p3 := (HK1.out _ (.tail _ (.tail _ (.head _)))).cell 3
  simp at q0 z1 z2 z3 z4 z5 n0 n1 p0 p3
  go_wp2_with fail
  refine (F2.out _).mono ?_
  rintro e y2 ⟨rfl, hb⟩
  have HE2 := Lib.hid (below_then HE1.out hb); have HK2 := Lib.hid (HK1.out.on hb)
  clear hb HE1 HK1 q0 z1 z2 z3 z4 z5 n0 n1 p0 p3
  have q0 := (HK2.out _ (.tail _ (.head _))).cell 0
  have z1 := (HK2.out _ (.tail _ (.head _))).cell 1
  have z2 := (HK2.out _ (.tail _ (.head _))).cell 2
  have z3 := (HK2.out _ (.tail _ (.head _))).cell 3
  have z4 := (HK2.out _ (.tail _ (.head _))).cell 4
  have z5 := (HK2.out _ (.tail _ (.head _))).cell 5
  have n0 := (HK2.out _ (.head _)).cell 0
  have n1 := (HK2.out _ (.head _)).cell 1
  have p0 := (HK2.out _ (.tail _ (.tail _ (.head _)))).cell 0
  have p3 := (HK2.out _ (.tail _ (.tail _ (.head _)))).cell 3
  simp at q0 z1 z2 z3 z4 z5 n0 n1 p0 p3
  by_cases hk : fh = id
  ·subst hk
   have hf : bl = false := by rw [← HR.out]; simp
   subst hf
   have b1 : (fh == fh) = true := by simp
   clear HR
   go_wp2
   go_ret
   exact ⟨rfl, HE2.out⟩
  ·have hf : bl = false := by rw [← HR.out]; simp [hk]
   subst hf
   have b1 : (fh == id) = false := beq_eq_false_iff_ne.2 hk
   clear HR
   go_wp2
   go_ret
   exact ⟨rfl, HE2.out⟩
end

section
open Go.ChangeShapes Go.WideShapes Go.ChangeAt Go.RowKit Go.Joins Go.Deep

theorem Tryz.cellsHold : Tryz.prog.cellsOf 50 = 14 := by kernel_rfl
theorem Tryz.cellsFill : Tryz.prog.cellsOf 53 = 6 := by kernel_rfl
set_option maxRecDepth 100000 in
theorem open_int1 {H : Type} {enc : TypeId × Value → H} {W : World} {fuel : Nat} {c0 : Value} {x : DataW H × List MemPlace} (h : DataW.trod enc Tryz.prog W 0 (fun _ => true) true fuel 3 [c0] = some x) : ∃ a : Int, c0 = .int .i64 a := by
  obtain ⟨p0, e0, _, _⟩ := DataW.trod_int Tryz.underlying3 h
  simp at e0
  exact ⟨p0, e0⟩
set_option maxRecDepth 100000 in
theorem open_range {H : Type} {enc : TypeId × Value → H} {W : World} {fuel : Nat} {c0 c1 : Value} {x : DataW H × List MemPlace} (h : DataW.trod enc Tryz.prog W 0 (fun _ => true) true fuel 30 [c0, c1] = some x) : ∃ a b : Int, c0 = .int .i64 a ∧ c1 = .int .i64 b := by
  obtain ⟨y0, y1, k, _, _, h0, h1⟩ := trod_struct2 Tryz.underlying30 h
  simp only [Tryz.cellsInt] at h0 h1
  obtain ⟨a, e0⟩ := open_int1 (c0 := c0) (by simpa using h0)
  obtain ⟨b, e1⟩ := open_int1 (c0 := c1) (by simpa using h1)
  exact ⟨a, b, e0, e1⟩
set_option maxRecDepth 100000 in
theorem open_tab1 {H : Type} {enc : TypeId × Value → H} {W : World} {fuel : Nat} {c0 : Value} {x : DataW H × List MemPlace} (h : DataW.trod enc Tryz.prog W 0 (fun _ => true) true fuel 48 [c0] = some x) : ∃ (A : Option Addr) (n c : Nat) (ps : List P3), c0 = .slice A n c ∧ TabIn W A n ps := by
  obtain ⟨y0, k, _, _, i0⟩ := trod_struct1 Tryz.underlying48 h
  simp only [Value.cells, Tryz.cellsPts] at i0
  obtain ⟨A, n, c, ps, e, h1, h2, h3⟩ := open_pts (v := c0) (by simpa using i0)
  exact ⟨A, n, c, ps, e, h1, h2, h3⟩
end

end Go.Proofs.YtekkiedlajhaiaaGreat
