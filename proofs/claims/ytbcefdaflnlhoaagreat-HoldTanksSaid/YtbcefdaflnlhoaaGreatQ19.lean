/- The contracts of hull, mix and moved (hold). Their condition: the hold's tables lie in memory, its volume is a valid table. -/
import Derived.Test.YtbcefdaflnlhoaaGreatQ18
import Derived.Test.YtbcefdaflnlhoaaGreatQ03
import Derived.Test.YtbcefdaflnlhoaaGreatQ09
import Derived.Test.YtbcefdaflnlhoaaGreatQ08
import Derived.Test.YtbcefdaflnlhoaaGreatQ17
set_option linter.unusedVariables false
set_option linter.unusedSimpArgs false
set_option linter.constructorNameAsVariable false
namespace Go.Proofs.YtbcefdaflnlhoaaGreat

section
open Go.RowKit
attribute [local go_sem ↓] eqlRange neqRange run_minI run_maxI
theorem sfloor_any (n d : Int) (w : World) (hd : 1 ≤ d) (hn : -4000000000000000000 ≤ n) (hn' : n ≤ 4000000000000000000) :
    Calls Tryz.prog 100 #[.int .i64 n, .int .i64 d] w fun e w' => e = .returned (.int .i64 (n / d)) ∧ w = w' := by
  have hf := tdiv_floor n d (by omega)
  have hb := ediv_between n d 4000000000000000000 hd (by omega) hn hn'
  have H := Lib.hid (And.intro hf hb)
  clear hf hb
  go_enter Tryz.func100, Tryz.ntmps100
  go_wp2
  · have h : n.tmod d < 0 := by assumption
    go_ret
    obtain ⟨⟨h1, _⟩, h3, h4⟩ := H.out
    have h5 := h1 h
    exact ⟨ret_int (by rw [h5]; exact IntWalk.wrap64_in _ ⟨by omega, by omega⟩), rfl⟩
  · have h : 0 ≤ n.tmod d := by assumption
    go_ret
    obtain ⟨⟨_, h2⟩, _⟩ := H.out
    exact ⟨ret_int (h2 h), rfl⟩


theorem div_up {n c d : Int} (hc : 1 ≤ c) (hd : c ≤ d) (hn : n < 0) : n / c ≤ n / d := by
  have h : n / c < 0 := Int.ediv_neg_of_neg_of_pos hn (by omega)
  rw [Int.le_ediv_iff_mul_le (by omega)]
  have h1 : n / c * c ≤ n := Int.ediv_mul_le n (by omega)
  have h2 : n / c * d ≤ n / c * c := Int.mul_le_mul_of_nonpos_left (by omega) hd
  omega
theorem div_down {n c d : Int} (hc : 1 ≤ c) (hd : c ≤ d) (hn : 0 ≤ n) : n / d ≤ n / c := by
  have h : 0 ≤ n / d := Int.ediv_nonneg hn (by omega)
  rw [Int.le_ediv_iff_mul_le (by omega)]
  have h1 : n / d * d ≤ n := Int.ediv_mul_le n (by omega)
  have h2 : n / d * c ≤ n / d * d := Int.mul_le_mul_of_nonneg_left hd h
  omega
/-- the least and the greatest quotient -/
theorem litres_minmax (a b c d : Int) (hc : 1 ≤ c) (hd : c ≤ d) : litresS a b c d = (min (1000 * a / c) (1000 * a / d), max (-(-1000 * b / c)) (-(-1000 * b / d))) := by
  unfold litresS
  have e1 : (1000 * a / (if a < 0 then c else d)) = min (1000 * a / c) (1000 * a / d) := by
    by_cases q : a < 0
    · rw [if_pos q]; have := div_up (n := 1000 * a) hc hd (by omega); omega
    · rw [if_neg q]; have := div_down (n := 1000 * a) hc hd (by omega); omega
  have e2 : (-(-1000 * b / (if b < 0 then d else c))) = max (-(-1000 * b / c)) (-(-1000 * b / d)) := by
    by_cases q : b < 0
    · rw [if_pos q]; have := div_down (n := -1000 * b) hc hd (by omega); omega
    · rw [if_neg q]
      by_cases q0 : b = 0
      · subst q0; simp
      · have := div_up (n := -1000 * b) hc hd (by omega); omega
  rw [e1, e2]

set_option maxRecDepth 100000 in
set_option maxHeartbeats 4000000 in
theorem slitres_any (a b c d : Int) (w : World) (h1 : -1000000000000000 ≤ a ∧ a ≤ b ∧ b ≤ 1000000000000000) (h2 : 100 ≤ c ∧ c ≤ d ∧ d ≤ 2000) :
    Calls Tryz.prog 45 #[rv a b, rv c d] w fun e w' => e = .returned (rv (litresS a b c d).1 (litresS a b c d).2) ∧ Below w.heap.size w w' := by
  rw [litres_minmax a b c d (by omega) (by omega)]
  dsimp only
  have F1 : Hid (∀ n e W, 1 ≤ e → -1000000000000000000 ≤ n → n ≤ 1000000000000000000 → Calls Tryz.prog 100 #[.int .i64 n, .int .i64 e] W fun x w' => x = .returned (.int .i64 (n / e)) ∧ W = w') := Lib.hid fun n e W q1 q2 q3 => sfloor_any n e W q1 (by omega) (by omega)
  have k1 : IntKind.i64.wrap (1000 * a) = 1000 * a := IntWalk.i64_in _ ⟨by omega, by omega⟩
  have k2 : IntKind.i64.wrap (-1000 * b) = -1000 * b := IntWalk.i64_in _ ⟨by omega, by omega⟩
  have k3 : ∀ x, 100 ≤ x ∧ x ≤ 2000 → IntKind.i64.wrap (-(-1000 * b / x)) = -(-1000 * b / x) := fun x q => by
    have := ediv_between (-1000 * b) x 1000000000000000000 (by omega) (by omega) (by omega) (by omega)
    exact IntWalk.i64_in _ ⟨by omega, by omega⟩
  have k4 := k3 c ⟨by omega, by omega⟩
  have k5 := k3 d ⟨by omega, by omega⟩
  have F2 := Lib.hid (fun W => F1.out (1000 * a) c W (by omega) (by omega) (by omega))
  have F3 := Lib.hid (fun W => F1.out (1000 * a) d W (by omega) (by omega) (by omega))
  have F4 := Lib.hid (fun W => F1.out (-1000 * b) c W (by omega) (by omega) (by omega))
  have F5 := Lib.hid (fun W => F1.out (-1000 * b) d W (by omega) (by omega) (by omega))
  clear F1 k3 h1 h2
  generalize hp : 1000 * a / c = m1 at *
  generalize hq : 1000 * a / d = m2 at *
  generalize hr : -1000 * b / c = m3 at *
  generalize hs : -1000 * b / d = m4 at *
  clear hp hq hr hs
  have HE := Lib.hid (show Below w.heap.size w (((w.alloc (.cells #[.int .i64 a, .int .i64 b] 23)).alloc (.cells #[.int .i64 c, .int .i64 d] 23)).alloc (.cells #[.int .i64 0, .int .i64 0] 23)) from below_a3 (Below.refl _ _))
  have HK := Lib.hid (boxes3' w 23 23 23 #[.int .i64 a, .int .i64 b] #[.int .i64 c, .int .i64 d] #[.int .i64 0, .int .i64 0])
  go_enter Tryz.func45, Tryz.ntmps45
  go_wp2_with fail
  obtain ⟨W0, hW0⟩ : ∃ W0, (((w.alloc (.cells #[.int .i64 a, .int .i64 b] 23)).alloc (.cells #[.int .i64 c, .int .i64 d] 23)).alloc (.cells #[.int .i64 0, .int .i64 0] 23)) = W0 := ⟨_, rfl⟩
  rw [hW0] at HE HK ⊢
  clear hW0
  obtain ⟨G, hG⟩ : ∃ G, w.heap.size = G := ⟨_, rfl⟩
  rw [hG] at HK ⊢
  have HG := Lib.hid hG; clear hG
  have p := HK.out _ (.tail _ (.tail _ (.head _)))
  have p0 := p.cell 0
  have p1 := p.cell 1
  simp at p0 p1
  clear p
  have q := HK.out _ (.tail _ (.head _))
  have q0 := q.cell 0
  have q1 := q.cell 1
  simp at q0 q1
  clear q
  refine wp_region_held_drew (S := fun w' => w'.cell? ⟨G, 0, none⟩ = some (.int .i64 a) ∧ w'.cell? ⟨G, 1, none⟩ = some (.int .i64 b) ∧ w'.cell? ⟨G + 1, 0, none⟩ = some (.int .i64 c) ∧ w'.cell? ⟨G + 1, 1, none⟩ = some (.int .i64 d)) (by kernel_rfl) ⟨p0, p1, q0, q1⟩ (fun hHeld => ?_)
  refine wpAnyH_take (i := 0) (v := .pointer (some ⟨G, 0, none⟩)) rfl (by kernel_rfl) (by kernel_rfl) (by kernel_rfl) (fun _ _ _ h => h) (Or.inl ⟨by kernel_rfl, ?_⟩) hHeld ?_
  · intro w hSw; (try dsimp only at hSw); go_simp; try with_reducible rfl
  change wpAnyH _ _ _ _ _ _ _ (Act.put _ (some 7) _) _
  try simp only [Act.put, List.setIfInBounds_toArray, List.set_cons_zero, List.set_cons_succ]
  refine wpAnyH_take (i := 1) (v := .int .i64 a) rfl (by kernel_rfl) (by kernel_rfl) (by kernel_rfl) (fun _ _ _ h => h) (Or.inl ⟨by kernel_rfl, ?_⟩) hHeld ?_
  · intro w hSw; (try dsimp only at hSw); go_simp; try with_reducible rfl
  change wpAnyH _ _ _ _ _ _ _ (Act.put _ (some 8) _) _
  try simp only [Act.put, List.setIfInBounds_toArray, List.set_cons_zero, List.set_cons_succ]
  refine wpAnyH_take (i := 2) (v := .int .i64 (1000 * a)) rfl (by kernel_rfl) (by kernel_rfl) (by kernel_rfl) (fun _ _ _ h => h) (Or.inl ⟨by kernel_rfl, ?_⟩) hHeld ?_
  · intro w hSw; (try dsimp only at hSw); go_simp; try with_reducible rfl
  change wpAnyH _ _ _ _ _ _ _ (Act.put _ (some 9) _) _
  try simp only [Act.put, List.setIfInBounds_toArray, List.set_cons_zero, List.set_cons_succ]
  refine wpAnyH_take (i := 3) (v := .pointer (some ⟨G + 1, 0, none⟩)) rfl (by kernel_rfl) (by kernel_rfl) (by kernel_rfl) (fun _ _ _ h => h) (Or.inl ⟨by kernel_rfl, ?_⟩) hHeld ?_
  · intro w hSw; (try dsimp only at hSw); go_simp; try with_reducible rfl
  change wpAnyH _ _ _ _ _ _ _ (Act.put _ (some 10) _) _
  try simp only [Act.put, List.setIfInBounds_toArray, List.set_cons_zero, List.set_cons_succ]
  refine wpAnyH_take (i := 4) (v := .int .i64 c) rfl (by kernel_rfl) (by kernel_rfl) (by kernel_rfl) (fun _ _ _ h => h) (Or.inl ⟨by kernel_rfl, ?_⟩) hHeld ?_
  · intro w hSw; (try dsimp only at hSw); go_simp; try with_reducible rfl
  change wpAnyH _ _ _ _ _ _ _ (Act.put _ (some 11) _) _
  try simp only [Act.put, List.setIfInBounds_toArray, List.set_cons_zero, List.set_cons_succ]
  refine wpAnyH_take (i := 6) (v := .pointer (some ⟨G, 0, none⟩)) rfl (by kernel_rfl) (by kernel_rfl) (by kernel_rfl) (fun _ _ _ h => h) (Or.inl ⟨by kernel_rfl, ?_⟩) hHeld ?_
  · intro w hSw; (try dsimp only at hSw); go_simp; try with_reducible rfl
  change wpAnyH _ _ _ _ _ _ _ (Act.put _ (some 13) _) _
  try simp only [Act.put, List.setIfInBounds_toArray, List.set_cons_zero, List.set_cons_succ]
  refine wpAnyH_take (i := 7) (v := .int .i64 a) rfl (by kernel_rfl) (by kernel_rfl) (by kernel_rfl) (fun _ _ _ h => h) (Or.inl ⟨by kernel_rfl, ?_⟩) hHeld ?_
  · intro w hSw; (try dsimp only at hSw); go_simp; try with_reducible rfl
  change wpAnyH _ _ _ _ _ _ _ (Act.put _ (some 14) _) _
  try simp only [Act.put, List.setIfInBounds_toArray, List.set_cons_zero, List.set_cons_succ]
  refine wpAnyH_take (i := 8) (v := .int .i64 (1000 * a)) rfl (by kernel_rfl) (by kernel_rfl) (by kernel_rfl) (fun _ _ _ h => h) (Or.inl ⟨by kernel_rfl, ?_⟩) hHeld ?_
  · intro w hSw; (try dsimp only at hSw); go_simp; try with_reducible rfl
  change wpAnyH _ _ _ _ _ _ _ (Act.put _ (some 15) _) _
  try simp only [Act.put, List.setIfInBounds_toArray, List.set_cons_zero, List.set_cons_succ]
  refine wpAnyH_take (i := 9) (v := .pointer (some ⟨G + 1, 1, none⟩)) rfl (by kernel_rfl) (by kernel_rfl) (by kernel_rfl) (fun _ _ _ h => h) (Or.inl ⟨by kernel_rfl, ?_⟩) hHeld ?_
  · intro w hSw; (try dsimp only at hSw); go_simp; try with_reducible rfl
  change wpAnyH _ _ _ _ _ _ _ (Act.put _ (some 16) _) _
  try simp only [Act.put, List.setIfInBounds_toArray, List.set_cons_zero, List.set_cons_succ]
  refine wpAnyH_take (i := 10) (v := .int .i64 d) rfl (by kernel_rfl) (by kernel_rfl) (by kernel_rfl) (fun _ _ _ h => h) (Or.inl ⟨by kernel_rfl, ?_⟩) hHeld ?_
  · intro w hSw; (try dsimp only at hSw); go_simp; try with_reducible rfl
  change wpAnyH _ _ _ _ _ _ _ (Act.put _ (some 17) _) _
  try simp only [Act.put, List.setIfInBounds_toArray, List.set_cons_zero, List.set_cons_succ]
  refine wpAnyH_ready (rs := [5]) (by kernel_rfl) (by simp) ?_
  refine AllReadyH.cons rfl (fun K hK => ?_) AllReadyH.nil
  go_simp
  (with_reducible refine (F2.out _).mono ?_)
  rintro e w1 ⟨rfl, rfl⟩
  refine hK.out _ _ (hHeld) (fun hHeld2 => ?_)
  try simp only [Act.put, List.setIfInBounds_toArray, List.set_cons_zero, List.set_cons_succ]
  clear hK K hHeld
  have hHeld := hHeld2
  clear hHeld2
  refine wpAnyH_ready (rs := [11]) (by kernel_rfl) (by simp) ?_
  refine AllReadyH.cons rfl (fun K hK => ?_) AllReadyH.nil
  go_simp
  (with_reducible refine (F3.out _).mono ?_)
  rintro e w1 ⟨rfl, rfl⟩
  refine hK.out _ _ (hHeld) (fun hHeld2 => ?_)
  try simp only [Act.put, List.setIfInBounds_toArray, List.set_cons_zero, List.set_cons_succ]
  clear hK K hHeld
  have hHeld := hHeld2
  clear hHeld2
  refine wpAnyH_ready (rs := [12]) (by kernel_rfl) (by simp) ?_
  refine AllReadyH.cons rfl (fun K hK => ?_) AllReadyH.nil
  go_simp
  refine hK.out _ _ hHeld (fun hHeld2 => ?_)
  try simp only [Act.put, List.setIfInBounds_toArray, List.set_cons_zero, List.set_cons_succ]
  clear hK K hHeld
  have hHeld := hHeld2
  clear hHeld2
  refine wpAnyH_take (i := 13) (v := .int .i64 (min m1 m2)) rfl (by kernel_rfl) (by kernel_rfl) (by kernel_rfl) (fun _ _ _ h => h) (Or.inl ⟨by kernel_rfl, ?_⟩) hHeld ?_
  · intro w hSw; (try dsimp only at hSw); go_simp; try with_reducible rfl
  change wpAnyH _ _ _ _ _ _ _ (Act.put _ (some 5) _) _
  try simp only [Act.put, List.setIfInBounds_toArray, List.set_cons_zero, List.set_cons_succ]
  clear F2 F3
  refine wpAnyH_done (by kernel_rfl) ?_ _
  have p0 : W0.drew.cell? ⟨G, 0, none⟩ = some (.int .i64 a) := p0
  have p1 : W0.drew.cell? ⟨G, 1, none⟩ = some (.int .i64 b) := p1
  have q0 : W0.drew.cell? ⟨G + 1, 0, none⟩ = some (.int .i64 c) := q0
  have q1 : W0.drew.cell? ⟨G + 1, 1, none⟩ = some (.int .i64 d) := q1
  clear hHeld
  go_upto_region 2 with fail
  refine wp_region_held_drew (S := fun w' => w'.cell? ⟨G, 0, none⟩ = some (.int .i64 a) ∧ w'.cell? ⟨G, 1, none⟩ = some (.int .i64 b) ∧ w'.cell? ⟨G + 1, 0, none⟩ = some (.int .i64 c) ∧ w'.cell? ⟨G + 1, 1, none⟩ = some (.int .i64 d)) (by kernel_rfl) ⟨p0, p1, q0, q1⟩ (fun hHeld => ?_)
  refine wpAnyH_take (i := 0) (v := .pointer (some ⟨G, 1, none⟩)) rfl (by kernel_rfl) (by kernel_rfl) (by kernel_rfl) (fun _ _ _ h => h) (Or.inl ⟨by kernel_rfl, ?_⟩) hHeld ?_
  · intro w hSw; (try dsimp only at hSw); go_simp; try with_reducible rfl
  change wpAnyH _ _ _ _ _ _ _ (Act.put _ (some 20) _) _
  try simp only [Act.put, List.setIfInBounds_toArray, List.set_cons_zero, List.set_cons_succ]
  refine wpAnyH_take (i := 1) (v := .int .i64 b) rfl (by kernel_rfl) (by kernel_rfl) (by kernel_rfl) (fun _ _ _ h => h) (Or.inl ⟨by kernel_rfl, ?_⟩) hHeld ?_
  · intro w hSw; (try dsimp only at hSw); go_simp; try with_reducible rfl
  change wpAnyH _ _ _ _ _ _ _ (Act.put _ (some 21) _) _
  try simp only [Act.put, List.setIfInBounds_toArray, List.set_cons_zero, List.set_cons_succ]
  refine wpAnyH_take (i := 2) (v := .int .i64 (-1000 * b)) rfl (by kernel_rfl) (by kernel_rfl) (by kernel_rfl) (fun _ _ _ h => h) (Or.inl ⟨by kernel_rfl, ?_⟩) hHeld ?_
  · intro w hSw; (try dsimp only at hSw); go_simp; try with_reducible rfl
  change wpAnyH _ _ _ _ _ _ _ (Act.put _ (some 22) _) _
  try simp only [Act.put, List.setIfInBounds_toArray, List.set_cons_zero, List.set_cons_succ]
  refine wpAnyH_take (i := 3) (v := .pointer (some ⟨G + 1, 0, none⟩)) rfl (by kernel_rfl) (by kernel_rfl) (by kernel_rfl) (fun _ _ _ h => h) (Or.inl ⟨by kernel_rfl, ?_⟩) hHeld ?_
  · intro w hSw; (try dsimp only at hSw); go_simp; try with_reducible rfl
  change wpAnyH _ _ _ _ _ _ _ (Act.put _ (some 23) _) _
  try simp only [Act.put, List.setIfInBounds_toArray, List.set_cons_zero, List.set_cons_succ]
  refine wpAnyH_take (i := 4) (v := .int .i64 c) rfl (by kernel_rfl) (by kernel_rfl) (by kernel_rfl) (fun _ _ _ h => h) (Or.inl ⟨by kernel_rfl, ?_⟩) hHeld ?_
  · intro w hSw; (try dsimp only at hSw); go_simp; try with_reducible rfl
  change wpAnyH _ _ _ _ _ _ _ (Act.put _ (some 24) _) _
  try simp only [Act.put, List.setIfInBounds_toArray, List.set_cons_zero, List.set_cons_succ]
  refine wpAnyH_take (i := 7) (v := .pointer (some ⟨G, 1, none⟩)) rfl (by kernel_rfl) (by kernel_rfl) (by kernel_rfl) (fun _ _ _ h => h) (Or.inl ⟨by kernel_rfl, ?_⟩) hHeld ?_
  · intro w hSw; (try dsimp only at hSw); go_simp; try with_reducible rfl
  change wpAnyH _ _ _ _ _ _ _ (Act.put _ (some 27) _) _
  try simp only [Act.put, List.setIfInBounds_toArray, List.set_cons_zero, List.set_cons_succ]
  refine wpAnyH_take (i := 8) (v := .int .i64 b) rfl (by kernel_rfl) (by kernel_rfl) (by kernel_rfl) (fun _ _ _ h => h) (Or.inl ⟨by kernel_rfl, ?_⟩) hHeld ?_
  · intro w hSw; (try dsimp only at hSw); go_simp; try with_reducible rfl
  change wpAnyH _ _ _ _ _ _ _ (Act.put _ (some 28) _) _
  try simp only [Act.put, List.setIfInBounds_toArray, List.set_cons_zero, List.set_cons_succ]
  refine wpAnyH_take (i := 9) (v := .int .i64 (-1000 * b)) rfl (by kernel_rfl) (by kernel_rfl) (by kernel_rfl) (fun _ _ _ h => h) (Or.inl ⟨by kernel_rfl, ?_⟩) hHeld ?_
  · intro w hSw; (try dsimp only at hSw); go_simp; try with_reducible rfl
  change wpAnyH _ _ _ _ _ _ _ (Act.put _ (some 29) _) _
  try simp only [Act.put, List.setIfInBounds_toArray, List.set_cons_zero, List.set_cons_succ]
  refine wpAnyH_take (i := 10) (v := .pointer (some ⟨G + 1, 1, none⟩)) rfl (by kernel_rfl) (by kernel_rfl) (by kernel_rfl) (fun _ _ _ h => h) (Or.inl ⟨by kernel_rfl, ?_⟩) hHeld ?_
  · intro w hSw; (try dsimp only at hSw); go_simp; try with_reducible rfl
  change wpAnyH _ _ _ _ _ _ _ (Act.put _ (some 30) _) _
  try simp only [Act.put, List.setIfInBounds_toArray, List.set_cons_zero, List.set_cons_succ]
  refine wpAnyH_take (i := 11) (v := .int .i64 d) rfl (by kernel_rfl) (by kernel_rfl) (by kernel_rfl) (fun _ _ _ h => h) (Or.inl ⟨by kernel_rfl, ?_⟩) hHeld ?_
  · intro w hSw; (try dsimp only at hSw); go_simp; try with_reducible rfl
  change wpAnyH _ _ _ _ _ _ _ (Act.put _ (some 31) _) _
  try simp only [Act.put, List.setIfInBounds_toArray, List.set_cons_zero, List.set_cons_succ]
  refine wpAnyH_ready (rs := [5]) (by kernel_rfl) (by simp) ?_
  refine AllReadyH.cons rfl (fun K hK => ?_) AllReadyH.nil
  go_simp
  (with_reducible refine (F4.out _).mono ?_)
  rintro e w1 ⟨rfl, rfl⟩
  refine hK.out _ _ (hHeld) (fun hHeld2 => ?_)
  try simp only [Act.put, List.setIfInBounds_toArray, List.set_cons_zero, List.set_cons_succ]
  clear hK K hHeld
  have hHeld := hHeld2
  clear hHeld2
  refine wpAnyH_take (i := 6) (v := .int .i64 (-m3)) rfl (by kernel_rfl) (by kernel_rfl) (by kernel_rfl) (fun _ _ _ h => h) (Or.inl ⟨by kernel_rfl, ?_⟩) hHeld ?_
  · intro w hSw; (try dsimp only at hSw); go_simp; try with_reducible rfl
  change wpAnyH _ _ _ _ _ _ _ (Act.put _ (some 26) _) _
  try simp only [Act.put, List.setIfInBounds_toArray, List.set_cons_zero, List.set_cons_succ]
  refine wpAnyH_ready (rs := [12]) (by kernel_rfl) (by simp) ?_
  refine AllReadyH.cons rfl (fun K hK => ?_) AllReadyH.nil
  go_simp
  (with_reducible refine (F5.out _).mono ?_)
  rintro e w1 ⟨rfl, rfl⟩
  refine hK.out _ _ (hHeld) (fun hHeld2 => ?_)
  try simp only [Act.put, List.setIfInBounds_toArray, List.set_cons_zero, List.set_cons_succ]
  clear hK K hHeld
  have hHeld := hHeld2
  clear hHeld2
  refine wpAnyH_take (i := 13) (v := .int .i64 (-m4)) rfl (by kernel_rfl) (by kernel_rfl) (by kernel_rfl) (fun _ _ _ h => h) (Or.inl ⟨by kernel_rfl, ?_⟩) hHeld ?_
  · intro w hSw; (try dsimp only at hSw); go_simp; try with_reducible rfl
  change wpAnyH _ _ _ _ _ _ _ (Act.put _ (some 33) _) _
  try simp only [Act.put, List.setIfInBounds_toArray, List.set_cons_zero, List.set_cons_succ]
  refine wpAnyH_ready (rs := [14]) (by kernel_rfl) (by simp) ?_
  refine AllReadyH.cons rfl (fun K hK => ?_) AllReadyH.nil
  go_simp
  refine hK.out _ _ hHeld (fun hHeld2 => ?_)
  try simp only [Act.put, List.setIfInBounds_toArray, List.set_cons_zero, List.set_cons_succ]
  clear hK K hHeld
  have hHeld := hHeld2
  clear hHeld2
  refine wpAnyH_take (i := 15) (v := .int .i64 (max (-m3) (-m4))) rfl (by kernel_rfl) (by kernel_rfl) (by kernel_rfl) (fun _ _ _ h => h) (Or.inl ⟨by kernel_rfl, ?_⟩) hHeld ?_
  · intro w hSw; (try dsimp only at hSw); go_simp; try with_reducible rfl
  change wpAnyH _ _ _ _ _ _ _ (Act.put _ (some 6) _) _
  try simp only [Act.put, List.setIfInBounds_toArray, List.set_cons_zero, List.set_cons_succ]
  refine wpAnyH_done (by kernel_rfl) ?_ _
  clear hHeld F4 F5 p0 p1 q0 q1 k1 k2 k4 k5
  have HE9 := Lib.hid HE.out.drew.drew
  have HK9 : Hid (Blk W0.drew.drew (G + 1 + 1) 23 #[.int .i64 0, .int .i64 0]) := Lib.hid (HK.out _ (.head _)).drew.drew
  obtain ⟨M, hM⟩ : ∃ M, max (-m3) (-m4) = M := ⟨_, rfl⟩
  obtain ⟨m, hm⟩ : ∃ m, min m1 m2 = m := ⟨_, rfl⟩
  rw [hM, hm]
  have HM := Lib.hid hM
  have Hm := Lib.hid hm
  clear hM hm
  clear HK
  generalize W0.drew.drew = W9 at *
  have z0 := HK9.out.cell 0
  have z1 := HK9.out.cell 1
  have zf0 := HK9.out.frozen 0
  have zf1 := HK9.out.frozen 1
  have zl := HK9.out.lt
  simp at z0 z1 zf0 zf1
  go_wp2
  refine bodyPost_ret (v := rv m M) (by simp [results, Tryz.results45, go_sem, z0, z1]) rfl ⟨by rw [HM.out, Hm.out], ?_⟩
  have hg := HG.out
  repeat (first | exact HE9.out | refine Below.setCell ?_ (by simp <;> omega) _)
end

section
open Go.RowKit

theorem placesS_in {ps : List P3} {x : Int} (ht : tabOk ps = true) (h1 : firstX ps ≤ x) (h2 : x ≤ lastX ps) : placesS ps x x = 0 := by
  unfold placesS
  obtain ⟨pl1, pl2⟩ := places_in ht
  rw [if_pos ht, if_pos (by simp only [inB, decide_eq_true_eq]; omega)]
theorem AtS_in {ps : List P3} {x : Int} (ht : tabOk ps = true) (h1 : firstX ps ≤ x) (h2 : x ≤ lastX ps) : AtS ps x = ((atS ps x).1, (atS ps x).2, 0) := by
  unfold AtS
  rw [if_pos (placesS_in ht h1 h2)]

set_option maxRecDepth 100000 in
set_option maxHeartbeats 4000000 in
theorem sat_tab (A : Option Addr) (n c : Nat) (ps : List P3) (x : Int) (w : World) (hp : TabIn w A n ps) (ht : tabOk ps = true) (hx1 : firstX ps ≤ x) (hx2 : x ≤ lastX ps) :
    Calls Tryz.prog 81 #[tv A n c, .int .i64 x] w fun e w' => e = .returned (rv (atS ps x).1 (atS ps x).2) ∧ Below w.heap.size w w' := by
  have HE := Lib.hid (show Below w.heap.size w ((w.alloc (.cells #[.slice A n c] 26)).alloc (.cells #[.int .i64 0, .int .i64 0] 23)) from below_a2 (Below.refl _ _))
  have HK := Lib.hid (boxes2' w 26 23 #[.slice A n c] #[.int .i64 0, .int .i64 0])
  have C1 : Hid (∀ W, Below w.heap.size w W → Calls Tryz.prog 128 #[tv A n c, .int .i64 x] W fun e w' => e = .returned (rt ((atS ps x).1, (atS ps x).2, 0)) ∧ Below W.heap.size W w') := Lib.hid fun W hW => by
    have q := rAt_all A n c ps x W hp.1 hp.2.1 (hp.below hW).2.2
    rw [AtS_in ht hx1 hx2] at q
    exact q
  clear hp ht hx1 hx2
  generalize (atS ps x).1 = p at *
  generalize (atS ps x).2 = q at *
  go_enter Tryz.func81, Tryz.ntmps81
  go_wp2_with fail
  obtain ⟨W0, hW0⟩ : ∃ W0, ((w.alloc (.cells #[.slice A n c] 26)).alloc (.cells #[.int .i64 0, .int .i64 0] 23)) = W0 := ⟨_, rfl⟩
  rw [hW0] at HE HK ⊢
  clear hW0
  obtain ⟨G, hG⟩ : ∃ G, w.heap.size = G := ⟨_, rfl⟩
  rw [hG] at HK ⊢
  have HG := Lib.hid hG; clear hG
  have t := HK.out _ (.tail _ (.head _))
  have t0 := t.cell 0
  simp at t0
  clear t
  go_upto_region 1 with fail
  refine (C1.out _ HE.out).mono ?_
  rintro e w1 ⟨rfl, hb⟩
  have HE9 := Lib.hid (below_then (below_then HE.out hb) (below_alloc1 w1 (.cells #[.int .i64 p, .int .i64 q] 23))); have HK9 := Lib.hid ((HK.out.on hb).new 23 #[.int .i64 p, .int .i64 q])
  clear hb HE HK C1 t0
  go_upto_region 2 with fail
  obtain ⟨W9, hW⟩ : ∃ W9, w1.alloc (.cells #[.int .i64 p, .int .i64 q] 23) = W9 := ⟨_, rfl⟩
  rw [hW] at HE9 HK9 ⊢
  clear hW
  obtain ⟨N9, hN⟩ : ∃ N, w1.heap.size = N := ⟨_, rfl⟩
  rw [hN] at HK9 ⊢
  clear hN
  have a := HK9.out _ (.head _)
  have a0 := a.cell 0
  have a1 := a.cell 1
  simp at a0 a1
  clear a
  have z := HK9.out _ (.tail _ (.head _))
  have z0 := z.cell 0
  have zf0 := z.frozen 0
  have z1 := z.cell 1
  have zf1 := z.frozen 1
  have zl := z.lt
  simp at z0 zf0 z1 zf1
  clear z
  go_wp2
  refine bodyPost_ret (v := rv p q) (by simp [results, Tryz.results81, go_sem, z0, z1]) rfl ⟨rfl, ?_⟩
  have hg := HG.out
  repeat (first | exact HE9.out | refine Below.setCell ?_ (by simp <;> omega) _)
/-- surely more than the volume, or surely less -/
def besideS (ps : List P3) (v0 v1 : Int) (f : Bool) (x : Int) : Bool := if f then moreF ps v1 x else lessF ps v0 x

set_option maxRecDepth 100000 in
set_option maxHeartbeats 4000000 in
theorem sbeside_tab (A : Option Addr) (n c : Nat) (ps : List P3) (v0 v1 x : Int) (f t : Bool) (w : World) (hp : TabIn w A n ps) (ht : tabOk ps = true) (hx1 : firstX ps ≤ x) (hx2 : x ≤ lastX ps) (hT : besideS ps v0 v1 f x = t) :
    Calls Tryz.prog 102 #[tv A n c, rv v0 v1, .int .i64 x, .bool f] w fun e w' => e = .returned (.bool t) ∧ Below w.heap.size w w' := by
  have HE := Lib.hid (show Below w.heap.size w ((w.alloc (.cells #[.slice A n c] 26)).alloc (.cells #[.int .i64 v0, .int .i64 v1] 23)) from below_a2 (Below.refl _ _))
  have HK := Lib.hid (boxes2' w 26 23 #[.slice A n c] #[.int .i64 v0, .int .i64 v1])
  have C1 : Hid (∀ W, Below w.heap.size w W → Calls Tryz.prog 81 #[tv A n c, .int .i64 x] W fun e w' => e = .returned (rv (atS ps x).1 (atS ps x).2) ∧ Below W.heap.size W w') := Lib.hid fun W hW => sat_tab A n c ps x W (hp.below hW) ht hx1 hx2
  clear hp ht hx1 hx2
  unfold besideS moreF lessF at hT
  generalize (atS ps x).1 = p at *
  generalize (atS ps x).2 = q at *
  cases f
  all_goals
    simp only [Bool.false_eq_true, if_false, if_true] at hT
    have HT := Lib.hid hT
    clear hT
    go_enter Tryz.func102, Tryz.ntmps102
    go_wp2_with fail
    obtain ⟨W0, hW0⟩ : ∃ W0, ((w.alloc (.cells #[.slice A n c] 26)).alloc (.cells #[.int .i64 v0, .int .i64 v1] 23)) = W0 := ⟨_, rfl⟩
    rw [hW0] at HE HK ⊢
    clear hW0
    obtain ⟨G, hG⟩ : ∃ G, w.heap.size = G := ⟨_, rfl⟩
    rw [hG] at HK ⊢
    have HG := Lib.hid hG; clear hG
    have t := HK.out _ (.tail _ (.head _))
    have t0 := t.cell 0
    simp at t0
    clear t
    go_upto_region 1 with fail
    refine (C1.out _ HE.out).mono ?_
    rintro e w1 ⟨rfl, hb⟩
    have HE9 := Lib.hid (below_then (below_then HE.out hb) (below_alloc1 w1 (.cells #[.int .i64 p, .int .i64 q] 23))); have HK9 := Lib.hid ((HK.out.on hb).new 23 #[.int .i64 p, .int .i64 q])
    clear hb HE HK C1 t0
    go_upto_region 2 with fail
    obtain ⟨W9, hW⟩ : ∃ W9, w1.alloc (.cells #[.int .i64 p, .int .i64 q] 23) = W9 := ⟨_, rfl⟩
    rw [hW] at HE9 HK9 ⊢
    clear hW
    obtain ⟨N9, hN⟩ : ∃ N, w1.heap.size = N := ⟨_, rfl⟩
    rw [hN] at HK9 ⊢
    clear hN
    have a := HK9.out _ (.head _)
    have a0 := a.cell 0
    have a1 := a.cell 1
    simp at a0 a1
    clear a
    have z := HK9.out _ (.tail _ (.head _))
    have z0 := z.cell 0
    have z1 := z.cell 1
    simp at z0 z1
    clear z
    go_wp2
    all_goals
      go_ret
      exact ⟨by rw [← HT.out]; first | (simp; done) | (simp; omega), HE9.out⟩
end

section
open Go.RowKit
attribute [local go_sem ↓] eqlRange neqRange
theorem results_cell_tmp_row {P : Program} {fn : Func} {p q : Tmp} {ty : TypeId} (h : fn.results = #[.cell p ty, .tmp q]) (tmps : Array Value) (w : World) (g : Nat) (t : TypeId) (cs : Array Value) (fr : Nat × Nat) (d : TypeDesc) (x : Value)
    (hp : tmps.getD p undef = .pointer (some ⟨g, 0, none⟩)) (hq : tmps.getD q undef = x) (hg : w.heap[g]? = some (.cells cs t fr))
    (hu : P.underlying ty = some d) (hd : (match d with | .struct _ | .array _ _ => true | _ => false) = true) (hi : (P.info? ty).map (·.size) = some cs.size) :
    (results fn tmps).run P w = .ok (.tuple #[.agg cs, x]) w := by
  have hp' : tmps[p]?.getD undef = .pointer (some ⟨g, 0, none⟩) := by simpa using hp
  have hq' : tmps[q]?.getD undef = x := by simpa using hq
  simp [results, h, hp', hq', asAddr, run_loadVar_row w g t ty cs fr d hg hu hd hi]
theorem Boxes.set2 {W : World} {g : Nat} {t : TypeId} {x y : Value} {L : List (Nat × TypeId × Array Value)} (h : Boxes W ((g, t, #[x, y]) :: L)) (hg : ∀ p ∈ L, p.1 ≠ g) (a b : Value) :
    Boxes ((W.setCell ⟨g, 0, none⟩ a).setCell ⟨g, 1, none⟩ b) ((g, t, #[a, b]) :: L) := fun p hp => by
  rcases List.mem_cons.1 hp with rfl | hp
  · simpa using ((h _ (.head _)).set_ 0 a).set_ 1 b
  · exact ((h p (.tail _ hp)).far (p := ⟨g, 0, none⟩) (hg p hp) a).far (p := ⟨g, 1, none⟩) (hg p hp) b
/-- the least range that has both, as hold asks for it -/
def hulS (a b c d : Int) : Int × Int := ((hullS a b c d).1, (hullS a b c d).2.1)

set_option maxRecDepth 100000 in
set_option maxHeartbeats 4000000 in
theorem hhull_any (a b c d : Int) (w : World) :
    Calls Tryz.prog 83 #[rv a b, rv c d] w fun e w' => e = .returned (rv (hulS a b c d).1 (hulS a b c d).2) ∧ Below w.heap.size w w' := by
  have HE := Lib.hid (show Below w.heap.size w (((w.alloc (.cells #[.int .i64 a, .int .i64 b] 23)).alloc (.cells #[.int .i64 c, .int .i64 d] 23)).alloc (.cells #[.int .i64 0, .int .i64 0] 23)) from below_a3 (Below.refl _ _))
  have HK := Lib.hid (boxes3' w 23 23 23 #[.int .i64 a, .int .i64 b] #[.int .i64 c, .int .i64 d] #[.int .i64 0, .int .i64 0])
  have CC : Hid (∀ W, Calls Tryz.prog 131 #[rv a b, rv c d] W fun e w' => e = .returned (rt (hullS a b c d)) ∧ Below W.heap.size W w') := Lib.hid fun W => hull_any a b c d W
  unfold hulS
  generalize hullS a b c d = R at *
  obtain ⟨p, q, r⟩ := R
  go_enter Tryz.func83, Tryz.ntmps83
  go_wp2_with fail
  obtain ⟨W0, hW0⟩ : ∃ W0, (((w.alloc (.cells #[.int .i64 a, .int .i64 b] 23)).alloc (.cells #[.int .i64 c, .int .i64 d] 23)).alloc (.cells #[.int .i64 0, .int .i64 0] 23)) = W0 := ⟨_, rfl⟩
  rw [hW0] at HE HK ⊢
  clear hW0
  obtain ⟨G, hG⟩ : ∃ G, w.heap.size = G := ⟨_, rfl⟩
  rw [hG] at HK ⊢
  have HG := Lib.hid hG; clear hG
  refine (CC.out _).mono ?_
  rintro e w1 ⟨rfl, hb⟩
  have HE1 := Lib.hid (below_then (below_then HE.out hb) (below_alloc1 w1 (.cells #[.int .i64 p, .int .i64 q] 23))); have HK1 := Lib.hid ((HK.out.on hb).new 23 #[.int .i64 p, .int .i64 q])
  clear hb HE HK CC
  go_upto_region 2 with fail
  obtain ⟨W1, hW1⟩ : ∃ W1, w1.alloc (.cells #[.int .i64 p, .int .i64 q] 23) = W1 := ⟨_, rfl⟩
  rw [hW1] at HE1 HK1 ⊢
  clear hW1
  obtain ⟨N, hN⟩ : ∃ N, w1.heap.size = N := ⟨_, rfl⟩
  rw [hN] at HK1 ⊢
  clear hN
  have p := HK1.out _ (.head _)
  have p0 := p.cell 0
  have p1 := p.cell 1
  simp at p0 p1
  clear p
  have z := HK1.out _ (.tail _ (.head _))
  have z0 := z.cell 0
  have zf0 := z.frozen 0
  have z1 := z.cell 1
  have zf1 := z.frozen 1
  have zl := z.lt
  simp at z0 zf0 z1 zf1
  clear z
  go_wp2
  refine bodyPost_ret (v := rv p q) (by simp [results, Tryz.results83, go_sem, z0, z1]) rfl ⟨rfl, ?_⟩
  have hg := HG.out
  repeat (first | exact HE1.out | refine Below.setCell ?_ (by simp <;> omega) _)

/-- the density of what two fills have -/
def mixS (a b c d : Int) : Int × Int := if (a == 0 && b == 0) = true then (c, d) else if (c == 0 && d == 0) = true then (a, b) else hulS a b c d

set_option maxRecDepth 100000 in
set_option maxHeartbeats 4000000 in
theorem mix_any (a b c d : Int) (w : World) :
    Calls Tryz.prog 68 #[rv a b, rv c d] w fun e w' => e = .returned (rv (mixS a b c d).1 (mixS a b c d).2) ∧ Below w.heap.size w w' := by
  have HE := Lib.hid (show Below w.heap.size w (((w.alloc (.cells #[.int .i64 a, .int .i64 b] 23)).alloc (.cells #[.int .i64 c, .int .i64 d] 23)).alloc (.cells #[.int .i64 0, .int .i64 0] 23)) from below_a3 (Below.refl _ _))
  have HK := Lib.hid (boxes3' w 23 23 23 #[.int .i64 a, .int .i64 b] #[.int .i64 c, .int .i64 d] #[.int .i64 0, .int .i64 0])
  have CC : Hid (∀ W, Calls Tryz.prog 83 #[rv a b, rv c d] W fun e w' => e = .returned (rv (hulS a b c d).1 (hulS a b c d).2) ∧ Below W.heap.size W w') := Lib.hid fun W => hhull_any a b c d W
  cases g1 : (a == 0 && b == 0)
  · cases g2 : (c == 0 && d == 0)
    · have e : mixS a b c d = hulS a b c d := by unfold mixS; rw [g1, g2]; rfl
      rw [e]
      clear e
      generalize hulS a b c d = R at *
      obtain ⟨p, q⟩ := R
      go_enter Tryz.func68, Tryz.ntmps68
      go_wp2_with fail
      obtain ⟨W0, hW0⟩ : ∃ W0, (((w.alloc (.cells #[.int .i64 a, .int .i64 b] 23)).alloc (.cells #[.int .i64 c, .int .i64 d] 23)).alloc (.cells #[.int .i64 0, .int .i64 0] 23)) = W0 := ⟨_, rfl⟩
      rw [hW0] at HE HK ⊢
      clear hW0
      obtain ⟨G, hG⟩ : ∃ G, w.heap.size = G := ⟨_, rfl⟩
      rw [hG] at HK ⊢
      have HG := Lib.hid hG; clear hG
      refine (CC.out _).mono ?_
      rintro e w1 ⟨rfl, hb⟩
      have HE1 := Lib.hid (below_then HE.out hb); have HK1 := Lib.hid (HK.out.on hb)
      clear hb HE HK CC g1 g2
      have z := HK1.out _ (.head _)
      have z0 := z.cell 0
      have zf0 := z.frozen 0
      have z1 := z.cell 1
      have zf1 := z.frozen 1
      have zl := z.lt
      simp at z0 zf0 z1 zf1
      clear z
      go_wp2
      refine bodyPost_ret (v := rv p q) (by simp [results, Tryz.results68, go_sem, z0, z1]) rfl ⟨rfl, ?_⟩
      have hg := HG.out
      repeat (first | exact HE1.out | refine Below.setCell ?_ (by simp <;> omega) _)
    · have e : mixS a b c d = (a, b) := by unfold mixS; rw [g1, g2]; rfl
      rw [e]
      clear e CC HK
      go_enter Tryz.func68, Tryz.ntmps68
      go_wp2
      refine bodyPost_ret (v := rv a b) (by simp [results, Tryz.results68, go_sem]) rfl ⟨rfl, ?_⟩
      repeat (first | exact HE.out | exact Below.refl _ _ | refine Below.setCell ?_ (by simp <;> omega) _ | refine Below.alloc ?_ (by simp <;> omega) _)
  · have e : mixS a b c d = (c, d) := by unfold mixS; rw [g1]; rfl
    rw [e]
    clear e CC HK
    go_enter Tryz.func68, Tryz.ntmps68
    go_wp2
    refine bodyPost_ret (v := rv c d) (by simp [results, Tryz.results68, go_sem]) rfl ⟨rfl, ?_⟩
    repeat (first | exact HE.out | exact Below.refl _ _ | refine Below.setCell ?_ (by simp <;> omega) _ | refine Below.alloc ?_ (by simp <;> omega) _)

/-- a fill and an error as values -/
abbrev ft (r : FillD × Int) : Value := .tuple #[fillV r.1, .int .i64 r.2]
def noFill : FillD := ⟨0, 0, 0, 0, 0, 0⟩
/-- a hold behind grain was poured or drawn -/
def movedS (ps : List P3) (id x y a0 a1 d0 d1 : Int) : FillD × Int :=
  if (ullS ps x y).2.2 = 0 then (if (meetS (ullS ps x y).1 (ullS ps x y).2.1 a0 a1).2.2 = 0 then (⟨id, 3, (meetS (ullS ps x y).1 (ullS ps x y).2.1 a0 a1).1, (meetS (ullS ps x y).1 (ullS ps x y).2.1 a0 a1).2.1, d0, d1⟩, 0) else (noFill, 24)) else (noFill, (ullS ps x y).2.2)

set_option maxRecDepth 100000 in
set_option maxHeartbeats 4000000 in
theorem moved_any (ps : List P3) (id al ah t0 t1 u0 u1 v0 v1 h0 h1 : Int) (A B C : Option Addr) (n c mm d l ee : Nat) (x y a0 a1 d0 d1 : Int) (w : World) (hp : TabIn w A n ps) (ht : tabOk ps = true) (hle : firstX ps ≤ lastX ps) :
    Calls Tryz.prog 67 #[.agg #[.int .i64 id, .int .i64 al, .int .i64 ah, .slice A n c, .slice B mm d, .slice C l ee, .int .i64 t0, .int .i64 t1, .int .i64 u0, .int .i64 u1, .int .i64 v0, .int .i64 v1, .int .i64 h0, .int .i64 h1], rv x y, rv a0 a1, rv d0 d1] w fun e w' => e = .returned (ft (movedS ps id x y a0 a1 d0 d1)) ∧ Below w.heap.size w w' := by
  have HE := Lib.hid (show Below w.heap.size w (((((w.alloc (.cells #[.int .i64 id, .int .i64 al, .int .i64 ah, .slice A n c, .slice B mm d, .slice C l ee, .int .i64 t0, .int .i64 t1, .int .i64 u0, .int .i64 u1, .int .i64 v0, .int .i64 v1, .int .i64 h0, .int .i64 h1] 45)).alloc (.cells #[.int .i64 x, .int .i64 y] 23)).alloc (.cells #[.int .i64 a0, .int .i64 a1] 23)).alloc (.cells #[.int .i64 d0, .int .i64 d1] 23)).alloc (.cells #[.int .i64 0, .int .i64 0, .int .i64 0, .int .i64 0, .int .i64 0, .int .i64 0] 47)) from below_a5 (Below.refl _ _))
  have HK := Lib.hid (boxes5' w 45 23 23 23 47 #[.int .i64 id, .int .i64 al, .int .i64 ah, .slice A n c, .slice B mm d, .slice C l ee, .int .i64 t0, .int .i64 t1, .int .i64 u0, .int .i64 u1, .int .i64 v0, .int .i64 v1, .int .i64 h0, .int .i64 h1] #[.int .i64 x, .int .i64 y] #[.int .i64 a0, .int .i64 a1] #[.int .i64 d0, .int .i64 d1] #[.int .i64 0, .int .i64 0, .int .i64 0, .int .i64 0, .int .i64 0, .int .i64 0])
  obtain ⟨R, hR⟩ : ∃ R, movedS ps id x y a0 a1 d0 d1 = R := ⟨_, rfl⟩
  obtain ⟨U, hU⟩ : ∃ U, ullS ps x y = U := ⟨_, rfl⟩
  have C1 : Hid (∀ W, Below w.heap.size w W → Calls Tryz.prog 113 #[.agg #[.int .i64 id, .int .i64 al, .int .i64 ah, .slice A n c, .slice B mm d, .slice C l ee, .int .i64 t0, .int .i64 t1, .int .i64 u0, .int .i64 u1, .int .i64 v0, .int .i64 v1, .int .i64 h0, .int .i64 h1], rv x y] W fun e w' => e = .returned (rt U) ∧ Below W.heap.size W w') := Lib.hid fun W hW => by
    rw [← hU]; exact ullages_any ps id al ah t0 t1 u0 u1 v0 v1 h0 h1 A B C n c mm d l ee x y W (hp.below hW) ht hle
  have HR := Lib.hid hR
  rw [hR]
  unfold movedS at HR
  rw [hU] at HR
  clear hR hU hp ht hle
  obtain ⟨p, q, r⟩ := U
  have C2 : Hid (∀ W, Calls Tryz.prog 115 #[rv p q, rv a0 a1] W fun e w' => e = .returned (rt (meetS p q a0 a1)) ∧ Below W.heap.size W w') := Lib.hid fun W => meet_any p q a0 a1 W
  dsimp only at HR
  generalize meetS p q a0 a1 = M at *
  obtain ⟨j, k, e2⟩ := M
  dsimp only at HR
  go_enter Tryz.func67, Tryz.ntmps67
  go_wp2_with fail
  obtain ⟨W0, hW0⟩ : ∃ W0, (((((w.alloc (.cells #[.int .i64 id, .int .i64 al, .int .i64 ah, .slice A n c, .slice B mm d, .slice C l ee, .int .i64 t0, .int .i64 t1, .int .i64 u0, .int .i64 u1, .int .i64 v0, .int .i64 v1, .int .i64 h0, .int .i64 h1] 45)).alloc (.cells #[.int .i64 x, .int .i64 y] 23)).alloc (.cells #[.int .i64 a0, .int .i64 a1] 23)).alloc (.cells #[.int .i64 d0, .int .i64 d1] 23)).alloc (.cells #[.int .i64 0, .int .i64 0, .int .i64 0, .int .i64 0, .int .i64 0, .int .i64 0] 47)) = W0 := ⟨_, rfl⟩
  rw [hW0] at HE HK ⊢
  clear hW0
  obtain ⟨G, hG⟩ : ∃ G, w.heap.size = G := ⟨_, rfl⟩
  rw [hG] at HK ⊢
  have HG := Lib.hid hG; clear hG
  refine (C1.out _ HE.out).mono ?_
  rintro e w1 ⟨rfl, hb⟩
  have HE1 := Lib.hid (below_then (below_then HE.out hb) (below_alloc1 w1 (.cells #[.int .i64 p, .int .i64 q] 23))); have HK1 := Lib.hid ((HK.out.on hb).new 23 #[.int .i64 p, .int .i64 q])
  have hlt := (HK.out.on hb _ (.head _)).lt
  clear hb HE HK C1
  go_upto_region 2 with fail
  obtain ⟨W1, hW1⟩ : ∃ W1, w1.alloc (.cells #[.int .i64 p, .int .i64 q] 23) = W1 := ⟨_, rfl⟩
  rw [hW1] at HE1 HK1 ⊢
  clear hW1
  obtain ⟨N, hN⟩ : ∃ N, w1.heap.size = N := ⟨_, rfl⟩
  rw [hN] at HK1 hlt ⊢
  clear hN
  by_cases g : r = 0
  · subst g
    have p := HK1.out _ (.head _)
    have p0 := p.cell 0
    have pf0 := p.frozen 0
    have p1 := p.cell 1
    have pf1 := p.frozen 1
    simp at p0 pf0 p1 pf1
    clear p
    have aa := HK1.out _ (.tail _ (.tail _ (.tail _ (.head _))))
    have aa0 := aa.cell 0
    have aa1 := aa.cell 1
    simp at aa0 aa1
    clear aa
    go_wp2_with fail
    refine (C2.out _).mono ?_
    rintro e w2 ⟨rfl, hb⟩
    have hne : ∀ p ∈ ([(G + 1 + 1 + 1 + 1, 47, #[.int .i64 0, .int .i64 0, .int .i64 0, .int .i64 0, .int .i64 0, .int .i64 0]), (G + 1 + 1 + 1, 23, #[.int .i64 d0, .int .i64 d1]), (G + 1 + 1, 23, #[.int .i64 a0, .int .i64 a1]), (G + 1, 23, #[.int .i64 x, .int .i64 y]), (G, 45, #[.int .i64 id, .int .i64 al, .int .i64 ah, .slice A n c, .slice B mm d, .slice C l ee, .int .i64 t0, .int .i64 t1, .int .i64 u0, .int .i64 u1, .int .i64 v0, .int .i64 v1, .int .i64 h0, .int .i64 h1])] : List (Nat × TypeId × Array Value)), p.1 ≠ N := by
      intro p hp
      simp only [List.mem_cons, List.not_mem_nil, or_false] at hp
      rcases hp with rfl | rfl | rfl | rfl | rfl <;> (dsimp only; omega)
    have HE2 := Lib.hid (((below_then HE1.out hb).setCell (p := ⟨N, 0, none⟩) (by have := HG.out; simp; omega) (.int .i64 j)).setCell (p := ⟨N, 1, none⟩) (by have := HG.out; simp; omega) (.int .i64 k))
    have HK2 := Lib.hid (Boxes.set2 (HK1.out.on hb) hne (.int .i64 j) (.int .i64 k))
    have HKb := Lib.hid (HK1.out.on hb)
    clear hb HE1 HK1 C2 hne p0 p1 pf0 pf1
    have b := HKb.out _ (.head _)
    have b0 := b.cell 0
    have bf0 := b.frozen 0
    have b1 := b.cell 1
    have bf1 := b.frozen 1
    simp at b0 bf0 b1 bf1
    clear b
    go_upto_region 5 with fail
    obtain ⟨W3, hW3⟩ : ∃ W3, (w2.setCell ⟨N, 0, none⟩ (.int .i64 j)).setCell ⟨N, 1, none⟩ (.int .i64 k) = W3 := ⟨_, rfl⟩
    rw [hW3] at HE2 HK2 ⊢
    clear hW3 HKb b0 b1 bf0 bf1
    by_cases g2 : e2 = 0
    · have eR : R = (⟨id, 3, j, k, d0, d1⟩, 0) := by rw [← HR.out]; simp [g2]
      subst eR
      subst g2
      clear HR
      have p := HK2.out _ (.head _)
      have p0 := p.cell 0
      have p1 := p.cell 1
      simp at p0 p1
      clear p
      have r := HK2.out _ (.tail _ (.tail _ (.head _)))
      have r0 := r.cell 0
      have r1 := r.cell 1
      simp at r0 r1
      clear r
      have s := HK2.out _ (.tail _ (.tail _ (.tail _ (.tail _ (.tail _ (.head _))))))
      have s0 := s.cell 0
      simp at s0
      clear s
      go_upto_region 7 with fail
      refine wp_region_lit ?_
      refine wpList_plain rfl (fun K hK => ?_)
      go_simp
      refine hK _ _ ?_
      clear hK K
      refine wpList_plain rfl (fun K hK => ?_)
      go_simp
      refine hK _ _ ?_
      clear hK K
      refine wpList_plain rfl (fun K hK => ?_)
      go_simp
      refine hK _ _ ?_
      clear hK K
      refine wpList_plain rfl (fun K hK => ?_)
      go_simp
      refine hK _ _ ?_
      clear hK K
      refine wpList_plain rfl (fun K hK => ?_)
      go_simp
      refine hK _ _ ?_
      clear hK K
      have HKR : Hid (Blk (W3.setRow (G + 1 + 1 + 1 + 1) #[.int .i64 id, .int .i64 3, .int .i64 j, .int .i64 k, .int .i64 d0, .int .i64 d1]) (G + 1 + 1 + 1 + 1) 47 #[.int .i64 id, .int .i64 3, .int .i64 j, .int .i64 k, .int .i64 d0, .int .i64 d1]) := Lib.hid (setRow_heap W3 (G + 1 + 1 + 1 + 1) _ _ 47 _ (HK2.out _ (.tail _ (.head _))))
      have HE9 := Lib.hid (below_setRow HE2.out (show w.heap.size ≤ G + 1 + 1 + 1 + 1 by have := HG.out; omega) #[.int .i64 id, .int .i64 3, .int .i64 j, .int .i64 k, .int .i64 d0, .int .i64 d1])
      refine wpList_store_row rfl 47 (.tmp 8) (.tmp 35) rfl (G + 1 + 1 + 1 + 1) #[.int .i64 id, .int .i64 3, .int .i64 j, .int .i64 k, .int .i64 d0, .int .i64 d1] rfl rfl 47 _ (HK2.out _ (.tail _ (.head _))) (by kernel_rfl) rfl (by kernel_rfl) ?_
      obtain ⟨W9, hW9⟩ : ∃ W9, W3.setRow (G + 1 + 1 + 1 + 1) #[.int .i64 id, .int .i64 3, .int .i64 j, .int .i64 k, .int .i64 d0, .int .i64 d1] = W9 := ⟨_, rfl⟩
      rw [hW9] at HKR HE9 ⊢
      clear hW9
      go_wp2
      exact bodyPost_ret (v := .tuple #[.agg #[.int .i64 id, .int .i64 3, .int .i64 j, .int .i64 k, .int .i64 d0, .int .i64 d1], .int .i64 0]) (results_cell_tmp_row Tryz.results67 _ _ (G + 1 + 1 + 1 + 1) 47 #[.int .i64 id, .int .i64 3, .int .i64 j, .int .i64 k, .int .i64 d0, .int .i64 d1] (0, 0) _ _ rfl rfl HKR.out Tryz.underlying47 rfl (by kernel_rfl)) rfl ⟨rfl, HE9.out⟩
    · have eR : R = (noFill, 24) := by rw [← HR.out]; simp [g2]
      subst eR
      clear HR
      go_upto_region 6 with fail
      refine wp_region_lit ?_
      refine wpList_plain rfl (fun K hK => ?_)
      go_simp
      refine hK _ _ ?_
      clear hK K
      have HKR : Hid (Blk (W3.setRow (G + 1 + 1 + 1 + 1) #[.int .i64 0, .int .i64 0, .int .i64 0, .int .i64 0, .int .i64 0, .int .i64 0]) (G + 1 + 1 + 1 + 1) 47 #[.int .i64 0, .int .i64 0, .int .i64 0, .int .i64 0, .int .i64 0, .int .i64 0]) := Lib.hid (setRow_heap W3 (G + 1 + 1 + 1 + 1) _ _ 47 _ (HK2.out _ (.tail _ (.head _))))
      have HE9 := Lib.hid (below_setRow HE2.out (show w.heap.size ≤ G + 1 + 1 + 1 + 1 by have := HG.out; omega) #[.int .i64 0, .int .i64 0, .int .i64 0, .int .i64 0, .int .i64 0, .int .i64 0])
      refine wpList_store_row rfl 47 (.tmp 8) (.tmp 30) rfl (G + 1 + 1 + 1 + 1) #[.int .i64 0, .int .i64 0, .int .i64 0, .int .i64 0, .int .i64 0, .int .i64 0] rfl rfl 47 _ (HK2.out _ (.tail _ (.head _))) (by kernel_rfl) rfl (by kernel_rfl) ?_
      obtain ⟨W9, hW9⟩ : ∃ W9, W3.setRow (G + 1 + 1 + 1 + 1) #[.int .i64 0, .int .i64 0, .int .i64 0, .int .i64 0, .int .i64 0, .int .i64 0] = W9 := ⟨_, rfl⟩
      rw [hW9] at HKR HE9 ⊢
      clear hW9
      go_wp2
      exact bodyPost_ret (v := .tuple #[.agg #[.int .i64 0, .int .i64 0, .int .i64 0, .int .i64 0, .int .i64 0, .int .i64 0], .int .i64 24]) (results_cell_tmp_row Tryz.results67 _ _ (G + 1 + 1 + 1 + 1) 47 #[.int .i64 0, .int .i64 0, .int .i64 0, .int .i64 0, .int .i64 0, .int .i64 0] (0, 0) _ _ rfl rfl HKR.out Tryz.underlying47 rfl (by kernel_rfl)) rfl ⟨rfl, HE9.out⟩
  · have eR : R = (noFill, r) := by rw [← HR.out, if_neg g]
    subst eR
    clear HR C2
    go_upto_region 3 with fail
    refine wp_region_lit ?_
    refine wpList_plain rfl (fun K hK => ?_)
    go_simp
    refine hK _ _ ?_
    clear hK K
    refine wpList_plain rfl (fun K hK => ?_)
    go_simp
    refine hK _ _ ?_
    clear hK K
    have HKR : Hid (Blk (W1.setRow (G + 1 + 1 + 1 + 1) #[.int .i64 0, .int .i64 0, .int .i64 0, .int .i64 0, .int .i64 0, .int .i64 0]) (G + 1 + 1 + 1 + 1) 47 #[.int .i64 0, .int .i64 0, .int .i64 0, .int .i64 0, .int .i64 0, .int .i64 0]) := Lib.hid (setRow_heap W1 (G + 1 + 1 + 1 + 1) _ _ 47 _ (HK1.out _ (.tail _ (.head _))))
    have HE9 := Lib.hid (below_setRow HE1.out (show w.heap.size ≤ G + 1 + 1 + 1 + 1 by have := HG.out; omega) #[.int .i64 0, .int .i64 0, .int .i64 0, .int .i64 0, .int .i64 0, .int .i64 0])
    refine wpList_store_row rfl 47 (.tmp 8) (.tmp 20) rfl (G + 1 + 1 + 1 + 1) #[.int .i64 0, .int .i64 0, .int .i64 0, .int .i64 0, .int .i64 0, .int .i64 0] rfl rfl 47 _ (HK1.out _ (.tail _ (.head _))) (by kernel_rfl) rfl (by kernel_rfl) ?_
    obtain ⟨W9, hW9⟩ : ∃ W9, W1.setRow (G + 1 + 1 + 1 + 1) #[.int .i64 0, .int .i64 0, .int .i64 0, .int .i64 0, .int .i64 0, .int .i64 0] = W9 := ⟨_, rfl⟩
    rw [hW9] at HKR HE9 ⊢
    clear hW9
    go_wp2
    exact bodyPost_ret (v := .tuple #[.agg #[.int .i64 0, .int .i64 0, .int .i64 0, .int .i64 0, .int .i64 0, .int .i64 0], .int .i64 r]) (results_cell_tmp_row Tryz.results67 _ _ (G + 1 + 1 + 1 + 1) 47 #[.int .i64 0, .int .i64 0, .int .i64 0, .int .i64 0, .int .i64 0, .int .i64 0] (0, 0) _ _ rfl rfl HKR.out Tryz.underlying47 rfl (by kernel_rfl)) rfl ⟨rfl, HE9.out⟩
end

end Go.Proofs.YtbcefdaflnlhoaaGreat
