/- The contracts of Ullage (hold), line and example (the law package). The condition of Ullage: the hold's tables lie in memory. -/
import Derived.Test.YtbcefdaflnlhoaaGreatQ18
import Derived.Test.YtbcefdaflnlhoaaGreatQ03
import Derived.Test.YtbcefdaflnlhoaaGreatQ09
import Derived.Test.YtbcefdaflnlhoaaGreatQ08
import Derived.Test.YtbcefdaflnlhoaaGreatQ19
set_option linter.unusedVariables false
set_option linter.unusedSimpArgs false
set_option linter.constructorNameAsVariable false
namespace Go.Proofs.YtbcefdaflnlhoaaGreat

section
open Go.RowKit
attribute [local go_sem ↓] eqlRange neqRange run_minI run_maxI
theorem sfloor_any (n d : Int) (w : World) (hd : 1 ≤ d) (hn : -4000000000000000000 ≤ n) (hn' : n ≤ 4000000000000000000) :
    Calls Tryz.prog 100 #[.int .i64 n, .int .i64 d] w fun e w' => e = .returned (.int .i64 (n / d)) ∧ w = w' := by
  have hf := tdiv_floor n d (by omega)
  have hb := ediv_between n d 4000000000000000000 hd (by omega) hn hn'
  have H := Lib.hid (And.intro hf hb)
  clear hf hb
  go_enter Tryz.func100, Tryz.ntmps100
  go_wp2
  · have h : n.tmod d < 0 := by assumption
    go_ret
    obtain ⟨⟨h1, _⟩, h3, h4⟩ := H.out
    have h5 := h1 h
    exact ⟨ret_int (by rw [h5]; exact IntWalk.wrap64_in _ ⟨by omega, by omega⟩), rfl⟩
  · have h : 0 ≤ n.tmod d := by assumption
    go_ret
    obtain ⟨⟨_, h2⟩, _⟩ := H.out
    exact ⟨ret_int (h2 h), rfl⟩


theorem div_up {n c d : Int} (hc : 1 ≤ c) (hd : c ≤ d) (hn : n < 0) : n / c ≤ n / d := by
  have h : n / c < 0 := Int.ediv_neg_of_neg_of_pos hn (by omega)
  rw [Int.le_ediv_iff_mul_le (by omega)]
  have h1 : n / c * c ≤ n := Int.ediv_mul_le n (by omega)
  have h2 : n / c * d ≤ n / c * c := Int.mul_le_mul_of_nonpos_left (by omega) hd
  omega
theorem div_down {n c d : Int} (hc : 1 ≤ c) (hd : c ≤ d) (hn : 0 ≤ n) : n / d ≤ n / c := by
  have h : 0 ≤ n / d := Int.ediv_nonneg hn (by omega)
  rw [Int.le_ediv_iff_mul_le (by omega)]
  have h1 : n / d * d ≤ n := Int.ediv_mul_le n (by omega)
  have h2 : n / d * c ≤ n / d * d := Int.mul_le_mul_of_nonneg_left hd h
  omega
/-- the least and the greatest quotient -/
theorem litres_minmax (a b c d : Int) (hc : 1 ≤ c) (hd : c ≤ d) : litresS a b c d = (min (1000 * a / c) (1000 * a / d), max (-(-1000 * b / c)) (-(-1000 * b / d))) := by
  unfold litresS
  have e1 : (1000 * a / (if a < 0 then c else d)) = min (1000 * a / c) (1000 * a / d) := by
    by_cases q : a < 0
    · rw [if_pos q]; have := div_up (n := 1000 * a) hc hd (by omega); omega
    · rw [if_neg q]; have := div_down (n := 1000 * a) hc hd (by omega); omega
  have e2 : (-(-1000 * b / (if b < 0 then d else c))) = max (-(-1000 * b / c)) (-(-1000 * b / d)) := by
    by_cases q : b < 0
    · rw [if_pos q]; have := div_down (n := -1000 * b) hc hd (by omega); omega
    · rw [if_neg q]
      by_cases q0 : b = 0
      · subst q0; simp
      · have := div_up (n := -1000 * b) hc hd (by omega); omega
  rw [e1, e2]

set_option maxRecDepth 100000 in
set_option maxHeartbeats 4000000 in
theorem slitres_any (a b c d : Int) (w : World) (h1 : -1000000000000000 ≤ a ∧ a ≤ b ∧ b ≤ 1000000000000000) (h2 : 100 ≤ c ∧ c ≤ d ∧ d ≤ 2000) :
    Calls Tryz.prog 45 #[rv a b, rv c d] w fun e w' => e = .returned (rv (litresS a b c d).1 (litresS a b c d).2) ∧ Below w.heap.size w w' := by
  rw [litres_minmax a b c d (by omega) (by omega)]
  dsimp only
  have F1 : Hid (∀ n e W, 1 ≤ e → -1000000000000000000 ≤ n → n ≤ 1000000000000000000 → Calls Tryz.prog 100 #[.int .i64 n, .int .i64 e] W fun x w' => x = .returned (.int .i64 (n / e)) ∧ W = w') := Lib.hid fun n e W q1 q2 q3 => sfloor_any n e W q1 (by omega) (by omega)
  have k1 : IntKind.i64.wrap (1000 * a) = 1000 * a := IntWalk.i64_in _ ⟨by omega, by omega⟩
  have k2 : IntKind.i64.wrap (-1000 * b) = -1000 * b := IntWalk.i64_in _ ⟨by omega, by omega⟩
  have k3 : ∀ x, 100 ≤ x ∧ x ≤ 2000 → IntKind.i64.wrap (-(-1000 * b / x)) = -(-1000 * b / x) := fun x q => by
    have := ediv_between (-1000 * b) x 1000000000000000000 (by omega) (by omega) (by omega) (by omega)
    exact IntWalk.i64_in _ ⟨by omega, by omega⟩
  have k4 := k3 c ⟨by omega, by omega⟩
  have k5 := k3 d ⟨by omega, by omega⟩
  have F2 := Lib.hid (fun W => F1.out (1000 * a) c W (by omega) (by omega) (by omega))
  have F3 := Lib.hid (fun W => F1.out (1000 * a) d W (by omega) (by omega) (by omega))
  have F4 := Lib.hid (fun W => F1.out (-1000 * b) c W (by omega) (by omega) (by omega))
  have F5 := Lib.hid (fun W => F1.out (-1000 * b) d W (by omega) (by omega) (by omega))
  clear F1 k3 h1 h2
  generalize hp : 1000 * a / c = m1 at *
  generalize hq : 1000 * a / d = m2 at *
  generalize hr : -1000 * b / c = m3 at *
  generalize hs : -1000 * b / d = m4 at *
  clear hp hq hr hs
  have HE := Lib.hid (show Below w.heap.size w (((w.alloc (.cells #[.int .i64 a, .int .i64 b] 23)).alloc (.cells #[.int .i64 c, .int .i64 d] 23)).alloc (.cells #[.int .i64 0, .int .i64 0] 23)) from below_a3 (Below.refl _ _))
  have HK := Lib.hid (boxes3' w 23 23 23 #[.int .i64 a, .int .i64 b] #[.int .i64 c, .int .i64 d] #[.int .i64 0, .int .i64 0])
  go_enter Tryz.func45, Tryz.ntmps45
  go_wp2_with fail
  obtain ⟨W0, hW0⟩ : ∃ W0, (((w.alloc (.cells #[.int .i64 a, .int .i64 b] 23)).alloc (.cells #[.int .i64 c, .int .i64 d] 23)).alloc (.cells #[.int .i64 0, .int .i64 0] 23)) = W0 := ⟨_, rfl⟩
  rw [hW0] at HE HK ⊢
  clear hW0
  obtain ⟨G, hG⟩ : ∃ G, w.heap.size = G := ⟨_, rfl⟩
  rw [hG] at HK ⊢
  have HG := Lib.hid hG; clear hG
  have p := HK.out _ (.tail _ (.tail _ (.head _)))
  have p0 := p.cell 0
  have p1 := p.cell 1
  simp at p0 p1
  clear p
  have q := HK.out _ (.tail _ (.head _))
  have q0 := q.cell 0
  have q1 := q.cell 1
  simp at q0 q1
  clear q
  refine wp_region_held_drew (S := fun w' => w'.cell? ⟨G, 0, none⟩ = some (.int .i64 a) ∧ w'.cell? ⟨G, 1, none⟩ = some (.int .i64 b) ∧ w'.cell? ⟨G + 1, 0, none⟩ = some (.int .i64 c) ∧ w'.cell? ⟨G + 1, 1, none⟩ = some (.int .i64 d)) (by kernel_rfl) ⟨p0, p1, q0, q1⟩ (fun hHeld => ?_)
  refine wpAnyH_take (i := 0) (v := .pointer (some ⟨G, 0, none⟩)) rfl (by kernel_rfl) (by kernel_rfl) (by kernel_rfl) (fun _ _ _ h => h) (Or.inl ⟨by kernel_rfl, ?_⟩) hHeld ?_
  · intro w hSw; (try dsimp only at hSw); go_simp; try with_reducible rfl
  change wpAnyH _ _ _ _ _ _ _ (Act.put _ (some 7) _) _
  try simp only [Act.put, List.setIfInBounds_toArray, List.set_cons_zero, List.set_cons_succ]
  refine wpAnyH_take (i := 1) (v := .int .i64 a) rfl (by kernel_rfl) (by kernel_rfl) (by kernel_rfl) (fun _ _ _ h => h) (Or.inl ⟨by kernel_rfl, ?_⟩) hHeld ?_
  · intro w hSw; (try dsimp only at hSw); go_simp; try with_reducible rfl
  change wpAnyH _ _ _ _ _ _ _ (Act.put _ (some 8) _) _
  try simp only [Act.put, List.setIfInBounds_toArray, List.set_cons_zero, List.set_cons_succ]
  refine wpAnyH_take (i := 2) (v := .int .i64 (1000 * a)) rfl (by kernel_rfl) (by kernel_rfl) (by kernel_rfl) (fun _ _ _ h => h) (Or.inl ⟨by kernel_rfl, ?_⟩) hHeld ?_
  · intro w hSw; (try dsimp only at hSw); go_simp; try with_reducible rfl
  change wpAnyH _ _ _ _ _ _ _ (Act.put _ (some 9) _) _
  try simp only [Act.put, List.setIfInBounds_toArray, List.set_cons_zero, List.set_cons_succ]
  refine wpAnyH_take (i := 3) (v := .pointer (some ⟨G + 1, 0, none⟩)) rfl (by kernel_rfl) (by kernel_rfl) (by kernel_rfl) (fun _ _ _ h => h) (Or.inl ⟨by kernel_rfl, ?_⟩) hHeld ?_
  · intro w hSw; (try dsimp only at hSw); go_simp; try with_reducible rfl
  change wpAnyH _ _ _ _ _ _ _ (Act.put _ (some 10) _) _
  try simp only [Act.put, List.setIfInBounds_toArray, List.set_cons_zero, List.set_cons_succ]
  refine wpAnyH_take (i := 4) (v := .int .i64 c) rfl (by kernel_rfl) (by kernel_rfl) (by kernel_rfl) (fun _ _ _ h => h) (Or.inl ⟨by kernel_rfl, ?_⟩) hHeld ?_
  · intro w hSw; (try dsimp only at hSw); go_simp; try with_reducible rfl
  change wpAnyH _ _ _ _ _ _ _ (Act.put _ (some 11) _) _
  try simp only [Act.put, List.setIfInBounds_toArray, List.set_cons_zero, List.set_cons_succ]
  refine wpAnyH_take (i := 6) (v := .pointer (some ⟨G, 0, none⟩)) rfl (by kernel_rfl) (by kernel_rfl) (by kernel_rfl) (fun _ _ _ h => h) (Or.inl ⟨by kernel_rfl, ?_⟩) hHeld ?_
  · intro w hSw; (try dsimp only at hSw); go_simp; try with_reducible rfl
  change wpAnyH _ _ _ _ _ _ _ (Act.put _ (some 13) _) _
  try simp only [Act.put, List.setIfInBounds_toArray, List.set_cons_zero, List.set_cons_succ]
  refine wpAnyH_take (i := 7) (v := .int .i64 a) rfl (by kernel_rfl) (by kernel_rfl) (by kernel_rfl) (fun _ _ _ h => h) (Or.inl ⟨by kernel_rfl, ?_⟩) hHeld ?_
  · intro w hSw; (try dsimp only at hSw); go_simp; try with_reducible rfl
  change wpAnyH _ _ _ _ _ _ _ (Act.put _ (some 14) _) _
  try simp only [Act.put, List.setIfInBounds_toArray, List.set_cons_zero, List.set_cons_succ]
  refine wpAnyH_take (i := 8) (v := .int .i64 (1000 * a)) rfl (by kernel_rfl) (by kernel_rfl) (by kernel_rfl) (fun _ _ _ h => h) (Or.inl ⟨by kernel_rfl, ?_⟩) hHeld ?_
  · intro w hSw; (try dsimp only at hSw); go_simp; try with_reducible rfl
  change wpAnyH _ _ _ _ _ _ _ (Act.put _ (some 15) _) _
  try simp only [Act.put, List.setIfInBounds_toArray, List.set_cons_zero, List.set_cons_succ]
  refine wpAnyH_take (i := 9) (v := .pointer (some ⟨G + 1, 1, none⟩)) rfl (by kernel_rfl) (by kernel_rfl) (by kernel_rfl) (fun _ _ _ h => h) (Or.inl ⟨by kernel_rfl, ?_⟩) hHeld ?_
  · intro w hSw; (try dsimp only at hSw); go_simp; try with_reducible rfl
  change wpAnyH _ _ _ _ _ _ _ (Act.put _ (some 16) _) _
  try simp only [Act.put, List.setIfInBounds_toArray, List.set_cons_zero, List.set_cons_succ]
  refine wpAnyH_take (i := 10) (v := .int .i64 d) rfl (by kernel_rfl) (by kernel_rfl) (by kernel_rfl) (fun _ _ _ h => h) (Or.inl ⟨by kernel_rfl, ?_⟩) hHeld ?_
  · intro w hSw; (try dsimp only at hSw); go_simp; try with_reducible rfl
  change wpAnyH _ _ _ _ _ _ _ (Act.put _ (some 17) _) _
  try simp only [Act.put, List.setIfInBounds_toArray, List.set_cons_zero, List.set_cons_succ]
  refine wpAnyH_ready (rs := [5]) (by kernel_rfl) (by simp) ?_
  refine AllReadyH.cons rfl (fun K hK => ?_) AllReadyH.nil
  go_simp
  (with_reducible refine (F2.out _).mono ?_)
  rintro e w1 ⟨rfl, rfl⟩
  refine hK.out _ _ (hHeld) (fun hHeld2 => ?_)
  try simp only [Act.put, List.setIfInBounds_toArray, List.set_cons_zero, List.set_cons_succ]
  clear hK K hHeld
  have hHeld := hHeld2
  clear hHeld2
  refine wpAnyH_ready (rs := [11]) (by kernel_rfl) (by simp) ?_
  refine AllReadyH.cons rfl (fun K hK => ?_) AllReadyH.nil
  go_simp
  (with_reducible refine (F3.out _).mono ?_)
  rintro e w1 ⟨rfl, rfl⟩
  refine hK.out _ _ (hHeld) (fun hHeld2 => ?_)
  try simp only [Act.put, List.setIfInBounds_toArray, List.set_cons_zero, List.set_cons_succ]
  clear hK K hHeld
  have hHeld := hHeld2
  clear hHeld2
  refine wpAnyH_ready (rs := [12]) (by kernel_rfl) (by simp) ?_
  refine AllReadyH.cons rfl (fun K hK => ?_) AllReadyH.nil
  go_simp
  refine hK.out _ _ hHeld (fun hHeld2 => ?_)
  try simp only [Act.put, List.setIfInBounds_toArray, List.set_cons_zero, List.set_cons_succ]
  clear hK K hHeld
  have hHeld := hHeld2
  clear hHeld2
  refine wpAnyH_take (i := 13) (v := .int .i64 (min m1 m2)) rfl (by kernel_rfl) (by kernel_rfl) (by kernel_rfl) (fun _ _ _ h => h) (Or.inl ⟨by kernel_rfl, ?_⟩) hHeld ?_
  · intro w hSw; (try dsimp only at hSw); go_simp; try with_reducible rfl
  change wpAnyH _ _ _ _ _ _ _ (Act.put _ (some 5) _) _
  try simp only [Act.put, List.setIfInBounds_toArray, List.set_cons_zero, List.set_cons_succ]
  clear F2 F3
  refine wpAnyH_done (by kernel_rfl) ?_ _
  have p0 : W0.drew.cell? ⟨G, 0, none⟩ = some (.int .i64 a) := p0
  have p1 : W0.drew.cell? ⟨G, 1, none⟩ = some (.int .i64 b) := p1
  have q0 : W0.drew.cell? ⟨G + 1, 0, none⟩ = some (.int .i64 c) := q0
  have q1 : W0.drew.cell? ⟨G + 1, 1, none⟩ = some (.int .i64 d) := q1
  clear hHeld
  go_upto_region 2 with fail
  refine wp_region_held_drew (S := fun w' => w'.cell? ⟨G, 0, none⟩ = some (.int .i64 a) ∧ w'.cell? ⟨G, 1, none⟩ = some (.int .i64 b) ∧ w'.cell? ⟨G + 1, 0, none⟩ = some (.int .i64 c) ∧ w'.cell? ⟨G + 1, 1, none⟩ = some (.int .i64 d)) (by kernel_rfl) ⟨p0, p1, q0, q1⟩ (fun hHeld => ?_)
  refine wpAnyH_take (i := 0) (v := .pointer (some ⟨G, 1, none⟩)) rfl (by kernel_rfl) (by kernel_rfl) (by kernel_rfl) (fun _ _ _ h => h) (Or.inl ⟨by kernel_rfl, ?_⟩) hHeld ?_
  · intro w hSw; (try dsimp only at hSw); go_simp; try with_reducible rfl
  change wpAnyH _ _ _ _ _ _ _ (Act.put _ (some 20) _) _
  try simp only [Act.put, List.setIfInBounds_toArray, List.set_cons_zero, List.set_cons_succ]
  refine wpAnyH_take (i := 1) (v := .int .i64 b) rfl (by kernel_rfl) (by kernel_rfl) (by kernel_rfl) (fun _ _ _ h => h) (Or.inl ⟨by kernel_rfl, ?_⟩) hHeld ?_
  · intro w hSw; (try dsimp only at hSw); go_simp; try with_reducible rfl
  change wpAnyH _ _ _ _ _ _ _ (Act.put _ (some 21) _) _
  try simp only [Act.put, List.setIfInBounds_toArray, List.set_cons_zero, List.set_cons_succ]
  refine wpAnyH_take (i := 2) (v := .int .i64 (-1000 * b)) rfl (by kernel_rfl) (by kernel_rfl) (by kernel_rfl) (fun _ _ _ h => h) (Or.inl ⟨by kernel_rfl, ?_⟩) hHeld ?_
  · intro w hSw; (try dsimp only at hSw); go_simp; try with_reducible rfl
  change wpAnyH _ _ _ _ _ _ _ (Act.put _ (some 22) _) _
  try simp only [Act.put, List.setIfInBounds_toArray, List.set_cons_zero, List.set_cons_succ]
  refine wpAnyH_take (i := 3) (v := .pointer (some ⟨G + 1, 0, none⟩)) rfl (by kernel_rfl) (by kernel_rfl) (by kernel_rfl) (fun _ _ _ h => h) (Or.inl ⟨by kernel_rfl, ?_⟩) hHeld ?_
  · intro w hSw; (try dsimp only at hSw); go_simp; try with_reducible rfl
  change wpAnyH _ _ _ _ _ _ _ (Act.put _ (some 23) _) _
  try simp only [Act.put, List.setIfInBounds_toArray, List.set_cons_zero, List.set_cons_succ]
  refine wpAnyH_take (i := 4) (v := .int .i64 c) rfl (by kernel_rfl) (by kernel_rfl) (by kernel_rfl) (fun _ _ _ h => h) (Or.inl ⟨by kernel_rfl, ?_⟩) hHeld ?_
  · intro w hSw; (try dsimp only at hSw); go_simp; try with_reducible rfl
  change wpAnyH _ _ _ _ _ _ _ (Act.put _ (some 24) _) _
  try simp only [Act.put, List.setIfInBounds_toArray, List.set_cons_zero, List.set_cons_succ]
  refine wpAnyH_take (i := 7) (v := .pointer (some ⟨G, 1, none⟩)) rfl (by kernel_rfl) (by kernel_rfl) (by kernel_rfl) (fun _ _ _ h => h) (Or.inl ⟨by kernel_rfl, ?_⟩) hHeld ?_
  · intro w hSw; (try dsimp only at hSw); go_simp; try with_reducible rfl
  change wpAnyH _ _ _ _ _ _ _ (Act.put _ (some 27) _) _
  try simp only [Act.put, List.setIfInBounds_toArray, List.set_cons_zero, List.set_cons_succ]
  refine wpAnyH_take (i := 8) (v := .int .i64 b) rfl (by kernel_rfl) (by kernel_rfl) (by kernel_rfl) (fun _ _ _ h => h) (Or.inl ⟨by kernel_rfl, ?_⟩) hHeld ?_
  · intro w hSw; (try dsimp only at hSw); go_simp; try with_reducible rfl
  change wpAnyH _ _ _ _ _ _ _ (Act.put _ (some 28) _) _
  try simp only [Act.put, List.setIfInBounds_toArray, List.set_cons_zero, List.set_cons_succ]
  refine wpAnyH_take (i := 9) (v := .int .i64 (-1000 * b)) rfl (by kernel_rfl) (by kernel_rfl) (by kernel_rfl) (fun _ _ _ h => h) (Or.inl ⟨by kernel_rfl, ?_⟩) hHeld ?_
  · intro w hSw; (try dsimp only at hSw); go_simp; try with_reducible rfl
  change wpAnyH _ _ _ _ _ _ _ (Act.put _ (some 29) _) _
  try simp only [Act.put, List.setIfInBounds_toArray, List.set_cons_zero, List.set_cons_succ]
  refine wpAnyH_take (i := 10) (v := .pointer (some ⟨G + 1, 1, none⟩)) rfl (by kernel_rfl) (by kernel_rfl) (by kernel_rfl) (fun _ _ _ h => h) (Or.inl ⟨by kernel_rfl, ?_⟩) hHeld ?_
  · intro w hSw; (try dsimp only at hSw); go_simp; try with_reducible rfl
  change wpAnyH _ _ _ _ _ _ _ (Act.put _ (some 30) _) _
  try simp only [Act.put, List.setIfInBounds_toArray, List.set_cons_zero, List.set_cons_succ]
  refine wpAnyH_take (i := 11) (v := .int .i64 d) rfl (by kernel_rfl) (by kernel_rfl) (by kernel_rfl) (fun _ _ _ h => h) (Or.inl ⟨by kernel_rfl, ?_⟩) hHeld ?_
  · intro w hSw; (try dsimp only at hSw); go_simp; try with_reducible rfl
  change wpAnyH _ _ _ _ _ _ _ (Act.put _ (some 31) _) _
  try simp only [Act.put, List.setIfInBounds_toArray, List.set_cons_zero, List.set_cons_succ]
  refine wpAnyH_ready (rs := [5]) (by kernel_rfl) (by simp) ?_
  refine AllReadyH.cons rfl (fun K hK => ?_) AllReadyH.nil
  go_simp
  (with_reducible refine (F4.out _).mono ?_)
  rintro e w1 ⟨rfl, rfl⟩
  refine hK.out _ _ (hHeld) (fun hHeld2 => ?_)
  try simp only [Act.put, List.setIfInBounds_toArray, List.set_cons_zero, List.set_cons_succ]
  clear hK K hHeld
  have hHeld := hHeld2
  clear hHeld2
  refine wpAnyH_take (i := 6) (v := .int .i64 (-m3)) rfl (by kernel_rfl) (by kernel_rfl) (by kernel_rfl) (fun _ _ _ h => h) (Or.inl ⟨by kernel_rfl, ?_⟩) hHeld ?_
  · intro w hSw; (try dsimp only at hSw); go_simp; try with_reducible rfl
  change wpAnyH _ _ _ _ _ _ _ (Act.put _ (some 26) _) _
  try simp only [Act.put, List.setIfInBounds_toArray, List.set_cons_zero, List.set_cons_succ]
  refine wpAnyH_ready (rs := [12]) (by kernel_rfl) (by simp) ?_
  refine AllReadyH.cons rfl (fun K hK => ?_) AllReadyH.nil
  go_simp
  (with_reducible refine (F5.out _).mono ?_)
  rintro e w1 ⟨rfl, rfl⟩
  refine hK.out _ _ (hHeld) (fun hHeld2 => ?_)
  try simp only [Act.put, List.setIfInBounds_toArray, List.set_cons_zero, List.set_cons_succ]
  clear hK K hHeld
  have hHeld := hHeld2
  clear hHeld2
  refine wpAnyH_take (i := 13) (v := .int .i64 (-m4)) rfl (by kernel_rfl) (by kernel_rfl) (by kernel_rfl) (fun _ _ _ h => h) (Or.inl ⟨by kernel_rfl, ?_⟩) hHeld ?_
  · intro w hSw; (try dsimp only at hSw); go_simp; try with_reducible rfl
  change wpAnyH _ _ _ _ _ _ _ (Act.put _ (some 33) _) _
  try simp only [Act.put, List.setIfInBounds_toArray, List.set_cons_zero, List.set_cons_succ]
  refine wpAnyH_ready (rs := [14]) (by kernel_rfl) (by simp) ?_
  refine AllReadyH.cons rfl (fun K hK => ?_) AllReadyH.nil
  go_simp
  refine hK.out _ _ hHeld (fun hHeld2 => ?_)
  try simp only [Act.put, List.setIfInBounds_toArray, List.set_cons_zero, List.set_cons_succ]
  clear hK K hHeld
  have hHeld := hHeld2
  clear hHeld2
  refine wpAnyH_take (i := 15) (v := .int .i64 (max (-m3) (-m4))) rfl (by kernel_rfl) (by kernel_rfl) (by kernel_rfl) (fun _ _ _ h => h) (Or.inl ⟨by kernel_rfl, ?_⟩) hHeld ?_
  · intro w hSw; (try dsimp only at hSw); go_simp; try with_reducible rfl
  change wpAnyH _ _ _ _ _ _ _ (Act.put _ (some 6) _) _
  try simp only [Act.put, List.setIfInBounds_toArray, List.set_cons_zero, List.set_cons_succ]
  refine wpAnyH_done (by kernel_rfl) ?_ _
  clear hHeld F4 F5 p0 p1 q0 q1 k1 k2 k4 k5
  have HE9 := Lib.hid HE.out.drew.drew
  have HK9 : Hid (Blk W0.drew.drew (G + 1 + 1) 23 #[.int .i64 0, .int .i64 0]) := Lib.hid (HK.out _ (.head _)).drew.drew
  obtain ⟨M, hM⟩ : ∃ M, max (-m3) (-m4) = M := ⟨_, rfl⟩
  obtain ⟨m, hm⟩ : ∃ m, min m1 m2 = m := ⟨_, rfl⟩
  rw [hM, hm]
  have HM := Lib.hid hM
  have Hm := Lib.hid hm
  clear hM hm
  clear HK
  generalize W0.drew.drew = W9 at *
  have z0 := HK9.out.cell 0
  have z1 := HK9.out.cell 1
  have zf0 := HK9.out.frozen 0
  have zf1 := HK9.out.frozen 1
  have zl := HK9.out.lt
  simp at z0 z1 zf0 zf1
  go_wp2
  refine bodyPost_ret (v := rv m M) (by simp [results, Tryz.results45, go_sem, z0, z1]) rfl ⟨by rw [HM.out, Hm.out], ?_⟩
  have hg := HG.out
  repeat (first | exact HE9.out | refine Below.setCell ?_ (by simp <;> omega) _)

set_option maxRecDepth 100000 in
set_option maxHeartbeats 4000000 in
theorem sLitres_any (a b c d : Int) (w : World) :
    Calls Tryz.prog 70 #[rv a b, rv c d] w fun e w' => e = .returned (rt (LitresS a b c d)) ∧ Below w.heap.size w w' := by
  have HE := Lib.hid (show Below w.heap.size w (((w.alloc (.cells #[.int .i64 a, .int .i64 b] 23)).alloc (.cells #[.int .i64 c, .int .i64 d] 23)).alloc (.cells #[.int .i64 0, .int .i64 0] 23)) from below_a3 (Below.refl _ _))
  have HK := Lib.hid (boxes3' w 23 23 23 #[.int .i64 a, .int .i64 b] #[.int .i64 c, .int .i64 d] #[.int .i64 0, .int .i64 0])
  have C1 : Hid (∀ W, Calls Tryz.prog 44 #[rv a b] W fun e w' => e = .returned (.int .i64 (errR a b)) ∧ Below W.heap.size W w') := Lib.hid fun W => rCheckRange_any a b W
  have C2 : Hid (∀ W, Calls Tryz.prog 58 #[rv c d] W fun e w' => e = .returned (.bool (densS c d)) ∧ Below W.heap.size W w') := Lib.hid fun W => sdensity_to c d (densS c d) W rfl
  have C3 : Hid (vR a b = true → densS c d = true → ∀ W, Calls Tryz.prog 45 #[rv a b, rv c d] W fun e w' => e = .returned (rv (litresS a b c d).1 (litresS a b c d).2) ∧ Below W.heap.size W w') := Lib.hid fun m1 m2 W => slitres_any a b c d W (vR_small m1) (dens_in m2)
  unfold LitresS massErr
  generalize (litresS a b c d).1 = p at *
  generalize (litresS a b c d).2 = q at *
  unfold errR at C1
  cases hv : vR a b
  · rw [hv] at C1
    clear C2 C3 hv
    simp only [Bool.false_eq_true, if_false] at C1 ⊢
    rw [if_neg (by decide)]
    go_enter Tryz.func70, Tryz.ntmps70
    go_wp2_with fail
    obtain ⟨W0, hW0⟩ : ∃ W0, (((w.alloc (.cells #[.int .i64 a, .int .i64 b] 23)).alloc (.cells #[.int .i64 c, .int .i64 d] 23)).alloc (.cells #[.int .i64 0, .int .i64 0] 23)) = W0 := ⟨_, rfl⟩
    rw [hW0] at HE HK ⊢
    clear hW0
    obtain ⟨G, hG⟩ : ∃ G, w.heap.size = G := ⟨_, rfl⟩
    rw [hG] at HK ⊢
    have HG := Lib.hid hG; clear hG
    have x := HK.out _ (.tail _ (.tail _ (.head _)))
    have x0 := x.cell 0
    have x1 := x.cell 1
    simp at x0 x1
    clear x
    go_upto_region 1 with fail
    refine (C1.out _).mono ?_
    rintro e w1 ⟨rfl, hb⟩
    have HE1 := Lib.hid (below_then HE.out hb); have HK1 := Lib.hid (HK.out.on hb)
    clear hb HE HK C1 x0 x1
    have z := HK1.out _ (.head _)
    have z0 := z.cell 0
    have zf0 := z.frozen 0
    have z1 := z.cell 1
    have zf1 := z.frozen 1
    have zl := z.lt
    simp at z0 zf0 z1 zf1
    clear z
    go_wp2
    refine bodyPost_ret (v := rt (0, 0, 10)) (by simp [results, Tryz.results70, go_sem, z0, z1]) rfl ⟨rfl, ?_⟩
    have hg := HG.out
    repeat (first | exact HE1.out | refine Below.setCell ?_ (by simp <;> omega) _)
  rw [hv] at C1 C3
  have D3 := Lib.hid (C3.out rfl)
  clear hv C3
  simp only [if_true] at C1 ⊢
  cases hd : densS c d
  · rw [hd] at C2
    clear D3 hd
    simp only [Bool.false_eq_true, if_false] at ⊢
    rw [if_neg (by decide)]
    go_enter Tryz.func70, Tryz.ntmps70
    go_wp2_with fail
    obtain ⟨W0, hW0⟩ : ∃ W0, (((w.alloc (.cells #[.int .i64 a, .int .i64 b] 23)).alloc (.cells #[.int .i64 c, .int .i64 d] 23)).alloc (.cells #[.int .i64 0, .int .i64 0] 23)) = W0 := ⟨_, rfl⟩
    rw [hW0] at HE HK ⊢
    clear hW0
    obtain ⟨G, hG⟩ : ∃ G, w.heap.size = G := ⟨_, rfl⟩
    rw [hG] at HK ⊢
    have HG := Lib.hid hG; clear hG
    have x := HK.out _ (.tail _ (.tail _ (.head _)))
    have x0 := x.cell 0
    have x1 := x.cell 1
    simp at x0 x1
    clear x
    go_upto_region 1 with fail
    refine (C1.out _).mono ?_
    rintro e w1 ⟨rfl, hb⟩
    have HE1 := Lib.hid (below_then HE.out hb); have HK1 := Lib.hid (HK.out.on hb)
    clear hb HE HK C1 x0 x1
    have y := HK1.out _ (.tail _ (.head _))
    have y0 := y.cell 0
    have y1 := y.cell 1
    simp at y0 y1
    clear y
    go_wp2_with fail
    refine (C2.out _).mono ?_
    rintro e w2 ⟨rfl, hb⟩
    have HE2 := Lib.hid (below_then HE1.out hb); have HK2 := Lib.hid (HK1.out.on hb)
    clear hb HE1 HK1 C2 y0 y1
    have z := HK2.out _ (.head _)
    have z0 := z.cell 0
    have zf0 := z.frozen 0
    have z1 := z.cell 1
    have zf1 := z.frozen 1
    have zl := z.lt
    simp at z0 zf0 z1 zf1
    clear z
    go_wp2
    refine bodyPost_ret (v := rt (0, 0, 22)) (by simp [results, Tryz.results70, go_sem, z0, z1]) rfl ⟨rfl, ?_⟩
    have hg := HG.out
    repeat (first | exact HE2.out | refine Below.setCell ?_ (by simp <;> omega) _)
  rw [hd] at C2 D3
  have D4 := Lib.hid (D3.out rfl)
  clear hd D3
  simp only [if_true]
  go_enter Tryz.func70, Tryz.ntmps70
  go_wp2_with fail
  obtain ⟨W0, hW0⟩ : ∃ W0, (((w.alloc (.cells #[.int .i64 a, .int .i64 b] 23)).alloc (.cells #[.int .i64 c, .int .i64 d] 23)).alloc (.cells #[.int .i64 0, .int .i64 0] 23)) = W0 := ⟨_, rfl⟩
  rw [hW0] at HE HK ⊢
  clear hW0
  obtain ⟨G, hG⟩ : ∃ G, w.heap.size = G := ⟨_, rfl⟩
  rw [hG] at HK ⊢
  have HG := Lib.hid hG; clear hG
  have x := HK.out _ (.tail _ (.tail _ (.head _)))
  have x0 := x.cell 0
  have x1 := x.cell 1
  simp at x0 x1
  clear x
  go_upto_region 1 with fail
  refine (C1.out _).mono ?_
  rintro e w1 ⟨rfl, hb⟩
  have HE1 := Lib.hid (below_then HE.out hb); have HK1 := Lib.hid (HK.out.on hb)
  clear hb HE HK C1 x0 x1
  have y := HK1.out _ (.tail _ (.head _))
  have y0 := y.cell 0
  have y1 := y.cell 1
  simp at y0 y1
  clear y
  go_wp2_with fail
  refine (C2.out _).mono ?_
  rintro e w2 ⟨rfl, hb⟩
  have HE2 := Lib.hid (below_then HE1.out hb); have HK2 := Lib.hid (HK1.out.on hb)
  clear hb HE1 HK1 C2 y0 y1
  have x := HK2.out _ (.tail _ (.tail _ (.head _)))
  have x0 := x.cell 0
  have x1 := x.cell 1
  simp at x0 x1
  clear x
  have y := HK2.out _ (.tail _ (.head _))
  have y0 := y.cell 0
  have y1 := y.cell 1
  simp at y0 y1
  clear y
  go_wp2_with fail
  refine (D4.out _).mono ?_
  rintro e w3 ⟨rfl, hb⟩
  have HE9 := Lib.hid (below_then (below_then HE2.out hb) (below_alloc1 w3 (.cells #[.int .i64 p, .int .i64 q] 23))); have HK9 := Lib.hid ((HK2.out.on hb).new 23 #[.int .i64 p, .int .i64 q])
  clear hb HE2 HK2 D4 x0 x1 y0 y1
  go_upto_region 6 with fail
  obtain ⟨W9, hW⟩ : ∃ W9, w3.alloc (.cells #[.int .i64 p, .int .i64 q] 23) = W9 := ⟨_, rfl⟩
  rw [hW] at HE9 HK9 ⊢
  clear hW
  obtain ⟨N9, hN⟩ : ∃ N, w3.heap.size = N := ⟨_, rfl⟩
  rw [hN] at HK9 ⊢
  clear hN
  have a := HK9.out _ (.head _)
  have a0 := a.cell 0
  have a1 := a.cell 1
  simp at a0 a1
  clear a
  have z := HK9.out _ (.tail _ (.head _))
  have z0 := z.cell 0
  have zf0 := z.frozen 0
  have z1 := z.cell 1
  have zf1 := z.frozen 1
  have zl := z.lt
  simp at z0 zf0 z1 zf1
  clear z
  go_wp2
  refine bodyPost_ret (v := rt (p, q, 0)) (by simp [results, Tryz.results70, go_sem, z0, z1]) rfl ⟨rfl, ?_⟩
  have hg := HG.out
  repeat (first | exact HE9.out | refine Below.setCell ?_ (by simp <;> omega) _ | refine Below.alloc ?_ (by simp <;> omega) _)
end

section
open Go.RowKit

theorem placesS_in {ps : List P3} {x : Int} (ht : tabOk ps = true) (h1 : firstX ps ≤ x) (h2 : x ≤ lastX ps) : placesS ps x x = 0 := by
  unfold placesS
  obtain ⟨pl1, pl2⟩ := places_in ht
  rw [if_pos ht, if_pos (by simp only [inB, decide_eq_true_eq]; omega)]
theorem AtS_in {ps : List P3} {x : Int} (ht : tabOk ps = true) (h1 : firstX ps ≤ x) (h2 : x ≤ lastX ps) : AtS ps x = ((atS ps x).1, (atS ps x).2, 0) := by
  unfold AtS
  rw [if_pos (placesS_in ht h1 h2)]

set_option maxRecDepth 100000 in
set_option maxHeartbeats 4000000 in
theorem sat_tab (A : Option Addr) (n c : Nat) (ps : List P3) (x : Int) (w : World) (hp : TabIn w A n ps) (ht : tabOk ps = true) (hx1 : firstX ps ≤ x) (hx2 : x ≤ lastX ps) :
    Calls Tryz.prog 81 #[tv A n c, .int .i64 x] w fun e w' => e = .returned (rv (atS ps x).1 (atS ps x).2) ∧ Below w.heap.size w w' := by
  have HE := Lib.hid (show Below w.heap.size w ((w.alloc (.cells #[.slice A n c] 26)).alloc (.cells #[.int .i64 0, .int .i64 0] 23)) from below_a2 (Below.refl _ _))
  have HK := Lib.hid (boxes2' w 26 23 #[.slice A n c] #[.int .i64 0, .int .i64 0])
  have C1 : Hid (∀ W, Below w.heap.size w W → Calls Tryz.prog 128 #[tv A n c, .int .i64 x] W fun e w' => e = .returned (rt ((atS ps x).1, (atS ps x).2, 0)) ∧ Below W.heap.size W w') := Lib.hid fun W hW => by
    have q := rAt_all A n c ps x W hp.1 hp.2.1 (hp.below hW).2.2
    rw [AtS_in ht hx1 hx2] at q
    exact q
  clear hp ht hx1 hx2
  generalize (atS ps x).1 = p at *
  generalize (atS ps x).2 = q at *
  go_enter Tryz.func81, Tryz.ntmps81
  go_wp2_with fail
  obtain ⟨W0, hW0⟩ : ∃ W0, ((w.alloc (.cells #[.slice A n c] 26)).alloc (.cells #[.int .i64 0, .int .i64 0] 23)) = W0 := ⟨_, rfl⟩
  rw [hW0] at HE HK ⊢
  clear hW0
  obtain ⟨G, hG⟩ : ∃ G, w.heap.size = G := ⟨_, rfl⟩
  rw [hG] at HK ⊢
  have HG := Lib.hid hG; clear hG
  have t := HK.out _ (.tail _ (.head _))
  have t0 := t.cell 0
  simp at t0
  clear t
  go_upto_region 1 with fail
  refine (C1.out _ HE.out).mono ?_
  rintro e w1 ⟨rfl, hb⟩
  have HE9 := Lib.hid (below_then (below_then HE.out hb) (below_alloc1 w1 (.cells #[.int .i64 p, .int .i64 q] 23))); have HK9 := Lib.hid ((HK.out.on hb).new 23 #[.int .i64 p, .int .i64 q])
  clear hb HE HK C1 t0
  go_upto_region 2 with fail
  obtain ⟨W9, hW⟩ : ∃ W9, w1.alloc (.cells #[.int .i64 p, .int .i64 q] 23) = W9 := ⟨_, rfl⟩
  rw [hW] at HE9 HK9 ⊢
  clear hW
  obtain ⟨N9, hN⟩ : ∃ N, w1.heap.size = N := ⟨_, rfl⟩
  rw [hN] at HK9 ⊢
  clear hN
  have a := HK9.out _ (.head _)
  have a0 := a.cell 0
  have a1 := a.cell 1
  simp at a0 a1
  clear a
  have z := HK9.out _ (.tail _ (.head _))
  have z0 := z.cell 0
  have zf0 := z.frozen 0
  have z1 := z.cell 1
  have zf1 := z.frozen 1
  have zl := z.lt
  simp at z0 zf0 z1 zf1
  clear z
  go_wp2
  refine bodyPost_ret (v := rv p q) (by simp [results, Tryz.results81, go_sem, z0, z1]) rfl ⟨rfl, ?_⟩
  have hg := HG.out
  repeat (first | exact HE9.out | refine Below.setCell ?_ (by simp <;> omega) _)
/-- surely more than the volume, or surely less -/
def besideS (ps : List P3) (v0 v1 : Int) (f : Bool) (x : Int) : Bool := if f then moreF ps v1 x else lessF ps v0 x

set_option maxRecDepth 100000 in
set_option maxHeartbeats 4000000 in
theorem sbeside_tab (A : Option Addr) (n c : Nat) (ps : List P3) (v0 v1 x : Int) (f t : Bool) (w : World) (hp : TabIn w A n ps) (ht : tabOk ps = true) (hx1 : firstX ps ≤ x) (hx2 : x ≤ lastX ps) (hT : besideS ps v0 v1 f x = t) :
    Calls Tryz.prog 102 #[tv A n c, rv v0 v1, .int .i64 x, .bool f] w fun e w' => e = .returned (.bool t) ∧ Below w.heap.size w w' := by
  have HE := Lib.hid (show Below w.heap.size w ((w.alloc (.cells #[.slice A n c] 26)).alloc (.cells #[.int .i64 v0, .int .i64 v1] 23)) from below_a2 (Below.refl _ _))
  have HK := Lib.hid (boxes2' w 26 23 #[.slice A n c] #[.int .i64 v0, .int .i64 v1])
  have C1 : Hid (∀ W, Below w.heap.size w W → Calls Tryz.prog 81 #[tv A n c, .int .i64 x] W fun e w' => e = .returned (rv (atS ps x).1 (atS ps x).2) ∧ Below W.heap.size W w') := Lib.hid fun W hW => sat_tab A n c ps x W (hp.below hW) ht hx1 hx2
  clear hp ht hx1 hx2
  unfold besideS moreF lessF at hT
  generalize (atS ps x).1 = p at *
  generalize (atS ps x).2 = q at *
  cases f
  all_goals
    simp only [Bool.false_eq_true, if_false, if_true] at hT
    have HT := Lib.hid hT
    clear hT
    go_enter Tryz.func102, Tryz.ntmps102
    go_wp2_with fail
    obtain ⟨W0, hW0⟩ : ∃ W0, ((w.alloc (.cells #[.slice A n c] 26)).alloc (.cells #[.int .i64 v0, .int .i64 v1] 23)) = W0 := ⟨_, rfl⟩
    rw [hW0] at HE HK ⊢
    clear hW0
    obtain ⟨G, hG⟩ : ∃ G, w.heap.size = G := ⟨_, rfl⟩
    rw [hG] at HK ⊢
    have HG := Lib.hid hG; clear hG
    have t := HK.out _ (.tail _ (.head _))
    have t0 := t.cell 0
    simp at t0
    clear t
    go_upto_region 1 with fail
    refine (C1.out _ HE.out).mono ?_
    rintro e w1 ⟨rfl, hb⟩
    have HE9 := Lib.hid (below_then (below_then HE.out hb) (below_alloc1 w1 (.cells #[.int .i64 p, .int .i64 q] 23))); have HK9 := Lib.hid ((HK.out.on hb).new 23 #[.int .i64 p, .int .i64 q])
    clear hb HE HK C1 t0
    go_upto_region 2 with fail
    obtain ⟨W9, hW⟩ : ∃ W9, w1.alloc (.cells #[.int .i64 p, .int .i64 q] 23) = W9 := ⟨_, rfl⟩
    rw [hW] at HE9 HK9 ⊢
    clear hW
    obtain ⟨N9, hN⟩ : ∃ N, w1.heap.size = N := ⟨_, rfl⟩
    rw [hN] at HK9 ⊢
    clear hN
    have a := HK9.out _ (.head _)
    have a0 := a.cell 0
    have a1 := a.cell 1
    simp at a0 a1
    clear a
    have z := HK9.out _ (.tail _ (.head _))
    have z0 := z.cell 0
    have z1 := z.cell 1
    simp at z0 z1
    clear z
    go_wp2
    all_goals
      go_ret
      exact ⟨by rw [← HT.out]; first | (simp; done) | (simp; omega), HE9.out⟩
end

section
open Go.RowKit

/-- Ullage -/
def UllageS (h : HoldD) (a b c d : Int) : Int × Int × Int := if holdErr h = 0 then (if massErr a b c d = 0 then ullS h.vol (litresS a b c d).1 (litresS a b c d).2 else (0, 0, massErr a b c d)) else (0, 0, holdErr h)
theorem holdErr_zero {h : HoldD} (e : holdErr h = 0) : holdS h = true := by
  unfold holdErr at e
  split at e
  · assumption
  · omega

set_option maxRecDepth 100000 in
set_option maxHeartbeats 4000000 in
theorem hUllage_any (h : HoldD) (m : HoldM) (a b e0 e1 : Int) (w : World) (hi : HoldIn w h m) :
    Calls Tryz.prog 64 #[holdV h m, rv a b, rv e0 e1] w fun e w' => e = .returned (rt (UllageS h a b e0 e1)) ∧ Below w.heap.size w w' := by
  obtain ⟨R, hR⟩ : ∃ R, UllageS h a b e0 e1 = R := ⟨_, rfl⟩
  obtain ⟨E, hE⟩ : ∃ E, holdErr h = E := ⟨_, rfl⟩
  have C1 : Hid (∀ W, Below w.heap.size w W → Calls Tryz.prog 110 #[holdV h m] W fun e w' => e = .returned (.int .i64 E) ∧ Below W.heap.size W w') := Lib.hid fun W hW => int_to (checkHold_any h m W (hi.below hW)) hE
  have HR : Hid ((if E = 0 then (if massErr a b e0 e1 = 0 then ullS h.vol (litresS a b e0 e1).1 (litresS a b e0 e1).2 else (0, 0, massErr a b e0 e1)) else (0, 0, E)) = R) := Lib.hid (by rw [← hR]; unfold UllageS; rw [hE])
  have HV : E = 0 → tabOk h.vol = true := fun e => hold_tab (holdErr_zero (hE.trans e))
  have h20 : E = 0 ∨ E = 20 := by
    rw [← hE]; unfold holdErr; split
    · exact .inl rfl
    · exact .inr rfl
  rw [hR]
  clear hR hE
  obtain ⟨id, al, ah, vol, mom, hei, t0, t1, u0, u1, v0, v1, h0, h1⟩ := h
  obtain ⟨A, n, c, B, mm, d, C, l, ee⟩ := m
  obtain ⟨i1, i2, i3⟩ := hi
  dsimp only at i1 i2 i3 HR HV
  have C2 : Hid (E = 0 → ∀ W Bh, Below w.heap.size w W → Blk W Bh 45 #[.int .i64 id, .int .i64 al, .int .i64 ah, .slice A n c, .slice B mm d, .slice C l ee, .int .i64 t0, .int .i64 t1, .int .i64 u0, .int .i64 u1, .int .i64 v0, .int .i64 v1, .int .i64 h0, .int .i64 h1] → Calls Tryz.prog 111 #[rv a b, rv e0 e1, .func (.func 112) #[] #[.pointer (some ⟨Bh, 0, none⟩)]] W fun e w' => e = .returned (rt (if massErr a b e0 e1 = 0 then ullS vol (litresS a b e0 e1).1 (litresS a b e0 e1).2 else (0, 0, massErr a b e0 e1))) ∧ Below W.heap.size W w') := Lib.hid fun e W Bh hW hB =>
    ofMass_ull a b e0 e1 Bh _ W fun _ V hV => ullage1_any vol id al ah t0 t1 u0 u1 v0 v1 h0 h1 A B C n c mm d l ee _ _ Bh V (blkOn hB hV) (i1.below (below_then hW hV)) (HV e) (first_le_last (HV e))
  have HE := Lib.hid (show Below w.heap.size w ((((w.alloc (.cells #[.int .i64 id, .int .i64 al, .int .i64 ah, .slice A n c, .slice B mm d, .slice C l ee, .int .i64 t0, .int .i64 t1, .int .i64 u0, .int .i64 u1, .int .i64 v0, .int .i64 v1, .int .i64 h0, .int .i64 h1] 45)).alloc (.cells #[.int .i64 a, .int .i64 b] 23)).alloc (.cells #[.int .i64 e0, .int .i64 e1] 23)).alloc (.cells #[.int .i64 0, .int .i64 0] 23)) from below_a4 (Below.refl _ _))
  have HK := Lib.hid (boxes4' w 45 23 23 23 #[.int .i64 id, .int .i64 al, .int .i64 ah, .slice A n c, .slice B mm d, .slice C l ee, .int .i64 t0, .int .i64 t1, .int .i64 u0, .int .i64 u1, .int .i64 v0, .int .i64 v1, .int .i64 h0, .int .i64 h1] #[.int .i64 a, .int .i64 b] #[.int .i64 e0, .int .i64 e1] #[.int .i64 0, .int .i64 0])
  clear i1 i2 i3 HV
  generalize (if massErr a b e0 e1 = 0 then ullS vol (litresS a b e0 e1).1 (litresS a b e0 e1).2 else (0, 0, massErr a b e0 e1)) = Q at *
  obtain ⟨qa, qb, qe⟩ := Q
  go_enter Tryz.func64, Tryz.ntmps64
  go_wp2_with fail
  obtain ⟨W0, hW0⟩ : ∃ W0, ((((w.alloc (.cells #[.int .i64 id, .int .i64 al, .int .i64 ah, .slice A n c, .slice B mm d, .slice C l ee, .int .i64 t0, .int .i64 t1, .int .i64 u0, .int .i64 u1, .int .i64 v0, .int .i64 v1, .int .i64 h0, .int .i64 h1] 45)).alloc (.cells #[.int .i64 a, .int .i64 b] 23)).alloc (.cells #[.int .i64 e0, .int .i64 e1] 23)).alloc (.cells #[.int .i64 0, .int .i64 0] 23)) = W0 := ⟨_, rfl⟩
  rw [hW0] at HE HK ⊢
  clear hW0
  obtain ⟨G, hG⟩ : ∃ G, w.heap.size = G := ⟨_, rfl⟩
  rw [hG] at HK ⊢
  have HG := Lib.hid hG; clear hG
  refine (C1.out _ HE.out).mono ?_
  rintro e w1 ⟨rfl, hb⟩
  have HE1 := Lib.hid (below_then HE.out hb); have HK1 := Lib.hid (HK.out.on hb)
  clear hb HE HK C1
  by_cases g : E = 0
  · have eR : R = (qa, qb, qe) := by rw [← HR.out, if_pos g]
    subst eR
    have D2 := Lib.hid (C2.out g)
    clear HR C2
    subst g
    have p := HK1.out _ (.tail _ (.tail _ (.head _)))
    have p0 := p.cell 0
    have p1 := p.cell 1
    simp at p0 p1
    clear p
    have q := HK1.out _ (.tail _ (.head _))
    have q0 := q.cell 0
    have q1 := q.cell 1
    simp at q0 q1
    clear q
    go_wp2_with fail
    refine (D2.out _ _ HE1.out (HK1.out _ (.tail _ (.tail _ (.tail _ (.head _)))))).mono ?_
    rintro e w2 ⟨rfl, hb⟩
    have HE2 := Lib.hid (below_then HE1.out hb); have HK2 := Lib.hid (HK1.out.on hb)
    clear hb HE1 HK1 D2 p0 p1 q0 q1
    have z := HK2.out _ (.head _)
    have z0 := z.cell 0
    have zf0 := z.frozen 0
    have z1 := z.cell 1
    have zf1 := z.frozen 1
    have zl := z.lt
    simp at z0 zf0 z1 zf1
    clear z
    go_wp2
    refine bodyPost_ret (v := rt (qa, qb, qe)) (by simp [results, Tryz.results64, go_sem, z0, z1]) rfl ⟨rfl, ?_⟩
    have hg := HG.out
    repeat (first | exact HE2.out | refine Below.setCell ?_ (by simp <;> omega) _)
  · have eR : R = (0, 0, E) := by rw [← HR.out, if_neg g]
    subst eR
    clear HR C2
    obtain rfl : E = 20 := h20.resolve_left g
    have z := HK1.out _ (.head _)
    have z0 := z.cell 0
    have zf0 := z.frozen 0
    have z1 := z.cell 1
    have zf1 := z.frozen 1
    have zl := z.lt
    simp at z0 zf0 z1 zf1
    clear z
    go_wp2
    refine bodyPost_ret (v := rt (0, 0, 20)) (by simp [results, Tryz.results64, go_sem, z0, z1]) rfl ⟨rfl, ?_⟩
    have hg := HG.out
    repeat (first | exact HE1.out | refine Below.setCell ?_ (by simp <;> omega) _)

def lineS (a b : Int) : List P3 := [(0, a, a), (100, b, b)]

set_option maxRecDepth 100000 in
set_option maxHeartbeats 4000000 in
theorem line_any (a b : Int) (w : World) : Calls Tryz.prog 106 #[.int .i64 a, .int .i64 b] w fun e w' => ∃ g, e = .returned (tv (some ⟨g, 0, none⟩) 2 2) ∧ w.heap.size ≤ g ∧ Blk w' g 113 #[.int .i64 0, .int .i64 a, .int .i64 a, .int .i64 100, .int .i64 b, .int .i64 b] ∧ Below w.heap.size w w' := by
  go_enter Tryz.func106, Tryz.ntmps106
  go_wp2_with fail
  have hE : Below w.heap.size w ((w.alloc (.cells #[.slice (some ⟨w.heap.size + 1, 0, none⟩) 2 2] 26)).alloc (.cells #[.int .i64 0, .int .i64 a, .int .i64 a, .int .i64 100, .int .i64 b, .int .i64 b] 113)) := below_a2 (Below.refl _ _)
  have bP := Blk.new (w.alloc (.cells #[.slice (some ⟨w.heap.size + 1, 0, none⟩) 2 2] 26)) 113 #[.int .i64 0, .int .i64 a, .int .i64 a, .int .i64 100, .int .i64 b, .int .i64 b]
  simp only [World.size_alloc] at bP
  refine bodyPost_ret (v := tv (some ⟨w.heap.size + 1, 0, none⟩) 2 2) (by simp [results, Tryz.results106, go_sem]) rfl ⟨_, rfl, by omega, bP, hE⟩
end

end Go.Proofs.YtbcefdaflnlhoaaGreat
