/- The contracts of floor, checkMass, litres, Litres, less and more (hold): for all ranges. -/
import Derived.Test.YtemlaaipnhmcoaaGreatR10
import Derived.Test.YtemlaaipnhmcoaaGreatR20
import Derived.Test.YtemlaaipnhmcoaaGreatQ98
set_option linter.unusedVariables false
set_option linter.unusedSimpArgs false
set_option linter.constructorNameAsVariable false
namespace Go.Proofs.YtemlaaipnhmcoaaGreat

section
open Go.RowKit
attribute [local go_sem ↓] eqlRange neqRange
theorem hfloor_any (n d : Int) (w : World) (hd : 1 ≤ d) (hn : -4000000000000000000 ≤ n) (hn' : n ≤ 4000000000000000000) :
  Calls Tryz.prog 129 #[.int .i64 n, .int .i64 d] w fun e w' => e = .returned (.int .i64 (n / d)) ∧ w = w' := by
 have hf := tdiv_floor n d (by omega)
 have hb := ediv_between n d 4000000000000000000 hd (by omega) hn hn'
 have H := Lib.hid (And.intro hf hb)
 clear hf hb
 go_enter Tryz.func129, Tryz.ntmps129
 go_wp2
 ·have h : n.tmod d < 0 := by assumption
  go_ret
  obtain ⟨⟨h1, _⟩, h3, h4⟩ := H.out
  have h5 := h1 h
  exact ⟨ret_int (by rw [h5]; exact IntWalk.wrap64_in _ ⟨by omega, by omega⟩), rfl⟩
 ·have h : 0 ≤ n.tmod d := by assumption
  go_ret
  obtain ⟨⟨_, h2⟩, _⟩ := H.out
  exact ⟨ret_int (h2 h), rfl⟩

def massErr (a b c d : Int) : Int := if vR a b = true then (if densS c d = true then 0 else 22) else 10
theorem checkMass_any (a b c d : Int) (w : World) :
  Calls Tryz.prog 74 #[rv a b, rv c d] w fun e w' => e = .returned (.int .i64 (massErr a b c d)) ∧ Below w.heap.size w w' := by
 have HE := Lib.hid (show Below w.heap.size w ((w.alloc (.cells #[.int .i64 a, .int .i64 b] 30)).alloc (.cells #[.int .i64 c, .int .i64 d] 30)) from below_a2 (Below.refl _ _))
 have HK := Lib.hid (boxes2' w 30 30 #[.int .i64 a, .int .i64 b] #[.int .i64 c, .int .i64 d])
 obtain ⟨bv, ev⟩ : ∃ t, vR a b = t := ⟨_, rfl⟩
 obtain ⟨bd, ed⟩ : ∃ t, densS c d = t := ⟨_, rfl⟩
 have C1 : Hid (∀ W, bv = true → Calls Tryz.prog 80 #[rv a b] W fun e w' => e = .returned (.int .i64 0) ∧ Below W.heap.size W w') := Lib.hid fun W h => checkRange_ok a b W (ev.trans h)
 have C2 : Hid (∀ W, bv = false → Calls Tryz.prog 80 #[rv a b] W fun e w' => e = .returned (.int .i64 10) ∧ Below W.heap.size W w') := Lib.hid fun W h => checkRange_bad a b W (ev.trans h)
 have C3 : Hid (∀ W, Calls Tryz.prog 128 #[rv c d] W fun e w' => e = .returned (.bool bd) ∧ Below W.heap.size W w') := Lib.hid fun W => isDensity_to c d bd W ed
 unfold massErr
 rw [ev, ed]
 clear ev ed
 cases bv
 ·simp only [Bool.false_eq_true, if_false]
  go_enter Tryz.func74, Tryz.ntmps74
  go_wp2_with fail
  refine (C2.out _ (by trivial)).mono ?_
  rintro e w1 ⟨rfl, hb⟩
  have HE1 := Lib.hid (below_then HE.out hb)
  clear hb
  go_wp2
  go_ret
  exact ⟨rfl, HE1.out⟩
 ·simp only [if_true]
  go_enter Tryz.func74, Tryz.ntmps74
  go_wp2_with fail
  refine (C1.out _ (by trivial)).mono ?_
  rintro e w1 ⟨rfl, hb⟩
  have HE1 := Lib.hid (below_then HE.out hb)
  have z := HK.out.on hb _ (.head _)
  have z0 := z.cell 0
  have z1 := z.cell 1
  simp at z0 z1
  clear hb z
  go_wp2_with fail
  refine (C3.out _).mono ?_
  rintro e w2 ⟨rfl, hb⟩
  have HE2 := Lib.hid (below_then HE1.out hb)
  clear hb z0 z1
  cases bd
  all_goals
   simp only [Bool.false_eq_true, if_false, if_true]
   go_wp2
   go_ret
   exact ⟨rfl, HE2.out⟩

def litresS (a b c d : Int) : Int × Int := (1000 * a / (if a < 0 then c else d), -(-1000 * b / (if b < 0 then d else c)))
theorem vR_small {a b : Int} (h : vR a b = true) : -1000000000000000 ≤ a ∧ a ≤ b ∧ b ≤ 1000000000000000 := by
  have := (vR_iff a b).1 h; omega
theorem dens_in {c d : Int} (h : densS c d = true) : 100 ≤ c ∧ c ≤ d ∧ d ≤ 2000 := by
  unfold densS at h
  simp only [inB, decide_eq_true_eq] at h
  omega
set_option maxRecDepth 100000 in
set_option maxHeartbeats 4000000 in
theorem hlitres_any (a b c d : Int) (w : World) (h1 : -1000000000000000 ≤ a ∧ a ≤ b ∧ b ≤ 1000000000000000) (h2 : 100 ≤ c ∧ c ≤ d ∧ d ≤ 2000) :
  Calls Tryz.prog 76 #[rv a b, rv c d] w fun e w' => e = .returned (rv (litresS a b c d).1 (litresS a b c d).2) ∧ Below w.heap.size w w' := by
 have F1 : Hid (∀ n e W, 1 ≤ e → -1000000000000000000 ≤ n → n ≤ 1000000000000000000 → Calls Tryz.prog 129 #[.int .i64 n, .int .i64 e] W fun x w' => x = .returned (.int .i64 (n / e)) ∧ W = w') := Lib.hid fun n e W q1 q2 q3 => hfloor_any n e W q1 (by omega) (by omega)
 have k1 : IntKind.i64.wrap (1000 * a) = 1000 * a := IntWalk.i64_in _ ⟨by omega, by omega⟩
 have k2 : IntKind.i64.wrap (-1000 * b) = -1000 * b := IntWalk.i64_in _ ⟨by omega, by omega⟩
 have hA : (a < 0 ∧ (if a < 0 then c else d) = c) ∨ (¬ a < 0 ∧ (if a < 0 then c else d) = d) := by
  by_cases q : a < 0
  ·exact .inl ⟨q, if_pos q⟩
  ·exact .inr ⟨q, if_neg q⟩
 have hB : (b < 0 ∧ (if b < 0 then d else c) = d) ∨ (¬ b < 0 ∧ (if b < 0 then d else c) = c) := by
  by_cases q : b < 0
  ·exact .inl ⟨q, if_pos q⟩
  ·exact .inr ⟨q, if_neg q⟩
 unfold litresS
 have HE := Lib.hid (show Below w.heap.size w (((w.alloc (.cells #[.int .i64 a, .int .i64 b] 30)).alloc (.cells #[.int .i64 c, .int .i64 d] 30)).alloc (.cells #[.int .i64 0, .int .i64 0] 30)) from below_a3 (Below.refl _ _))
 have HK := Lib.hid (boxes3' w 30 30 30 #[.int .i64 a, .int .i64 b] #[.int .i64 c, .int .i64 d] #[.int .i64 0, .int .i64 0])
 have k3 : ∀ x, IntKind.i64.wrap (-(-1000 * b / x)) = -(-1000 * b / x) ∨ ¬ (100 ≤ x ∧ x ≤ 2000) := fun x => by
  by_cases q : 100 ≤ x ∧ x ≤ 2000
  ·have := ediv_between (-1000 * b) x 1000000000000000000 (by omega) (by omega) (by omega) (by omega)
   exact .inl (IntWalk.i64_in _ ⟨by omega, by omega⟩)
  ·exact .inr q
 rcases hA with ⟨qa, ea⟩ | ⟨qa, ea⟩ <;> rcases hB with ⟨qb, eb⟩ | ⟨qb, eb⟩
 ·rw [ea, eb]
  clear ea eb
  dsimp only
  have k4 := (k3 d).resolve_right (by omega)
  have F2 := Lib.hid (fun W => F1.out (1000 * a) c W (by omega) (by omega) (by omega))
  have F3 := Lib.hid (fun W => F1.out (-1000 * b) d W (by omega) (by omega) (by omega))
  clear k3 F1
  go_enter Tryz.func76, Tryz.ntmps76
  go_wp2_with fail
  obtain ⟨W0, hW0⟩ : ∃ W0, (((w.alloc (.cells #[.int .i64 a, .int .i64 b] 30)).alloc (.cells #[.int .i64 c, .int .i64 d] 30)).alloc (.cells #[.int .i64 0, .int .i64 0] 30)) = W0 := ⟨_, rfl⟩
  rw [hW0] at HE HK ⊢
  clear hW0
  obtain ⟨G, hG⟩ : ∃ G, w.heap.size = G := ⟨_, rfl⟩
  rw [hG] at HK ⊢
  have HG := Lib.hid hG; clear hG
  have p := HK.out _ (.tail _ (.tail _ (.head _)))
  have p0 := p.cell 0
  have p1 := p.cell 1
  simp at p0 p1
  clear p
  have q := HK.out _ (.tail _ (.head _))
  have q0 := q.cell 0
  have q1 := q.cell 1
  simp at q0 q1
  clear q
  go_region
  have p0 : W0.drew.cell? ⟨G, 0, none⟩ = some (.int .i64 a) := p0
  have p1 : W0.drew.cell? ⟨G, 1, none⟩ = some (.int .i64 b) := p1
  have q0 : W0.drew.cell? ⟨G + 1, 0, none⟩ = some (.int .i64 c) := q0
  have q1 : W0.drew.cell? ⟨G + 1, 1, none⟩ = some (.int .i64 d) := q1
  go_upto_region 6 with fail
  have HE1 := Lib.hid HE.out.drew.drew
  refine wp_region_held_drew (S := fun w' => w'.cell? ⟨G, 0, none⟩ = some (.int .i64 a) ∧ w'.cell? ⟨G, 1, none⟩ = some (.int .i64 b)) (by kernel_rfl) ⟨p0, p1⟩ (fun hHeld => ?_)
  refine tK 21 (i := 0) (v := .pointer (some ⟨G, 0, none⟩)) rfl rfl (by kernel_rfl) ?_ hHeld ?_
  ·intro w hSw; (try dsimp only at hSw); go_simp; try with_reducible rfl
  simp only [uZ, uS]
  refine tK 22 (i := 1) (v := .int .i64 a) rfl rfl (by kernel_rfl) ?_ hHeld ?_
  ·intro w hSw; (try dsimp only at hSw); go_simp; try with_reducible rfl
  simp only [uZ, uS]
  refine tK 23 (i := 2) (v := .int .i64 (1000 * a)) rfl rfl (by kernel_rfl) ?_ hHeld ?_
  ·intro w hSw; (try dsimp only at hSw); go_simp; try with_reducible rfl
  simp only [uZ, uS]
  refine tK 24 (i := 3) (v := .int .i64 c) rfl rfl (by kernel_rfl) ?_ hHeld ?_
  ·intro w hSw; (try dsimp only at hSw); go_simp; try with_reducible rfl
  simp only [uZ, uS]
  refine tK 26 (i := 5) (v := .pointer (some ⟨G, 1, none⟩)) rfl rfl (by kernel_rfl) ?_ hHeld ?_
  ·intro w hSw; (try dsimp only at hSw); go_simp; try with_reducible rfl
  simp only [uZ, uS]
  refine tK 27 (i := 6) (v := .int .i64 b) rfl rfl (by kernel_rfl) ?_ hHeld ?_
  ·intro w hSw; (try dsimp only at hSw); go_simp; try with_reducible rfl
  simp only [uZ, uS]
  refine tK 28 (i := 7) (v := .int .i64 (-1000 * b)) rfl rfl (by kernel_rfl) ?_ hHeld ?_
  ·intro w hSw; (try dsimp only at hSw); go_simp; try with_reducible rfl
  simp only [uZ, uS]
  refine tK 29 (i := 8) (v := .int .i64 d) rfl rfl (by kernel_rfl) ?_ hHeld ?_
  ·intro w hSw; (try dsimp only at hSw); go_simp; try with_reducible rfl
  simp only [uZ, uS]
  refine wpAnyH_ready (rs := [4]) (by kernel_rfl) (by simp) ?_
  refine AllReadyH.cons rfl (fun K hK => ?_) AllReadyH.nil
  go_simp
  (with_reducible refine (F2.out _).mono ?_)
  rintro e w2 ⟨rfl, rfl⟩
  refine hK.out _ _ (hHeld) (fun hHeld2 => ?_)
  try simp only [Act.put, uA, uZ, uS]
  clear hK K hHeld
  have hHeld := hHeld2
  clear hHeld2
  refine wpAnyH_ready (rs := [9]) (by kernel_rfl) (by simp) ?_
  refine AllReadyH.cons rfl (fun K hK => ?_) AllReadyH.nil
  go_simp
  (with_reducible refine (F3.out _).mono ?_)
  rintro e w2 ⟨rfl, rfl⟩
  refine hK.out _ _ (hHeld) (fun hHeld2 => ?_)
  try simp only [Act.put, uA, uZ, uS]
  clear hK K hHeld
  have hHeld := hHeld2
  clear hHeld2
  refine tK 31 (i := 10) (v := .int .i64 (-(-1000 * b / d))) rfl rfl (by kernel_rfl) ?_ hHeld ?_
  ·intro w hSw; (try dsimp only at hSw); go_simp; try with_reducible rfl
  simp only [uZ, uS]
  refine tK 32 (i := 11) (v := .agg #[.int .i64 (1000 * a / c), .int .i64 (-(-1000 * b / d))]) rfl rfl (by kernel_rfl) ?_ hHeld ?_
  ·intro w hSw; (try dsimp only at hSw); go_simp; try with_reducible rfl
  simp only [uZ, uS]
  refine wpAnyH_ready (rs := [12]) (by kernel_rfl) (by simp) ?_
  refine AllReadyH.cons rfl (fun K hK => ?_) AllReadyH.nil
  rw [if_pos (by kernel_rfl)]
  have HKR : Hid (Blk (W0.drew.drew.setRow (G + 1 + 1) #[.int .i64 (1000 * a / c), .int .i64 (-(-1000 * b / d))]) (G + 1 + 1) 30 #[.int .i64 (1000 * a / c), .int .i64 (-(-1000 * b / d))]) := Lib.hid (setRow_heap W0.drew.drew (G + 1 + 1) _ _ 30 _ ((HK.out _ (.head _)).drew.drew))
  have HE6 := Lib.hid (below_setRow HE1.out (show w.heap.size ≤ G + 1 + 1 by have := HG.out; omega) #[.int .i64 (1000 * a / c), .int .i64 (-(-1000 * b / d))])
  have hS6 := And.intro (((HK.out _ (.tail _ (.tail _ (.head _)))).drew.drew.farRow (show G ≠ G + 1 + 1 by omega) #[.int .i64 (1000 * a / c), .int .i64 (-(-1000 * b / d))]).cell 0) (((HK.out _ (.tail _ (.tail _ (.head _)))).drew.drew.farRow (show G ≠ G + 1 + 1 by omega) #[.int .i64 (1000 * a / c), .int .i64 (-(-1000 * b / d))]).cell 1)
  refine wp_store_row 30 (.tmp 4) (.tmp 32) rfl (G + 1 + 1) #[.int .i64 (1000 * a / c), .int .i64 (-(-1000 * b / d))] rfl rfl 30 _ ((HK.out _ (.head _)).drew.drew) (by kernel_rfl) rfl (by kernel_rfl) ?_
  obtain ⟨W6, hW6⟩ : ∃ W6, W0.drew.drew.setRow (G + 1 + 1) #[.int .i64 (1000 * a / c), .int .i64 (-(-1000 * b / d))] = W6 := ⟨_, rfl⟩
  rw [hW6] at HKR HE6 hS6 ⊢
  refine hK.out _ _ hS6 (fun hHeld2 => ?_)
  clear hW6 hK K hHeld hHeld2 hS6
  refine wpAnyH_done (by kernel_rfl) ?_ _
  go_wp2
  exact bodyPost_ret (v := .agg #[.int .i64 (1000 * a / c), .int .i64 (-(-1000 * b / d))]) (results_cell_row Tryz.results76 _ _ (G + 1 + 1) 30 #[.int .i64 (1000 * a / c), .int .i64 (-(-1000 * b / d))] (0, 0) _ rfl HKR.out Tryz.underlying30 rfl (by kernel_rfl)) rfl ⟨rfl, HE6.out⟩
 ·rw [ea, eb]
  clear ea eb
  dsimp only
  have k4 := (k3 c).resolve_right (by omega)
  have F2 := Lib.hid (fun W => F1.out (1000 * a) c W (by omega) (by omega) (by omega))
  have F3 := Lib.hid (fun W => F1.out (-1000 * b) c W (by omega) (by omega) (by omega))
  clear k3 F1
  go_enter Tryz.func76, Tryz.ntmps76
  go_wp2_with fail
  obtain ⟨W0, hW0⟩ : ∃ W0, (((w.alloc (.cells #[.int .i64 a, .int .i64 b] 30)).alloc (.cells #[.int .i64 c, .int .i64 d] 30)).alloc (.cells #[.int .i64 0, .int .i64 0] 30)) = W0 := ⟨_, rfl⟩
  rw [hW0] at HE HK ⊢
  clear hW0
  obtain ⟨G, hG⟩ : ∃ G, w.heap.size = G := ⟨_, rfl⟩
  rw [hG] at HK ⊢
  have HG := Lib.hid hG; clear hG
  have p := HK.out _ (.tail _ (.tail _ (.head _)))
  have p0 := p.cell 0
  have p1 := p.cell 1
  simp at p0 p1
  clear p
  have q := HK.out _ (.tail _ (.head _))
  have q0 := q.cell 0
  have q1 := q.cell 1
  simp at q0 q1
  clear q
  go_region
  have p0 : W0.drew.cell? ⟨G, 0, none⟩ = some (.int .i64 a) := p0
  have p1 : W0.drew.cell? ⟨G, 1, none⟩ = some (.int .i64 b) := p1
  have q0 : W0.drew.cell? ⟨G + 1, 0, none⟩ = some (.int .i64 c) := q0
  have q1 : W0.drew.cell? ⟨G + 1, 1, none⟩ = some (.int .i64 d) := q1
  go_upto_region 6 with fail
  have HE1 := Lib.hid HE.out.drew.drew
  refine wp_region_held_drew (S := fun w' => w'.cell? ⟨G, 0, none⟩ = some (.int .i64 a) ∧ w'.cell? ⟨G, 1, none⟩ = some (.int .i64 b)) (by kernel_rfl) ⟨p0, p1⟩ (fun hHeld => ?_)
  refine tK 21 (i := 0) (v := .pointer (some ⟨G, 0, none⟩)) rfl rfl (by kernel_rfl) ?_ hHeld ?_
  ·intro w hSw; (try dsimp only at hSw); go_simp; try with_reducible rfl
  simp only [uZ, uS]
  refine tK 22 (i := 1) (v := .int .i64 a) rfl rfl (by kernel_rfl) ?_ hHeld ?_
  ·intro w hSw; (try dsimp only at hSw); go_simp; try with_reducible rfl
  simp only [uZ, uS]
  refine tK 23 (i := 2) (v := .int .i64 (1000 * a)) rfl rfl (by kernel_rfl) ?_ hHeld ?_
  ·intro w hSw; (try dsimp only at hSw); go_simp; try with_reducible rfl
  simp only [uZ, uS]
  refine tK 24 (i := 3) (v := .int .i64 c) rfl rfl (by kernel_rfl) ?_ hHeld ?_
  ·intro w hSw; (try dsimp only at hSw); go_simp; try with_reducible rfl
  simp only [uZ, uS]
  refine tK 26 (i := 5) (v := .pointer (some ⟨G, 1, none⟩)) rfl rfl (by kernel_rfl) ?_ hHeld ?_
  ·intro w hSw; (try dsimp only at hSw); go_simp; try with_reducible rfl
  simp only [uZ, uS]
  refine tK 27 (i := 6) (v := .int .i64 b) rfl rfl (by kernel_rfl) ?_ hHeld ?_
  ·intro w hSw; (try dsimp only at hSw); go_simp; try with_reducible rfl
  simp only [uZ, uS]
  refine tK 28 (i := 7) (v := .int .i64 (-1000 * b)) rfl rfl (by kernel_rfl) ?_ hHeld ?_
  ·intro w hSw; (try dsimp only at hSw); go_simp; try with_reducible rfl
  simp only [uZ, uS]
  refine tK 29 (i := 8) (v := .int .i64 c) rfl rfl (by kernel_rfl) ?_ hHeld ?_
  ·intro w hSw; (try dsimp only at hSw); go_simp; try with_reducible rfl
  simp only [uZ, uS]
  refine wpAnyH_ready (rs := [4]) (by kernel_rfl) (by simp) ?_
  refine AllReadyH.cons rfl (fun K hK => ?_) AllReadyH.nil
  go_simp
  (with_reducible refine (F2.out _).mono ?_)
  rintro e w2 ⟨rfl, rfl⟩
  refine hK.out _ _ (hHeld) (fun hHeld2 => ?_)
  try simp only [Act.put, uA, uZ, uS]
  clear hK K hHeld
  have hHeld := hHeld2
  clear hHeld2
  refine wpAnyH_ready (rs := [9]) (by kernel_rfl) (by simp) ?_
  refine AllReadyH.cons rfl (fun K hK => ?_) AllReadyH.nil
  go_simp
  (with_reducible refine (F3.out _).mono ?_)
  rintro e w2 ⟨rfl, rfl⟩
  refine hK.out _ _ (hHeld) (fun hHeld2 => ?_)
  try simp only [Act.put, uA, uZ, uS]
  clear hK K hHeld
  have hHeld := hHeld2
  clear hHeld2
  refine tK 31 (i := 10) (v := .int .i64 (-(-1000 * b / c))) rfl rfl (by kernel_rfl) ?_ hHeld ?_
  ·intro w hSw; (try dsimp only at hSw); go_simp; try with_reducible rfl
  simp only [uZ, uS]
  refine tK 32 (i := 11) (v := .agg #[.int .i64 (1000 * a / c), .int .i64 (-(-1000 * b / c))]) rfl rfl (by kernel_rfl) ?_ hHeld ?_
  ·intro w hSw; (try dsimp only at hSw); go_simp; try with_reducible rfl
  simp only [uZ, uS]
  refine wpAnyH_ready (rs := [12]) (by kernel_rfl) (by simp) ?_
  refine AllReadyH.cons rfl (fun K hK => ?_) AllReadyH.nil
  rw [if_pos (by kernel_rfl)]
  have HKR : Hid (Blk (W0.drew.drew.setRow (G + 1 + 1) #[.int .i64 (1000 * a / c), .int .i64 (-(-1000 * b / c))]) (G + 1 + 1) 30 #[.int .i64 (1000 * a / c), .int .i64 (-(-1000 * b / c))]) := Lib.hid (setRow_heap W0.drew.drew (G + 1 + 1) _ _ 30 _ ((HK.out _ (.head _)).drew.drew))
  have HE6 := Lib.hid (below_setRow HE1.out (show w.heap.size ≤ G + 1 + 1 by have := HG.out; omega) #[.int .i64 (1000 * a / c), .int .i64 (-(-1000 * b / c))])
  have hS6 := And.intro (((HK.out _ (.tail _ (.tail _ (.head _)))).drew.drew.farRow (show G ≠ G + 1 + 1 by omega) #[.int .i64 (1000 * a / c), .int .i64 (-(-1000 * b / c))]).cell 0) (((HK.out _ (.tail _ (.tail _ (.head _)))).drew.drew.farRow (show G ≠ G + 1 + 1 by omega) #[.int .i64 (1000 * a / c), .int .i64 (-(-1000 * b / c))]).cell 1)
  refine wp_store_row 30 (.tmp 4) (.tmp 32) rfl (G + 1 + 1) #[.int .i64 (1000 * a / c), .int .i64 (-(-1000 * b / c))] rfl rfl 30 _ ((HK.out _ (.head _)).drew.drew) (by kernel_rfl) rfl (by kernel_rfl) ?_
  obtain ⟨W6, hW6⟩ : ∃ W6, W0.drew.drew.setRow (G + 1 + 1) #[.int .i64 (1000 * a / c), .int .i64 (-(-1000 * b / c))] = W6 := ⟨_, rfl⟩
  rw [hW6] at HKR HE6 hS6 ⊢
  refine hK.out _ _ hS6 (fun hHeld2 => ?_)
  clear hW6 hK K hHeld hHeld2 hS6
  refine wpAnyH_done (by kernel_rfl) ?_ _
  go_wp2
  exact bodyPost_ret (v := .agg #[.int .i64 (1000 * a / c), .int .i64 (-(-1000 * b / c))]) (results_cell_row Tryz.results76 _ _ (G + 1 + 1) 30 #[.int .i64 (1000 * a / c), .int .i64 (-(-1000 * b / c))] (0, 0) _ rfl HKR.out Tryz.underlying30 rfl (by kernel_rfl)) rfl ⟨rfl, HE6.out⟩
 ·omega
 ·rw [ea, eb]
  clear ea eb
  dsimp only
  have k4 := (k3 c).resolve_right (by omega)
  have F2 := Lib.hid (fun W => F1.out (1000 * a) d W (by omega) (by omega) (by omega))
  have F3 := Lib.hid (fun W => F1.out (-1000 * b) c W (by omega) (by omega) (by omega))
  clear k3 F1
  go_enter Tryz.func76, Tryz.ntmps76
  go_wp2_with fail
  obtain ⟨W0, hW0⟩ : ∃ W0, (((w.alloc (.cells #[.int .i64 a, .int .i64 b] 30)).alloc (.cells #[.int .i64 c, .int .i64 d] 30)).alloc (.cells #[.int .i64 0, .int .i64 0] 30)) = W0 := ⟨_, rfl⟩
  rw [hW0] at HE HK ⊢
  clear hW0
  obtain ⟨G, hG⟩ : ∃ G, w.heap.size = G := ⟨_, rfl⟩
  rw [hG] at HK ⊢
  have HG := Lib.hid hG; clear hG
  have p := HK.out _ (.tail _ (.tail _ (.head _)))
  have p0 := p.cell 0
  have p1 := p.cell 1
  simp at p0 p1
  clear p
  have q := HK.out _ (.tail _ (.head _))
  have q0 := q.cell 0
  have q1 := q.cell 1
  simp at q0 q1
  clear q
  go_region
  have p0 : W0.drew.cell? ⟨G, 0, none⟩ = some (.int .i64 a) := p0
  have p1 : W0.drew.cell? ⟨G, 1, none⟩ = some (.int .i64 b) := p1
  have q0 : W0.drew.cell? ⟨G + 1, 0, none⟩ = some (.int .i64 c) := q0
  have q1 : W0.drew.cell? ⟨G + 1, 1, none⟩ = some (.int .i64 d) := q1
  go_upto_region 6 with fail
  have HE1 := Lib.hid HE.out.drew.drew
  refine wp_region_held_drew (S := fun w' => w'.cell? ⟨G, 0, none⟩ = some (.int .i64 a) ∧ w'.cell? ⟨G, 1, none⟩ = some (.int .i64 b)) (by kernel_rfl) ⟨p0, p1⟩ (fun hHeld => ?_)
  refine tK 21 (i := 0) (v := .pointer (some ⟨G, 0, none⟩)) rfl rfl (by kernel_rfl) ?_ hHeld ?_
  ·intro w hSw; (try dsimp only at hSw); go_simp; try with_reducible rfl
  simp only [uZ, uS]
  refine tK 22 (i := 1) (v := .int .i64 a) rfl rfl (by kernel_rfl) ?_ hHeld ?_
  ·intro w hSw; (try dsimp only at hSw); go_simp; try with_reducible rfl
  simp only [uZ, uS]
  refine tK 23 (i := 2) (v := .int .i64 (1000 * a)) rfl rfl (by kernel_rfl) ?_ hHeld ?_
  ·intro w hSw; (try dsimp only at hSw); go_simp; try with_reducible rfl
  simp only [uZ, uS]
  refine tK 24 (i := 3) (v := .int .i64 d) rfl rfl (by kernel_rfl) ?_ hHeld ?_
  ·intro w hSw; (try dsimp only at hSw); go_simp; try with_reducible rfl
  simp only [uZ, uS]
  refine tK 26 (i := 5) (v := .pointer (some ⟨G, 1, none⟩)) rfl rfl (by kernel_rfl) ?_ hHeld ?_
  ·intro w hSw; (try dsimp only at hSw); go_simp; try with_reducible rfl
  simp only [uZ, uS]
  refine tK 27 (i := 6) (v := .int .i64 b) rfl rfl (by kernel_rfl) ?_ hHeld ?_
  ·intro w hSw; (try dsimp only at hSw); go_simp; try with_reducible rfl
  simp only [uZ, uS]
  refine tK 28 (i := 7) (v := .int .i64 (-1000 * b)) rfl rfl (by kernel_rfl) ?_ hHeld ?_
  ·intro w hSw; (try dsimp only at hSw); go_simp; try with_reducible rfl
  simp only [uZ, uS]
  refine tK 29 (i := 8) (v := .int .i64 c) rfl rfl (by kernel_rfl) ?_ hHeld ?_
  ·intro w hSw; (try dsimp only at hSw); go_simp; try with_reducible rfl
  simp only [uZ, uS]
  refine wpAnyH_ready (rs := [4]) (by kernel_rfl) (by simp) ?_
  refine AllReadyH.cons rfl (fun K hK => ?_) AllReadyH.nil
  go_simp
  (with_reducible refine (F2.out _).mono ?_)
  rintro e w2 ⟨rfl, rfl⟩
  refine hK.out _ _ (hHeld) (fun hHeld2 => ?_)
  try simp only [Act.put, uA, uZ, uS]
  clear hK K hHeld
  have hHeld := hHeld2
  clear hHeld2
  refine wpAnyH_ready (rs := [9]) (by kernel_rfl) (by simp) ?_
  refine AllReadyH.cons rfl (fun K hK => ?_) AllReadyH.nil
  go_simp
  (with_reducible refine (F3.out _).mono ?_)
  rintro e w2 ⟨rfl, rfl⟩
  refine hK.out _ _ (hHeld) (fun hHeld2 => ?_)
  try simp only [Act.put, uA, uZ, uS]
  clear hK K hHeld
  have hHeld := hHeld2
  clear hHeld2
  refine tK 31 (i := 10) (v := .int .i64 (-(-1000 * b / c))) rfl rfl (by kernel_rfl) ?_ hHeld ?_
  ·intro w hSw; (try dsimp only at hSw); go_simp; try with_reducible rfl
  simp only [uZ, uS]
  refine tK 32 (i := 11) (v := .agg #[.int .i64 (1000 * a / d), .int .i64 (-(-1000 * b / c))]) rfl rfl (by kernel_rfl) ?_ hHeld ?_
  ·intro w hSw; (try dsimp only at hSw); go_simp; try with_reducible rfl
  simp only [uZ, uS]
  refine wpAnyH_ready (rs := [12]) (by kernel_rfl) (by simp) ?_
  refine AllReadyH.cons rfl (fun K hK => ?_) AllReadyH.nil
  rw [if_pos (by kernel_rfl)]
  have HKR : Hid (Blk (W0.drew.drew.setRow (G + 1 + 1) #[.int .i64 (1000 * a / d), .int .i64 (-(-1000 * b / c))]) (G + 1 + 1) 30 #[.int .i64 (1000 * a / d), .int .i64 (-(-1000 * b / c))]) := Lib.hid (setRow_heap W0.drew.drew (G + 1 + 1) _ _ 30 _ ((HK.out _ (.head _)).drew.drew))
  have HE6 := Lib.hid (below_setRow HE1.out (show w.heap.size ≤ G + 1 + 1 by have := HG.out; omega) #[.int .i64 (1000 * a / d), .int .i64 (-(-1000 * b / c))])
  have hS6 := And.intro (((HK.out _ (.tail _ (.tail _ (.head _)))).drew.drew.farRow (show G ≠ G + 1 + 1 by omega) #[.int .i64 (1000 * a / d), .int .i64 (-(-1000 * b / c))]).cell 0) (((HK.out _ (.tail _ (.tail _ (.head _)))).drew.drew.farRow (show G ≠ G + 1 + 1 by omega) #[.int .i64 (1000 * a / d), .int .i64 (-(-1000 * b / c))]).cell 1)
  refine wp_store_row 30 (.tmp 4) (.tmp 32) rfl (G + 1 + 1) #[.int .i64 (1000 * a / d), .int .i64 (-(-1000 * b / c))] rfl rfl 30 _ ((HK.out _ (.head _)).drew.drew) (by kernel_rfl) rfl (by kernel_rfl) ?_
  obtain ⟨W6, hW6⟩ : ∃ W6, W0.drew.drew.setRow (G + 1 + 1) #[.int .i64 (1000 * a / d), .int .i64 (-(-1000 * b / c))] = W6 := ⟨_, rfl⟩
  rw [hW6] at HKR HE6 hS6 ⊢
  refine hK.out _ _ hS6 (fun hHeld2 => ?_)
  clear hW6 hK K hHeld hHeld2 hS6
  refine wpAnyH_done (by kernel_rfl) ?_ _
  go_wp2
  exact bodyPost_ret (v := .agg #[.int .i64 (1000 * a / d), .int .i64 (-(-1000 * b / c))]) (results_cell_row Tryz.results76 _ _ (G + 1 + 1) 30 #[.int .i64 (1000 * a / d), .int .i64 (-(-1000 * b / c))] (0, 0) _ rfl HKR.out Tryz.underlying30 rfl (by kernel_rfl)) rfl ⟨rfl, HE6.out⟩
end

end Go.Proofs.YtemlaaipnhmcoaaGreat
