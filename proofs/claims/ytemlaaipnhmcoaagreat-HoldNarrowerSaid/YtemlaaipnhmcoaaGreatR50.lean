/- Plain, for HoldNarrower: Pour and Draw of a narrower fill with a narrower mass. No conditions. -/
import Derived.Test.YtemlaaipnhmcoaaGreatR44
set_option linter.unusedVariables false
set_option linter.unusedSimpArgs false
set_option linter.constructorNameAsVariable false
namespace Go.Proofs.YtemlaaipnhmcoaaGreat

section
open Go.RowKit

theorem over_narrow {ps : List P3} {a b c d : Int} (hm : measuresS ps = true) (h0 : firstX ps ≤ a) (h1 : a ≤ c) (h2 : c ≤ d) (h3 : d ≤ b) (h4 : b ≤ lastX ps) : (overS ps a b).1 ≤ (overS ps c d).1 ∧ (overS ps c d).2.1 ≤ (overS ps a b).2.1 := by
  have ht := measures_ok hm
  rw [overS_good ht (show inB a b (firstX ps) (lastX ps) = true by simp only [inB, decide_eq_true_eq]; omega), overS_good ht (show inB c d (firstX ps) (lastX ps) = true by simp only [inB, decide_eq_true_eq]; omega)]
  dsimp only
  have hin : ∀ r ∈ (cornersS ps c d).map (atS ps), (overGood ps a b).1 ≤ r.1 ∧ r.1 ≤ r.2 ∧ r.2 ≤ (overGood ps a b).2.1 := by
    intro r hr
    obtain ⟨x, hx, rfl⟩ := List.mem_map.1 hr
    have hcx : c ≤ x ∧ x ≤ d := by rcases corners_mem hx with q | q <;> omega
    obtain ⟨g1, g2⟩ := over_has (x := x) ht h0 (show a ≤ x by omega) (show x ≤ b by omega) h4
    have q1 := atS_in ht (show firstX ps ≤ x by omega) (show x ≤ lastX ps by omega)
    simp only [inB, decide_eq_true_eq] at q1
    exact ⟨g1, by omega, g2⟩
  have hne : (cornersS ps c d).map (atS ps) ≠ [] := fun h => corners_ne ps c d (List.map_eq_nil_iff.1 h)
  have q := foldG_in hne hin
  exact ⟨q.1, q.2.2⟩
theorem heavy_mono {v0 v1 w0 w1 c d e f : Int} (hv : 0 ≤ v0) (h1 : v0 ≤ w0) (h2 : w1 ≤ v1) (hw : 0 ≤ w1) (hc : 0 ≤ c) (h3 : c ≤ e) (h4 : f ≤ d) (hf : 0 ≤ f) : (heavyS v0 v1 c d).1 ≤ (heavyS w0 w1 e f).1 ∧ (heavyS w0 w1 e f).2 ≤ (heavyS v0 v1 c d).2 := by
  have a1 := Int.mul_le_mul h1 h3 hc (show 0 ≤ w0 by omega)
  have a2 := Int.mul_le_mul h2 h4 hf (show 0 ≤ v1 by omega)
  unfold heavyS
  dsimp only
  constructor
  · exact Int.ediv_le_ediv (by omega) a1
  · exact Int.ediv_le_ediv (by omega) (by omega)
def Within2 (f g : FillD) : Prop := g.hold = f.hold ∧ g.st = f.st ∧ (f.st = 0 ∨ (f.d0 ≤ g.d0 ∧ g.d0 ≤ g.d1 ∧ g.d1 ≤ f.d1)) ∧ (f.st < 3 ∨ (f.x0 ≤ g.x0 ∧ g.x0 ≤ g.x1 ∧ g.x1 ≤ f.x1)) ∧ (f.st = 0 → g.d0 = f.d0 ∧ g.d1 = f.d1) ∧ (f.st < 3 → g.x0 = f.x0 ∧ g.x1 = f.x1)
theorem narrow_ok {h : HoldD} {f g : FillD} (e : fillErr h f = 0) (hn : Within2 f g) : fillErr h g = 0 := by
  obtain ⟨n1, n2, n3, n4, n5, n6⟩ := hn
  obtain ⟨hS, hF⟩ := fill_zero e
  unfold fillErr
  rw [if_pos hS]
  have : fillS h g = true := by
    unfold fillS stateS densS at hF ⊢
    simp only [Bool.and_eq_true, Bool.or_eq_true, decide_eq_true_eq, beq_iff_eq, inB] at hF ⊢
    omega
  rw [if_pos this]
theorem narrow_amt {h : HoldD} {f g : FillD} (e : fillErr h f = 0) (hn : Within2 f g) :
    ((volS h f).1 ≤ (volS h g).1 ∧ (volS h g).2 ≤ (volS h f).2) ∧ ((momS h f).1 ≤ (momS h g).1 ∧ (momS h g).2 ≤ (momS h f).2) ∧ ((heiS h f).1 ≤ (heiS h g).1 ∧ (heiS h g).2 ≤ (heiS h f).2) := by
  obtain ⟨n1, n2, n3, n4, n5, n6⟩ := hn
  obtain ⟨hS, _⟩ := fill_zero e
  obtain ⟨⟨a1, a2, a3, a4⟩, ⟨m1, m2, m3⟩, ⟨l1, l2⟩, _⟩ := hold_parts hS
  by_cases s : f.st < 3
  · have q1 : volS h g = volS h f := by unfold volS; rw [n2, (n6 s).1, (n6 s).2]
    have q2 : momS h g = momS h f := by unfold momS; rw [n2, (n6 s).1, (n6 s).2]
    have q3 : heiS h g = heiS h f := by unfold heiS; rw [n2, (n6 s).1, (n6 s).2]
    rw [q1, q2, q3]
    exact ⟨⟨Int.le_refl _, Int.le_refl _⟩, ⟨Int.le_refl _, Int.le_refl _⟩, ⟨Int.le_refl _, Int.le_refl _⟩⟩
  · have pl := fill_place e (show 3 ≤ f.st by omega)
    have p2 := along_in l1 pl
    have p3 := along_in l2 pl
    simp only [inB, decide_eq_true_eq] at pl p2 p3
    have x := n4.resolve_left s
    have o1 := over_narrow m1 (show firstX h.vol ≤ f.x0 by omega) x.1 x.2.1 x.2.2 (by omega)
    have o2 := over_narrow m2 (show firstX h.mom ≤ f.x0 by omega) x.1 x.2.1 x.2.2 (by omega)
    have o3 := over_narrow m3 (show firstX h.hei ≤ f.x0 by omega) x.1 x.2.1 x.2.2 (by omega)
    have v1 : volS h f = ((overS h.vol f.x0 f.x1).1, (overS h.vol f.x0 f.x1).2.1) := by unfold volS; rw [if_neg (by omega), if_neg (by omega)]
    have v2 : volS h g = ((overS h.vol g.x0 g.x1).1, (overS h.vol g.x0 g.x1).2.1) := by unfold volS; rw [if_neg (by omega), if_neg (by omega)]
    have v3 : heiS h f = ((overS h.hei f.x0 f.x1).1, (overS h.hei f.x0 f.x1).2.1) := by unfold heiS; rw [if_neg (by omega), if_neg (by omega)]
    have v4 : heiS h g = ((overS h.hei g.x0 g.x1).1, (overS h.hei g.x0 g.x1).2.1) := by unfold heiS; rw [if_neg (by omega), if_neg (by omega)]
    refine ⟨by rw [v1, v2]; exact o1, ?_, by rw [v3, v4]; exact o3⟩
    by_cases s3 : f.st = 3
    · have w1 : momS h f = ((overS h.mom f.x0 f.x1).1, (overS h.mom f.x0 f.x1).2.1) := by unfold momS; rw [if_neg (by omega), if_neg (by omega), if_neg (by omega), if_pos s3]
      have w2 : momS h g = ((overS h.mom g.x0 g.x1).1, (overS h.mom g.x0 g.x1).2.1) := by unfold momS; rw [if_neg (by omega), if_neg (by omega), if_neg (by omega), if_pos (by omega)]
      rw [w1, w2]
      exact o2
    · have w1 : momS h f = (0, 0) := by unfold momS; rw [if_neg (by omega), if_neg (by omega), if_neg (by omega), if_neg s3]
      have w2 : momS h g = (0, 0) := by unfold momS; rw [if_neg (by omega), if_neg (by omega), if_neg (by omega), if_neg (by omega)]
      rw [w1, w2]
      exact ⟨Int.le_refl _, Int.le_refl _⟩
theorem narrow_den {h : HoldD} {f g : FillD} {v w : Int × Int} (ef : fillErr h f = 0) (eg : fillErr h g = 0) (hn : Within2 f g) (hv : Amt v) (hw : Amt w) (h1 : v.1 ≤ w.1) (h2 : w.2 ≤ v.2) : (denS h f v).1 ≤ (denS h g w).1 ∧ (denS h g w).2 ≤ (denS h f v).2 := by
  rw [← den_heavy ef hv, ← den_heavy eg hw]
  obtain ⟨_, _, n3, _, n5, _⟩ := hn
  have d1 := fill_dens ef
  have d2 := fill_dens eg
  have a1 := hv.1; have a2 := hw.1; have a3 := hw.2.1
  refine heavy_mono a1 h1 h2 (by omega) d1.1 ?_ ?_ (by omega) <;> omega
theorem litres_mono {a b c d a' b' c' d' : Int} (h0 : 0 ≤ a) (h1 : a ≤ a') (h2 : a' ≤ b') (h3 : b' ≤ b) (k0 : 100 ≤ c) (k1 : c ≤ c') (k2 : c' ≤ d') (k3 : d' ≤ d) : (litresS a b c d).1 ≤ (litresS a' b' c' d').1 ∧ (litresS a' b' c' d').2 ≤ (litresS a b c d).2 := by
  unfold litresS
  dsimp only
  rw [if_neg (show ¬ a < 0 by omega), if_neg (show ¬ a' < 0 by omega), if_neg (show ¬ b < 0 by omega), if_neg (show ¬ b' < 0 by omega)]
  have e1 := Int.ediv_mul_le (1000 * a) (show d ≠ 0 by omega)
  have e2 := Int.ediv_mul_le (-1000 * b) (show c ≠ 0 by omega)
  constructor
  · rw [Int.le_ediv_iff_mul_le (by omega)]
    have n0 : 0 ≤ 1000 * a / d := Int.ediv_nonneg (by omega) (by omega)
    have := Int.mul_le_mul_of_nonneg_left k3 n0
    omega
  · refine Int.neg_le_neg ?_
    rw [Int.le_ediv_iff_mul_le (by omega)]
    have n0 : -1000 * b / c ≤ 0 := by
      refine Int.not_lt.1 fun g => ?_
      have := Int.mul_le_mul_of_nonneg_left (show 1 ≤ c by omega) (Int.le_of_lt g)
      omega
    obtain ⟨X, hX⟩ : ∃ X, -1000 * b / c = X := ⟨_, rfl⟩
    rw [hX] at e2 n0 ⊢
    have := Int.mul_le_mul_of_nonneg_left k1 (show 0 ≤ -X by omega)
    rw [Int.neg_mul, Int.neg_mul] at this
    omega
end

section
open Go.RowKit

theorem bs_mono {f g : Int → Bool} {n : Int} (hn : 0 ≤ n) (hf : ∀ u v, 0 ≤ u → u ≤ v → v < n → f u = true → f v = true) (hg : ∀ u v, 0 ≤ u → u ≤ v → v < n → g u = true → g v = true) (h : ∀ u, 0 ≤ u → u < n → g u = true → f u = true) : bs f n.toNat 0 n ≤ bs g n.toNat 0 n := by
  have b1 := bs_turn f n.toNat 0 n hn (by omega) hf
  have b2 := bs_turn g n.toNat 0 n hn (by omega) hg
  refine Int.not_lt.1 fun q => ?_
  have t1 := b2.2.2 (bs g n.toNat 0 n) (Int.le_refl _) (by omega)
  have t2 := b1.2.1 (bs g n.toNat 0 n) b2.1.1 q
  rw [h _ b2.1.1 (by omega) t1] at t2
  cases t2
theorem ull_mono {ps : List P3} {x y x' y' : Int} (ht : tabOk ps = true) (h2 : 2 ≤ ps.length) (hf : fallsS ps = true) (hle : firstX ps ≤ lastX ps) (h1 : x ≤ x') (h3 : y' ≤ y) (ok : (ullS ps x' y').2.2 = 0) :
    (ullS ps x y).2.2 = 0 ∧ (ullS ps x y).1 ≤ (ullS ps x' y').1 ∧ (ullS ps x' y').2.1 ≤ (ullS ps x y).2.1 ∧ firstX ps ≤ (ullS ps x y).1 ∧ (ullS ps x y).2.1 ≤ lastX ps := by
  have T := turns_falls (x := x) (y := y) ht h2 hf
  have T' := turns_falls (x := x') (y := y') ht h2 hf
  unfold Turns at T T'
  obtain ⟨lo, hlo⟩ : ∃ z, firstX ps = z := ⟨_, rfl⟩
  obtain ⟨hi, hhi⟩ : ∃ z, lastX ps = z := ⟨_, rfl⟩
  unfold ullS at ok ⊢
  rw [hlo, hhi] at T T' hle ok ⊢
  have T1 : ∀ u v, lo ≤ u → u ≤ v → v ≤ hi → moreF ps y v = true → moreF ps y u = true := T.1
  have T2 : ∀ u v, lo ≤ u → u ≤ v → v ≤ hi → lessF ps x u = true → lessF ps x v = true := T.2
  have T3 : ∀ u v, lo ≤ u → u ≤ v → v ≤ hi → moreF ps y' v = true → moreF ps y' u = true := T'.1
  have T4 : ∀ u v, lo ≤ u → u ≤ v → v ≤ hi → lessF ps x' u = true → lessF ps x' v = true := T'.2
  have up : ∀ z, (∀ u v, lo ≤ u → u ≤ v → v ≤ hi → moreF ps z v = true → moreF ps z u = true) → ∀ u v : Int, 0 ≤ u → u ≤ v → v < hi - lo + 1 → (fun i => !(moreF ps z (lo + i))) u = true → (fun i => !(moreF ps z (lo + i))) v = true := fun z H p q g1 g2 g3 hp => by
    have hp' : moreF ps z (lo + p) = false := by simpa using hp
    cases hq : moreF ps z (lo + q)
    · simp [hq]
    · have := H (lo + p) (lo + q) (by omega) (by omega) (by omega) hq
      rw [this] at hp'
      cases hp'
  have i1 := bs_mono (f := fun i => !(moreF ps y (lo + i))) (g := fun i => !(moreF ps y' (lo + i))) (n := hi - lo + 1) (by omega) (up y T1) (up y' T3) (fun u _ _ hg => by
    simp only [moreF, Bool.not_eq_true', decide_eq_false_iff_not] at hg ⊢
    omega)
  have j1 := bs_mono (f := fun i => lessF ps x' (lo + i)) (g := fun i => lessF ps x (lo + i)) (n := hi - lo + 1) (by omega) (fun u v a b c => T4 (lo + u) (lo + v) (by omega) (by omega) (by omega)) (fun u v a b c => T2 (lo + u) (lo + v) (by omega) (by omega) (by omega)) (fun u _ _ hg => by
    simp only [lessF, decide_eq_true_eq] at hg ⊢
    omega)
  have b1 := (bs_turn (fun i => !(moreF ps y (lo + i))) (hi - lo + 1).toNat 0 (hi - lo + 1) (by omega) (by omega) (up y T1)).1
  have b2 := (bs_turn (fun i => lessF ps x (lo + i)) (hi - lo + 1).toNat 0 (hi - lo + 1) (by omega) (by omega) (fun u v a b c => T2 (lo + u) (lo + v) (by omega) (by omega) (by omega))).1
  have b3 := (bs_turn (fun i => lessF ps x' (lo + i)) (hi - lo + 1).toNat 0 (hi - lo + 1) (by omega) (by omega) (fun u v a b c => T4 (lo + u) (lo + v) (by omega) (by omega) (by omega))).1
  unfold invS at ok ⊢
  obtain ⟨i, hi1⟩ : ∃ z, bs (fun i => !(moreF ps y (lo + i))) (hi - lo + 1).toNat 0 (hi - lo + 1) = z := ⟨_, rfl⟩
  obtain ⟨j, hj1⟩ : ∃ z, bs (fun i => lessF ps x (lo + i)) (hi - lo + 1).toNat 0 (hi - lo + 1) = z := ⟨_, rfl⟩
  obtain ⟨i', hi2⟩ : ∃ z, bs (fun i => !(moreF ps y' (lo + i))) (hi - lo + 1).toNat 0 (hi - lo + 1) = z := ⟨_, rfl⟩
  obtain ⟨j', hj2⟩ : ∃ z, bs (fun i => lessF ps x' (lo + i)) (hi - lo + 1).toNat 0 (hi - lo + 1) = z := ⟨_, rfl⟩
  rw [hi1, hi2] at i1
  rw [hj1, hj2] at j1
  rw [hi1] at b1
  rw [hj1] at b2
  rw [hj2] at b3
  rw [hi2, hj2] at ok
  rw [hi1, hj1, hi2, hj2]
  by_cases c : hi < lo + i' ∨ lo + j' = lo
  · rw [if_pos c] at ok
    simp at ok
  · rw [if_neg c, if_neg (by omega)]
    dsimp only
    omega
theorem meet_parts {a b c d : Int} (h : (meetS a b c d).2.2 = 0) : vR a b = true ∧ vR c d = true ∧ meetS a b c d = (max a c, min b d, 0) ∧ max a c ≤ min b d := by
  unfold meetS twoS at h ⊢
  cases h1 : vR a b <;> cases h2 : vR c d <;> simp [h1, h2] at h ⊢
  by_cases g : max a c ≤ min b d
  · exact g
  · rw [if_neg g] at h
    simp at h
theorem moved_narrow {ps : List P3} {id x y x' y' a0 a1 b0 b1 d0 d1 e0 e1 : Int} (ht : tabOk ps = true) (h2 : 2 ≤ ps.length) (hf : fallsS ps = true) (hle : firstX ps ≤ lastX ps) (h1 : x ≤ x') (h3 : y' ≤ y) (q1 : a0 ≤ b0) (q2 : b1 ≤ a1) (q3 : 0 ≤ a0) (q4 : a1 ≤ 1000000)
    (ok : (movedS ps id x' y' b0 b1 e0 e1).2 = 0) :
    ∃ p q p' q', movedS ps id x y a0 a1 d0 d1 = (⟨id, 3, p, q, d0, d1⟩, 0) ∧ movedS ps id x' y' b0 b1 e0 e1 = (⟨id, 3, p', q', e0, e1⟩, 0) ∧ p ≤ p' ∧ q' ≤ q := by
  have hp := tab_places ht
  by_cases c : (ullS ps x' y').2.2 = 0
  · obtain ⟨u1, u2, u3, u4, u5⟩ := ull_mono ht h2 hf hle h1 h3 c
    unfold movedS at ok ⊢
    rw [if_pos c] at ok
    rw [if_pos c, if_pos u1]
    by_cases k : (meetS (ullS ps x' y').1 (ullS ps x' y').2.1 b0 b1).2.2 = 0
    · obtain ⟨v1, v2, v3, v4⟩ := meet_parts k
      have w1 := (vR_iff _ _).1 v1
      have w2 := (vR_iff _ _).1 v2
      have m := meet_has (a := (ullS ps x y).1) (b := (ullS ps x y).2.1) (c := a0) (d := a1) (u := max (ullS ps x' y').1 b0) ((vR_iff _ _).2 (by omega)) ((vR_iff _ _).2 (by omega)) (by omega) (by omega) (by omega) (by omega)
      rw [if_pos k, v3, m]
      dsimp only
      rw [if_pos rfl]
      exact ⟨_, _, _, _, rfl, rfl, by omega, by omega⟩
    · rw [if_neg k] at ok
      simp at ok
  · unfold movedS at ok
    rw [if_neg c] at ok
    exact absurd ok c
end

section
open Go.RowKit

theorem mix_two {a b c d : Int} (h1 : 100 ≤ a ∧ a ≤ b ∧ b ≤ 2000) (h2 : 100 ≤ c ∧ c ≤ d ∧ d ≤ 2000) : mixS a b c d = (min a c, max b d) := by
  have v1 : vR a b = true := (vR_iff a b).2 (by omega)
  have v2 : vR c d = true := (vR_iff c d).2 (by omega)
  unfold mixS
  rw [if_neg (by simp only [Bool.and_eq_true, beq_iff_eq]; omega), if_neg (by simp only [Bool.and_eq_true, beq_iff_eq]; omega)]
  unfold hulS hullS twoS
  rw [v1, v2]
  rfl
theorem none_d {h : HoldD} {f : FillD} (e : fillErr h f = 0) (s : f.st = 0) : f.d0 = 0 ∧ f.d1 = 0 := by
  have g := (fill_zero e).2
  unfold fillS stateS at g
  simp only [Bool.and_eq_true, Bool.or_eq_true, decide_eq_true_eq, beq_iff_eq] at g
  omega
theorem mix_narrow {h : HoldD} {f g : FillD} {c d c' d' : Int} (ef : fillErr h f = 0) (eg : fillErr h g = 0) (hn : Within2 f g) (k1 : densS c d = true) (k2 : densS c' d' = true) (k3 : c ≤ c') (k4 : d' ≤ d) :
    (mixS f.d0 f.d1 c d).1 ≤ (mixS g.d0 g.d1 c' d').1 ∧ (mixS g.d0 g.d1 c' d').2 ≤ (mixS f.d0 f.d1 c d).2 := by
  obtain ⟨_, n2, n3, _, n5, _⟩ := hn
  have q1 := dens_in k1
  have q2 := dens_in k2
  by_cases s : f.st = 0
  · obtain ⟨a1, a2⟩ := none_d ef s
    obtain ⟨b1, b2⟩ := n5 s
    have m1 : mixS f.d0 f.d1 c d = (c, d) := by unfold mixS; rw [a1, a2]; rfl
    have m2 : mixS g.d0 g.d1 c' d' = (c', d') := by unfold mixS; rw [b1, b2, a1, a2]; rfl
    rw [m1, m2]
    exact ⟨k3, k4⟩
  · have d1 := dens_in (fill_dens' ef s)
    have d2 := dens_in (fill_dens' eg (by omega))
    rw [mix_two d1 q1, mix_two d2 q2]
    dsimp only
    omega
theorem pour_narrow {h : HoldD} {f g : FillD} {a b a' b' c d c' d' : Int} (ef : fillErr h f = 0) (hn : Within2 f g) (m1 : massErr a b c d = 0) (m2 : massErr a' b' c' d' = 0) (k0 : 0 ≤ a) (k1 : a ≤ a') (k2 : b' ≤ b) (k3 : c ≤ c') (k4 : d' ≤ d)
    (ok : (pourS h g a' b' c' d').2 = 0) :
    (pourS h f a b c d).2 = 0 ∧ (pourS h f a b c d).1.x0 ≤ (pourS h g a' b' c' d').1.x0 ∧ (pourS h g a' b' c' d').1.x1 ≤ (pourS h f a b c d).1.x1 ∧ (pourS h f a b c d).1.d0 ≤ (pourS h g a' b' c' d').1.d0 ∧ (pourS h g a' b' c' d').1.d1 ≤ (pourS h f a b c d).1.d1 := by
  have eg := narrow_ok ef hn
  obtain ⟨v1, w1⟩ := massErr_zero m1
  obtain ⟨v2, w2⟩ := massErr_zero m2
  have hm := mix_narrow ef eg hn w1 w2 k3 k4
  have x1 := (vR_iff _ _).1 v1
  have x2 := (vR_iff _ _).1 v2
  have y1 := dens_in w1
  have y2 := dens_in w2
  have hl := litres_mono k0 k1 x2.1 k2 y1.1 k3 y2.2.1 k4
  have hv := (narrow_amt ef hn).1
  obtain ⟨hS, _⟩ := fill_zero ef
  obtain ⟨hf, hl2⟩ := hold_falls hS
  have hle := hold_first hS
  have htv := hold_tab hS
  have hp := tab_places htv
  obtain ⟨_, n2, _, n4, _, n6⟩ := hn
  unfold pourS at ok ⊢
  rw [if_pos eg, if_pos m2, if_neg (show ¬ a' < 0 by omega)] at ok
  rw [if_pos ef, if_pos m1, if_neg (show ¬ a < 0 by omega), if_pos eg, if_pos m2, if_neg (show ¬ a' < 0 by omega)]
  by_cases s1 : g.st = 4 ∨ g.st = 5
  · rw [if_pos s1] at ok; simp at ok
  by_cases s2 : g.st = 1 ∨ g.st = 2
  · rw [if_neg s1, if_pos s2] at ok; simp at ok
  rw [if_neg s1, if_neg s2] at ok
  rw [if_neg s1, if_neg s2, if_neg (show ¬ (f.st = 4 ∨ f.st = 5) by omega), if_neg (show ¬ (f.st = 1 ∨ f.st = 2) by omega)]
  have hs : 0 ≤ f.st ∧ f.st ≤ 5 := by
    have q := (fill_zero ef).2
    unfold fillS stateS at q
    simp only [Bool.and_eq_true, Bool.or_eq_true, decide_eq_true_eq, beq_iff_eq] at q
    omega
  have ha : (if g.st = 0 then lastX h.vol else g.x1) ≤ (if f.st = 0 then lastX h.vol else f.x1) ∧ (if f.st = 0 then lastX h.vol else f.x1) ≤ 1000000 := by
    by_cases z : f.st = 0
    · rw [if_pos z, if_pos (show g.st = 0 by omega)]; exact ⟨Int.le_refl _, hp.2⟩
    · rw [if_neg z, if_neg (show ¬ g.st = 0 by omega)]
      have pl := fill_place ef (show 3 ≤ f.st by omega)
      simp only [inB, decide_eq_true_eq] at pl
      omega
  obtain ⟨p, q, p', q', e1, e2, e3, e4⟩ := moved_narrow (id := h.id) (d0 := (mixS f.d0 f.d1 c d).1) (d1 := (mixS f.d0 f.d1 c d).2) htv hl2 hf hle (x := (volS h f).1 + (litresS a b c d).1) (y := (volS h f).2 + (litresS a b c d).2) (by omega) (by omega) (Int.le_refl (firstX h.vol)) ha.1 hp.1 ha.2 ok
  rw [e1, e2]
  exact ⟨rfl, e3, e4, hm.1, hm.2⟩
theorem draw_narrow {h : HoldD} {f g : FillD} {a b a' b' : Int} (ef : fillErr h f = 0) (hn : Within2 f g) (v1 : vR a b = true) (v2 : vR a' b' = true) (k0 : 0 ≤ a) (k1 : a ≤ a') (k2 : b' ≤ b) (ok : (drawS h g a' b').2 = 0) :
    (drawS h f a b).2 = 0 ∧ (drawS h f a b).1.x0 ≤ (drawS h g a' b').1.x0 ∧ (drawS h g a' b').1.x1 ≤ (drawS h f a b).1.x1 := by
  have eg := narrow_ok ef hn
  have x1 := (vR_iff _ _).1 v1
  have x2 := (vR_iff _ _).1 v2
  have r1 : errR a b = 0 := by unfold errR; rw [if_pos v1]
  have r2 : errR a' b' = 0 := by unfold errR; rw [if_pos v2]
  have hv := (narrow_amt ef hn).1
  obtain ⟨hS, _⟩ := fill_zero ef
  obtain ⟨hf, hl2⟩ := hold_falls hS
  have hle := hold_first hS
  have htv := hold_tab hS
  have hp := tab_places htv
  obtain ⟨_, n2, n3, n4, _, n6⟩ := hn
  unfold drawS at ok ⊢
  rw [if_pos eg, if_pos r2, if_neg (show ¬ a' < 0 by omega)] at ok
  rw [if_pos ef, if_pos r1, if_neg (show ¬ a < 0 by omega), if_pos eg, if_pos r2, if_neg (show ¬ a' < 0 by omega)]
  by_cases s1 : g.st = 0 ∨ g.st = 4 ∨ g.st = 5
  · rw [if_pos s1] at ok; simp at ok
  rw [if_neg s1] at ok
  rw [if_neg s1, if_neg (show ¬ (f.st = 0 ∨ f.st = 4 ∨ f.st = 5) by omega)]
  have hs : 0 ≤ f.st ∧ f.st ≤ 5 := by
    have q := (fill_zero ef).2
    unfold fillS stateS at q
    simp only [Bool.and_eq_true, Bool.or_eq_true, decide_eq_true_eq, beq_iff_eq] at q
    omega
  have y1 := dens_in (fill_dens' ef (by omega))
  have y2 := dens_in (fill_dens' eg (by omega))
  have nd := n3.resolve_left (by omega)
  have hl := litres_mono k0 k1 x2.1 k2 y1.1 nd.1 y2.2.1 nd.2.2
  have ha : (if f.st = 3 then f.x0 else firstX h.vol) ≤ (if g.st = 3 then g.x0 else firstX h.vol) ∧ 0 ≤ (if f.st = 3 then f.x0 else firstX h.vol) := by
    by_cases z : f.st = 3
    · rw [if_pos z, if_pos (show g.st = 3 by omega)]
      have pl := fill_place ef (show 3 ≤ f.st by omega)
      simp only [inB, decide_eq_true_eq] at pl
      omega
    · rw [if_neg z, if_neg (show ¬ g.st = 3 by omega)]; exact ⟨Int.le_refl _, hp.1⟩
  obtain ⟨p, q, p', q', e1, e2, e3, e4⟩ := moved_narrow (id := h.id) (d0 := f.d0) (d1 := f.d1) htv hl2 hf hle (x := max ((volS h f).1 - (litresS a b f.d0 f.d1).2) 0) (y := (volS h f).2 - (litresS a b f.d0 f.d1).1) (by omega) (by omega) ha.1 (Int.le_refl (lastX h.vol)) ha.2 hp.2 ok
  rw [e1, e2]
  exact ⟨rfl, e3, e4⟩
end

end Go.Proofs.YtemlaaipnhmcoaaGreat
