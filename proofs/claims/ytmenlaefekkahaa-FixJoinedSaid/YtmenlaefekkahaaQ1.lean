/- The exact area between a line over points and 0, as a numerator over the product of the widths: pure numbers. -/
set_option linter.unusedVariables false
set_option linter.unusedSimpArgs false
set_option linter.constructorNameAsVariable false
namespace Go.Proofs.Ytmenlaefekkahaa
/-- twice the area from u to v below a line from (x0, l0) to (x1, l1), times the width -/
def arE (x0 x1 l0 l1 u v : Int) : Int := 2 * l0 * (v - u) * (x1 - x0) + (v - u) * (v + u - 2 * x0) * (l1 - l0)
/-- the same between places a and b, cut to the piece -/
def arC (a b x0 x1 l0 l1 : Int) : Int := if min b x1 ≤ max a x0 then 0 else arE x0 x1 l0 l1 (max a x0) (min b x1)
def exStep (a b : Int) (s : Int × Int) (x0 x1 l0 l1 : Int) : Int × Int := (s.1 * max (x1 - x0) 1 + arC a b x0 x1 l0 l1 * s.2, s.2 * max (x1 - x0) 1)
def exXY (a b : Int) : Int × Int → List Int → List Int → Int × Int
  | s, x0 :: x1 :: xs, y0 :: y1 :: ys => exXY a b (exStep a b s x0 x1 y0 y1) (x1 :: xs) (y1 :: ys)
  | s, _, _ => s

theorem arE_split (x0 x1 l0 l1 u v w : Int) : arE x0 x1 l0 l1 u w = arE x0 x1 l0 l1 u v + arE x0 x1 l0 l1 v w := by
  unfold arE; grind
theorem arE_zero (x0 x1 l0 l1 u : Int) : arE x0 x1 l0 l1 u u = 0 := by
  unfold arE; grind
/-- in the two ends' numbers, with weights that are not negative -/
theorem arE_eq (x0 x1 l0 l1 u v : Int) : arE x0 x1 l0 l1 u v = (v - u) * ((2 * (x1 - x0) - (v + u - 2 * x0)) * l0 + (v + u - 2 * x0) * l1) := by
  unfold arE; grind
theorem arE_mono {x0 x1 l0 l1 m0 m1 u v : Int} (h0 : x0 ≤ u) (h1 : u ≤ v) (h2 : v ≤ x1) (k0 : l0 ≤ m0) (k1 : l1 ≤ m1) : arE x0 x1 l0 l1 u v ≤ arE x0 x1 m0 m1 u v := by
  rw [arE_eq, arE_eq]
  refine Int.mul_le_mul_of_nonneg_left ?_ (by omega)
  have e1 := Int.mul_le_mul_of_nonneg_left k0 (show 0 ≤ 2 * (x1 - x0) - (v + u - 2 * x0) by omega)
  have e2 := Int.mul_le_mul_of_nonneg_left k1 (show 0 ≤ v + u - 2 * x0 by omega)
  omega
theorem arC_mono {a b x0 x1 l0 l1 m0 m1 : Int} (k0 : l0 ≤ m0) (k1 : l1 ≤ m1) : arC a b x0 x1 l0 l1 ≤ arC a b x0 x1 m0 m1 := by
  unfold arC
  split
  · exact Int.le_refl _
  · exact arE_mono (by omega) (by omega) (by omega) k0 k1
theorem arC_split {a b c x0 x1 l0 l1 : Int} (h1 : a ≤ b) (h2 : b ≤ c) (hx : x0 ≤ x1) : arC a c x0 x1 l0 l1 = arC a b x0 x1 l0 l1 + arC b c x0 x1 l0 l1 := by
  unfold arC
  by_cases c1 : min c x1 ≤ max a x0
  · rw [if_pos c1, if_pos (show min b x1 ≤ max a x0 by omega), if_pos (show min c x1 ≤ max b x0 by omega)]; rfl
  · rw [if_neg c1]
    by_cases c2 : min b x1 ≤ max a x0
    · rw [if_pos c2]
      have e : max b x0 = max a x0 := by omega
      rw [e, if_neg c1, Int.zero_add]
    · rw [if_neg c2]
      by_cases c3 : min c x1 ≤ max b x0
      · rw [if_pos c3, show min c x1 = min b x1 by omega, Int.add_zero]
      · rw [if_neg c3, show max b x0 = min b x1 by omega]
        exact arE_split _ _ _ _ _ _ _
theorem arC_neg (a b x0 x1 l0 l1 : Int) : arC a b x0 x1 (-l0) (-l1) = -arC a b x0 x1 l0 l1 := by
  unfold arC arE
  split
  · rfl
  · grind

/-- the width product, above 0 -/
theorem exXY_pos (a b : Int) : ∀ (xs ys : List Int) (s : Int × Int), 1 ≤ s.2 → 1 ≤ (exXY a b s xs ys).2
  | [], _, s, h => by unfold exXY; exact h
  | [_], _, s, h => by unfold exXY; exact h
  | _ :: _ :: _, [], s, h => by unfold exXY; exact h
  | _ :: _ :: _, [_], s, h => by unfold exXY; exact h
  | x0 :: x1 :: xs, y0 :: y1 :: ys, s, h => by
    rw [exXY]
    refine exXY_pos a b _ _ _ ?_
    show 1 ≤ s.2 * max (x1 - x0) 1
    have : 1 * 1 ≤ s.2 * max (x1 - x0) 1 := Int.mul_le_mul h (by omega) (by omega) (by omega)
    omega
/-- Lines that lie one above the other. -/
theorem exXY_mono (a b : Int) : ∀ (xs ys zs : List Int) (s t : Int × Int), ys.length = zs.length → (∀ (k : Nat) (y z : Int), ys[k]? = some y → zs[k]? = some z → y ≤ z) → s.1 ≤ t.1 → s.2 = t.2 → 1 ≤ s.2 →
    (exXY a b s xs ys).1 ≤ (exXY a b t xs zs).1 ∧ (exXY a b s xs ys).2 = (exXY a b t xs zs).2
  | [], ys, zs, s, t, hl, h, h1, h2, h3 => by simp only [exXY]; exact ⟨h1, h2⟩
  | [_], ys, zs, s, t, hl, h, h1, h2, h3 => by simp only [exXY]; exact ⟨h1, h2⟩
  | _ :: _ :: _, [], [], s, t, hl, h, h1, h2, h3 => by simp only [exXY]; exact ⟨h1, h2⟩
  | _ :: _ :: _, [_], [_], s, t, hl, h, h1, h2, h3 => by simp only [exXY]; exact ⟨h1, h2⟩
  | x0 :: x1 :: xs, y0 :: y1 :: ys, z0 :: z1 :: zs, s, t, hl, h, h1, h2, h3 => by
    rw [exXY, exXY]
    have k0 := h 0 y0 z0 rfl rfl
    have k1 := h 1 y1 z1 rfl rfl
    have hm := arC_mono (a := a) (b := b) (x0 := x0) (x1 := x1) k0 k1
    refine exXY_mono a b _ _ _ _ _ (by simpa using hl) (fun k y z hy hz => h (k + 1) y z (by simpa using hy) (by simpa using hz)) ?_ ?_ ?_
    · show s.1 * max (x1 - x0) 1 + arC a b x0 x1 y0 y1 * s.2 ≤ t.1 * max (x1 - x0) 1 + arC a b x0 x1 z0 z1 * t.2
      have e1 := Int.mul_le_mul_of_nonneg_right h1 (show 0 ≤ max (x1 - x0) 1 by omega)
      have e2 := Int.mul_le_mul_of_nonneg_right hm (show 0 ≤ t.2 by omega)
      rw [h2]; omega
    · show s.2 * _ = t.2 * _
      rw [h2]
    · show 1 ≤ s.2 * max (x1 - x0) 1
      have : 1 * 1 ≤ s.2 * max (x1 - x0) 1 := Int.mul_le_mul h3 (by omega) (by omega) (by omega)
      omega
  | _ :: _ :: _, [], _ :: _, s, t, hl, h, h1, h2, h3 => by simp at hl
  | _ :: _ :: _, _ :: _, [], s, t, hl, h, h1, h2, h3 => by simp at hl
  | _ :: _ :: _, [_], _ :: _ :: _, s, t, hl, h, h1, h2, h3 => by simp at hl
  | _ :: _ :: _, _ :: _ :: _, [_], s, t, hl, h, h1, h2, h3 => by simp at hl
/-- Neighbouring parts. -/
theorem exXY_split {a b c : Int} (h1 : a ≤ b) (h2 : b ≤ c) : ∀ (xs ys : List Int) (s t u : Int × Int), xs.Pairwise (· ≤ ·) → s.1 = t.1 + u.1 → s.2 = t.2 → s.2 = u.2 →
    (exXY a c s xs ys).1 = (exXY a b t xs ys).1 + (exXY b c u xs ys).1 ∧ (exXY a c s xs ys).2 = (exXY a b t xs ys).2 ∧ (exXY a c s xs ys).2 = (exXY b c u xs ys).2
  | [], ys, s, t, u, _, k1, k2, k3 => by simp only [exXY]; exact ⟨k1, k2, k3⟩
  | [_], ys, s, t, u, _, k1, k2, k3 => by simp only [exXY]; exact ⟨k1, k2, k3⟩
  | _ :: _ :: _, [], s, t, u, _, k1, k2, k3 => by simp only [exXY]; exact ⟨k1, k2, k3⟩
  | _ :: _ :: _, [_], s, t, u, _, k1, k2, k3 => by simp only [exXY]; exact ⟨k1, k2, k3⟩
  | x0 :: x1 :: xs, y0 :: y1 :: ys, s, t, u, hp, k1, k2, k3 => by
    rw [exXY, exXY, exXY]
    obtain ⟨hp1, hp2⟩ := List.pairwise_cons.1 hp
    have hx := hp1 x1 (by simp)
    refine exXY_split h1 h2 _ _ _ _ _ hp2 ?_ ?_ ?_
    · show s.1 * max (x1 - x0) 1 + arC a c x0 x1 y0 y1 * s.2 = (t.1 * max (x1 - x0) 1 + arC a b x0 x1 y0 y1 * t.2) + (u.1 * max (x1 - x0) 1 + arC b c x0 x1 y0 y1 * u.2)
      rw [arC_split h1 h2 hx, ← k2, ← k3, k1]
      grind
    · show s.2 * _ = t.2 * _
      rw [k2]
    · show s.2 * _ = u.2 * _
      rw [k3]
/-- A line upside down. -/
theorem exXY_neg (a b : Int) : ∀ (xs ys : List Int) (s t : Int × Int), t.1 = -s.1 → t.2 = s.2 → (exXY a b t xs (ys.map (- ·))).1 = -(exXY a b s xs ys).1 ∧ (exXY a b t xs (ys.map (- ·))).2 = (exXY a b s xs ys).2
  | [], ys, s, t, k1, k2 => by simp only [exXY]; exact ⟨k1, k2⟩
  | [_], ys, s, t, k1, k2 => by simp only [exXY]; exact ⟨k1, k2⟩
  | _ :: _ :: _, [], s, t, k1, k2 => by simp only [exXY, List.map_nil]; exact ⟨k1, k2⟩
  | _ :: _ :: _, [_], s, t, k1, k2 => by simp only [exXY, List.map_nil, List.map_cons]; exact ⟨k1, k2⟩
  | x0 :: x1 :: xs, y0 :: y1 :: ys, s, t, k1, k2 => by
    rw [List.map_cons, List.map_cons, exXY, exXY, ← List.map_cons]
    refine exXY_neg a b _ _ _ _ ?_ ?_
    · show t.1 * max (x1 - x0) 1 + arC a b x0 x1 (-y0) (-y1) * t.2 = -(s.1 * max (x1 - x0) 1 + arC a b x0 x1 y0 y1 * s.2)
      rw [arC_neg, k1, k2]; grind
    · show t.2 * _ = s.2 * _
      rw [k2]

/-- Two fractions of one value have one floor. -/
theorem floor_same {A d N D : Int} (hd : 1 ≤ d) (hD : 1 ≤ D) (h : A * D = N * d) : A / d = N / D := by
  rw [← Int.mul_ediv_mul_of_pos_left A d (show 0 < D by omega), h, Int.mul_comm d D, Int.mul_ediv_mul_of_pos_left _ _ (by omega)]

/-- a sum under way: a whole number, n / d -/
def arStep (a b : Int) (s : Int × Int × Int) (x0 x1 l0 l1 : Int) : Int × Int × Int :=
  if min b x1 ≤ max a x0 then s else
    let E := arE x0 x1 l0 l1 (max a x0) (min b x1)
    if E % (x1 - x0) = 0 then (s.1 + E / (x1 - x0), s.2.1, s.2.2) else (s.1 + E / (x1 - x0), s.2.1 * (x1 - x0) + E % (x1 - x0) * s.2.2, s.2.2 * (x1 - x0))
/-- how many fractions there may be ahead of a place -/
def arK (a b x : Int) : Int := (if a < x then 1 else 0) + (if b < x then 1 else 0)
def Under (a b x : Int) (s : Int × Int × Int) (N D : Int) : Prop :=
  (s.1 * s.2.2 + s.2.1) * D = N * s.2.2 ∧ 1 ≤ s.2.2 ∧ 1 ≤ D ∧ 0 ≤ s.2.1 ∧ s.2.1 ≤ arK a b x * s.2.2 ∧ (arK a b x = 0 → s.2.2 = 1) ∧ (arK a b x = 1 → s.2.2 ≤ 1000000) ∧ s.2.2 ≤ 1000000000000 ∧ -(3000000000 * x) ≤ s.1 ∧ s.1 ≤ 3000000000 * x

theorem arK_in (a b x : Int) : 0 ≤ arK a b x ∧ arK a b x ≤ 2 := by unfold arK; split <;> split <;> omega
theorem arK_up {a b x y : Int} (h : x ≤ y) : arK a b x ≤ arK a b y := by unfold arK; repeat' split <;> omega

theorem arE_whole (x0 x1 l0 l1 : Int) : arE x0 x1 l0 l1 x0 x1 % (x1 - x0) = 0 := by
  have e : arE x0 x1 l0 l1 x0 x1 = (x1 - x0) * ((x1 - x0) * (l0 + l1)) := by unfold arE; grind
  rw [e]; exact Int.mul_emod_right _ _
theorem arE_bound {x0 x1 l0 l1 u v : Int} (h0 : x0 ≤ u) (h1 : u ≤ v) (h2 : v ≤ x1) (a1 : -1000000000 ≤ l0) (a2 : l0 ≤ 1000000000) (b1 : -1000000000 ≤ l1) (b2 : l1 ≤ 1000000000) :
    -(2000000000 * (x1 - x0) * (x1 - x0)) ≤ arE x0 x1 l0 l1 u v ∧ arE x0 x1 l0 l1 u v ≤ 2000000000 * (x1 - x0) * (x1 - x0) := by
  have hi := arE_mono h0 h1 h2 a2 b2
  have lo := arE_mono h0 h1 h2 a1 b1
  have e1 : arE x0 x1 1000000000 1000000000 u v = (v - u) * (2000000000 * (x1 - x0)) := by unfold arE; grind
  have e2 : arE x0 x1 (-1000000000) (-1000000000) u v = -((v - u) * (2000000000 * (x1 - x0))) := by unfold arE; grind
  have hv : (v - u) * (2000000000 * (x1 - x0)) ≤ (x1 - x0) * (2000000000 * (x1 - x0)) := Int.mul_le_mul_of_nonneg_right (by omega) (by omega)
  have e3 : (x1 - x0) * (2000000000 * (x1 - x0)) = 2000000000 * (x1 - x0) * (x1 - x0) := by grind
  omega
theorem ediv_within {E w B : Int} (hw : 1 ≤ w) (h1 : -(B * w) ≤ E) (h2 : E ≤ B * w) : -B ≤ E / w ∧ E / w ≤ B :=
  ⟨Int.le_ediv_of_mul_le (by omega) (by rw [Int.neg_mul]; exact h1), Int.ediv_le_of_le_mul (by omega) h2⟩
theorem under_step {a b x0 x1 l0 l1 N D : Int} {s : Int × Int × Int} (h : Under a b x0 s N D) (hab : a ≤ b) (h0 : 0 ≤ x0) (h1 : x0 < x1) (h2 : x1 ≤ 1000000) (a1 : -1000000000 ≤ l0) (a2 : l0 ≤ 1000000000) (b1 : -1000000000 ≤ l1) (b2 : l1 ≤ 1000000000) :
    Under a b x1 (arStep a b s x0 x1 l0 l1) (exStep a b (N, D) x0 x1 l0 l1).1 (exStep a b (N, D) x0 x1 l0 l1).2 := by
  obtain ⟨W, n, d⟩ := s
  obtain ⟨e, hd, hD, hn, hnk, k0, k1, hdm, w1, w2⟩ := h
  have hm : max (x1 - x0) 1 = x1 - x0 := by omega
  have hup := arK_up (a := a) (b := b) (Int.le_of_lt h1)
  have r0 := arK_in a b x0
  have r1 := arK_in a b x1
  have hD' : 1 ≤ D * (x1 - x0) := by
    have : 1 * 1 ≤ D * (x1 - x0) := Int.mul_le_mul hD (by omega) (by omega) (by omega)
    omega
  unfold exStep arStep arC Under
  rw [hm]
  dsimp only at *
  by_cases hc : min b x1 ≤ max a x0
  · rw [if_pos hc, if_pos hc]
    dsimp only at *
    refine ⟨by grind, hd, hD', hn, ?_, by omega, by omega, hdm, by omega, by omega⟩
    have := Int.mul_le_mul_of_nonneg_right hup (show 0 ≤ d by omega)
    omega
  · rw [if_neg hc, if_neg hc]
    have hb := arE_bound (x0 := x0) (x1 := x1) (u := max a x0) (v := min b x1) (by omega) (by omega) (by omega) a1 a2 b1 b2
    have hq := ediv_within (B := 2000000000 * (x1 - x0)) (show 1 ≤ x1 - x0 by omega) hb.1 hb.2
    have hwh := arE_whole x0 x1 l0 l1
    have hem := Int.mul_ediv_add_emod (arE x0 x1 l0 l1 (max a x0) (min b x1)) (x1 - x0)
    have hr0 := Int.emod_nonneg (arE x0 x1 l0 l1 (max a x0) (min b x1)) (show x1 - x0 ≠ 0 by omega)
    have hr1 := Int.emod_lt_of_pos (arE x0 x1 l0 l1 (max a x0) (min b x1)) (show 0 < x1 - x0 by omega)
    have hpart : ¬ arE x0 x1 l0 l1 (max a x0) (min b x1) % (x1 - x0) = 0 → arK a b x0 + 1 ≤ arK a b x1 := by
      intro hne
      have : x0 < a ∨ b < x1 := by
        rcases Int.lt_or_le x0 a with c | c
        · exact .inl c
        · rcases Int.lt_or_le b x1 with c' | c'
          · exact .inr c'
          · exact absurd (by rw [show max a x0 = x0 by omega, show min b x1 = x1 by omega]; exact hwh) hne
      unfold arK
      repeat' split <;> omega
    generalize arE x0 x1 l0 l1 (max a x0) (min b x1) = E at *
    generalize E / (x1 - x0) = q at *
    generalize E % (x1 - x0) = r at *
    clear hwh hb
    generalize hw : x1 - x0 = w at hq hem hr0 hr1 hD' ⊢
    have hw1 : 1 ≤ w := by omega
    by_cases hz : r = 0
    · rw [if_pos hz]
      subst hz
      dsimp only at *
      refine ⟨by grind, hd, hD', hn, ?_, by omega, by omega, hdm, by omega, by omega⟩
      have := Int.mul_le_mul_of_nonneg_right hup (show 0 ≤ d by omega)
      omega
    · rw [if_neg hz]
      have hK := hpart hz
      dsimp only at *
      have hdw : 1 ≤ d * w := by
        have : 1 * 1 ≤ d * w := Int.mul_le_mul hd hw1 (by omega) (by omega)
        omega
      have nn : 0 ≤ n * w := Int.mul_nonneg hn (by omega)
      have rd : 0 ≤ r * d := Int.mul_nonneg (by omega) (by omega)
      have hd1 : arK a b x0 = 0 → d * w ≤ 1000000 := fun z => by rw [k0 z, Int.one_mul]; omega
      have hd2 : d * w ≤ 1000000000000 := by
        have hd6 : d ≤ 1000000 := by
          rcases (show arK a b x0 = 0 ∨ arK a b x0 = 1 by omega) with z | z
          · have := k0 z; omega
          · exact k1 z
        have := Int.mul_le_mul hd6 (show w ≤ 1000000 by omega) (by omega) (by omega)
        omega
      refine ⟨by grind, hdw, hD', by omega, ?_, by omega, fun z => hd1 (by omega), hd2, by omega, by omega⟩
      have t1 := Int.mul_le_mul_of_nonneg_right hnk (show 0 ≤ w by omega)
      have t2 := Int.mul_le_mul_of_nonneg_right (show r ≤ w by omega) (show 0 ≤ d by omega)
      have t3 := Int.mul_le_mul_of_nonneg_right hK (show 0 ≤ d * w by omega)
      have t4 : arK a b x0 * d * w + w * d = (arK a b x0 + 1) * (d * w) := by grind
      omega

def arXY (a b : Int) : Int × Int × Int → List Int → List Int → Int × Int × Int
  | s, x0 :: x1 :: xs, y0 :: y1 :: ys => arXY a b (arStep a b s x0 x1 y0 y1) (x1 :: xs) (y1 :: ys)
  | s, _, _ => s
def InY (ys : List Int) : Prop := ∀ y ∈ ys, -1000000000 ≤ y ∧ y ≤ 1000000000
/-- What a sum holds at the end. -/
def Summed (s : Int × Int × Int) (N D : Int) : Prop := 1 ≤ D ∧ 1 ≤ s.2.2 ∧ s.2.2 ≤ 1000000000000 ∧ 0 ≤ s.2.1 ∧ s.2.1 ≤ 2000000000000 ∧ -3000000000000000 ≤ s.1 ∧ s.1 ≤ 3000000000000000 ∧ (s.1 * s.2.2 + s.2.1) * D = N * s.2.2
theorem Under.summed {a b x N D : Int} {s : Int × Int × Int} (h : Under a b x s N D) (hx : x ≤ 1000000) : Summed s N D := by
  obtain ⟨e, hd, hD, hn, hnk, k0, k1, hdm, w1, w2⟩ := h
  refine ⟨hD, hd, hdm, hn, ?_, by omega, by omega, e⟩
  have := Int.mul_le_mul_of_nonneg_right (arK_in a b x).2 (show 0 ≤ s.2.2 by omega)
  omega
theorem arXY_under {a b : Int} (hab : a ≤ b) : ∀ (xs ys : List Int) (x0 : Int) (s : Int × Int × Int) (N D : Int), xs.head? = some x0 → Under a b x0 s N D → xs.Pairwise (· < ·) → (∀ x ∈ xs, 0 ≤ x ∧ x ≤ 1000000) → InY ys →
    Summed (arXY a b s xs ys) (exXY a b (N, D) xs ys).1 (exXY a b (N, D) xs ys).2
  | [], _, _, _, _, _, hh, _, _, _, _ => by simp at hh
  | [x], ys, x0, s, N, D, hh, h, hp, hx, hy => by
    simp at hh; subst hh
    rw [arXY, exXY]
    · exact h.summed (hx x (by simp)).2
    all_goals simp
  | x :: x1 :: xs, [], x0, s, N, D, hh, h, hp, hx, hy => by
    simp at hh; subst hh
    rw [arXY, exXY]
    · exact h.summed (hx x (by simp)).2
    all_goals simp
  | x :: x1 :: xs, [y], x0, s, N, D, hh, h, hp, hx, hy => by
    simp at hh; subst hh
    rw [arXY, exXY]
    · exact h.summed (hx x (by simp)).2
    all_goals simp
  | x :: x1 :: xs, y0 :: y1 :: ys, x0, s, N, D, hh, h, hp, hx, hy => by
    simp at hh; subst hh
    rw [arXY, exXY]
    obtain ⟨hp1, hp2⟩ := List.pairwise_cons.1 hp
    have hlt := hp1 x1 (by simp)
    have b0 := hx x (by simp)
    have b1 := hx x1 (by simp)
    have c0 := hy y0 (by simp)
    have c1 := hy y1 (by simp)
    exact arXY_under hab _ _ x1 _ _ _ rfl (under_step h hab b0.1 hlt b1.2 c0.1 c0.2 c1.1 c1.2) hp2 (fun z hz => hx z (List.mem_cons_of_mem _ hz)) (fun z hz => hy z (List.mem_cons_of_mem _ hz))
theorem under_start {a b x : Int} (h1 : x ≤ a) (hab : a ≤ b) (h0 : 0 ≤ x) : Under a b x (0, 0, 1) 0 1 := by
  have hk : arK a b x = 0 := by unfold arK; rw [if_neg (by omega), if_neg (by omega)]; rfl
  refine ⟨by simp, by simp, by simp, by simp, ?_, by simp, by simp, by simp, ?_, ?_⟩ <;> dsimp only <;> omega
/-- The sum over rising places is the exact one. -/
theorem arXY_summed {a b x0 : Int} {xs ys : List Int} (hh : xs.head? = some x0) (h1 : x0 ≤ a) (hab : a ≤ b) (hp : xs.Pairwise (· < ·)) (hx : ∀ x ∈ xs, 0 ≤ x ∧ x ≤ 1000000) (hy : InY ys) :
    Summed (arXY a b (0, 0, 1) xs ys) (exXY a b (0, 1) xs ys).1 (exXY a b (0, 1) xs ys).2 :=
  arXY_under hab xs ys x0 _ 0 1 hh (under_start h1 hab (by cases xs with | nil => simp at hh | cons z t => simp at hh; subst hh; exact (hx z (by simp)).1)) hp hx hy
theorem Summed.floor {s : Int × Int × Int} {N D : Int} (h : Summed s N D) : s.1 + s.2.1 / s.2.2 = N / D ∧ 0 ≤ s.2.1 / s.2.2 ∧ s.2.1 / s.2.2 ≤ 2000000000000 := by
  obtain ⟨hD, hd, hdm, hn, hn2, w1, w2, e⟩ := h
  refine ⟨?_, Int.ediv_nonneg hn (by omega), ?_⟩
  · rw [← floor_same hd hD e, Int.add_comm (s.1 * s.2.2), Int.add_mul_ediv_right _ _ (by omega), Int.add_comm]
  · have := Int.ediv_le_self s.2.2 hn
    omega
end Go.Proofs.Ytmenlaefekkahaa
