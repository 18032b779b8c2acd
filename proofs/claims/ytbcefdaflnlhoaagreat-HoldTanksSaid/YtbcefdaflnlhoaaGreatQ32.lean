/- The contracts of Liquid and Ballast, of hold and of the specification. Their condition: the tank's tables lie in memory. -/
import Derived.Test.YtbcefdaflnlhoaaGreatQ21
import Derived.Test.YtbcefdaflnlhoaaGreatQ19
import Derived.Test.YtbcefdaflnlhoaaGreatQ29
import Derived.Test.YtbcefdaflnlhoaaGreatQ13
import Derived.Test.YtbcefdaflnlhoaaGreatQ31
set_option linter.unusedVariables false
set_option linter.unusedSimpArgs false
set_option linter.constructorNameAsVariable false
namespace Go.Proofs.YtbcefdaflnlhoaaGreat

section
open Go.RowKit

theorem sCheckLevel_any (t : TankD) (m : HoldM) (lv : LevelD) (w : World) (hi : TankIn w t m) :
    Calls Tryz.prog 19 #[tankV t m, levelV lv] w fun e w' => e = .returned (.int .i64 (levelErr t lv)) ∧ Below w.heap.size w w' :=
  sCheckLevel_of splaces_to t m lv w hi
theorem tank_parts {t : TankD} (e : tankS t = true) : (measuresS t.vol = true ∧ measuresS t.sur = true ∧ measuresS t.hei = true) ∧ (alongS t.vol t.sur = true ∧ alongS t.vol t.hei = true) := by
  unfold tankS ctRest at e
  simp only [Bool.and_eq_true] at e
  exact ⟨⟨e.2.1, e.2.2.1.1, e.2.2.2.1.1⟩, ⟨e.2.2.1.2, e.2.2.2.1.2⟩⟩
theorem level_zero {t : TankD} {l : LevelD} (e : levelErr t l = 0) : tankS t = true ∧ levelS t l = true := by
  unfold levelErr at e
  split at e
  · rename_i g
    split at e
    · rename_i k
      exact ⟨g, k⟩
    · omega
  · omega
theorem level_dens {t : TankD} {l : LevelD} (e : levelErr t l = 0) : densS l.d0 l.d1 = true := by
  have g := (level_zero e).2
  unfold levelS at g
  simp only [Bool.and_eq_true] at g
  exact g.2.1
theorem level_place {t : TankD} {l : LevelD} (e : levelErr t l = 0) : inB l.s0 l.s1 (firstX t.vol) (lastX t.vol) = true := by
  have g := (level_zero e).2
  unfold levelS at g
  simp only [Bool.and_eq_true] at g
  exact g.2.2.1
/-- a quantity of a level times its density -/
def denL (l : LevelD) (v : Int × Int) : Int × Int := ((denseS v.1 v.2 l.d0 l.d1).1, (denseS v.1 v.2 l.d0 l.d1).2.1)
def ovL (ps : List P3) (l : LevelD) : Int × Int := ((overS ps l.s0 l.s1).1, (overS ps l.s0 l.s1).2.1)
theorem vol_amtL {t : TankD} {l : LevelD} (e : levelErr t l = 0) : Amt (ovL t.vol l) := over_in (tank_parts (level_zero e).1).1.1 (level_place e)
theorem sur_amtL {t : TankD} {l : LevelD} (e : levelErr t l = 0) : Amt (ovL t.sur l) := by
  have q := tank_parts (level_zero e).1
  exact over_in q.1.2.1 (along_in q.2.1 (level_place e))
theorem den_heavyL {t : TankD} {l : LevelD} (e : levelErr t l = 0) {v : Int × Int} (hv : Amt v) : heavyS v.1 v.2 l.d0 l.d1 = denL l v := by
  have q := dens_in (level_dens e)
  obtain ⟨q1, q2⟩ := dense_heavy v.1 v.2 l.d0 l.d1 hv.1 hv.2.1 hv.2.2 (by omega) (by omega) (by omega)
  unfold denL
  rw [q1, q2]
theorem sheavy_L {t : TankD} {l : LevelD} (e : levelErr t l = 0) {va vb ka kb : Int} (hv : Amt (va, vb)) (hk : denL l (va, vb) = (ka, kb)) (w : World) :
    Calls Tryz.prog 40 #[rv va vb, rv l.d0 l.d1] w fun e w' => e = .returned (rv ka kb) ∧ Below w.heap.size w w' := by
  have q := den_heavyL e hv
  rw [hk] at q
  have hd := dens_in (level_dens e)
  have a1 := hv.1; have a2 := hv.2.1; have a3 := hv.2.2
  dsimp only at a1 a2 a3 q
  have := sheavy_any va vb l.d0 l.d1 w (heavy_small a1 (by omega) (by omega) (by omega)) (heavy_small (by omega) a3 (by omega) (by omega))
  rw [q] at this
  exact this
theorem hdense_L (l : LevelD) {va vb ka kb : Int} (hk : denL l (va, vb) = (ka, kb)) (w : World) :
    Calls Tryz.prog 37 #[rv va vb, rv l.d0 l.d1] w fun e w' => e = .returned (rv ka kb) ∧ Below w.heap.size w w' := by
  have := dense_any va vb l.d0 l.d1 w
  unfold denL at hk
  injection hk with h1 h2
  dsimp only at h1 h2
  rw [h1, h2] at this
  exact this
/-- a number that begins at 0 weighs from 0 -/
theorem den_zeroL {t : TankD} {l : LevelD} (e : levelErr t l = 0) {va vb ka kb : Int} (hv : Amt (va, vb)) (hk : denL l (va, vb) = (ka, kb)) : Amt (0, vb) ∧ denL l (0, vb) = (0, kb) := by
  have a1 := hv.1; have a2 := hv.2.1; have a3 := hv.2.2
  dsimp only at a1 a2 a3
  have h0 : Amt (0, vb) := ⟨Int.le_refl _, by dsimp only; omega, a3⟩
  refine ⟨h0, ?_⟩
  rw [← den_heavyL e h0]
  rw [← den_heavyL e hv] at hk
  unfold heavyS at hk ⊢
  injection hk with h1 h2
  dsimp only at h2 ⊢
  rw [h2]
  simp
def liqS (t : TankD) (l : LevelD) : Int × Int × Int := if levelErr t l = 0 then ((denL l (ovL t.vol l)).1, (denL l (ovL t.vol l)).2, 0) else (0, 0, levelErr t l)
/-- the moment of a free surface -/
def srfS (t : TankD) (l : LevelD) : Int × Int × Int :=
  if levelErr t l = 0 then (if l.pr = true ∨ (ovL t.vol l).2 = 0 then (0, 0, 0) else (if (ovL t.vol l).1 = 0 then 0 else (denL l (ovL t.sur l)).1, (denL l (ovL t.sur l)).2, 0)) else (0, 0, levelErr t l)
def balV (t : TankD) (l : LevelD) : Value := if levelErr t l = 0 then wt (denL l (ovL t.vol l)).1 (denL l (ovL t.vol l)).2 t.al t.ah (ovL t.hei l).1 (ovL t.hei l).2 0 else wt 0 0 0 0 0 0 (levelErr t l)
abbrev lvV (a : Int) (b : Bool) (c d e f g : Int) : Value := .tuple #[.agg #[.int .i64 a, .bool b, .int .i64 c, .int .i64 d, .int .i64 e, .int .i64 f], .int .i64 g]
/-- the volume behind pumping -/
def pumpV (t : TankD) (l : LevelD) (a b : Int) : Int × Int := (max ((ovL t.vol l).1 + (litresS a b l.d0 l.d1).1) 0, (ovL t.vol l).2 + (litresS a b l.d0 l.d1).2)
def pumS (t : TankD) (l : LevelD) (a b : Int) : Value :=
  if levelErr t l = 0 then
    (if vR a b = true then
      (if (sndS t.vol (pumpV t l a b).1 (pumpV t l a b).2).2.2 = 0 then lvV t.id false (sndS t.vol (pumpV t l a b).1 (pumpV t l a b).2).1 (sndS t.vol (pumpV t l a b).1 (pumpV t l a b).2).2.1 l.d0 l.d1 0 else lvV 0 false 0 0 0 0 24)
    else lvV 0 false 0 0 0 0 10)
  else lvV 0 false 0 0 0 0 (levelErr t l)
theorem litres_small {a b c d : Int} (h1 : -1000000000000000 ≤ a ∧ a ≤ b ∧ b ≤ 1000000000000000) (h2 : 100 ≤ c ∧ c ≤ d ∧ d ≤ 2000) :
    -1000000000000000000 ≤ (litresS a b c d).1 ∧ (litresS a b c d).1 ≤ 1000000000000000000 ∧ -1000000000000000000 ≤ (litresS a b c d).2 ∧ (litresS a b c d).2 ≤ 1000000000000000000 := by
  unfold litresS
  dsimp only
  have e1 : 1 ≤ (if a < 0 then c else d) := by split <;> omega
  have e2 : 1 ≤ (if b < 0 then d else c) := by split <;> omega
  have q1 := ediv_between (1000 * a) (if a < 0 then c else d) 1000000000000000000 e1 (by omega) (by omega) (by omega)
  have q2 := ediv_between (-1000 * b) (if b < 0 then d else c) 1000000000000000000 e2 (by omega) (by omega) (by omega)
  omega
/-- where the volume is surely below none, there is no sounding -/
theorem snd_below {t : TankD} (e : tankS t = true) {x y : Int} (h : y < 0) : sndS t.vol x y = (0, 0, 24) := by
  obtain ⟨⟨m1, _, _⟩, _⟩ := tank_parts e
  have ht := measures_ok m1
  have hle := first_le_last ht
  unfold sndS invS
  rw [if_pos]
  right
  have hy : ∀ i, 0 ≤ i → i < lastX t.vol - firstX t.vol + 1 → moreF t.vol y (firstX t.vol + i) = true := by
    intro i h0 h1
    have := atS_nonneg m1 (show firstX t.vol ≤ firstX t.vol + i by omega) (show firstX t.vol + i ≤ lastX t.vol by omega)
    unfold moreF
    exact decide_eq_true (by omega)
  have hb : bs (fun i => moreF t.vol y (firstX t.vol + i)) (lastX t.vol - firstX t.vol + 1).toNat 0 (lastX t.vol - firstX t.vol + 1) = 0 := by
    have q := bs_turn (fun i => moreF t.vol y (firstX t.vol + i)) (lastX t.vol - firstX t.vol + 1).toNat 0 (lastX t.vol - firstX t.vol + 1) (by omega) (by omega) (fun u v h0 h1 h2 _ => hy v (by omega) h2)
    have r := bs_range (fun i => moreF t.vol y (firstX t.vol + i)) (lastX t.vol - firstX t.vol + 1).toNat 0 (lastX t.vol - firstX t.vol + 1) (by omega)
    have q1 := q.2.1
    by_cases g : 0 < bs (fun i => moreF t.vol y (firstX t.vol + i)) (lastX t.vol - firstX t.vol + 1).toNat 0 (lastX t.vol - firstX t.vol + 1)
    · have q2 : moreF t.vol y (firstX t.vol + 0) = false := q1 0 (by omega) g
      have q0 := hy 0 (by omega) (by omega)
      rw [q2] at q0
      exact absurd q0 (by decide)
    · omega
  rw [hb]
  omega
end

section
open Go.RowKit

set_option maxRecDepth 100000 in
set_option maxHeartbeats 4000000 in
theorem hLiquid_any (t : TankD) (m : HoldM) (lv : LevelD) (w : World) (hi : TankIn w t m) :
    Calls Tryz.prog 8 #[tankV t m, levelV lv] w fun e w' => e = .returned (rt (liqS t lv)) ∧ Below w.heap.size w w' := by
  obtain ⟨E, hE⟩ : ∃ E, levelErr t lv = E := ⟨_, rfl⟩
  obtain ⟨⟨va, vb⟩, qC2⟩ : ∃ v, ovL t.vol lv = v := ⟨_, rfl⟩
  obtain ⟨⟨ka, kb⟩, qC3⟩ : ∃ v, denL lv (va, vb) = v := ⟨_, rfl⟩
  obtain ⟨R, hR⟩ : ∃ R, liqS t lv = R := ⟨_, rfl⟩
  have HR : Hid ((if E = 0 then (ka, kb, 0) else (0, 0, E)) = R) := Lib.hid (by rw [← hR]; unfold liqS; rw [hE, qC2, qC3])
  have C1 : Hid (∀ W, Below w.heap.size w W → Calls Tryz.prog 18 #[tankV t m, levelV lv] W fun e w' => e = .returned (.int .i64 E) ∧ Below W.heap.size W w') := Lib.hid fun W hW => int_to (checkLevel_any t m lv W (hi.below hW)) hE
  have C2 : Hid (∀ W, Below w.heap.size w W → Calls Tryz.prog 38 #[tv m.A m.n m.c, rv lv.s0 lv.s1] W fun e w' => e = .returned (rv va vb) ∧ Below W.heap.size W w') := Lib.hid fun W hW => by
    have := hover_any m.A m.n m.c t.vol lv.s0 lv.s1 W (hi.1.below hW)
    rw [show ((overS t.vol lv.s0 lv.s1).1 = va) from congrArg Prod.fst qC2, show ((overS t.vol lv.s0 lv.s1).2.1 = vb) from congrArg Prod.snd qC2] at this; exact this
  have C3 : Hid (∀ W, Calls Tryz.prog 37 #[rv va vb, rv lv.d0 lv.d1] W fun e w' => e = .returned (rv ka kb) ∧ Below W.heap.size W w') := Lib.hid fun W => hdense_L lv qC3 W
  rw [hR]
  clear hR hE qC2 qC3 hi
  obtain ⟨id, al, ah, vol, sur, hei⟩ := t
  obtain ⟨A, n, c, B, mm, d, C, l, ee⟩ := m
  obtain ⟨tk, pr, s0, s1, d0, d1⟩ := lv
  have HE := Lib.hid (show Below w.heap.size w (((w.alloc (.cells #[.int .i64 id, .int .i64 al, .int .i64 ah, .slice A n c, .slice B mm d, .slice C l ee] 28)).alloc (.cells #[.int .i64 tk, .bool pr, .int .i64 s0, .int .i64 s1, .int .i64 d0, .int .i64 d1] 30)).alloc (.cells #[.int .i64 0, .int .i64 0] 23)) from below_a3 (Below.refl _ _))
  have HK := Lib.hid (boxes3' w 28 30 23 #[.int .i64 id, .int .i64 al, .int .i64 ah, .slice A n c, .slice B mm d, .slice C l ee] #[.int .i64 tk, .bool pr, .int .i64 s0, .int .i64 s1, .int .i64 d0, .int .i64 d1] #[.int .i64 0, .int .i64 0])
  go_enter Tryz.func8, Tryz.ntmps8
  go_wp2_with fail
  obtain ⟨W0, hW0⟩ : ∃ W0, (((w.alloc (.cells #[.int .i64 id, .int .i64 al, .int .i64 ah, .slice A n c, .slice B mm d, .slice C l ee] 28)).alloc (.cells #[.int .i64 tk, .bool pr, .int .i64 s0, .int .i64 s1, .int .i64 d0, .int .i64 d1] 30)).alloc (.cells #[.int .i64 0, .int .i64 0] 23)) = W0 := ⟨_, rfl⟩
  rw [hW0] at HE HK ⊢
  clear hW0
  obtain ⟨G, hG⟩ : ∃ G, w.heap.size = G := ⟨_, rfl⟩
  rw [hG] at HK ⊢
  have HG := Lib.hid hG; clear hG
  refine (C1.out _ HE.out).mono ?_
  rintro e w1 ⟨rfl, hq⟩
  have HE1 := Lib.hid (below_then HE.out hq); have HK1 := Lib.hid (HK.out.on hq)
  clear hq HE HK C1
  by_cases g : E = 0
  · have eR := HR.out
    rw [if_pos g] at eR
    subst eR
    clear HR
    subst g
    go_upto_region 4 with fail
    have HKs : Hid (Boxes w1 [(G + 1, 30, #[.int .i64 tk, .bool pr, .int .i64 s0, .int .i64 s1, .int .i64 d0, .int .i64 d1]), (G, 28, #[.int .i64 id, .int .i64 al, .int .i64 ah, .slice A n c, .slice B mm d, .slice C l ee])]) := Lib.hid (HK1.out.sub (fun x hx => by
      simp only [List.mem_cons, List.not_mem_nil, or_false] at hx ⊢
      rcases hx with h | h <;> simp [h]))
    have HK9 : Hid (Blk w1 (G + 1 + 1) 23 #[.int .i64 0, .int .i64 0]) := Lib.hid (HK1.out _ (.head _))
    clear HK1
    have hne : ∀ zz ∈ ([(G + 1, 30, #[.int .i64 tk, .bool pr, .int .i64 s0, .int .i64 s1, .int .i64 d0, .int .i64 d1]), (G, 28, #[.int .i64 id, .int .i64 al, .int .i64 ah, .slice A n c, .slice B mm d, .slice C l ee])] : List (Nat × TypeId × Array Value)), zz.1 ≠ G + 1 + 1 := by
      intro zz hz
      simp only [List.mem_cons, List.not_mem_nil, or_false] at hz
      rcases hz with h | h <;> (rw [h]; dsimp only at *; omega)
    have HNE := Lib.hid hne
    clear hne
    have hS0 : Boxes w1.drew [(G + 1, 30, #[.int .i64 tk, .bool pr, .int .i64 s0, .int .i64 s1, .int .i64 d0, .int .i64 d1]), (G, 28, #[.int .i64 id, .int .i64 al, .int .i64 ah, .slice A n c, .slice B mm d, .slice C l ee])] := HKs.out
    have HEd := Lib.hid HE1.out.drew
    have HKd : Hid (Blk w1.drew (G + 1 + 1) 23 #[.int .i64 0, .int .i64 0]) := Lib.hid HK9.out.drew
    refine wp_region_held_drew (S := fun w' => Boxes w' [(G + 1, 30, #[.int .i64 tk, .bool pr, .int .i64 s0, .int .i64 s1, .int .i64 d0, .int .i64 d1]), (G, 28, #[.int .i64 id, .int .i64 al, .int .i64 ah, .slice A n c, .slice B mm d, .slice C l ee])]) (by kernel_rfl) hS0 (fun hHeld => ?_)
    obtain ⟨W3, hW⟩ : ∃ W', w1.drew = W' := ⟨_, rfl⟩
    rw [hW] at HEd HKd hHeld ⊢
    clear hW hS0 HE1 HKs
    clear HK9
    refine wpAnyH_take (i := 0) (v := .pointer (some ⟨G, 3, none⟩)) rfl (by kernel_rfl) (by kernel_rfl) (by kernel_rfl) (fun _ _ _ h => h) (Or.inl ⟨by kernel_rfl, ?_⟩) hHeld ?_
    · intro w hSw; clear hSw; go_simp; try with_reducible rfl
    change wpAnyH _ _ _ _ _ _ _ (Act.put _ (some 14) _) _
    try simp only [Act.put, List.setIfInBounds_toArray, List.set_cons_zero, List.set_cons_succ]
    refine wpAnyH_take (i := 1) (v := tv A n c) rfl (by kernel_rfl) (by kernel_rfl) (by kernel_rfl) (fun _ _ _ h => h) (Or.inl ⟨by kernel_rfl, ?_⟩) hHeld ?_
    · intro w hSw; have hz := (hSw _ (.tail _ (.head _))); have c3 := hz.cell 3; simp at c3; clear hz hSw; go_simp; try with_reducible rfl
    change wpAnyH _ _ _ _ _ _ _ (Act.put _ (some 15) _) _
    try simp only [Act.put, List.setIfInBounds_toArray, List.set_cons_zero, List.set_cons_succ]
    refine wpAnyH_take (i := 2) (v := .pointer (some ⟨G + 1, 2, none⟩)) rfl (by kernel_rfl) (by kernel_rfl) (by kernel_rfl) (fun _ _ _ h => h) (Or.inl ⟨by kernel_rfl, ?_⟩) hHeld ?_
    · intro w hSw; clear hSw; go_simp; try with_reducible rfl
    change wpAnyH _ _ _ _ _ _ _ (Act.put _ (some 16) _) _
    try simp only [Act.put, List.setIfInBounds_toArray, List.set_cons_zero, List.set_cons_succ]
    refine wpAnyH_take (i := 3) (v := rv s0 s1) rfl (by kernel_rfl) (by kernel_rfl) (by kernel_rfl) (fun _ _ _ h => h) (Or.inl ⟨by kernel_rfl, ?_⟩) hHeld ?_
    · intro w hSw; have hz := (hSw _ (.head _)); have c2 := hz.cell 2; have c3 := hz.cell 3; simp at c2 c3; clear hz hSw; go_simp; try with_reducible rfl
    change wpAnyH _ _ _ _ _ _ _ (Act.put _ (some 17) _) _
    try simp only [Act.put, List.setIfInBounds_toArray, List.set_cons_zero, List.set_cons_succ]
    refine wpAnyH_take (i := 5) (v := .pointer (some ⟨G + 1, 4, none⟩)) rfl (by kernel_rfl) (by kernel_rfl) (by kernel_rfl) (fun _ _ _ h => h) (Or.inl ⟨by kernel_rfl, ?_⟩) hHeld ?_
    · intro w hSw; clear hSw; go_simp; try with_reducible rfl
    change wpAnyH _ _ _ _ _ _ _ (Act.put _ (some 19) _) _
    try simp only [Act.put, List.setIfInBounds_toArray, List.set_cons_zero, List.set_cons_succ]
    refine wpAnyH_take (i := 6) (v := rv d0 d1) rfl (by kernel_rfl) (by kernel_rfl) (by kernel_rfl) (fun _ _ _ h => h) (Or.inl ⟨by kernel_rfl, ?_⟩) hHeld ?_
    · intro w hSw; have hz := (hSw _ (.head _)); have c4 := hz.cell 4; have c5 := hz.cell 5; simp at c4 c5; clear hz hSw; go_simp; try with_reducible rfl
    change wpAnyH _ _ _ _ _ _ _ (Act.put _ (some 20) _) _
    try simp only [Act.put, List.setIfInBounds_toArray, List.set_cons_zero, List.set_cons_succ]
    refine wpAnyH_ready (rs := [4]) (by kernel_rfl) (by simp) ?_
    refine AllReadyH.cons rfl (fun K hK => ?_) AllReadyH.nil
    go_simp
    (with_reducible refine (C2.out _ HEd.out).mono ?_)
    rintro e z1 ⟨rfl, hq⟩
    have HEz1 := Lib.hid (below_then HEd.out hq); have HKz1 := Lib.hid (blkOn HKd.out hq)
    have hS := hHeld.on hq
    clear hq
    refine hK.out _ _ (hS) (fun hHeld2 => ?_)
    try simp only [Act.put, List.setIfInBounds_toArray, List.set_cons_zero, List.set_cons_succ]
    clear hK K hHeld
    have hHeld := hHeld2
    clear hHeld2
    clear hS HEd HKd
    refine wpAnyH_ready (rs := [7]) (by kernel_rfl) (by simp) ?_
    refine AllReadyH.cons rfl (fun K hK => ?_) AllReadyH.nil
    go_simp
    (with_reducible refine (C3.out _).mono ?_)
    rintro e z2 ⟨rfl, hq⟩
    have HEz2 := Lib.hid (below_then HEz1.out hq); have HKz2 := Lib.hid (blkOn HKz1.out hq)
    have hS := hHeld.on hq
    clear hq
    refine hK.out _ _ (hS) (fun hHeld2 => ?_)
    try simp only [Act.put, List.setIfInBounds_toArray, List.set_cons_zero, List.set_cons_succ]
    clear hK K hHeld
    have hHeld := hHeld2
    clear hHeld2
    clear hS HEz1 HKz1
    refine wpAnyH_ready (rs := [8]) (by kernel_rfl) (by simp) ?_
    refine AllReadyH.cons rfl (fun K hK => ?_) AllReadyH.nil
    rw [if_pos (by kernel_rfl)]
    have HKR : Hid (Blk (z2.setRow (G + 1 + 1) #[.int .i64 ka, .int .i64 kb]) (G + 1 + 1) 23 #[.int .i64 ka, .int .i64 kb]) := Lib.hid (setRow_heap z2 (G + 1 + 1) _ _ 23 _ HKz2.out)
    have HE9 := Lib.hid (below_setRow HEz2.out (show w.heap.size ≤ G + 1 + 1 by have := HG.out; omega) #[.int .i64 ka, .int .i64 kb])
    have hS := hHeld.farRow (g := (G + 1 + 1)) HNE.out #[.int .i64 ka, .int .i64 kb]
    refine wp_store_row 23 (.tmp 4) (.tmp 21) rfl (G + 1 + 1) #[.int .i64 ka, .int .i64 kb] rfl rfl 23 _ HKz2.out (by kernel_rfl) rfl (by kernel_rfl) ?_
    obtain ⟨Wz, hW⟩ : ∃ W', z2.setRow (G + 1 + 1) #[.int .i64 ka, .int .i64 kb] = W' := ⟨_, rfl⟩
    rw [hW] at HKR HE9 hS ⊢
    refine hK.out _ _ hS (fun hHeld2 => ?_)
    try simp only [Act.put, List.setIfInBounds_toArray, List.set_cons_zero, List.set_cons_succ]
    clear hW hS hK K hHeld HKz2 HEz2
    have hHeld := hHeld2
    clear hHeld2
    refine wpAnyH_take (i := 9) (v := .int .i64 0) rfl (by kernel_rfl) (by kernel_rfl) (by kernel_rfl) (fun _ _ _ h => h) (Or.inl ⟨by kernel_rfl, ?_⟩) hHeld ?_
    · intro w hSw; clear hSw; go_simp; try with_reducible rfl
    change wpAnyH _ _ _ _ _ _ _ (Act.put _ (some 5) _) _
    try simp only [Act.put, List.setIfInBounds_toArray, List.set_cons_zero, List.set_cons_succ]
    refine wpAnyH_done (by kernel_rfl) ?_ _
    clear hHeld
    go_wp2
    exact bodyPost_ret (v := .tuple #[.agg #[.int .i64 ka, .int .i64 kb], .int .i64 0]) (results_cell_tmp_row Tryz.results8 _ _ (G + 1 + 1) 23 #[.int .i64 ka, .int .i64 kb] (0, 0) _ _ rfl rfl HKR.out Tryz.underlying23 rfl (by kernel_rfl)) rfl ⟨rfl, HE9.out⟩
  · have eR := HR.out
    rw [if_neg g] at eR
    subst eR
    clear HR
    go_upto_region 3 with fail
    refine wp_region_lit ?_
    refine wpList_plain rfl (fun K hK => ?_)
    go_simp
    refine hK _ _ ?_
    clear hK K
    refine wpList_plain rfl (fun K hK => ?_)
    go_simp
    refine hK _ _ ?_
    clear hK K
    have HKR : Hid (Blk (w1.setRow (G + 1 + 1) #[.int .i64 0, .int .i64 0]) (G + 1 + 1) 23 #[.int .i64 0, .int .i64 0]) := Lib.hid (setRow_heap w1 (G + 1 + 1) _ _ 23 _ (HK1.out _ (.head _)))
    have HE9 := Lib.hid (below_setRow HE1.out (show w.heap.size ≤ G + 1 + 1 by have := HG.out; omega) #[.int .i64 0, .int .i64 0])
    refine wpList_store_row rfl 23 (.tmp 4) (.tmp 12) rfl (G + 1 + 1) #[.int .i64 0, .int .i64 0] rfl rfl 23 _ (HK1.out _ (.head _)) (by kernel_rfl) rfl (by kernel_rfl) ?_
    obtain ⟨W9, hW9⟩ : ∃ W9, w1.setRow (G + 1 + 1) #[.int .i64 0, .int .i64 0] = W9 := ⟨_, rfl⟩
    rw [hW9] at HKR HE9 ⊢
    clear hW9
    go_wp2
    exact bodyPost_ret (v := .tuple #[.agg #[.int .i64 0, .int .i64 0], .int .i64 E]) (results_cell_tmp_row Tryz.results8 _ _ (G + 1 + 1) 23 #[.int .i64 0, .int .i64 0] (0, 0) _ _ rfl rfl HKR.out Tryz.underlying23 rfl (by kernel_rfl)) rfl ⟨rfl, HE9.out⟩

set_option maxRecDepth 100000 in
set_option maxHeartbeats 4000000 in
theorem sLiquid_any (t : TankD) (m : HoldM) (lv : LevelD) (w : World) (hi : TankIn w t m) :
    Calls Tryz.prog 9 #[tankV t m, levelV lv] w fun e w' => e = .returned (rt (liqS t lv)) ∧ Below w.heap.size w w' := by
  obtain ⟨E, hE⟩ : ∃ E, levelErr t lv = E := ⟨_, rfl⟩
  obtain ⟨⟨va, vb⟩, qC2⟩ : ∃ v, ovL t.vol lv = v := ⟨_, rfl⟩
  obtain ⟨⟨ka, kb⟩, qC3⟩ : ∃ v, denL lv (va, vb) = v := ⟨_, rfl⟩
  obtain ⟨R, hR⟩ : ∃ R, liqS t lv = R := ⟨_, rfl⟩
  have HR : Hid ((if E = 0 then (ka, kb, 0) else (0, 0, E)) = R) := Lib.hid (by rw [← hR]; unfold liqS; rw [hE, qC2, qC3])
  have C1 : Hid (∀ W, Below w.heap.size w W → Calls Tryz.prog 19 #[tankV t m, levelV lv] W fun e w' => e = .returned (.int .i64 E) ∧ Below W.heap.size W w') := Lib.hid fun W hW => int_to (sCheckLevel_any t m lv W (hi.below hW)) hE
  have C2 : Hid (∀ W, Below w.heap.size w W → Calls Tryz.prog 39 #[tv m.A m.n m.c, rv lv.s0 lv.s1] W fun e w' => e = .returned (rv va vb) ∧ Below W.heap.size W w') := Lib.hid fun W hW => by
    have := sover_any m.A m.n m.c t.vol lv.s0 lv.s1 W (hi.1.below hW)
    rw [show ((overS t.vol lv.s0 lv.s1).1 = va) from congrArg Prod.fst qC2, show ((overS t.vol lv.s0 lv.s1).2.1 = vb) from congrArg Prod.snd qC2] at this; exact this
  have C3' : Hid (E = 0 → ∀ W, Calls Tryz.prog 40 #[rv va vb, rv lv.d0 lv.d1] W fun e w' => e = .returned (rv ka kb) ∧ Below W.heap.size W w') := Lib.hid fun e W => sheavy_L (hE.trans e) (by rw [← qC2]; exact vol_amtL (hE.trans e)) qC3 W
  rw [hR]
  clear hR hE qC2 qC3 hi
  obtain ⟨id, al, ah, vol, sur, hei⟩ := t
  obtain ⟨A, n, c, B, mm, d, C, l, ee⟩ := m
  obtain ⟨tk, pr, s0, s1, d0, d1⟩ := lv
  have HE := Lib.hid (show Below w.heap.size w (((w.alloc (.cells #[.int .i64 id, .int .i64 al, .int .i64 ah, .slice A n c, .slice B mm d, .slice C l ee] 28)).alloc (.cells #[.int .i64 tk, .bool pr, .int .i64 s0, .int .i64 s1, .int .i64 d0, .int .i64 d1] 30)).alloc (.cells #[.int .i64 0, .int .i64 0] 23)) from below_a3 (Below.refl _ _))
  have HK := Lib.hid (boxes3' w 28 30 23 #[.int .i64 id, .int .i64 al, .int .i64 ah, .slice A n c, .slice B mm d, .slice C l ee] #[.int .i64 tk, .bool pr, .int .i64 s0, .int .i64 s1, .int .i64 d0, .int .i64 d1] #[.int .i64 0, .int .i64 0])
  go_enter Tryz.func9, Tryz.ntmps9
  go_wp2_with fail
  obtain ⟨W0, hW0⟩ : ∃ W0, (((w.alloc (.cells #[.int .i64 id, .int .i64 al, .int .i64 ah, .slice A n c, .slice B mm d, .slice C l ee] 28)).alloc (.cells #[.int .i64 tk, .bool pr, .int .i64 s0, .int .i64 s1, .int .i64 d0, .int .i64 d1] 30)).alloc (.cells #[.int .i64 0, .int .i64 0] 23)) = W0 := ⟨_, rfl⟩
  rw [hW0] at HE HK ⊢
  clear hW0
  obtain ⟨G, hG⟩ : ∃ G, w.heap.size = G := ⟨_, rfl⟩
  rw [hG] at HK ⊢
  have HG := Lib.hid hG; clear hG
  refine (C1.out _ HE.out).mono ?_
  rintro e w1 ⟨rfl, hq⟩
  have HE1 := Lib.hid (below_then HE.out hq); have HK1 := Lib.hid (HK.out.on hq)
  clear hq HE HK C1
  by_cases g : E = 0
  · have eR := HR.out
    rw [if_pos g] at eR
    subst eR
    clear HR
    have C3 := Lib.hid (C3'.out g)
    clear C3'
    subst g
    have r := HK1.out _ (.tail _ (.tail _ (.head _)))
    have r3 := r.cell 3
    simp at r3
    clear r
    have f := HK1.out _ (.tail _ (.head _))
    have f2 := f.cell 2
    have f3 := f.cell 3
    simp at f2 f3
    clear f
    go_wp2_with fail
    refine (C2.out _ HE1.out).mono ?_
    rintro e y1 ⟨rfl, hq⟩
    have HE2 := Lib.hid (below_then (below_then HE1.out hq) (below_alloc1 y1 (.cells #[.int .i64 va, .int .i64 vb] 23))); have HK2 := Lib.hid ((HK1.out.on hq).new 23 #[.int .i64 va, .int .i64 vb])
    clear hq HE1 HK1 C2 r3 f2 f3
    go_upto_region 5 with fail
    obtain ⟨W2, hW⟩ : ∃ W2, y1.alloc (.cells #[.int .i64 va, .int .i64 vb] 23) = W2 := ⟨_, rfl⟩
    rw [hW] at HE2 HK2 ⊢
    clear hW
    obtain ⟨N2, hN⟩ : ∃ N, y1.heap.size = N := ⟨_, rfl⟩
    rw [hN] at HK2 ⊢
    clear hN
    have a := HK2.out _ (.head _)
    have a0 := a.cell 0
    have a1 := a.cell 1
    simp at a0 a1
    clear a
    have f := HK2.out _ (.tail _ (.tail _ (.head _)))
    have f4 := f.cell 4
    have f5 := f.cell 5
    simp at f4 f5
    clear f
    go_wp2_with fail
    refine (C3.out _).mono ?_
    rintro e y2 ⟨rfl, hq⟩
    have HE3 := Lib.hid (below_then HE2.out hq); have HK3 := Lib.hid (HK2.out.on hq)
    clear hq HE2 HK2 C3 a0 a1 f4 f5
    have z := HK3.out _ (.tail _ (.head _))
    have z0 := z.cell 0
    have zf0 := z.frozen 0
    have z1 := z.cell 1
    have zf1 := z.frozen 1
    have zl := z.lt
    simp at z0 zf0 z1 zf1
    clear z
    go_wp2
    refine bodyPost_ret (v := rt (ka, kb, 0)) (by simp [results, Tryz.results9, go_sem, z0, z1]) rfl ⟨rfl, ?_⟩
    have hg := HG.out
    repeat (first | exact HE3.out | refine Below.setCell ?_ (by simp <;> omega) _)
  · have eR := HR.out
    rw [if_neg g] at eR
    subst eR
    clear HR
    go_upto_region 3 with fail
    refine wp_region_lit ?_
    refine wpList_plain rfl (fun K hK => ?_)
    go_simp
    refine hK _ _ ?_
    clear hK K
    refine wpList_plain rfl (fun K hK => ?_)
    go_simp
    refine hK _ _ ?_
    clear hK K
    have HKR : Hid (Blk (w1.setRow (G + 1 + 1) #[.int .i64 0, .int .i64 0]) (G + 1 + 1) 23 #[.int .i64 0, .int .i64 0]) := Lib.hid (setRow_heap w1 (G + 1 + 1) _ _ 23 _ (HK1.out _ (.head _)))
    have HE9 := Lib.hid (below_setRow HE1.out (show w.heap.size ≤ G + 1 + 1 by have := HG.out; omega) #[.int .i64 0, .int .i64 0])
    refine wpList_store_row rfl 23 (.tmp 4) (.tmp 13) rfl (G + 1 + 1) #[.int .i64 0, .int .i64 0] rfl rfl 23 _ (HK1.out _ (.head _)) (by kernel_rfl) rfl (by kernel_rfl) ?_
    obtain ⟨W9, hW9⟩ : ∃ W9, w1.setRow (G + 1 + 1) #[.int .i64 0, .int .i64 0] = W9 := ⟨_, rfl⟩
    rw [hW9] at HKR HE9 ⊢
    clear hW9
    go_wp2
    exact bodyPost_ret (v := .tuple #[.agg #[.int .i64 0, .int .i64 0], .int .i64 E]) (results_cell_tmp_row Tryz.results9 _ _ (G + 1 + 1) 23 #[.int .i64 0, .int .i64 0] (0, 0) _ _ rfl rfl HKR.out Tryz.underlying23 rfl (by kernel_rfl)) rfl ⟨rfl, HE9.out⟩

set_option maxRecDepth 100000 in
set_option maxHeartbeats 4000000 in
theorem hBallast_any (t : TankD) (m : HoldM) (lv : LevelD) (w : World) (hi : TankIn w t m) :
    Calls Tryz.prog 12 #[tankV t m, levelV lv] w fun e w' => e = .returned (balV t lv) ∧ Below w.heap.size w w' := by
  obtain ⟨E, hE⟩ : ∃ E, levelErr t lv = E := ⟨_, rfl⟩
  obtain ⟨⟨va, vb⟩, qv⟩ : ∃ v, ovL t.vol lv = v := ⟨_, rfl⟩
  obtain ⟨⟨ka, kb⟩, qk⟩ : ∃ v, denL lv (va, vb) = v := ⟨_, rfl⟩
  obtain ⟨⟨ha, hb⟩, qC2⟩ : ∃ v, ovL t.hei lv = v := ⟨_, rfl⟩
  obtain ⟨R, hR⟩ : ∃ R, balV t lv = R := ⟨_, rfl⟩
  have HR : Hid ((if E = 0 then wt ka kb t.al t.ah ha hb 0 else wt 0 0 0 0 0 0 E) = R) := Lib.hid (by rw [← hR]; unfold balV; rw [hE, qv, qk, qC2])
  obtain ⟨qa, qb, qe, hq⟩ : ∃ qa qb qe, liqS t lv = (qa, qb, qe) := ⟨_, _, _, rfl⟩
  have HQ : Hid ((if E = 0 then (ka, kb, 0) else (0, 0, E)) = (qa, qb, qe)) := Lib.hid (by rw [← hq]; unfold liqS; rw [hE, qv, qk])
  have C1 : Hid (∀ W, Below w.heap.size w W → Calls Tryz.prog 8 #[tankV t m, levelV lv] W fun e w' => e = .returned (.tuple #[rv qa qb, .int .i64 qe]) ∧ Below W.heap.size W w') := Lib.hid fun W hW => rt_to (hLiquid_any t m lv W (hi.below hW)) hq
  have C2 : Hid (∀ W, Below w.heap.size w W → Calls Tryz.prog 38 #[tv m.C m.l m.e, rv lv.s0 lv.s1] W fun e w' => e = .returned (rv ha hb) ∧ Below W.heap.size W w') := Lib.hid fun W hW => by
    have := hover_any m.C m.l m.e t.hei lv.s0 lv.s1 W (hi.2.2.below hW)
    rw [show ((overS t.hei lv.s0 lv.s1).1 = ha) from congrArg Prod.fst qC2, show ((overS t.hei lv.s0 lv.s1).2.1 = hb) from congrArg Prod.snd qC2] at this; exact this
  rw [hR]
  clear hR hE qv qk qC2 hq hi
  obtain ⟨id, al, ah, vol, sur, hei⟩ := t
  obtain ⟨A, n, c, B, mm, d, C, l, ee⟩ := m
  obtain ⟨tk, pr, s0, s1, d0, d1⟩ := lv
  have HE := Lib.hid (show Below w.heap.size w (((w.alloc (.cells #[.int .i64 id, .int .i64 al, .int .i64 ah, .slice A n c, .slice B mm d, .slice C l ee] 28)).alloc (.cells #[.int .i64 tk, .bool pr, .int .i64 s0, .int .i64 s1, .int .i64 d0, .int .i64 d1] 30)).alloc (.cells #[.int .i64 0, .int .i64 0, .int .i64 0, .int .i64 0, .int .i64 0, .int .i64 0] 35)) from below_a3 (Below.refl _ _))
  have HK := Lib.hid (boxes3' w 28 30 35 #[.int .i64 id, .int .i64 al, .int .i64 ah, .slice A n c, .slice B mm d, .slice C l ee] #[.int .i64 tk, .bool pr, .int .i64 s0, .int .i64 s1, .int .i64 d0, .int .i64 d1] #[.int .i64 0, .int .i64 0, .int .i64 0, .int .i64 0, .int .i64 0, .int .i64 0])
  go_enter Tryz.func12, Tryz.ntmps12
  go_wp2_with fail
  obtain ⟨W0, hW0⟩ : ∃ W0, (((w.alloc (.cells #[.int .i64 id, .int .i64 al, .int .i64 ah, .slice A n c, .slice B mm d, .slice C l ee] 28)).alloc (.cells #[.int .i64 tk, .bool pr, .int .i64 s0, .int .i64 s1, .int .i64 d0, .int .i64 d1] 30)).alloc (.cells #[.int .i64 0, .int .i64 0, .int .i64 0, .int .i64 0, .int .i64 0, .int .i64 0] 35)) = W0 := ⟨_, rfl⟩
  rw [hW0] at HE HK ⊢
  clear hW0
  obtain ⟨G, hG⟩ : ∃ G, w.heap.size = G := ⟨_, rfl⟩
  rw [hG] at HK ⊢
  have HG := Lib.hid hG; clear hG
  refine (C1.out _ HE.out).mono ?_
  rintro e w1 ⟨rfl, hq⟩
  have HE1 := Lib.hid (below_then (below_then HE.out hq) (below_alloc1 w1 (.cells #[.int .i64 qa, .int .i64 qb] 23))); have HK1 := Lib.hid ((HK.out.on hq).new 23 #[.int .i64 qa, .int .i64 qb])
  have HDM := Lib.hid (boxes_lt (HK.out.on hq))
  clear hq HE HK C1
  go_upto_region 2 with fail
  obtain ⟨W2, hW⟩ : ∃ W2, w1.alloc (.cells #[.int .i64 qa, .int .i64 qb] 23) = W2 := ⟨_, rfl⟩
  rw [hW] at HE1 HK1 ⊢
  clear hW
  obtain ⟨N, hN⟩ : ∃ N, w1.heap.size = N := ⟨_, rfl⟩
  rw [hN] at HK1 HDM ⊢
  clear hN
  by_cases g : E = 0
  · have eR := HR.out
    rw [if_pos g] at eR
    have eQ := HQ.out
    rw [if_pos g] at eQ
    injection eQ with q1 q2
    injection q2 with q2 q3
    subst eR q1 q2 q3
    clear HR HQ g
    go_upto_region 4 with fail
    have HKs : Hid (Boxes W2 [(N, 23, #[.int .i64 ka, .int .i64 kb]), (G + 1, 30, #[.int .i64 tk, .bool pr, .int .i64 s0, .int .i64 s1, .int .i64 d0, .int .i64 d1]), (G, 28, #[.int .i64 id, .int .i64 al, .int .i64 ah, .slice A n c, .slice B mm d, .slice C l ee])]) := Lib.hid (HK1.out.sub (fun x hx => by
      simp only [List.mem_cons, List.not_mem_nil, or_false] at hx ⊢
      rcases hx with h | h | h <;> simp [h]))
    have HK9 : Hid (Blk W2 (G + 1 + 1) 35 #[.int .i64 0, .int .i64 0, .int .i64 0, .int .i64 0, .int .i64 0, .int .i64 0]) := Lib.hid (HK1.out _ (.tail _ (.head _)))
    clear HK1
    have hne : ∀ zz ∈ ([(N, 23, #[.int .i64 ka, .int .i64 kb]), (G + 1, 30, #[.int .i64 tk, .bool pr, .int .i64 s0, .int .i64 s1, .int .i64 d0, .int .i64 d1]), (G, 28, #[.int .i64 id, .int .i64 al, .int .i64 ah, .slice A n c, .slice B mm d, .slice C l ee])] : List (Nat × TypeId × Array Value)), zz.1 ≠ G + 1 + 1 := by
      have a1 := HDM.out _ (.head _)
      intro zz hz
      simp only [List.mem_cons, List.not_mem_nil, or_false] at hz
      rcases hz with h | h | h <;> (rw [h]; dsimp only at *; omega)
    have HNE := Lib.hid hne
    clear hne
    have hS0 : Boxes W2.drew [(N, 23, #[.int .i64 ka, .int .i64 kb]), (G + 1, 30, #[.int .i64 tk, .bool pr, .int .i64 s0, .int .i64 s1, .int .i64 d0, .int .i64 d1]), (G, 28, #[.int .i64 id, .int .i64 al, .int .i64 ah, .slice A n c, .slice B mm d, .slice C l ee])] := HKs.out
    have HEd := Lib.hid HE1.out.drew
    have HKd : Hid (Blk W2.drew (G + 1 + 1) 35 #[.int .i64 0, .int .i64 0, .int .i64 0, .int .i64 0, .int .i64 0, .int .i64 0]) := Lib.hid HK9.out.drew
    refine wp_region_held_drew (S := fun w' => Boxes w' [(N, 23, #[.int .i64 ka, .int .i64 kb]), (G + 1, 30, #[.int .i64 tk, .bool pr, .int .i64 s0, .int .i64 s1, .int .i64 d0, .int .i64 d1]), (G, 28, #[.int .i64 id, .int .i64 al, .int .i64 ah, .slice A n c, .slice B mm d, .slice C l ee])]) (by kernel_rfl) hS0 (fun hHeld => ?_)
    obtain ⟨W3, hW⟩ : ∃ W', W2.drew = W' := ⟨_, rfl⟩
    rw [hW] at HEd HKd hHeld ⊢
    clear hW hS0 HE1 HKs
    clear HK9
    refine wpAnyH_take (i := 0) (v := rv ka kb) rfl (by kernel_rfl) (by kernel_rfl) (by kernel_rfl) (fun _ _ _ h => h) (Or.inl ⟨by kernel_rfl, ?_⟩) hHeld ?_
    · intro w hSw; have hz := (hSw _ (.head _)); have c0 := hz.cell 0; have c1 := hz.cell 1; simp at c0 c1; clear hz hSw; go_simp; try with_reducible rfl
    change wpAnyH _ _ _ _ _ _ _ (Act.put _ (some 18) _) _
    try simp only [Act.put, List.setIfInBounds_toArray, List.set_cons_zero, List.set_cons_succ]
    refine wpAnyH_take (i := 1) (v := .pointer (some ⟨G, 1, none⟩)) rfl (by kernel_rfl) (by kernel_rfl) (by kernel_rfl) (fun _ _ _ h => h) (Or.inl ⟨by kernel_rfl, ?_⟩) hHeld ?_
    · intro w hSw; clear hSw; go_simp; try with_reducible rfl
    change wpAnyH _ _ _ _ _ _ _ (Act.put _ (some 19) _) _
    try simp only [Act.put, List.setIfInBounds_toArray, List.set_cons_zero, List.set_cons_succ]
    refine wpAnyH_take (i := 2) (v := rv al ah) rfl (by kernel_rfl) (by kernel_rfl) (by kernel_rfl) (fun _ _ _ h => h) (Or.inl ⟨by kernel_rfl, ?_⟩) hHeld ?_
    · intro w hSw; have hz := (hSw _ (.tail _ (.tail _ (.head _)))); have c1 := hz.cell 1; have c2 := hz.cell 2; simp at c1 c2; clear hz hSw; go_simp; try with_reducible rfl
    change wpAnyH _ _ _ _ _ _ _ (Act.put _ (some 20) _) _
    try simp only [Act.put, List.setIfInBounds_toArray, List.set_cons_zero, List.set_cons_succ]
    refine wpAnyH_take (i := 3) (v := .pointer (some ⟨G, 5, none⟩)) rfl (by kernel_rfl) (by kernel_rfl) (by kernel_rfl) (fun _ _ _ h => h) (Or.inl ⟨by kernel_rfl, ?_⟩) hHeld ?_
    · intro w hSw; clear hSw; go_simp; try with_reducible rfl
    change wpAnyH _ _ _ _ _ _ _ (Act.put _ (some 21) _) _
    try simp only [Act.put, List.setIfInBounds_toArray, List.set_cons_zero, List.set_cons_succ]
    refine wpAnyH_take (i := 4) (v := tv C l ee) rfl (by kernel_rfl) (by kernel_rfl) (by kernel_rfl) (fun _ _ _ h => h) (Or.inl ⟨by kernel_rfl, ?_⟩) hHeld ?_
    · intro w hSw; have hz := (hSw _ (.tail _ (.tail _ (.head _)))); have c5 := hz.cell 5; simp at c5; clear hz hSw; go_simp; try with_reducible rfl
    change wpAnyH _ _ _ _ _ _ _ (Act.put _ (some 22) _) _
    try simp only [Act.put, List.setIfInBounds_toArray, List.set_cons_zero, List.set_cons_succ]
    refine wpAnyH_take (i := 5) (v := .pointer (some ⟨G + 1, 2, none⟩)) rfl (by kernel_rfl) (by kernel_rfl) (by kernel_rfl) (fun _ _ _ h => h) (Or.inl ⟨by kernel_rfl, ?_⟩) hHeld ?_
    · intro w hSw; clear hSw; go_simp; try with_reducible rfl
    change wpAnyH _ _ _ _ _ _ _ (Act.put _ (some 23) _) _
    try simp only [Act.put, List.setIfInBounds_toArray, List.set_cons_zero, List.set_cons_succ]
    refine wpAnyH_take (i := 6) (v := rv s0 s1) rfl (by kernel_rfl) (by kernel_rfl) (by kernel_rfl) (fun _ _ _ h => h) (Or.inl ⟨by kernel_rfl, ?_⟩) hHeld ?_
    · intro w hSw; have hz := (hSw _ (.tail _ (.head _))); have c2 := hz.cell 2; have c3 := hz.cell 3; simp at c2 c3; clear hz hSw; go_simp; try with_reducible rfl
    change wpAnyH _ _ _ _ _ _ _ (Act.put _ (some 24) _) _
    try simp only [Act.put, List.setIfInBounds_toArray, List.set_cons_zero, List.set_cons_succ]
    refine wpAnyH_ready (rs := [7]) (by kernel_rfl) (by simp) ?_
    refine AllReadyH.cons rfl (fun K hK => ?_) AllReadyH.nil
    go_simp
    (with_reducible refine (C2.out _ HEd.out).mono ?_)
    rintro e z1 ⟨rfl, hq⟩
    have HEz1 := Lib.hid (below_then HEd.out hq); have HKz1 := Lib.hid (blkOn HKd.out hq)
    have hS := hHeld.on hq
    clear hq
    refine hK.out _ _ (hS) (fun hHeld2 => ?_)
    try simp only [Act.put, List.setIfInBounds_toArray, List.set_cons_zero, List.set_cons_succ]
    clear hK K hHeld
    have hHeld := hHeld2
    clear hHeld2
    clear hS HEd HKd
    refine wpAnyH_take (i := 8) (v := .agg #[.int .i64 ka, .int .i64 kb, .int .i64 al, .int .i64 ah, .int .i64 ha, .int .i64 hb]) rfl (by kernel_rfl) (by kernel_rfl) (by kernel_rfl) (fun _ _ _ h => h) (Or.inl ⟨by kernel_rfl, ?_⟩) hHeld ?_
    · intro w hSw; clear hSw; go_simp; try with_reducible rfl
    change wpAnyH _ _ _ _ _ _ _ (Act.put _ (some 26) _) _
    try simp only [Act.put, List.setIfInBounds_toArray, List.set_cons_zero, List.set_cons_succ]
    refine wpAnyH_ready (rs := [9]) (by kernel_rfl) (by simp) ?_
    refine AllReadyH.cons rfl (fun K hK => ?_) AllReadyH.nil
    rw [if_pos (by kernel_rfl)]
    have HKR : Hid (Blk (z1.setRow (G + 1 + 1) #[.int .i64 ka, .int .i64 kb, .int .i64 al, .int .i64 ah, .int .i64 ha, .int .i64 hb]) (G + 1 + 1) 35 #[.int .i64 ka, .int .i64 kb, .int .i64 al, .int .i64 ah, .int .i64 ha, .int .i64 hb]) := Lib.hid (setRow_heap z1 (G + 1 + 1) _ _ 35 _ HKz1.out)
    have HE9 := Lib.hid (below_setRow HEz1.out (show w.heap.size ≤ G + 1 + 1 by have := HG.out; omega) #[.int .i64 ka, .int .i64 kb, .int .i64 al, .int .i64 ah, .int .i64 ha, .int .i64 hb])
    have hS := hHeld.farRow (g := (G + 1 + 1)) HNE.out #[.int .i64 ka, .int .i64 kb, .int .i64 al, .int .i64 ah, .int .i64 ha, .int .i64 hb]
    refine wp_store_row 35 (.tmp 4) (.tmp 26) rfl (G + 1 + 1) #[.int .i64 ka, .int .i64 kb, .int .i64 al, .int .i64 ah, .int .i64 ha, .int .i64 hb] rfl rfl 35 _ HKz1.out (by kernel_rfl) rfl (by kernel_rfl) ?_
    obtain ⟨Wz, hW⟩ : ∃ W', z1.setRow (G + 1 + 1) #[.int .i64 ka, .int .i64 kb, .int .i64 al, .int .i64 ah, .int .i64 ha, .int .i64 hb] = W' := ⟨_, rfl⟩
    rw [hW] at HKR HE9 hS ⊢
    refine hK.out _ _ hS (fun hHeld2 => ?_)
    try simp only [Act.put, List.setIfInBounds_toArray, List.set_cons_zero, List.set_cons_succ]
    clear hW hS hK K hHeld HKz1 HEz1
    have hHeld := hHeld2
    clear hHeld2
    refine wpAnyH_take (i := 10) (v := .int .i64 0) rfl (by kernel_rfl) (by kernel_rfl) (by kernel_rfl) (fun _ _ _ h => h) (Or.inl ⟨by kernel_rfl, ?_⟩) hHeld ?_
    · intro w hSw; clear hSw; go_simp; try with_reducible rfl
    change wpAnyH _ _ _ _ _ _ _ (Act.put _ (some 5) _) _
    try simp only [Act.put, List.setIfInBounds_toArray, List.set_cons_zero, List.set_cons_succ]
    refine wpAnyH_done (by kernel_rfl) ?_ _
    clear hHeld
    go_wp2
    exact bodyPost_ret (v := .tuple #[.agg #[.int .i64 ka, .int .i64 kb, .int .i64 al, .int .i64 ah, .int .i64 ha, .int .i64 hb], .int .i64 0]) (results_cell_tmp_row Tryz.results12 _ _ (G + 1 + 1) 35 #[.int .i64 ka, .int .i64 kb, .int .i64 al, .int .i64 ah, .int .i64 ha, .int .i64 hb] (0, 0) _ _ rfl rfl HKR.out Tryz.underlying35 rfl (by kernel_rfl)) rfl ⟨rfl, HE9.out⟩
  · have eR := HR.out
    rw [if_neg g] at eR
    have eQ := HQ.out
    rw [if_neg g] at eQ
    injection eQ with q1 q2
    injection q2 with q2 q3
    subst eR q1 q2 q3
    clear HR HQ
    go_upto_region 3 with fail
    refine wp_region_lit ?_
    refine wpList_plain rfl (fun K hK => ?_)
    go_simp
    refine hK _ _ ?_
    clear hK K
    refine wpList_plain rfl (fun K hK => ?_)
    go_simp
    refine hK _ _ ?_
    clear hK K
    have HKR : Hid (Blk (W2.setRow (G + 1 + 1) #[.int .i64 0, .int .i64 0, .int .i64 0, .int .i64 0, .int .i64 0, .int .i64 0]) (G + 1 + 1) 35 #[.int .i64 0, .int .i64 0, .int .i64 0, .int .i64 0, .int .i64 0, .int .i64 0]) := Lib.hid (setRow_heap W2 (G + 1 + 1) _ _ 35 _ (HK1.out _ (.tail _ (.head _))))
    have HE9 := Lib.hid (below_setRow HE1.out (show w.heap.size ≤ G + 1 + 1 by have := HG.out; omega) #[.int .i64 0, .int .i64 0, .int .i64 0, .int .i64 0, .int .i64 0, .int .i64 0])
    refine wpList_store_row rfl 35 (.tmp 4) (.tmp 16) rfl (G + 1 + 1) #[.int .i64 0, .int .i64 0, .int .i64 0, .int .i64 0, .int .i64 0, .int .i64 0] rfl rfl 35 _ (HK1.out _ (.tail _ (.head _))) (by kernel_rfl) rfl (by kernel_rfl) ?_
    obtain ⟨W9, hW9⟩ : ∃ W9, W2.setRow (G + 1 + 1) #[.int .i64 0, .int .i64 0, .int .i64 0, .int .i64 0, .int .i64 0, .int .i64 0] = W9 := ⟨_, rfl⟩
    rw [hW9] at HKR HE9 ⊢
    clear hW9
    go_wp2
    exact bodyPost_ret (v := .tuple #[.agg #[.int .i64 0, .int .i64 0, .int .i64 0, .int .i64 0, .int .i64 0, .int .i64 0], .int .i64 E]) (results_cell_tmp_row Tryz.results12 _ _ (G + 1 + 1) 35 #[.int .i64 0, .int .i64 0, .int .i64 0, .int .i64 0, .int .i64 0, .int .i64 0] (0, 0) _ _ rfl rfl HKR.out Tryz.underlying35 rfl (by kernel_rfl)) rfl ⟨rfl, HE9.out⟩

set_option maxRecDepth 100000 in
set_option maxHeartbeats 4000000 in
theorem sBallast_any (t : TankD) (m : HoldM) (lv : LevelD) (w : World) (hi : TankIn w t m) :
    Calls Tryz.prog 13 #[tankV t m, levelV lv] w fun e w' => e = .returned (balV t lv) ∧ Below w.heap.size w w' := by
  obtain ⟨E, hE⟩ : ∃ E, levelErr t lv = E := ⟨_, rfl⟩
  obtain ⟨⟨va, vb⟩, qv⟩ : ∃ v, ovL t.vol lv = v := ⟨_, rfl⟩
  obtain ⟨⟨ka, kb⟩, qk⟩ : ∃ v, denL lv (va, vb) = v := ⟨_, rfl⟩
  obtain ⟨⟨ha, hb⟩, qC2⟩ : ∃ v, ovL t.hei lv = v := ⟨_, rfl⟩
  obtain ⟨R, hR⟩ : ∃ R, balV t lv = R := ⟨_, rfl⟩
  have HR : Hid ((if E = 0 then wt ka kb t.al t.ah ha hb 0 else wt 0 0 0 0 0 0 E) = R) := Lib.hid (by rw [← hR]; unfold balV; rw [hE, qv, qk, qC2])
  obtain ⟨qa, qb, qe, hq⟩ : ∃ qa qb qe, liqS t lv = (qa, qb, qe) := ⟨_, _, _, rfl⟩
  have HQ : Hid ((if E = 0 then (ka, kb, 0) else (0, 0, E)) = (qa, qb, qe)) := Lib.hid (by rw [← hq]; unfold liqS; rw [hE, qv, qk])
  have C1 : Hid (∀ W, Below w.heap.size w W → Calls Tryz.prog 9 #[tankV t m, levelV lv] W fun e w' => e = .returned (.tuple #[rv qa qb, .int .i64 qe]) ∧ Below W.heap.size W w') := Lib.hid fun W hW => rt_to (sLiquid_any t m lv W (hi.below hW)) hq
  have C2 : Hid (∀ W, Below w.heap.size w W → Calls Tryz.prog 39 #[tv m.C m.l m.e, rv lv.s0 lv.s1] W fun e w' => e = .returned (rv ha hb) ∧ Below W.heap.size W w') := Lib.hid fun W hW => by
    have := sover_any m.C m.l m.e t.hei lv.s0 lv.s1 W (hi.2.2.below hW)
    rw [show ((overS t.hei lv.s0 lv.s1).1 = ha) from congrArg Prod.fst qC2, show ((overS t.hei lv.s0 lv.s1).2.1 = hb) from congrArg Prod.snd qC2] at this; exact this
  rw [hR]
  clear hR hE qv qk qC2 hq hi
  obtain ⟨id, al, ah, vol, sur, hei⟩ := t
  obtain ⟨A, n, c, B, mm, d, C, l, ee⟩ := m
  obtain ⟨tk, pr, s0, s1, d0, d1⟩ := lv
  have HE := Lib.hid (show Below w.heap.size w (((w.alloc (.cells #[.int .i64 id, .int .i64 al, .int .i64 ah, .slice A n c, .slice B mm d, .slice C l ee] 28)).alloc (.cells #[.int .i64 tk, .bool pr, .int .i64 s0, .int .i64 s1, .int .i64 d0, .int .i64 d1] 30)).alloc (.cells #[.int .i64 0, .int .i64 0, .int .i64 0, .int .i64 0, .int .i64 0, .int .i64 0] 35)) from below_a3 (Below.refl _ _))
  have HK := Lib.hid (boxes3' w 28 30 35 #[.int .i64 id, .int .i64 al, .int .i64 ah, .slice A n c, .slice B mm d, .slice C l ee] #[.int .i64 tk, .bool pr, .int .i64 s0, .int .i64 s1, .int .i64 d0, .int .i64 d1] #[.int .i64 0, .int .i64 0, .int .i64 0, .int .i64 0, .int .i64 0, .int .i64 0])
  go_enter Tryz.func13, Tryz.ntmps13
  go_wp2_with fail
  obtain ⟨W0, hW0⟩ : ∃ W0, (((w.alloc (.cells #[.int .i64 id, .int .i64 al, .int .i64 ah, .slice A n c, .slice B mm d, .slice C l ee] 28)).alloc (.cells #[.int .i64 tk, .bool pr, .int .i64 s0, .int .i64 s1, .int .i64 d0, .int .i64 d1] 30)).alloc (.cells #[.int .i64 0, .int .i64 0, .int .i64 0, .int .i64 0, .int .i64 0, .int .i64 0] 35)) = W0 := ⟨_, rfl⟩
  rw [hW0] at HE HK ⊢
  clear hW0
  obtain ⟨G, hG⟩ : ∃ G, w.heap.size = G := ⟨_, rfl⟩
  rw [hG] at HK ⊢
  have HG := Lib.hid hG; clear hG
  refine (C1.out _ HE.out).mono ?_
  rintro e w1 ⟨rfl, hq⟩
  have HE1 := Lib.hid (below_then (below_then HE.out hq) (below_alloc1 w1 (.cells #[.int .i64 qa, .int .i64 qb] 23))); have HK1 := Lib.hid ((HK.out.on hq).new 23 #[.int .i64 qa, .int .i64 qb])
  have HDM := Lib.hid (boxes_lt (HK.out.on hq))
  clear hq HE HK C1
  go_upto_region 2 with fail
  obtain ⟨W2, hW⟩ : ∃ W2, w1.alloc (.cells #[.int .i64 qa, .int .i64 qb] 23) = W2 := ⟨_, rfl⟩
  rw [hW] at HE1 HK1 ⊢
  clear hW
  obtain ⟨N, hN⟩ : ∃ N, w1.heap.size = N := ⟨_, rfl⟩
  rw [hN] at HK1 HDM ⊢
  clear hN
  by_cases g : E = 0
  · have eR := HR.out
    rw [if_pos g] at eR
    have eQ := HQ.out
    rw [if_pos g] at eQ
    injection eQ with q1 q2
    injection q2 with q2 q3
    subst eR q1 q2 q3
    clear HR HQ g
    go_upto_region 4 with fail
    have HKs : Hid (Boxes W2 [(N, 23, #[.int .i64 ka, .int .i64 kb]), (G + 1, 30, #[.int .i64 tk, .bool pr, .int .i64 s0, .int .i64 s1, .int .i64 d0, .int .i64 d1]), (G, 28, #[.int .i64 id, .int .i64 al, .int .i64 ah, .slice A n c, .slice B mm d, .slice C l ee])]) := Lib.hid (HK1.out.sub (fun x hx => by
      simp only [List.mem_cons, List.not_mem_nil, or_false] at hx ⊢
      rcases hx with h | h | h <;> simp [h]))
    have HK9 : Hid (Blk W2 (G + 1 + 1) 35 #[.int .i64 0, .int .i64 0, .int .i64 0, .int .i64 0, .int .i64 0, .int .i64 0]) := Lib.hid (HK1.out _ (.tail _ (.head _)))
    clear HK1
    have hne : ∀ zz ∈ ([(N, 23, #[.int .i64 ka, .int .i64 kb]), (G + 1, 30, #[.int .i64 tk, .bool pr, .int .i64 s0, .int .i64 s1, .int .i64 d0, .int .i64 d1]), (G, 28, #[.int .i64 id, .int .i64 al, .int .i64 ah, .slice A n c, .slice B mm d, .slice C l ee])] : List (Nat × TypeId × Array Value)), zz.1 ≠ G + 1 + 1 := by
      have a1 := HDM.out _ (.head _)
      intro zz hz
      simp only [List.mem_cons, List.not_mem_nil, or_false] at hz
      rcases hz with h | h | h <;> (rw [h]; dsimp only at *; omega)
    have HNE := Lib.hid hne
    clear hne
    have hS0 : Boxes W2.drew [(N, 23, #[.int .i64 ka, .int .i64 kb]), (G + 1, 30, #[.int .i64 tk, .bool pr, .int .i64 s0, .int .i64 s1, .int .i64 d0, .int .i64 d1]), (G, 28, #[.int .i64 id, .int .i64 al, .int .i64 ah, .slice A n c, .slice B mm d, .slice C l ee])] := HKs.out
    have HEd := Lib.hid HE1.out.drew
    have HKd : Hid (Blk W2.drew (G + 1 + 1) 35 #[.int .i64 0, .int .i64 0, .int .i64 0, .int .i64 0, .int .i64 0, .int .i64 0]) := Lib.hid HK9.out.drew
    refine wp_region_held_drew (S := fun w' => Boxes w' [(N, 23, #[.int .i64 ka, .int .i64 kb]), (G + 1, 30, #[.int .i64 tk, .bool pr, .int .i64 s0, .int .i64 s1, .int .i64 d0, .int .i64 d1]), (G, 28, #[.int .i64 id, .int .i64 al, .int .i64 ah, .slice A n c, .slice B mm d, .slice C l ee])]) (by kernel_rfl) hS0 (fun hHeld => ?_)
    obtain ⟨W3, hW⟩ : ∃ W', W2.drew = W' := ⟨_, rfl⟩
    rw [hW] at HEd HKd hHeld ⊢
    clear hW hS0 HE1 HKs
    clear HK9
    refine wpAnyH_take (i := 0) (v := rv ka kb) rfl (by kernel_rfl) (by kernel_rfl) (by kernel_rfl) (fun _ _ _ h => h) (Or.inl ⟨by kernel_rfl, ?_⟩) hHeld ?_
    · intro w hSw; have hz := (hSw _ (.head _)); have c0 := hz.cell 0; have c1 := hz.cell 1; simp at c0 c1; clear hz hSw; go_simp; try with_reducible rfl
    change wpAnyH _ _ _ _ _ _ _ (Act.put _ (some 18) _) _
    try simp only [Act.put, List.setIfInBounds_toArray, List.set_cons_zero, List.set_cons_succ]
    refine wpAnyH_take (i := 1) (v := .pointer (some ⟨G, 1, none⟩)) rfl (by kernel_rfl) (by kernel_rfl) (by kernel_rfl) (fun _ _ _ h => h) (Or.inl ⟨by kernel_rfl, ?_⟩) hHeld ?_
    · intro w hSw; clear hSw; go_simp; try with_reducible rfl
    change wpAnyH _ _ _ _ _ _ _ (Act.put _ (some 19) _) _
    try simp only [Act.put, List.setIfInBounds_toArray, List.set_cons_zero, List.set_cons_succ]
    refine wpAnyH_take (i := 2) (v := rv al ah) rfl (by kernel_rfl) (by kernel_rfl) (by kernel_rfl) (fun _ _ _ h => h) (Or.inl ⟨by kernel_rfl, ?_⟩) hHeld ?_
    · intro w hSw; have hz := (hSw _ (.tail _ (.tail _ (.head _)))); have c1 := hz.cell 1; have c2 := hz.cell 2; simp at c1 c2; clear hz hSw; go_simp; try with_reducible rfl
    change wpAnyH _ _ _ _ _ _ _ (Act.put _ (some 20) _) _
    try simp only [Act.put, List.setIfInBounds_toArray, List.set_cons_zero, List.set_cons_succ]
    refine wpAnyH_take (i := 3) (v := .pointer (some ⟨G, 5, none⟩)) rfl (by kernel_rfl) (by kernel_rfl) (by kernel_rfl) (fun _ _ _ h => h) (Or.inl ⟨by kernel_rfl, ?_⟩) hHeld ?_
    · intro w hSw; clear hSw; go_simp; try with_reducible rfl
    change wpAnyH _ _ _ _ _ _ _ (Act.put _ (some 21) _) _
    try simp only [Act.put, List.setIfInBounds_toArray, List.set_cons_zero, List.set_cons_succ]
    refine wpAnyH_take (i := 4) (v := tv C l ee) rfl (by kernel_rfl) (by kernel_rfl) (by kernel_rfl) (fun _ _ _ h => h) (Or.inl ⟨by kernel_rfl, ?_⟩) hHeld ?_
    · intro w hSw; have hz := (hSw _ (.tail _ (.tail _ (.head _)))); have c5 := hz.cell 5; simp at c5; clear hz hSw; go_simp; try with_reducible rfl
    change wpAnyH _ _ _ _ _ _ _ (Act.put _ (some 22) _) _
    try simp only [Act.put, List.setIfInBounds_toArray, List.set_cons_zero, List.set_cons_succ]
    refine wpAnyH_take (i := 5) (v := .pointer (some ⟨G + 1, 2, none⟩)) rfl (by kernel_rfl) (by kernel_rfl) (by kernel_rfl) (fun _ _ _ h => h) (Or.inl ⟨by kernel_rfl, ?_⟩) hHeld ?_
    · intro w hSw; clear hSw; go_simp; try with_reducible rfl
    change wpAnyH _ _ _ _ _ _ _ (Act.put _ (some 23) _) _
    try simp only [Act.put, List.setIfInBounds_toArray, List.set_cons_zero, List.set_cons_succ]
    refine wpAnyH_take (i := 6) (v := rv s0 s1) rfl (by kernel_rfl) (by kernel_rfl) (by kernel_rfl) (fun _ _ _ h => h) (Or.inl ⟨by kernel_rfl, ?_⟩) hHeld ?_
    · intro w hSw; have hz := (hSw _ (.tail _ (.head _))); have c2 := hz.cell 2; have c3 := hz.cell 3; simp at c2 c3; clear hz hSw; go_simp; try with_reducible rfl
    change wpAnyH _ _ _ _ _ _ _ (Act.put _ (some 24) _) _
    try simp only [Act.put, List.setIfInBounds_toArray, List.set_cons_zero, List.set_cons_succ]
    refine wpAnyH_ready (rs := [7]) (by kernel_rfl) (by simp) ?_
    refine AllReadyH.cons rfl (fun K hK => ?_) AllReadyH.nil
    go_simp
    (with_reducible refine (C2.out _ HEd.out).mono ?_)
    rintro e z1 ⟨rfl, hq⟩
    have HEz1 := Lib.hid (below_then HEd.out hq); have HKz1 := Lib.hid (blkOn HKd.out hq)
    have hS := hHeld.on hq
    clear hq
    refine hK.out _ _ (hS) (fun hHeld2 => ?_)
    try simp only [Act.put, List.setIfInBounds_toArray, List.set_cons_zero, List.set_cons_succ]
    clear hK K hHeld
    have hHeld := hHeld2
    clear hHeld2
    clear hS HEd HKd
    refine wpAnyH_take (i := 8) (v := .agg #[.int .i64 ka, .int .i64 kb, .int .i64 al, .int .i64 ah, .int .i64 ha, .int .i64 hb]) rfl (by kernel_rfl) (by kernel_rfl) (by kernel_rfl) (fun _ _ _ h => h) (Or.inl ⟨by kernel_rfl, ?_⟩) hHeld ?_
    · intro w hSw; clear hSw; go_simp; try with_reducible rfl
    change wpAnyH _ _ _ _ _ _ _ (Act.put _ (some 26) _) _
    try simp only [Act.put, List.setIfInBounds_toArray, List.set_cons_zero, List.set_cons_succ]
    refine wpAnyH_ready (rs := [9]) (by kernel_rfl) (by simp) ?_
    refine AllReadyH.cons rfl (fun K hK => ?_) AllReadyH.nil
    rw [if_pos (by kernel_rfl)]
    have HKR : Hid (Blk (z1.setRow (G + 1 + 1) #[.int .i64 ka, .int .i64 kb, .int .i64 al, .int .i64 ah, .int .i64 ha, .int .i64 hb]) (G + 1 + 1) 35 #[.int .i64 ka, .int .i64 kb, .int .i64 al, .int .i64 ah, .int .i64 ha, .int .i64 hb]) := Lib.hid (setRow_heap z1 (G + 1 + 1) _ _ 35 _ HKz1.out)
    have HE9 := Lib.hid (below_setRow HEz1.out (show w.heap.size ≤ G + 1 + 1 by have := HG.out; omega) #[.int .i64 ka, .int .i64 kb, .int .i64 al, .int .i64 ah, .int .i64 ha, .int .i64 hb])
    have hS := hHeld.farRow (g := (G + 1 + 1)) HNE.out #[.int .i64 ka, .int .i64 kb, .int .i64 al, .int .i64 ah, .int .i64 ha, .int .i64 hb]
    refine wp_store_row 35 (.tmp 4) (.tmp 26) rfl (G + 1 + 1) #[.int .i64 ka, .int .i64 kb, .int .i64 al, .int .i64 ah, .int .i64 ha, .int .i64 hb] rfl rfl 35 _ HKz1.out (by kernel_rfl) rfl (by kernel_rfl) ?_
    obtain ⟨Wz, hW⟩ : ∃ W', z1.setRow (G + 1 + 1) #[.int .i64 ka, .int .i64 kb, .int .i64 al, .int .i64 ah, .int .i64 ha, .int .i64 hb] = W' := ⟨_, rfl⟩
    rw [hW] at HKR HE9 hS ⊢
    refine hK.out _ _ hS (fun hHeld2 => ?_)
    try simp only [Act.put, List.setIfInBounds_toArray, List.set_cons_zero, List.set_cons_succ]
    clear hW hS hK K hHeld HKz1 HEz1
    have hHeld := hHeld2
    clear hHeld2
    refine wpAnyH_take (i := 10) (v := .int .i64 0) rfl (by kernel_rfl) (by kernel_rfl) (by kernel_rfl) (fun _ _ _ h => h) (Or.inl ⟨by kernel_rfl, ?_⟩) hHeld ?_
    · intro w hSw; clear hSw; go_simp; try with_reducible rfl
    change wpAnyH _ _ _ _ _ _ _ (Act.put _ (some 5) _) _
    try simp only [Act.put, List.setIfInBounds_toArray, List.set_cons_zero, List.set_cons_succ]
    refine wpAnyH_done (by kernel_rfl) ?_ _
    clear hHeld
    go_wp2
    exact bodyPost_ret (v := .tuple #[.agg #[.int .i64 ka, .int .i64 kb, .int .i64 al, .int .i64 ah, .int .i64 ha, .int .i64 hb], .int .i64 0]) (results_cell_tmp_row Tryz.results13 _ _ (G + 1 + 1) 35 #[.int .i64 ka, .int .i64 kb, .int .i64 al, .int .i64 ah, .int .i64 ha, .int .i64 hb] (0, 0) _ _ rfl rfl HKR.out Tryz.underlying35 rfl (by kernel_rfl)) rfl ⟨rfl, HE9.out⟩
  · have eR := HR.out
    rw [if_neg g] at eR
    have eQ := HQ.out
    rw [if_neg g] at eQ
    injection eQ with q1 q2
    injection q2 with q2 q3
    subst eR q1 q2 q3
    clear HR HQ
    go_upto_region 3 with fail
    refine wp_region_lit ?_
    refine wpList_plain rfl (fun K hK => ?_)
    go_simp
    refine hK _ _ ?_
    clear hK K
    refine wpList_plain rfl (fun K hK => ?_)
    go_simp
    refine hK _ _ ?_
    clear hK K
    have HKR : Hid (Blk (W2.setRow (G + 1 + 1) #[.int .i64 0, .int .i64 0, .int .i64 0, .int .i64 0, .int .i64 0, .int .i64 0]) (G + 1 + 1) 35 #[.int .i64 0, .int .i64 0, .int .i64 0, .int .i64 0, .int .i64 0, .int .i64 0]) := Lib.hid (setRow_heap W2 (G + 1 + 1) _ _ 35 _ (HK1.out _ (.tail _ (.head _))))
    have HE9 := Lib.hid (below_setRow HE1.out (show w.heap.size ≤ G + 1 + 1 by have := HG.out; omega) #[.int .i64 0, .int .i64 0, .int .i64 0, .int .i64 0, .int .i64 0, .int .i64 0])
    refine wpList_store_row rfl 35 (.tmp 4) (.tmp 16) rfl (G + 1 + 1) #[.int .i64 0, .int .i64 0, .int .i64 0, .int .i64 0, .int .i64 0, .int .i64 0] rfl rfl 35 _ (HK1.out _ (.tail _ (.head _))) (by kernel_rfl) rfl (by kernel_rfl) ?_
    obtain ⟨W9, hW9⟩ : ∃ W9, W2.setRow (G + 1 + 1) #[.int .i64 0, .int .i64 0, .int .i64 0, .int .i64 0, .int .i64 0, .int .i64 0] = W9 := ⟨_, rfl⟩
    rw [hW9] at HKR HE9 ⊢
    clear hW9
    go_wp2
    exact bodyPost_ret (v := .tuple #[.agg #[.int .i64 0, .int .i64 0, .int .i64 0, .int .i64 0, .int .i64 0, .int .i64 0], .int .i64 E]) (results_cell_tmp_row Tryz.results13 _ _ (G + 1 + 1) 35 #[.int .i64 0, .int .i64 0, .int .i64 0, .int .i64 0, .int .i64 0, .int .i64 0] (0, 0) _ _ rfl rfl HKR.out Tryz.underlying35 rfl (by kernel_rfl)) rfl ⟨rfl, HE9.out⟩
end

end Go.Proofs.YtbcefdaflnlhoaaGreat
