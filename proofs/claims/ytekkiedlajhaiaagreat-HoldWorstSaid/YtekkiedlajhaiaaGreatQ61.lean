/- Settle and CheckWorst of both, for all holds, fills and numbers. Their condition: the hold's tables lie in memory. -/
import Derived.Test.YtekkiedlajhaiaaGreatQ51
import Derived.Test.YtekkiedlajhaiaaGreatQ27
import Derived.Test.YtekkiedlajhaiaaGreatQ28
import Derived.Test.YtekkiedlajhaiaaGreatQ10
import Derived.Test.YtekkiedlajhaiaaGreatQ04
import Derived.Test.YtekkiedlajhaiaaGreatQ19
import Derived.Test.YtekkiedlajhaiaaGreatQ09
import Derived.Test.YtekkiedlajhaiaaGreatQ33
import Derived.Test.YtekkiedlajhaiaaGreatQ60
set_option linter.unusedVariables false
set_option linter.unusedSimpArgs false
set_option linter.constructorNameAsVariable false
namespace Go.Proofs.YtekkiedlajhaiaaGreat

section
open Go.RowKit

theorem addRun_starts (L : List (Int × Int)) (r : Int × Int) : (addRun L r).map (·.1) = L.map (·.1) ∨ (addRun L r).map (·.1) = L.map (·.1) ++ [r.1] := by
  unfold addRun
  cases hz : L.getLast? with
  | none =>
    have : L = [] := List.getLast?_eq_none_iff.1 hz
    subst this
    exact .inr rfl
  | some z =>
    obtain ⟨init, rfl⟩ : ∃ init, L = init ++ [z] := List.getLast?_eq_some_iff.1 hz
    dsimp only
    by_cases e : r.1 = z.2
    · rw [if_pos e, List.dropLast_concat]; left; simp
    · rw [if_neg e]; right; simp
theorem starts_up {f : P3 → P3 → Int × Int} (hin : ∀ p q : P3, p.1 ≤ q.1 → (f p q).1 ≤ (f p q).2 → p.1 ≤ (f p q).1 ∧ (f p q).2 ≤ q.1) :
    ∀ (xs : List Pr) (L : List (Int × Int)) (B : Int), xs.Pairwise (fun y z => y.1.2.1 ≤ z.1.1.1) → (∀ y ∈ xs, B ≤ y.1.1.1) → (∀ s ∈ L.map (·.1), s ≤ B) → (L.map (·.1)).Pairwise (· ≤ ·) → ((xs.foldl (runStep f) L).map (·.1)).Pairwise (· ≤ ·)
  | [], L, B, _, _, _, h => h
  | y :: xs, L, B, hx, hB, hL, h => by
    rw [List.foldl_cons]
    have hx1 := List.pairwise_cons.1 hx
    have hy := hB y (by simp)
    have hpq := y.2.2.2
    by_cases c : (f y.1.1 y.1.2).1 ≤ (f y.1.1 y.1.2).2
    · have e : runStep f L y = addRun L (f y.1.1 y.1.2) := by unfold runStep; rw [if_pos c]
      have hr := hin _ _ hpq c
      refine starts_up hin xs (runStep f L y) y.1.2.1 hx1.2 (fun z hz => hx1.1 z hz) ?_ ?_
      · rw [e]
        intro s hs
        rcases addRun_starts L (f y.1.1 y.1.2) with q | q
        · rw [q] at hs; have := hL s hs; omega
        · rw [q] at hs
          rcases List.mem_append.1 hs with hs | hs
          · have := hL s hs; omega
          · rw [List.mem_singleton.1 hs]; omega
      · rw [e]
        rcases addRun_starts L (f y.1.1 y.1.2) with q | q
        · rw [q]; exact h
        · rw [q]
          refine List.pairwise_append.2 ⟨h, List.pairwise_singleton _ _, fun s hs t ht => ?_⟩
          rw [List.mem_singleton.1 ht]
          have := hL s hs
          omega
    · have e : runStep f L y = L := by unfold runStep; rw [if_neg c]
      rw [e]
      exact starts_up hin xs L y.1.2.1 hx1.2 (fun z hz => hx1.1 z hz) (fun s hs => by have := hL s hs; omega) h
theorem pcs_up {ps : List P3} (ht : tabOk ps = true) {xs : List Pr} (hxs : xs.map (·.1) = pcs ps) : xs.Pairwise (fun y z => y.1.2.1 ≤ z.1.1.1) := by
  rw [List.pairwise_iff_getElem]
  intro i j hi hj hij
  have e : ∀ k (hk : k < xs.length), (pcs ps)[k]? = some (xs[k]).1 := fun k hk => by
    rw [← hxs, List.getElem?_map, List.getElem?_eq_getElem hk]; rfl
  have e1 := e i hi
  have e2 := e j hj
  rcases Nat.lt_or_ge ps.length 2 with c | c
  · have hl := pcs_len ps
    have : xs.length = (pcs ps).length := by rw [← hxs, List.length_map]
    omega
  · rw [pcs_two c, List.getElem?_zip_eq_some, List.getElem?_tail] at e1 e2
    exact rising_le ht e1.2 e2.1 (by omega)
theorem whereS_in (lo hi : Int) (p q : P3) (hpq : p.1 ≤ q.1) (h : (whereS lo hi p q).1 ≤ (whereS lo hi p q).2) : p.1 ≤ (whereS lo hi p q).1 ∧ (whereS lo hi p q).2 ≤ q.1 :=
  ⟨((whereS_iff lo hi p q hpq _).1 ⟨Int.le_refl _, h⟩).1, ((whereS_iff lo hi p q hpq _).1 ⟨h, Int.le_refl _⟩).2.1⟩
theorem foldG_top : ∀ (l : List (Int × Int)) (s : Int × Int × Bool), s.2.2 = true → (l.foldl stepG s).2.1 = s.2.1 ∨ ∃ r ∈ l, r.2 = (l.foldl stepG s).2.1
  | [], s, _ => .inl rfl
  | z :: l, s, h => by
    rw [List.foldl_cons]
    have e : stepG s z = (min s.1 z.1, max s.2.1 z.2, true) := by unfold stepG; rw [if_pos h]
    rw [e]
    rcases foldG_top l (min s.1 z.1, max s.2.1 z.2, true) rfl with q | ⟨r, hr, q⟩
    · rw [q]
      dsimp only
      rcases Int.le_total s.2.1 z.2 with c | c
      · right; exact ⟨z, by simp, by omega⟩
      · left; omega
    · right; exact ⟨r, by simp [hr], q⟩
theorem over_top (ps : List P3) (a b : Int) : ∃ c ∈ cornersS ps a b, (atS ps c).2 = (overGood ps a b).2.1 := by
  unfold overGood foldG
  have hne := corners_ne ps a b
  cases hc : cornersS ps a b with
  | nil => exact absurd hc hne
  | cons c cs =>
    rw [List.map_cons, List.foldl_cons]
    have e : stepG (0, 0, false) (atS ps c) = ((atS ps c).1, (atS ps c).2, true) := rfl
    rw [e]
    rcases foldG_top (cs.map (atS ps)) ((atS ps c).1, (atS ps c).2, true) rfl with q | ⟨r, hr, q⟩
    · exact ⟨c, by simp, q.symm⟩
    · obtain ⟨c', hc', rfl⟩ := List.mem_map.1 hr
      exact ⟨c', by simp [hc'], q⟩
theorem least_of (Q : Int → Prop) [DecidablePred Q] (a : Int) : ∀ n : Nat, Q (a + n) → ∃ x, a ≤ x ∧ x ≤ a + n ∧ Q x ∧ ∀ y, a ≤ y → y < x → ¬ Q y := by
  intro n
  induction n using Nat.strongRecOn with
  | _ n ih =>
    intro h
    by_cases g : ∃ m : Nat, m < n ∧ Q (a + m)
    · obtain ⟨m, hm, hq⟩ := g
      obtain ⟨x, x1, x2, x3, x4⟩ := ih m hm hq
      exact ⟨x, x1, by omega, x3, x4⟩
    · refine ⟨a + n, by omega, Int.le_refl _, h, fun y h1 h2 hq => g ⟨(y - a).toNat, by omega, ?_⟩⟩
      rw [show a + ((y - a).toNat : Int) = y by omega]; exact hq
theorem first_top {ps : List P3} {a b : Int} (ht : tabOk ps = true) (h0 : firstX ps ≤ a) (h1 : a ≤ b) (h2 : b ≤ lastX ps) :
    ∃ x, a ≤ x ∧ x ≤ b ∧ (atS ps x).2 = (overGood ps a b).2.1 ∧ ∀ y, a ≤ y → y < x → (atS ps y).2 < (overGood ps a b).2.1 := by
  obtain ⟨c, hc, hq⟩ := over_top ps a b
  have hcb : a ≤ c ∧ c ≤ b := by rcases corners_mem hc with q | q <;> omega
  obtain ⟨x, x1, x2, x3, x4⟩ := least_of (fun x => (atS ps x).2 = (overGood ps a b).2.1) a (c - a).toNat (by rw [show a + ((c - a).toNat : Int) = c by omega]; exact hq)
  refine ⟨x, x1, by omega, x3, fun y y1 y2 => ?_⟩
  have := (over_has (x := y) ht h0 y1 (show y ≤ b by omega) h2).2
  have := x4 y y1 y2
  omega
theorem worst_runs {ps : List P3} {a b x : Int} (ht : tabOk ps = true) (h0 : firstX ps ≤ a) (h1 : a ≤ b) (h2 : b ≤ lastX ps)
    (x1 : a ≤ x) (x2 : x ≤ b) (x3 : (atS ps x).2 = (overGood ps a b).2.1) (x4 : ∀ y, a ≤ y → y < x → (atS ps y).2 < (overGood ps a b).2.1) :
    ∃ (k : Nat) (r : Int × Int), (runsF (whereS (overGood ps a b).2.1 1000000000) (prs ps))[k]? = some r ∧ a ≤ r.2 ∧ (∀ (j : Nat) (z : Int × Int), j < k → (runsF (whereS (overGood ps a b).2.1 1000000000) (prs ps))[j]? = some z → z.2 < a) ∧ max r.1 a = x := by
  have hxs := prs_pcs ht
  obtain ⟨T, hT⟩ : ∃ T, (overGood ps a b).2.1 = T := ⟨_, rfl⟩
  have hin := fun y (q1 : a ≤ y) (q2 : y ≤ b) => (over_has (x := y) ht h0 q1 q2 h2).2
  rw [hT] at x3 x4 hin ⊢
  obtain ⟨L, hL⟩ : ∃ L, runsF (whereS T 1000000000) (prs ps) = L := ⟨_, rfl⟩
  have hiff := fun y (q1 : firstX ps ≤ y) (q2 : y ≤ lastX ps) => where_iff (lo := T) (hi := 1000000000) ht hxs q1 q2
  rw [hL] at hiff ⊢
  have hfull : Full L := by rw [← hL]; exact (runs_fold _ (prs ps) [] (fun r h => by simp at h)).1
  have hup : (L.map (·.1)).Pairwise (· ≤ ·) := by
    rw [← hL]
    unfold runsF
    exact starts_up (whereS_in T 1000000000) (prs ps) [] (-1000000000000) (pcs_up ht hxs) (fun y _ => by have := y.2.1.1; omega) (by simp) (by simp)
  have hlo : ∀ y, firstX ps ≤ y → y ≤ lastX ps → (atS ps y).1 ≤ 1000000000 := fun y q1 q2 => by
    have := atS_in ht q1 q2
    simp only [inB, decide_eq_true_eq] at this
    omega
  obtain ⟨z, hz, z1, z2⟩ := (hiff x (by omega) (by omega)).2 ⟨hlo x (by omega) (by omega), by omega⟩
  obtain ⟨jz, hjz⟩ := List.mem_iff_getElem?.1 hz
  -- the first run that reaches a
  obtain ⟨k, r, hk, hr, hmin, hkj⟩ : ∃ (k : Nat) (r : Int × Int), L[k]? = some r ∧ a ≤ r.2 ∧ (∀ (j : Nat) (z : Int × Int), j < k → L[j]? = some z → z.2 < a) ∧ k ≤ jz := by
    have key : ∀ n : Nat, ∀ z : Int × Int, L[n]? = some z → a ≤ z.2 → ∃ (k : Nat) (r : Int × Int), L[k]? = some r ∧ a ≤ r.2 ∧ (∀ (j : Nat) (z : Int × Int), j < k → L[j]? = some z → z.2 < a) ∧ k ≤ n := by
      intro n
      induction n using Nat.strongRecOn with
      | _ n ih =>
        intro z hz ha
        by_cases g : ∃ m : Nat, m < n ∧ ∃ z : Int × Int, L[m]? = some z ∧ a ≤ z.2
        · obtain ⟨m, hm, z', hz', ha'⟩ := g
          obtain ⟨k, r, q1, q2, q3, q4⟩ := ih m hm z' hz' ha'
          exact ⟨k, r, q1, q2, q3, by omega⟩
        · exact ⟨n, z, hz, ha, fun j z' hj hz' => by
            by_cases c : a ≤ z'.2
            · exact absurd ⟨j, hj, z', hz', c⟩ g
            · omega, Nat.le_refl _⟩
    exact key jz z hjz (by omega)
  refine ⟨k, r, hk, hr, hmin, ?_⟩
  have hrm := List.mem_of_getElem? hk
  have hrf := hfull r hrm
  have hrz : r.1 ≤ z.1 := by
    rcases Nat.lt_or_ge k jz with c | c
    · obtain ⟨lk, ek⟩ := List.getElem?_eq_some_iff.1 hk
      obtain ⟨lz, ez⟩ := List.getElem?_eq_some_iff.1 hjz
      have := List.pairwise_iff_getElem.1 hup k jz (by simpa using lk) (by simpa using lz) c
      simpa [ek, ez] using this
    · have : k = jz := by omega
      subst this
      rw [hk] at hjz; injection hjz with hjz; subst hjz; exact Int.le_refl _
  have hyx : max r.1 a ≤ x := by omega
  have hy := (hiff (max r.1 a) (by omega) (by omega)).1 ⟨r, hrm, by omega, by omega⟩
  have hyT := hin (max r.1 a) (by omega) (by omega)
  rcases Int.lt_or_le (max r.1 a) x with c | c
  · have := x4 (max r.1 a) (by omega) c
    omega
  · omega
theorem prs_len {ps : List P3} (ht : tabOk ps = true) : (prs ps).length ≤ 40 := by
  have h1 : (prs ps).length = (pcs ps).length := by rw [← prs_pcs ht, List.length_map]
  have h2 := pcs_len ps
  have h3 := (tabOk_len ht).2
  omega
end

section
open Go.RowKit
theorem fieldM7 (b0 b1 b2 b3 b4 b5 b6 b7 : Value) (w : World) : (Instr.field 101 (.agg #[b0, b1, b2, b3, b4, b5, b6, b7]) 7).run Tryz.prog w = .ok b7 w := by kernel_rfl
attribute [local go_sem ↓] fieldM7 run_minI run_maxI
end

section
open Go.RowKit

noncomputable def topX (ps : List P3) (a b : Int) : Int := open Classical in if h : ∃ x, (a ≤ x ∧ x ≤ b) ∧ (atS ps x).2 = (overGood ps a b).2.1 ∧ ∀ y, a ≤ y → y < x → (atS ps y).2 < (overGood ps a b).2.1 then h.choose else 0
theorem topX_is {ps : List P3} {a b : Int} (ht : tabOk ps = true) (h0 : firstX ps ≤ a) (h1 : a ≤ b) (h2 : b ≤ lastX ps) :
    (a ≤ topX ps a b ∧ topX ps a b ≤ b) ∧ (atS ps (topX ps a b)).2 = (overGood ps a b).2.1 ∧ ∀ y, a ≤ y → y < topX ps a b → (atS ps y).2 < (overGood ps a b).2.1 := by
  obtain ⟨x, x1, x2, x3, x4⟩ := first_top ht h0 h1 h2
  have h : ∃ x, (a ≤ x ∧ x ≤ b) ∧ (atS ps x).2 = (overGood ps a b).2.1 ∧ ∀ y, a ≤ y → y < x → (atS ps y).2 < (overGood ps a b).2.1 := ⟨x, ⟨x1, x2⟩, x3, x4⟩
  unfold topX
  rw [dif_pos h]
  exact h.choose_spec
noncomputable def worstW (h : HoldD) (f : FillD) : Int × Int × Int := if fillErr h f = 0 then (if f.st = 3 then (topX h.mom f.x0 f.x1, (momS h f).2, 0) else (0, (momS h f).2, 0)) else (0, 0, fillErr h f)
theorem over_is {ps : List P3} {a b : Int} (ht : tabOk ps = true) (h : inB a b (firstX ps) (lastX ps) = true) : overS ps a b = ((overGood ps a b).1, (overGood ps a b).2.1, 0) := by
  obtain ⟨p1, p2⟩ := places_in ht
  have hb : a ≤ b ∧ firstX ps ≤ a ∧ b ≤ lastX ps := by simpa [inB] using h
  have hv : vR a b = true := (vR_iff a b).2 (by omega)
  have he : overE ps a b = 0 := by unfold overE placesS; rw [if_pos ht, if_pos hv, if_pos ht, if_pos h]
  unfold overS; rw [if_pos he]
theorem mom_three {h : HoldD} {f : FillD} (e : fillErr h f = 0) (s : f.st = 3) : tabOk h.mom = true ∧ (firstX h.mom ≤ f.x0 ∧ f.x0 ≤ f.x1 ∧ f.x1 ≤ lastX h.mom) ∧ (momS h f).2 = (overGood h.mom f.x0 f.x1).2.1 := by
  obtain ⟨_, ⟨m1, m2, m3⟩, ⟨l1, l2⟩, _⟩ := hold_parts (fill_zero e).1
  have ht := measures_ok m2
  have hp := along_in l1 (fill_place e (by omega))
  have hb : f.x0 ≤ f.x1 ∧ firstX h.mom ≤ f.x0 ∧ f.x1 ≤ lastX h.mom := by simpa [inB] using hp
  refine ⟨ht, ⟨hb.2.1, hb.1, hb.2.2⟩, ?_⟩
  unfold momS
  rw [if_neg (by omega), if_neg (by omega), if_neg (by omega), if_pos s, over_is ht hp]
theorem hWorst_any (h : HoldD) (m : HoldM) (f : FillD) (w : World) (hi : HoldIn w h m) :
    Calls Tryz.prog 30 #[holdV h m, fillV f] w fun e w' => e = .returned (it (worstW h f)) ∧ Below w.heap.size w w' := by
  by_cases g : fillErr h f = 0 ∧ f.st = 3
  · obtain ⟨e, s⟩ := g
    obtain ⟨ht, ⟨b1, b2, b3⟩, hm⟩ := mom_three e s
    obtain ⟨⟨x1, x2⟩, x3, x4⟩ := topX_is ht b1 b2 b3
    obtain ⟨k, r, r1, r2, r3, r4⟩ := worst_runs ht b1 b2 b3 x1 x2 x3 x4
    have q := worst_of h m f (runsF (whereS (momS h f).2 1000000000) (prs h.mom)) k r w hi (fun _ _ => by
      rw [hm]
      refine ⟨Nat.le_trans (runsF_len _ _) (Nat.le_trans (prs_len ht) (by decide)), ?_, rfl, r1, r2, r3⟩
      have hT := over_is ht (show inB f.x0 f.x1 (firstX h.mom) (lastX h.mom) = true by simp [inB]; omega)
      obtain ⟨_, ⟨_, m2, _⟩, _, _⟩ := hold_parts (fill_zero e).1
      have hin := over_in m2 (show inB f.x0 f.x1 (firstX h.mom) (lastX h.mom) = true by simp [inB]; omega)
      rw [hT] at hin
      dsimp only at hin
      have hv : vR (overGood h.mom f.x0 f.x1).2.1 1000000000 = true := (vR_iff _ _).2 (by omega)
      unfold whereE
      rw [if_pos ht, if_pos hv])
    have e2 : worstS h f r.1 = worstW h f := by unfold worstS worstW; rw [if_pos e, if_pos s, if_pos e, if_pos s, r4]
    rw [e2] at q
    exact q
  · have q := worst_of h m f [] 0 (0, 0) w hi (fun e s => absurd ⟨e, s⟩ g)
    have e2 : worstS h f ((0, 0) : Int × Int).1 = worstW h f := by
      unfold worstS worstW
      by_cases e : fillErr h f = 0
      · rw [if_pos e, if_pos e, if_neg (fun s => g ⟨e, s⟩), if_neg (fun s => g ⟨e, s⟩)]
      · rw [if_neg e, if_neg e]
    rw [e2] at q
    exact q
end

section
open Go.RowKit


set_option maxRecDepth 100000 in
set_option maxHeartbeats 4000000 in
theorem isWorst_n (vol mom hei : List P3) (id al ah t0 t1 u0 u1 v0 v1 h0 h1 : Int) (A B C : Option Addr) (n c mm d l ee : Nat) (fh st x0 x1 d0 d1 uu mo : Int) (t : Bool) (w : World) (hi : HoldIn w ⟨id, al, ah, vol, mom, hei, t0, t1, u0, u1, v0, v1, h0, h1⟩ ⟨A, n, c, B, mm, d, C, l, ee⟩) (gs : ¬ st = 3) (hu : (uu == 0) = t) :
  Calls Tryz.prog 64 #[.agg #[.int .i64 id, .int .i64 al, .int .i64 ah, .slice A n c, .slice B mm d, .slice C l ee, .int .i64 t0, .int .i64 t1, .int .i64 u0, .int .i64 u1, .int .i64 v0, .int .i64 v1, .int .i64 h0, .int .i64 h1], .agg #[.int .i64 fh, .int .i64 st, .int .i64 x0, .int .i64 x1, .int .i64 d0, .int .i64 d1], .int .i64 uu, .int .i64 mo] w fun e w' => e = .returned (.bool t) ∧ Below w.heap.size w w' := by
 have HE := Lib.hid (show Below w.heap.size w ((w.alloc (.cells #[.int .i64 id, .int .i64 al, .int .i64 ah, .slice A n c, .slice B mm d, .slice C l ee, .int .i64 t0, .int .i64 t1, .int .i64 u0, .int .i64 u1, .int .i64 v0, .int .i64 v1, .int .i64 h0, .int .i64 h1] 50)).alloc (.cells #[.int .i64 fh, .int .i64 st, .int .i64 x0, .int .i64 x1, .int .i64 d0, .int .i64 d1] 53)) from below_a2 (Below.refl _ _))
 have HK := Lib.hid (boxes2' w 50 53 #[.int .i64 id, .int .i64 al, .int .i64 ah, .slice A n c, .slice B mm d, .slice C l ee, .int .i64 t0, .int .i64 t1, .int .i64 u0, .int .i64 u1, .int .i64 v0, .int .i64 v1, .int .i64 h0, .int .i64 h1] #[.int .i64 fh, .int .i64 st, .int .i64 x0, .int .i64 x1, .int .i64 d0, .int .i64 d1])
 have b0 : (st == 3) = false := beq_eq_false_iff_ne.2 gs
 clear hi gs
 go_enter Tryz.func64, Tryz.ntmps64
 go_upto_region 1 with fail
 obtain ⟨W0, hW0⟩ : ∃ W0, ((w.alloc (.cells #[.int .i64 id, .int .i64 al, .int .i64 ah, .slice A n c, .slice B mm d, .slice C l ee, .int .i64 t0, .int .i64 t1, .int .i64 u0, .int .i64 u1, .int .i64 v0, .int .i64 v1, .int .i64 h0, .int .i64 h1] 50)).alloc (.cells #[.int .i64 fh, .int .i64 st, .int .i64 x0, .int .i64 x1, .int .i64 d0, .int .i64 d1] 53)) = W0 := ⟨_, rfl⟩
 rw [hW0] at HE HK ⊢
 clear hW0
 obtain ⟨G, hG⟩ : ∃ G, w.heap.size = G := ⟨_, rfl⟩
 rw [hG] at HK ⊢
 have HG := Lib.hid hG; clear hG
 have fa := HK.out _ (.head _)
 have fa1 := fa.cell 1
 simp at fa1
 clear fa
 have HU := Lib.hid hu
 go_wp2
 go_ret
 exact ⟨rfl, HE.out⟩

set_option maxRecDepth 100000 in
set_option maxHeartbeats 4000000 in
theorem isWorst_y (vol mom hei : List P3) (id al ah t0 t1 u0 u1 v0 v1 h0 h1 : Int) (A B C : Option Addr) (n c mm d l ee : Nat) (fh st x0 x1 d0 d1 uu mo pa pb pe : Int) (t : Bool) (w : World) (hi : HoldIn w ⟨id, al, ah, vol, mom, hei, t0, t1, u0, u1, v0, v1, h0, h1⟩ ⟨A, n, c, B, mm, d, C, l, ee⟩) (gs : st = 3) (hA : AtS mom uu = (pa, pb, pe)) (ht : hasS x0 x1 uu = t) :
  Calls Tryz.prog 64 #[.agg #[.int .i64 id, .int .i64 al, .int .i64 ah, .slice A n c, .slice B mm d, .slice C l ee, .int .i64 t0, .int .i64 t1, .int .i64 u0, .int .i64 u1, .int .i64 v0, .int .i64 v1, .int .i64 h0, .int .i64 h1], .agg #[.int .i64 fh, .int .i64 st, .int .i64 x0, .int .i64 x1, .int .i64 d0, .int .i64 d1], .int .i64 uu, .int .i64 mo] w fun e w' => e = .returned (.bool (t && pb == mo)) ∧ Below w.heap.size w w' := by
 have HE := Lib.hid (show Below w.heap.size w ((w.alloc (.cells #[.int .i64 id, .int .i64 al, .int .i64 ah, .slice A n c, .slice B mm d, .slice C l ee, .int .i64 t0, .int .i64 t1, .int .i64 u0, .int .i64 u1, .int .i64 v0, .int .i64 v1, .int .i64 h0, .int .i64 h1] 50)).alloc (.cells #[.int .i64 fh, .int .i64 st, .int .i64 x0, .int .i64 x1, .int .i64 d0, .int .i64 d1] 53)) from below_a2 (Below.refl _ _))
 have HK := Lib.hid (boxes2' w 50 53 #[.int .i64 id, .int .i64 al, .int .i64 ah, .slice A n c, .slice B mm d, .slice C l ee, .int .i64 t0, .int .i64 t1, .int .i64 u0, .int .i64 u1, .int .i64 v0, .int .i64 v1, .int .i64 h0, .int .i64 h1] #[.int .i64 fh, .int .i64 st, .int .i64 x0, .int .i64 x1, .int .i64 d0, .int .i64 d1])
 have C1 : Hid (∀ W, Below w.heap.size w W → Calls Tryz.prog 107 #[tv B mm d, .int .i64 uu] W fun e w' => e = .returned (.tuple #[rv pa pb, .int .i64 pe]) ∧ Below W.heap.size W w') := Lib.hid fun W hW => rt_to (at_all B mm d mom uu W hi.2.1.1 hi.2.1.2.1 (hi.2.1.below hW).2.2) hA
 have C2 : Hid (∀ W, Calls Tryz.prog 108 #[rv x0 x1, .int .i64 uu] W fun e w' => e = .returned (.bool t) ∧ Below W.heap.size W w') := Lib.hid fun W => bool_to (has_any x0 x1 uu W) ht
 have b0 : (st == 3) = true := by simp [gs]
 clear hi gs hA ht
 go_enter Tryz.func64, Tryz.ntmps64
 go_upto_region 1 with fail
 obtain ⟨W0, hW0⟩ : ∃ W0, ((w.alloc (.cells #[.int .i64 id, .int .i64 al, .int .i64 ah, .slice A n c, .slice B mm d, .slice C l ee, .int .i64 t0, .int .i64 t1, .int .i64 u0, .int .i64 u1, .int .i64 v0, .int .i64 v1, .int .i64 h0, .int .i64 h1] 50)).alloc (.cells #[.int .i64 fh, .int .i64 st, .int .i64 x0, .int .i64 x1, .int .i64 d0, .int .i64 d1] 53)) = W0 := ⟨_, rfl⟩
 rw [hW0] at HE HK ⊢
 clear hW0
 obtain ⟨G, hG⟩ : ∃ G, w.heap.size = G := ⟨_, rfl⟩
 rw [hG] at HK ⊢
 have HG := Lib.hid hG; clear hG
 have fb := HK.out _ (.head _)
 have fb1 := fb.cell 1
 simp at fb1
 clear fb
 go_upto_region 3 with fail
 clear fb1 b0
 have ha := HK.out _ (.tail _ (.head _))
 have ha4 := ha.cell 4
 simp at ha4
 clear ha
 go_wp2_with fail
 refine (C1.out _ HE.out).mono ?_
 rintro e y2 ⟨rfl, hq⟩
 have HE2 := Lib.hid (below_then (below_then HE.out hq) (below_alloc1 y2 (.cells #[.int .i64 pa, .int .i64 pb] 30))); have HK2 := Lib.hid ((HK.out.on hq).new 30 #[.int .i64 pa, .int .i64 pb])
 clear hq HE HK C1 ha4
 go_upto_region 4 with fail
 obtain ⟨W2, hW⟩ : ∃ W', y2.alloc (.cells #[.int .i64 pa, .int .i64 pb] 30) = W' := ⟨_, rfl⟩
 rw [hW] at HE2 HK2 ⊢
 clear hW
 obtain ⟨N, hN⟩ : ∃ N, y2.heap.size = N := ⟨_, rfl⟩
 rw [hN] at HK2 ⊢
 clear hN
 have fa := HK2.out _ (.tail _ (.head _))
 have fa2 := fa.cell 2
 have fa3 := fa.cell 3
 simp at fa2 fa3
 clear fa
 go_wp2_with fail
 refine (C2.out _).mono ?_
 rintro e w3 ⟨rfl, hq⟩
 have HE3 := Lib.hid (below_then HE2.out hq); have HK3 := Lib.hid (HK2.out.on hq)
 clear hq HE2 HK2 C2 fa2 fa3
 have pq := HK3.out _ (.head _)
 have pq1 := pq.cell 1
 simp at pq1
 clear pq
 cases t
 ·go_wp2
  go_ret
  exact ⟨rfl, HE3.out⟩
 ·by_cases hm : pb = mo
  ·have b1 : (pb == mo) = true := by simp [hm]
   have HB := Lib.hid hm
   clear hm
   go_wp2
   go_ret
   exact ⟨by first | rfl | (rw [b1]; rfl) | simp [b1], HE3.out⟩
  ·have b1 : (pb == mo) = false := beq_eq_false_iff_ne.2 hm
   go_wp2
   go_ret
   exact ⟨by first | rfl | (rw [b1]; rfl) | simp [b1], HE3.out⟩

set_option maxRecDepth 100000 in
set_option maxHeartbeats 4000000 in
theorem hCheckWorst_e (vol mom hei : List P3) (id al ah t0 t1 u0 u1 v0 v1 h0 h1 : Int) (A B C : Option Addr) (n c mm d l ee : Nat) (fh st x0 x1 d0 d1 uu mo pa pb pe : Int) (w : World) (hi : HoldIn w ⟨id, al, ah, vol, mom, hei, t0, t1, u0, u1, v0, v1, h0, h1⟩ ⟨A, n, c, B, mm, d, C, l, ee⟩) (hM : tellS ⟨id, al, ah, vol, mom, hei, t0, t1, u0, u1, v0, v1, h0, h1⟩ ⟨fh, st, x0, x1, d0, d1⟩ (momS ⟨id, al, ah, vol, mom, hei, t0, t1, u0, u1, v0, v1, h0, h1⟩ ⟨fh, st, x0, x1, d0, d1⟩) = (pa, pb, pe)) (ge : ¬ pe = 0) :
  Calls Tryz.prog 31 #[.agg #[.int .i64 id, .int .i64 al, .int .i64 ah, .slice A n c, .slice B mm d, .slice C l ee, .int .i64 t0, .int .i64 t1, .int .i64 u0, .int .i64 u1, .int .i64 v0, .int .i64 v1, .int .i64 h0, .int .i64 h1], .agg #[.int .i64 fh, .int .i64 st, .int .i64 x0, .int .i64 x1, .int .i64 d0, .int .i64 d1], .int .i64 uu, .int .i64 mo] w fun e w' => e = .returned (.int .i64 pe) ∧ Below w.heap.size w w' := by
 have HE := Lib.hid (show Below w.heap.size w ((w.alloc (.cells #[.int .i64 id, .int .i64 al, .int .i64 ah, .slice A n c, .slice B mm d, .slice C l ee, .int .i64 t0, .int .i64 t1, .int .i64 u0, .int .i64 u1, .int .i64 v0, .int .i64 v1, .int .i64 h0, .int .i64 h1] 50)).alloc (.cells #[.int .i64 fh, .int .i64 st, .int .i64 x0, .int .i64 x1, .int .i64 d0, .int .i64 d1] 53)) from below_a2 (Below.refl _ _))
 have HK := Lib.hid (boxes2' w 50 53 #[.int .i64 id, .int .i64 al, .int .i64 ah, .slice A n c, .slice B mm d, .slice C l ee, .int .i64 t0, .int .i64 t1, .int .i64 u0, .int .i64 u1, .int .i64 v0, .int .i64 v1, .int .i64 h0, .int .i64 h1] #[.int .i64 fh, .int .i64 st, .int .i64 x0, .int .i64 x1, .int .i64 d0, .int .i64 d1])
 have C1 : Hid (∀ W, Below w.heap.size w W → Calls Tryz.prog 20 #[.agg #[.int .i64 id, .int .i64 al, .int .i64 ah, .slice A n c, .slice B mm d, .slice C l ee, .int .i64 t0, .int .i64 t1, .int .i64 u0, .int .i64 u1, .int .i64 v0, .int .i64 v1, .int .i64 h0, .int .i64 h1], .agg #[.int .i64 fh, .int .i64 st, .int .i64 x0, .int .i64 x1, .int .i64 d0, .int .i64 d1]] W fun e w' => e = .returned (.tuple #[rv pa pb, .int .i64 pe]) ∧ Below W.heap.size W w') := Lib.hid fun W hW => rt_to (hMoment_any ⟨id, al, ah, vol, mom, hei, t0, t1, u0, u1, v0, v1, h0, h1⟩ ⟨A, n, c, B, mm, d, C, l, ee⟩ ⟨fh, st, x0, x1, d0, d1⟩ W (hi.below hW)) hM
 clear hi hM
 go_enter Tryz.func31, Tryz.ntmps31
 go_upto_region 1 with fail
 obtain ⟨W0, hW0⟩ : ∃ W0, ((w.alloc (.cells #[.int .i64 id, .int .i64 al, .int .i64 ah, .slice A n c, .slice B mm d, .slice C l ee, .int .i64 t0, .int .i64 t1, .int .i64 u0, .int .i64 u1, .int .i64 v0, .int .i64 v1, .int .i64 h0, .int .i64 h1] 50)).alloc (.cells #[.int .i64 fh, .int .i64 st, .int .i64 x0, .int .i64 x1, .int .i64 d0, .int .i64 d1] 53)) = W0 := ⟨_, rfl⟩
 rw [hW0] at HE HK ⊢
 clear hW0
 obtain ⟨G, hG⟩ : ∃ G, w.heap.size = G := ⟨_, rfl⟩
 rw [hG] at HK ⊢
 have HG := Lib.hid hG; clear hG
 have ha := HK.out _ (.tail _ (.head _))
 have ha0 := ha.cell 0
 have ha1 := ha.cell 1
 have ha2 := ha.cell 2
 have ha3 := ha.cell 3
 have ha4 := ha.cell 4
 have ha5 := ha.cell 5
 have ha6 := ha.cell 6
 have ha7 := ha.cell 7
 have ha8 := ha.cell 8
 have ha9 := ha.cell 9
 have ha10 := ha.cell 10
 have ha11 := ha.cell 11
 have ha12 := ha.cell 12
 have ha13 := ha.cell 13
 simp at ha0 ha1 ha2 ha3 ha4 ha5 ha6 ha7 ha8 ha9 ha10 ha11 ha12 ha13
 clear ha
 have fa := HK.out _ (.head _)
 have fa0 := fa.cell 0
 have fa1 := fa.cell 1
 have fa2 := fa.cell 2
 have fa3 := fa.cell 3
 have fa4 := fa.cell 4
 have fa5 := fa.cell 5
 simp at fa0 fa1 fa2 fa3 fa4 fa5
 clear fa
 go_wp2_with fail
 refine (C1.out _ HE.out).mono ?_
 rintro e y2 ⟨rfl, hq⟩
 have HE2 := Lib.hid (below_then (below_then HE.out hq) (below_alloc1 y2 (.cells #[.int .i64 pa, .int .i64 pb] 30))); have HK2 := Lib.hid ((HK.out.on hq).new 30 #[.int .i64 pa, .int .i64 pb])
 clear hq HE HK C1 ha0 ha1 ha2 ha3 ha4 ha5 ha6 ha7 ha8 ha9 ha10 ha11 ha12 ha13 fa0 fa1 fa2 fa3 fa4 fa5
 go_upto_region 2 with fail
 obtain ⟨W2, hW⟩ : ∃ W', y2.alloc (.cells #[.int .i64 pa, .int .i64 pb] 30) = W' := ⟨_, rfl⟩
 rw [hW] at HE2 HK2 ⊢
 clear hW
 obtain ⟨N, hN⟩ : ∃ N, y2.heap.size = N := ⟨_, rfl⟩
 rw [hN] at HK2 ⊢
 clear hN
 go_wp2
 go_ret
 exact ⟨rfl, HE2.out⟩

set_option maxRecDepth 100000 in
set_option maxHeartbeats 4000000 in
theorem hCheckWorst_y (vol mom hei : List P3) (id al ah t0 t1 u0 u1 v0 v1 h0 h1 : Int) (A B C : Option Addr) (n c mm d l ee : Nat) (fh st x0 x1 d0 d1 uu mo pa pb pe R : Int) (t : Bool) (w : World) (hi : HoldIn w ⟨id, al, ah, vol, mom, hei, t0, t1, u0, u1, v0, v1, h0, h1⟩ ⟨A, n, c, B, mm, d, C, l, ee⟩) (hM : tellS ⟨id, al, ah, vol, mom, hei, t0, t1, u0, u1, v0, v1, h0, h1⟩ ⟨fh, st, x0, x1, d0, d1⟩ (momS ⟨id, al, ah, vol, mom, hei, t0, t1, u0, u1, v0, v1, h0, h1⟩ ⟨fh, st, x0, x1, d0, d1⟩) = (pa, pb, pe)) (ge : pe = 0) (hR : (if t = true ∧ mo = pb then (0 : Int) else 1) = R) (hW : ∀ W, Below w.heap.size w W → Calls Tryz.prog 64 #[.agg #[.int .i64 id, .int .i64 al, .int .i64 ah, .slice A n c, .slice B mm d, .slice C l ee, .int .i64 t0, .int .i64 t1, .int .i64 u0, .int .i64 u1, .int .i64 v0, .int .i64 v1, .int .i64 h0, .int .i64 h1], .agg #[.int .i64 fh, .int .i64 st, .int .i64 x0, .int .i64 x1, .int .i64 d0, .int .i64 d1], .int .i64 uu, .int .i64 mo] W fun e w' => e = .returned (.bool t) ∧ Below W.heap.size W w') :
  Calls Tryz.prog 31 #[.agg #[.int .i64 id, .int .i64 al, .int .i64 ah, .slice A n c, .slice B mm d, .slice C l ee, .int .i64 t0, .int .i64 t1, .int .i64 u0, .int .i64 u1, .int .i64 v0, .int .i64 v1, .int .i64 h0, .int .i64 h1], .agg #[.int .i64 fh, .int .i64 st, .int .i64 x0, .int .i64 x1, .int .i64 d0, .int .i64 d1], .int .i64 uu, .int .i64 mo] w fun e w' => e = .returned (.int .i64 R) ∧ Below w.heap.size w w' := by
 have HE := Lib.hid (show Below w.heap.size w ((w.alloc (.cells #[.int .i64 id, .int .i64 al, .int .i64 ah, .slice A n c, .slice B mm d, .slice C l ee, .int .i64 t0, .int .i64 t1, .int .i64 u0, .int .i64 u1, .int .i64 v0, .int .i64 v1, .int .i64 h0, .int .i64 h1] 50)).alloc (.cells #[.int .i64 fh, .int .i64 st, .int .i64 x0, .int .i64 x1, .int .i64 d0, .int .i64 d1] 53)) from below_a2 (Below.refl _ _))
 have HK := Lib.hid (boxes2' w 50 53 #[.int .i64 id, .int .i64 al, .int .i64 ah, .slice A n c, .slice B mm d, .slice C l ee, .int .i64 t0, .int .i64 t1, .int .i64 u0, .int .i64 u1, .int .i64 v0, .int .i64 v1, .int .i64 h0, .int .i64 h1] #[.int .i64 fh, .int .i64 st, .int .i64 x0, .int .i64 x1, .int .i64 d0, .int .i64 d1])
 have C1 : Hid (∀ W, Below w.heap.size w W → Calls Tryz.prog 20 #[.agg #[.int .i64 id, .int .i64 al, .int .i64 ah, .slice A n c, .slice B mm d, .slice C l ee, .int .i64 t0, .int .i64 t1, .int .i64 u0, .int .i64 u1, .int .i64 v0, .int .i64 v1, .int .i64 h0, .int .i64 h1], .agg #[.int .i64 fh, .int .i64 st, .int .i64 x0, .int .i64 x1, .int .i64 d0, .int .i64 d1]] W fun e w' => e = .returned (.tuple #[rv pa pb, .int .i64 pe]) ∧ Below W.heap.size W w') := Lib.hid fun W hW => rt_to (hMoment_any ⟨id, al, ah, vol, mom, hei, t0, t1, u0, u1, v0, v1, h0, h1⟩ ⟨A, n, c, B, mm, d, C, l, ee⟩ ⟨fh, st, x0, x1, d0, d1⟩ W (hi.below hW)) hM
 subst ge
 have C2 := Lib.hid hW
 have HR := Lib.hid hR
 clear hi hM hW hR
 go_enter Tryz.func31, Tryz.ntmps31
 go_upto_region 1 with fail
 obtain ⟨W0, hW0⟩ : ∃ W0, ((w.alloc (.cells #[.int .i64 id, .int .i64 al, .int .i64 ah, .slice A n c, .slice B mm d, .slice C l ee, .int .i64 t0, .int .i64 t1, .int .i64 u0, .int .i64 u1, .int .i64 v0, .int .i64 v1, .int .i64 h0, .int .i64 h1] 50)).alloc (.cells #[.int .i64 fh, .int .i64 st, .int .i64 x0, .int .i64 x1, .int .i64 d0, .int .i64 d1] 53)) = W0 := ⟨_, rfl⟩
 rw [hW0] at HE HK ⊢
 clear hW0
 obtain ⟨G, hG⟩ : ∃ G, w.heap.size = G := ⟨_, rfl⟩
 rw [hG] at HK ⊢
 have HG := Lib.hid hG; clear hG
 have ha := HK.out _ (.tail _ (.head _))
 have ha0 := ha.cell 0
 have ha1 := ha.cell 1
 have ha2 := ha.cell 2
 have ha3 := ha.cell 3
 have ha4 := ha.cell 4
 have ha5 := ha.cell 5
 have ha6 := ha.cell 6
 have ha7 := ha.cell 7
 have ha8 := ha.cell 8
 have ha9 := ha.cell 9
 have ha10 := ha.cell 10
 have ha11 := ha.cell 11
 have ha12 := ha.cell 12
 have ha13 := ha.cell 13
 simp at ha0 ha1 ha2 ha3 ha4 ha5 ha6 ha7 ha8 ha9 ha10 ha11 ha12 ha13
 clear ha
 have fa := HK.out _ (.head _)
 have fa0 := fa.cell 0
 have fa1 := fa.cell 1
 have fa2 := fa.cell 2
 have fa3 := fa.cell 3
 have fa4 := fa.cell 4
 have fa5 := fa.cell 5
 simp at fa0 fa1 fa2 fa3 fa4 fa5
 clear fa
 go_wp2_with fail
 refine (C1.out _ HE.out).mono ?_
 rintro e y2 ⟨rfl, hq⟩
 have HE2 := Lib.hid (below_then (below_then HE.out hq) (below_alloc1 y2 (.cells #[.int .i64 pa, .int .i64 pb] 30))); have HK2 := Lib.hid ((HK.out.on hq).new 30 #[.int .i64 pa, .int .i64 pb])
 clear hq HE HK C1 ha0 ha1 ha2 ha3 ha4 ha5 ha6 ha7 ha8 ha9 ha10 ha11 ha12 ha13 fa0 fa1 fa2 fa3 fa4 fa5
 go_upto_region 2 with fail
 obtain ⟨W2, hW⟩ : ∃ W', y2.alloc (.cells #[.int .i64 pa, .int .i64 pb] 30) = W' := ⟨_, rfl⟩
 rw [hW] at HE2 HK2 ⊢
 clear hW
 obtain ⟨N, hN⟩ : ∃ N, y2.heap.size = N := ⟨_, rfl⟩
 rw [hN] at HK2 ⊢
 clear hN
 go_upto_region 4 with fail
 have ha := HK2.out _ (.tail _ (.tail _ (.head _)))
 have ha0 := ha.cell 0
 have ha1 := ha.cell 1
 have ha2 := ha.cell 2
 have ha3 := ha.cell 3
 have ha4 := ha.cell 4
 have ha5 := ha.cell 5
 have ha6 := ha.cell 6
 have ha7 := ha.cell 7
 have ha8 := ha.cell 8
 have ha9 := ha.cell 9
 have ha10 := ha.cell 10
 have ha11 := ha.cell 11
 have ha12 := ha.cell 12
 have ha13 := ha.cell 13
 simp at ha0 ha1 ha2 ha3 ha4 ha5 ha6 ha7 ha8 ha9 ha10 ha11 ha12 ha13
 clear ha
 have fa := HK2.out _ (.tail _ (.head _))
 have fa0 := fa.cell 0
 have fa1 := fa.cell 1
 have fa2 := fa.cell 2
 have fa3 := fa.cell 3
 have fa4 := fa.cell 4
 have fa5 := fa.cell 5
 simp at fa0 fa1 fa2 fa3 fa4 fa5
 clear fa
 go_wp2_with fail
 refine (C2.out _ HE2.out).mono ?_
 rintro e w3 ⟨rfl, hq⟩
 have HE3 := Lib.hid (below_then HE2.out hq); have HK3 := Lib.hid (HK2.out.on hq)
 clear hq HE2 HK2 C2 ha0 ha1 ha2 ha3 ha4 ha5 ha6 ha7 ha8 ha9 ha10 ha11 ha12 ha13 fa0 fa1 fa2 fa3 fa4 fa5
 have pq := HK3.out _ (.head _)
 have pq1 := pq.cell 1
 simp at pq1
 clear pq
 cases t
 ·obtain rfl : R = 1 := by rw [← HR.out, if_neg (fun q => absurd q.1 (by decide))]
  clear HR
  go_wp2
  go_ret
  exact ⟨rfl, HE3.out⟩
 ·by_cases hm : mo = pb
  ·have b1 : (mo == pb) = true := by simp [hm]
   obtain rfl : R = 0 := by rw [← HR.out, if_pos ⟨rfl, hm⟩]
   clear HR
   have HB := Lib.hid hm
   clear hm
   go_wp2
   go_ret
   exact ⟨rfl, HE3.out⟩
  ·have b1 : (mo == pb) = false := beq_eq_false_iff_ne.2 hm
   obtain rfl : R = 1 := by rw [← HR.out, if_neg (fun q => hm q.2)]
   clear HR
   go_wp2
   go_ret
   exact ⟨rfl, HE3.out⟩
end

section
open Go.RowKit

def cwW (h : HoldD) (f : FillD) (u k : Int) : Int := if fillErr h f = 0 then (if f.st = 3 then (if (f.x0 ≤ u ∧ u ≤ f.x1) ∧ k = (momS h f).2 ∧ (atS h.mom u).2 = (momS h f).2 then 0 else 1) else (if u = 0 ∧ k = (momS h f).2 then 0 else 1)) else fillErr h f
theorem cw_worst (h : HoldD) (f : FillD) : cwW h f (worstW h f).1 (worstW h f).2.1 = (worstW h f).2.2 := by
  by_cases e : fillErr h f = 0
  · by_cases s : f.st = 3
    · obtain ⟨ht, ⟨b1, b2, b3⟩, hm⟩ := mom_three e s
      obtain ⟨⟨x1, x2⟩, x3, _⟩ := topX_is ht b1 b2 b3
      have hw : worstW h f = (topX h.mom f.x0 f.x1, (momS h f).2, 0) := by unfold worstW; rw [if_pos e, if_pos s]
      rw [hw]
      unfold cwW
      rw [if_pos e, if_pos s, if_pos ⟨⟨x1, x2⟩, rfl, by rw [hm]; exact x3⟩]
    · have hw : worstW h f = (0, (momS h f).2, 0) := by unfold worstW; rw [if_pos e, if_neg s]
      rw [hw]
      unfold cwW
      rw [if_pos e, if_neg s, if_pos ⟨rfl, rfl⟩]
  · have hw : worstW h f = (0, 0, fillErr h f) := by unfold worstW; rw [if_neg e]
    rw [hw]
    unfold cwW
    rw [if_neg e]
theorem at_is {ps : List P3} {x : Int} (ht : tabOk ps = true) (h0 : firstX ps ≤ x) (h1 : x ≤ lastX ps) : AtS ps x = ((atS ps x).1, (atS ps x).2, 0) := by
  have hp : placesS ps x x = 0 := by unfold placesS; rw [if_pos ht, if_pos (inB_yes (Int.le_refl _) h0 h1)]
  unfold AtS; rw [if_pos hp]
theorem hCheckWorst_any (h : HoldD) (m : HoldM) (f : FillD) (u k : Int) (w : World) (hi : HoldIn w h m) :
    Calls Tryz.prog 31 #[holdV h m, fillV f, .int .i64 u, .int .i64 k] w fun e w' => e = .returned (.int .i64 (cwW h f u k)) ∧ Below w.heap.size w w' := by
  obtain ⟨R, hR⟩ : ∃ R, cwW h f u k = R := ⟨_, rfl⟩
  rw [hR]
  unfold cwW at hR
  by_cases e : fillErr h f = 0
  · rw [if_pos e] at hR
    have hw : tellS h f (momS h f) = ((momS h f).1, (momS h f).2, 0) := by unfold tellS; rw [if_pos e]
    by_cases s : f.st = 3
    · rw [if_pos s] at hR
      obtain ⟨ht, ⟨b1, b2, b3⟩, hm⟩ := mom_three e s
      obtain ⟨p1, p2⟩ := places_in ht
      have hh : hasS f.x0 f.x1 u = decide (f.x0 ≤ u ∧ u ≤ f.x1) := by
        unfold hasS
        rw [(vR_iff f.x0 f.x1).2 ⟨b2, by omega, by omega⟩]
        simp
      obtain ⟨⟨pa, pb, pe⟩, hA⟩ : ∃ q, AtS h.mom u = q := ⟨_, rfl⟩
      have hR2 : (if (hasS f.x0 f.x1 u && pb == k) = true ∧ k = (momS h f).2 then (0 : Int) else 1) = R := by
        rw [← hR, hh]
        by_cases g : f.x0 ≤ u ∧ u ≤ f.x1
        · have hb : pb = (atS h.mom u).2 := by
            rw [at_is ht (by omega) (by omega)] at hA
            exact (congrArg (fun q => q.2.1) hA).symm
          subst hb
          by_cases g2 : k = (momS h f).2
          · subst g2; simp [g]
          · rw [if_neg (fun q => g2 q.2), if_neg (fun q => g2 q.2.1)]
        · have g1 : ¬ ((decide (f.x0 ≤ u ∧ u ≤ f.x1) && pb == k) = true ∧ k = (momS h f).2) := by rw [decide_eq_false g]; simp
          rw [if_neg g1, if_neg (fun q => g q.1)]
      obtain ⟨id, al, ah, vol, mom, hei, t0, t1, u0, u1, v0, v1, h0, h1⟩ := h
      obtain ⟨A, n, c, B, mm, d, C, l, ee⟩ := m
      obtain ⟨fh, st, x0, x1, d0, d1⟩ := f
      exact hCheckWorst_y vol mom hei id al ah t0 t1 u0 u1 v0 v1 h0 h1 A B C n c mm d l ee fh st x0 x1 d0 d1 u k _ _ _ R _ w hi hw rfl hR2 (fun W hW => isWorst_y vol mom hei id al ah t0 t1 u0 u1 v0 v1 h0 h1 A B C n c mm d l ee fh st x0 x1 d0 d1 u k pa pb pe _ W (hi.below hW) s hA rfl)
    · rw [if_neg s] at hR
      have hR2 : (if (u == 0) = true ∧ k = (momS h f).2 then (0 : Int) else 1) = R := by rw [← hR]; simp
      obtain ⟨id, al, ah, vol, mom, hei, t0, t1, u0, u1, v0, v1, h0, h1⟩ := h
      obtain ⟨A, n, c, B, mm, d, C, l, ee⟩ := m
      obtain ⟨fh, st, x0, x1, d0, d1⟩ := f
      exact hCheckWorst_y vol mom hei id al ah t0 t1 u0 u1 v0 v1 h0 h1 A B C n c mm d l ee fh st x0 x1 d0 d1 u k _ _ _ R _ w hi hw rfl hR2 (fun W hW => isWorst_n vol mom hei id al ah t0 t1 u0 u1 v0 v1 h0 h1 A B C n c mm d l ee fh st x0 x1 d0 d1 u k _ W (hi.below hW) s rfl)
  · rw [if_neg e] at hR
    subst hR
    have hw : tellS h f (momS h f) = (0, 0, fillErr h f) := by unfold tellS; rw [if_neg e]
    obtain ⟨id, al, ah, vol, mom, hei, t0, t1, u0, u1, v0, v1, h0, h1⟩ := h
    obtain ⟨A, n, c, B, mm, d, C, l, ee⟩ := m
    obtain ⟨fh, st, x0, x1, d0, d1⟩ := f
    exact hCheckWorst_e vol mom hei id al ah t0 t1 u0 u1 v0 v1 h0 h1 A B C n c mm d l ee fh st x0 x1 d0 d1 u k _ _ _ w hi hw e
end

end Go.Proofs.YtekkiedlajhaiaaGreat
