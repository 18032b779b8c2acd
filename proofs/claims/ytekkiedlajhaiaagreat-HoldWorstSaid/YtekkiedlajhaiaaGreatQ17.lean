/- The contract of over (hold): the table lies in memory. -/
import Derived.Deep.Onto
import Derived.Test.YtekkiedlajhaiaaGreatQ07
import Derived.Test.YtekkiedlajhaiaaGreatQ06
import Derived.WalkSmall
import Derived.RegionTactic
import Derived.BigRegion
import Derived.Test.YtekkiedlajhaiaaGreatQ02
import Derived.Test.YtekkiedlajhaiaaGreatQ04
import Derived.Test.YtekkiedlajhaiaaGreatQ03
import Derived.Test.YtekkiedlajhaiaaGreatQ08
import Derived.Test.YtekkiedlajhaiaaGreatQ09
import Derived.StillTailTactics
import Derived.BigQuiet
import Derived.Deep.RegionHeld3
import Derived.Test.YtekkiedlajhaiaaGreatQ10
set_option linter.unusedVariables false
set_option linter.unusedSimpArgs false
set_option linter.constructorNameAsVariable false
namespace Go.Proofs.YtekkiedlajhaiaaGreat

section
open Go.RowKit Go.Shelf
attribute [local go_sem] Oper.semAt_some
def runStep (f : P3 → P3 → Int × Int) (L : List (Int × Int)) (y : Pr) : List (Int × Int) := if (f y.1.1 y.1.2).1 ≤ (f y.1.1 y.1.2).2 then addRun L (f y.1.1 y.1.2) else L
def runsF (f : P3 → P3 → Int × Int) (pre : List Pr) : List (Int × Int) := pre.foldl (runStep f) []
theorem runsF_snoc (f : P3 → P3 → Int × Int) (pre : List Pr) (y : Pr) : runsF f (pre ++ [y]) = runStep f (runsF f pre) y := by simp [runsF]
theorem runStep_len (f : P3 → P3 → Int × Int) (L : List (Int × Int)) (y : Pr) : (runStep f L y).length ≤ L.length + 1 := by
  unfold runStep; split
  · exact addRun_len _ _
  · omega
theorem foldl_runStep_len (f : P3 → P3 → Int × Int) : ∀ (pre : List Pr) (L : List (Int × Int)), (pre.foldl (runStep f) L).length ≤ L.length + pre.length
  | [], L => by simp
  | y :: pre, L => by
    have h1 := foldl_runStep_len f pre (runStep f L y)
    have h2 := runStep_len f L y
    simp only [List.foldl_cons, List.length_cons]; omega
theorem runsF_len (f : P3 → P3 → Int × Int) (pre : List Pr) : (runsF f pre).length ≤ pre.length := by
  have := foldl_runStep_len f pre []; simpa [runsF] using this

theorem OwnRuns.grown {base : Nat} {X Y : World} {row : Option Nat} {v : Value} {L : List (Int × Int)} (ho : OwnRuns base X v L) (hg : X.grownBy Y row) (hr : ∀ r, row = some r → ∃ o : Obj, X.heap[r]? = some o ∧ o.isCells = false) : OwnRuns base Y v L := by
  have ho' : X.ownsRow base 30 2 v L.length (runCells L) := ho
  refine World.ownsRow.kept ho' hg ?_
  rcases ho'.2 with ⟨h1, _⟩ | ⟨g3, cap3, cur3, h1, _, h2, _⟩
  · left; rw [h1]; rfl
  · right
    rw [h1]
    intro e
    obtain ⟨o, ho2, hc⟩ := hr g3 (by rw [← e]; rfl)
    rw [h2] at ho2
    cases ho2; cases hc
theorem OwnRuns.mono {base base' : Nat} {X : World} {v : Value} {L : List (Int × Int)} (ho : OwnRuns base X v L) (hb : base' ≤ base) : OwnRuns base' X v L := World.ownsRow.mono ho hb
theorem RunsN.grown {g base : Nat} {X Y : World} {row : Option Nat} {L : List (Int × Int)} (h : RunsN g base X L) (hg : X.grownBy Y row) (hr : ∀ r, row = some r → ∃ o : Obj, X.heap[r]? = some o ∧ o.isCells = false) : RunsN g base Y L := by
  have hcell : ∀ (cs : Array Value), Blk X g 170 cs → Blk Y g 170 cs := fun cs hb =>
    hb.grown hg (fun e' => by obtain ⟨o, ho, hc⟩ := hr g e'.symm; rw [show X.heap[g]? = _ from hb] at ho; cases ho; cases hc)
  rcases h with ⟨rfl, h⟩ | ⟨hne, v, hb, ho⟩
  · exact .inl ⟨rfl, hcell _ h⟩
  · exact .inr ⟨hne, v, hcell _ hb, ho.grown hg hr⟩
theorem RunsN.alloc {g base : Nat} {X : World} {L : List (Int × Int)} (h : RunsN g base X L) (o : Obj) : RunsN g base (X.alloc o) L := h.grown (World.grownBy_alloc X o none) (fun _ e => by cases e)
theorem RunsN.below {g base : Nat} {X Y : World} {L : List (Int × Int)} (h : RunsN g base X L) (hb : Below X.heap.size X Y) : RunsN g base Y L := h.grown (below_grownNone hb) (fun _ e => by cases e)
theorem Most.below {base g n : Nat} {w w' : World} (h : Most base g w w') (h1 : n ≤ base) (h2 : n ≤ g) : Below n w w' := ⟨h.1, h.2.1, h.2.2.1, h.2.2.2.1, fun k hk => h.2.2.2.2 k (by omega) (by omega)⟩
theorem Blk.most {base g j : Nat} {w w' : World} {t : TypeId} {cs : Array Value} (hb : Blk w j t cs) (h : Most base g w w') (h1 : j < base) (h2 : j ≠ g) : Blk w' j t cs := by
  unfold Blk at hb ⊢
  rw [h.2.2.2.2 j h1 h2]; exact hb
theorem below_then' {n : Nat} {X Y Z : World} (h : Below n X Y) (hb : Below Y.heap.size Y Z) (a b : Int) (hn : n ≤ Y.heap.size) : Below n X (Z.alloc (.cells #[.int .i64 a, .int .i64 b] 30)) :=
  (h.trans (hb.mono hn)).alloc (Nat.le_trans hn hb.size) _
def GivesRuns (w : World) (L : List (Int × Int)) (e : Ending) (w' : World) : Prop := ∃ v, e = .returned v ∧ OwnRuns w.heap.size w' v L ∧ Below w.heap.size w w'
@[reducible] def whereFn (Br : Nat) : Value := .func (.func 101) #[] #[.pointer (some ⟨Br, 0, none⟩)]

set_option maxRecDepth 100000 in
set_option maxHeartbeats 4000000 in
theorem collect_where (b0 o n c Br : Nat) (ps : List P3) (xs : List Pr) (lo hi : Int) (w : World) (hn : n = ps.length) (h2 : 1 ≤ n) (hb : b0 < w.heap.size) (ht : tabOk ps = true) (hxs : xs.map (·.1) = pcs ps) (hc : PtsAt w b0 o ps)
    (hr : Blk w Br 30 #[.int .i64 lo, .int .i64 hi]) :
    Calls Tryz.prog 100 #[tv (some ⟨b0, o, none⟩) n c, whereFn Br] w fun e w' => GivesRuns w (runsF (whereS lo hi) xs) e w' := by
  have h40 := (tabOk_len ht).2
  have hml : n ≤ maxLen := by unfold maxLen; omega
  have hn40 : n ≤ 40 := by omega
  have hbr := hr.lt
  have HN := Lib.hid hn; clear hn
  have HT := Lib.hid ht; clear ht
  have HX := Lib.hid hxs; clear hxs
  refine (callsIn_wide (n := 6)).1 ?_
  refine callsIn_of_wp_marks Tryz.func100 rfl trivial ?_ rfl
  simp only [Tryz.ntmps100, List.size_toArray, List.length_cons, List.length_nil, Nat.reduceAdd, Nat.reduceSub, Array.replicate_succ, Array.replicate_zero, List.push_toArray, List.append_toArray, List.nil_append, List.cons_append]
  gi_wp2_with (refine ⟨trivial, ?_⟩; gi_at_call 148; refine (callsIn_wide.2 (pieces_any _ _ _ _)).mono ?_; rintro e w' ⟨rfl, rfl⟩)
  have bF := (((Blk.new (w.alloc (.cells #[.slice (some ⟨b0, o, none⟩) n c] 48)) 141 #[whereFn Br]).alloc (.cells #[.slice none 0 0] 170)).alloc (.cells #[.pointer (some ⟨w.heap.size + 1 + 1, 0, none⟩)] 168)).alloc (.cells #[.slice (some ⟨b0, o, none⟩) n c] 48)
  have bG := ((Blk.new ((w.alloc (.cells #[.slice (some ⟨b0, o, none⟩) n c] 48)).alloc (.cells #[whereFn Br] 141)) 170 #[.slice none 0 0]).alloc (.cells #[.pointer (some ⟨w.heap.size + 1 + 1, 0, none⟩)] 168)).alloc (.cells #[.slice (some ⟨b0, o, none⟩) n c] 48)
  have bL := (Blk.new (((w.alloc (.cells #[.slice (some ⟨b0, o, none⟩) n c] 48)).alloc (.cells #[whereFn Br] 141)).alloc (.cells #[.slice none 0 0] 170)) 168 #[.pointer (some ⟨w.heap.size + 1 + 1, 0, none⟩)]).alloc (.cells #[.slice (some ⟨b0, o, none⟩) n c] 48)
  have bT := Blk.new ((((w.alloc (.cells #[.slice (some ⟨b0, o, none⟩) n c] 48)).alloc (.cells #[whereFn Br] 141)).alloc (.cells #[.slice none 0 0] 170)).alloc (.cells #[.pointer (some ⟨w.heap.size + 1 + 1, 0, none⟩)] 168)) 48 #[.slice (some ⟨b0, o, none⟩) n c]
  simp only [World.size_alloc] at bF bG bL bT
  have hE : Below w.heap.size w (((((w.alloc (.cells #[.slice (some ⟨b0, o, none⟩) n c] 48)).alloc (.cells #[whereFn Br] 141)).alloc (.cells #[.slice none 0 0] 170)).alloc (.cells #[.pointer (some ⟨w.heap.size + 1 + 1, 0, none⟩)] 168)).alloc (.cells #[.slice (some ⟨b0, o, none⟩) n c] 48)) := below_a3 (below_a2 (Below.refl _ _))
  have hsz : (((((w.alloc (.cells #[.slice (some ⟨b0, o, none⟩) n c] 48)).alloc (.cells #[whereFn Br] 141)).alloc (.cells #[.slice none 0 0] 170)).alloc (.cells #[.pointer (some ⟨w.heap.size + 1 + 1, 0, none⟩)] 168)).alloc (.cells #[.slice (some ⟨b0, o, none⟩) n c] 48)).heap.size = w.heap.size + 5 := by simp
  obtain ⟨W0, hW0⟩ : ∃ W0, (((((w.alloc (.cells #[.slice (some ⟨b0, o, none⟩) n c] 48)).alloc (.cells #[whereFn Br] 141)).alloc (.cells #[.slice none 0 0] 170)).alloc (.cells #[.pointer (some ⟨w.heap.size + 1 + 1, 0, none⟩)] 168)).alloc (.cells #[.slice (some ⟨b0, o, none⟩) n c] 48)) = W0 := ⟨_, rfl⟩
  rw [hW0] at bF bG bL bT hE hsz ⊢
  clear hW0
  have hc0 := hc.below hE hb
  have hr0 := hr.below hE hbr
  have HE := Lib.hid hE
  clear hE hc hr
  refine wpIn_rangeFunc_ownH rfl (by omega) (gf := 187) (lb := #[.pointer (some ⟨w.heap.size + 1 + 1 + 1 + 1, 0, none⟩)]) rfl trivial (enters_of Tryz.func187 (by kernel_rfl) rfl)
    (rise_stops xs (6 - 1) (by omega) (w.heap.size + 1 + 1 + 1 + 1) w.heap.size b0 o n c ps HN.out h2 hn40 HX.out hb W0 (by omega) (by omega) (bT.cell 0) hc0) belowK_t (belowK_b (by omega)) (Below.refl _ _) (fun _ => rfl)
    (fun pre W => (Blk W (w.heap.size + 1) 141 #[whereFn Br] ∧ Blk W (w.heap.size + 1 + 1 + 1) 168 #[.pointer (some ⟨w.heap.size + 1 + 1, 0, none⟩)] ∧ Blk W Br 30 #[.int .i64 lo, .int .i64 hi] ∧ RunsN (w.heap.size + 1 + 1) W0.heap.size W (runsF (whereS lo hi) pre)) ∧ Below w.heap.size W0 W)
    (fun _ _ _ => False)
    (OwnFrom.and (Own.from (fun s X Y row hs hg hr => ⟨blk_own (β := Unit) _ _ (fun _ => _) () X Y row hs.1 hg hr, blk_own (β := Unit) _ _ (fun _ => _) () X Y row hs.2.1 hg hr, blk_own (β := Unit) _ _ (fun _ => _) () X Y row hs.2.2.1 hg hr, hs.2.2.2.grown hg hr⟩) _) (ownFrom_below (by omega) (by omega)))
    (fun _ _ _ _ _ hs _ _ => hs)
    ⟨⟨bF, bL, hr0, .inl ⟨rfl, bG⟩⟩, Below.refl _ _⟩
    (fun y a' W => ∃ Bx, w.heap.size + 1 + 1 + 1 < Bx ∧ Blk W Bx 138 #[.int .i64 y.1.1.1, .int .i64 y.1.1.2.1, .int .i64 y.1.1.2.2, .int .i64 y.1.2.1, .int .i64 y.1.2.2.1, .int .i64 y.1.2.2.2] ∧ a' = { tmps := #[tv (some ⟨b0, o, none⟩) n c, whereFn Br, .pointer (some ⟨w.heap.size, 0, none⟩), .pointer (some ⟨w.heap.size + 1, 0, none⟩), .slice none 0 0, .pointer (some ⟨w.heap.size + 1 + 1 + 1, 0, none⟩), .pointer (some ⟨Bx, 0, none⟩), undef, .agg #[.slice none 0 0], .pointer (some ⟨w.heap.size + 1 + 1, 0, none⟩), .agg #[.slice (some ⟨b0, o, none⟩) n c], .func (.func 187) #[] #[.pointer (some ⟨w.heap.size + 1 + 1 + 1 + 1, 0, none⟩)], pv y.1.1 y.1.2, undef, undef, undef, undef, undef, undef, undef, undef, undef, undef, undef, undef, undef, undef, undef], defers := [] })
    (fun y a' _ X Y row hs hg hr => by
      obtain ⟨Bx, h1, h2, h3⟩ := hs
      exact ⟨Bx, h1, blk_own (β := Unit) _ _ (fun _ => _) () X Y row h2 hg (fun r e => (hr r e).2), h3⟩)
    ?assign ?body ?done ?stop
  case assign =>
    rintro l pre y W K ⟨⟨i1, i2, i3, i4⟩, hB1⟩ hK
    gi_wp2
    have hBs := hB1.size
    exact hK _ _ ((KeepsOthers.alloc _ _).from _) ((Below.refl _ W).alloc (by omega) _) ⟨⟨i1.alloc _, i2.alloc _, i3.alloc _, i4.alloc _⟩, hB1.alloc (by omega) _⟩ ⟨W.heap.size, by omega, Blk.new W 138 _, rfl⟩
  case body =>
    rintro l pre y a' W hl ⟨r, hr⟩ ⟨⟨i1, i2, i3, i4⟩, hB1⟩ ⟨Bx, hBx, bP, rfl⟩ hlt
    have x1 := i1.cell 0
    have x2 := i2.cell 0
    have p0 := bP.cell 0
    have p1 := bP.cell 1
    have p2 := bP.cell 2
    have p3 := bP.cell 3
    have p4 := bP.cell 4
    have p5 := bP.cell 5
    simp at x1 x2 p0 p1 p2 p3 p4 p5
    have hBs := hB1.size
    have J1 := Lib.hid i1; have J2 := Lib.hid i2; have J3 := Lib.hid i3; have J4 := Lib.hid i4; have JB := Lib.hid hB1
    clear i1 i2 i3 i4 hB1 bP
    have hy3 := y.2.2.2
    gi_wp2_with fail
    refine ⟨trivial, ?_⟩
    refine (CallsIn.inRound l (callsIn_wide.2 (whereAsk Br y.1.1 y.1.2 lo hi W J3.out y.2.1 y.2.2.1 (by omega)))).mono ?_
    rintro e W2 ⟨rfl, hb2⟩
    have hs2 := hb2.size
    generalize hR : whereS lo hi y.1.1 y.1.2 = R
    obtain ⟨ra, rb⟩ := R
    dsimp only
    have HR := Lib.hid hR; clear hR
    have hOb : Below W.heap.size W (W2.alloc (.cells #[.int .i64 ra, .int .i64 rb] 30)) := below_then hb2 ((Below.refl _ _).alloc (Nat.le_refl _) _)
    have k1 := (J1.out.below hb2 J1.out.lt).alloc (.cells #[.int .i64 ra, .int .i64 rb] 30)
    have k2 := (J2.out.below hb2 J2.out.lt).alloc (.cells #[.int .i64 ra, .int .i64 rb] 30)
    have k3 := (J3.out.below hb2 J3.out.lt).alloc (.cells #[.int .i64 ra, .int .i64 rb] 30)
    have k4 := (J4.out.below hb2).alloc (.cells #[.int .i64 ra, .int .i64 rb] 30)
    have kR := Blk.new W2 30 #[.int .i64 ra, .int .i64 rb]
    have kB := below_then' JB.out hb2 ra rb (by omega)
    have kK := keeps_below W0.heap.size hOb
    have kN := hOb.mono (show w.heap.size ≤ W.heap.size by omega)
    have z1 := (J2.out.below hb2 J2.out.lt).cell 0
    simp at z1
    have L1 := Lib.hid k1; have L2 := Lib.hid k2; have L3 := Lib.hid k3; have L4 := Lib.hid k4; have LR := Lib.hid kR; have LB := Lib.hid kB; have LK := Lib.hid kK; have LN := Lib.hid kN
    clear x1 x2 p0 p1 p2 p3 p4 p5 k1 k2 k3 k4 kR kB kK kN hb2 hOb
    have hza : w.heap.size + 1 + 1 + 1 < W2.heap.size := by omega
    by_cases hle : ra ≤ rb
    · gi_wp2_with fail
      refine ⟨trivial, ?_⟩
      have hpl : pre.length ≤ 1000000 := by have h1 := HN.out; have h2' := congrArg List.length HX.out; have h3' := pcs_len ps; simp at h2'; omega
      refine (CallsIn.inRound l (callsIn_wide.2 (runsAdd_any (w.heap.size + 1 + 1) W0.heap.size (runsF (whereS lo hi) pre) ra rb (W2.alloc (.cells #[.int .i64 ra, .int .i64 rb] 30)) L4.out (by simp; omega) (Nat.le_trans (runsF_len _ _) hpl)))).mono ?_
      rintro e W3 ⟨rfl, hA3, hM3, hK3⟩
      have m1 := L1.out.most hM3 (by omega) (by omega)
      have m2 := L2.out.most hM3 (by omega) (by omega)
      have m3 := L3.out.most hM3 (by omega) (by omega)
      have mN := hM3.below (n := w.heap.size) (by omega) (by omega)
      have H3 := Lib.hid hA3; have HK3 := Lib.hid hK3; have M1 := Lib.hid m1; have M2 := Lib.hid m2; have M3 := Lib.hid m3; have MN := Lib.hid mN
      clear hA3 hM3 hK3 m1 m2 m3 mN
      gi_wp2
      have q1 : KeepsFrom W0.heap.size W W3 := LK.out.trans (HK3.out.from _)
      have q2 : Below w.heap.size W W3 := LN.out.trans MN.out
      have q3 : Below w.heap.size W0 W3 := LB.out.trans MN.out
      refine ⟨q1, q2, ⟨M1.out, M2.out, M3.out, ?_⟩, q3⟩
      rw [runsF_snoc]; unfold runStep; rw [HR.out, if_pos hle]; exact .inr ⟨addRun_ne _ _, H3.out⟩
    · gi_wp2
      rw [← hsz]
      refine ⟨LK.out, LN.out, ⟨L1.out, L2.out, L3.out, ?_⟩, LB.out⟩
      rw [runsF_snoc]; unfold runStep; rw [HR.out, if_neg (show ¬ ra ≤ rb by omega)]; exact L4.out
  case done =>
    rintro D ys W hD rfl ⟨⟨i1, i2, i3, i4⟩, hB1⟩ hK
    have x2 := i2.cell 0
    simp at x2
    have hBs := hB1.size
    obtain ⟨v, hbv, hov⟩ : ∃ v, Blk W (w.heap.size + 1 + 1) 170 #[v] ∧ OwnRuns W0.heap.size W v (runsF (whereS lo hi) ys) := by
      rcases i4 with ⟨h1, h2⟩ | ⟨_, v, h1, h2⟩
      · exact ⟨_, h2, by rw [h1]; exact World.ownsRow_nil _ _ _ _⟩
      · exact ⟨v, h1, h2⟩
    have x3 := hbv.cell 0
    simp at x3
    have JB := Lib.hid hB1; have JV := Lib.hid hov
    clear i1 i2 i3 i4 hB1 hov
    gi_wp2
    refine ⟨by simp, .inl ⟨_, _, rfl, run_takeDeferred hK, ?_⟩⟩
    refine ⟨v, ?_, v, rfl, (JV.out.grown (grownBy_putObj' W D (.deferred none)) (fun r e => by injection e with e; subst e; exact ⟨_, hK, rfl⟩)).mono (by omega), ?_⟩
    · simp [results, Tryz.f100, go_sem]
    · exact (HE.out.trans JB.out).trans (belowK_b (w := W0) (by omega) _ D _ _ (by omega) hK rfl rfl)
  case stop =>
    rintro D cd pre W _ _ h _
    exact h.elim
end

section
open Go.RowKit

def AskedA (w : World) (Bp Br : Nat) (p q : P3) (lv : Int) : Prop := Blk w Bp 138 (pCells p q) ∧ Blk w Br 3 #[.int .i64 lv] ∧ Okp p ∧ Okp q
theorem AskedA.below {w w' : World} {Bp Br : Nat} {p q : P3} {lv : Int} (h : AskedA w Bp Br p q lv) (hB : Below w.heap.size w w') : AskedA w' Bp Br p q lv :=
  ⟨h.1.below hB h.1.lt, h.2.1.below hB h.2.1.lt, h.2.2⟩
theorem AskedA.drew {w : World} {Bp Br : Nat} {p q : P3} {lv : Int} (h : AskedA w Bp Br p q lv) : AskedA w.drew Bp Br p q lv := h
def SixOne (Bp Br : Nat) (p q : P3) (lv : Int) (w : World) : Prop :=
  w.cell? ⟨Bp, 0, none⟩ = some (.int .i64 p.1) ∧ w.cell? ⟨Bp, 1, none⟩ = some (.int .i64 p.2.1) ∧ w.cell? ⟨Bp, 2, none⟩ = some (.int .i64 p.2.2) ∧ w.cell? ⟨Bp, 3, none⟩ = some (.int .i64 q.1) ∧ w.cell? ⟨Bp, 4, none⟩ = some (.int .i64 q.2.1) ∧ w.cell? ⟨Bp, 5, none⟩ = some (.int .i64 q.2.2) ∧ w.cell? ⟨Br, 0, none⟩ = some (.int .i64 lv)
theorem SixOne.of {Bp Br : Nat} {p q : P3} {lv : Int} {w : World} (h : Blk w Bp 138 (pCells p q)) (h' : Blk w Br 3 #[.int .i64 lv]) : SixOne Bp Br p q lv w :=
  ⟨h.cell 0, h.cell 1, h.cell 2, h.cell 3, h.cell 4, h.cell 5, h'.cell 0⟩
theorem SixOne.below {Bp Br : Nat} {p q : P3} {lv : Int} {w w' : World} (h : SixOne Bp Br p q lv w) (hB : Below w.heap.size w w') (h1 : Bp < w.heap.size) (h2 : Br < w.heap.size) : SixOne Bp Br p q lv w' := by
  have k := (bcell hB).1
  obtain ⟨a0, a1, a2, a3, a4, a5, b0⟩ := h
  exact ⟨(k _ _ h1).trans a0, (k _ _ h1).trans a1, (k _ _ h1).trans a2, (k _ _ h1).trans a3, (k _ _ h1).trans a4, (k _ _ h1).trans a5, (k _ _ h2).trans b0⟩

section
open Go.Shelf
attribute [local go_sem] Oper.semAt_some
end
end

section
open Go.RowKit Go.Shelf

def GivesRunsOk (w : World) (L : List (Int × Int)) (e : Ending) (w' : World) : Prop := ∃ v, e = .returned (.tuple #[v, .int .i64 0]) ∧ OwnRuns w.heap.size w' v L ∧ Below w.heap.size w w'

set_option maxRecDepth 100000 in
set_option maxHeartbeats 2000000 in
theorem where_good (b0 o n c : Nat) (ps : List P3) (xs : List Pr) (lo hi : Int) (w : World) (hn : n = ps.length) (h2 : 1 ≤ n) (hb : b0 < w.heap.size) (ht : tabOk ps = true) (hr : vR lo hi = true) (hxs : xs.map (·.1) = pcs ps) (hc : PtsAt w b0 o ps) :
  Calls Tryz.prog 61 #[tv (some ⟨b0, o, none⟩) n c, rv lo hi] w (GivesRunsOk w (runsF (whereS lo hi) xs)) := by
 have h40 := (tabOk_len ht).2
 have hml : n ≤ maxLen := by unfold maxLen; omega
 have HN := Lib.hid hn; clear hn
 have HT := Lib.hid ht; clear ht
 have HR := Lib.hid hr; clear hr
 have HX := Lib.hid hxs; clear hxs
 have hB0 : Below w.heap.size w ((w.alloc (.cells #[.slice (some ⟨b0, o, none⟩) n c] 48)).alloc (.cells #[.int .i64 lo, .int .i64 hi] 30)) := below_a2 (Below.refl _ _)
 have HC := Lib.hid (hc.below hB0 hb); clear hc
 have hb0 : b0 < ((w.alloc (.cells #[.slice (some ⟨b0, o, none⟩) n c] 48)).alloc (.cells #[.int .i64 lo, .int .i64 hi] 30)).heap.size := by simp; omega
 have bT := (Blk.new w 48 #[.slice (some ⟨b0, o, none⟩) n c]).alloc (.cells #[.int .i64 lo, .int .i64 hi] 30)
 have bR := Blk.new (w.alloc (.cells #[.slice (some ⟨b0, o, none⟩) n c] 48)) 30 #[.int .i64 lo, .int .i64 hi]
 simp only [World.size_alloc] at bR
 have HB := Lib.hid hb0; have HBT := Lib.hid bT; have HBR := Lib.hid bR; have HB0 := Lib.hid hB0
 clear hb0 bT bR hB0
 go_enter Tryz.func61, Tryz.ntmps61
 go_wp2_with fail
 refine (checkTable_to _ n c ps _ _ _ HN.out hml (HC.out.pts HB.out) HT.out rfl).mono ?_
 rintro e w1 ⟨rfl, hb1⟩
 have bT1 := HBT.out.below hb1 HBT.out.lt
 have bR1 := HBR.out.below hb1 HBR.out.lt
 have P1 := HC.out.below hb1 HB.out
 have hB1 := below_then HB0.out hb1
 have hz1 : w.heap.size + 1 < w1.heap.size := by have := hb1.size; simp at this; omega
 have r0 := bR1.cell 0
 have r1 := bR1.cell 1
 simp at r0 r1
 have HBT1 := Lib.hid bT1; have HBR1 := Lib.hid bR1; have HP1 := Lib.hid P1; have HB1 := Lib.hid hB1
 clear bT1 bR1 P1 hB1 hb1
 have hza : w.heap.size < w1.heap.size := by omega
 go_wp2_with fail
 refine (checkRange_ok lo hi _ HR.out).mono ?_
 rintro e w2 ⟨rfl, hb2⟩
 have bT2 := HBT1.out.below hb2 HBT1.out.lt
 have bR2 := HBR1.out.below hb2 HBR1.out.lt
 have P2 := HP1.out.below hb2 (by omega)
 have hB2 := below_then HB1.out hb2
 have hz2 : w.heap.size + 1 < w2.heap.size := by have := hb2.size; omega
 have t0 := bT2.cell 0
 simp at t0
 have hzc : w.heap.size < w2.heap.size := by omega
 have HBR2 := Lib.hid bR2; have HP2 := Lib.hid P2; have HB2 := Lib.hid hB2
 clear bT2 bR2 P2 hB2 hb2 r0 r1
 go_wp2_with fail
 refine (collect_where b0 o n c (w.heap.size + 1) ps xs lo hi w2 HN.out h2 (by omega) HT.out HX.out HP2.out HBR2.out).mono ?_
 rintro e w3 ⟨v, rfl, ho, hb3⟩
 have hB3 := below_then HB2.out hb3
 have HO := Lib.hid ho; have HB3 := Lib.hid hB3
 clear ho hB3 hb3
 go_wp2
 refine bodyPost_ret (v := .tuple #[v, .int .i64 0]) (by simp [results, Tryz.results61, go_sem]) rfl ⟨v, rfl, HO.out.mono (by omega), HB3.out⟩
end

section
theorem floor_same {A d N D : Int} (hd : 1 ≤ d) (hD : 1 ≤ D) (h : A * D = N * d) : A / d = N / D := by
  rw [← Int.mul_ediv_mul_of_pos_left A d (show 0 < D by omega), h, Int.mul_comm d D, Int.mul_ediv_mul_of_pos_left _ _ (by omega)]

def Summed (s : Int × Int × Int) (N D : Int) : Prop := 1 ≤ D ∧ 1 ≤ s.2.2 ∧ s.2.2 ≤ 1000000000000 ∧ 0 ≤ s.2.1 ∧ s.2.1 ≤ 2000000000000 ∧ -3000000000000000 ≤ s.1 ∧ s.1 ≤ 3000000000000000 ∧ (s.1 * s.2.2 + s.2.1) * D = N * s.2.2
theorem Summed.floor {s : Int × Int × Int} {N D : Int} (h : Summed s N D) : s.1 + s.2.1 / s.2.2 = N / D ∧ 0 ≤ s.2.1 / s.2.2 ∧ s.2.1 / s.2.2 ≤ 2000000000000 := by
  obtain ⟨hD, hd, hdm, hn, hn2, w1, w2, e⟩ := h
  refine ⟨?_, Int.ediv_nonneg hn (by omega), ?_⟩
  · rw [← floor_same hd hD e, Int.add_comm (s.1 * s.2.2), Int.add_mul_ediv_right _ _ (by omega), Int.add_comm]
  · have := Int.ediv_le_self s.2.2 hn
    omega
end

section
open Go.RowKit

abbrev xsOf (ps : List P3) : List Int := ps.map (·.1)
end

section
def Summed4 (s : Int × Int × Int × Int) (N D : Int) : Prop := 1 ≤ D ∧ 1 ≤ s.2.2.2 ∧ 0 ≤ s.2.2.1 ∧ s.2.2.1 < s.2.2.2 ∧ -3000000000000000 ≤ s.1 ∧ s.1 ≤ 3000000000000000 ∧ -3000000000000000 ≤ s.2.1 ∧ s.2.1 ≤ 3000000000000000 ∧ ((s.1 + s.2.1) * s.2.2.2 + s.2.2.1) * D = N * s.2.2.2
theorem Summed4.floor {s : Int × Int × Int × Int} {N D : Int} (h : Summed4 s N D) : s.1 + s.2.1 = N / D ∧ (decide (0 < s.2.2.1) = decide (0 < N % D)) := by
  obtain ⟨hD, hd, hn, hnd, v1, v2, w1, w2, e⟩ := h
  have hz : s.2.2.1 / s.2.2.2 = 0 := Int.ediv_eq_zero_of_lt hn hnd
  have e1 : s.1 + s.2.1 = N / D := by
    rw [← floor_same hd hD e, Int.add_comm ((s.1 + s.2.1) * s.2.2.2), Int.add_mul_ediv_right _ _ (by omega), hz, Int.zero_add]
  refine ⟨e1, ?_⟩
  have e2 := Int.mul_ediv_add_emod N D
  rw [← e1] at e2
  generalize s.1 + s.2.1 = T at *
  have e3 : s.2.2.1 * D = N % D * s.2.2.2 := by
    have : N % D = N - D * T := by omega
    rw [this]; grind
  have hr := Int.emod_nonneg N (show D ≠ 0 by omega)
  by_cases c : 0 < s.2.2.1
  · rw [decide_eq_true c]
    have : 0 < s.2.2.1 * D := Int.mul_pos c (by omega)
    have : N % D ≠ 0 := fun z => by rw [z, Int.zero_mul] at e3; omega
    rw [decide_eq_true (by omega)]
  · rw [decide_eq_false c]
    have z : s.2.2.1 = 0 := by omega
    rw [z, Int.zero_mul] at e3
    have : N % D = 0 := by
      rcases Int.mul_eq_zero.1 e3.symm with k | k <;> omega
    rw [decide_eq_false (by omega)]
end

section
open Go.RowKit

def placeS (ps : List P3) (n : Int) : Int := firstX ps + n % (lastX ps - firstX ps + 1)
theorem first_le_last {ps : List P3} (ht : tabOk ps = true) : firstX ps ≤ lastX ps := by
  have hl := (tabOk_len ht).1
  have e0 : ps[0]? = some (ps[0]'(by omega)) := List.getElem?_eq_getElem (by omega)
  have e1 : ps[ps.length - 1]? = some (ps[ps.length - 1]'(by omega)) := List.getElem?_eq_getElem (by omega)
  have := rising_le ht e0 e1 (by omega)
  have f0 : firstX ps = (ps[0]'(by omega)).1 := by unfold firstX; rw [List.head?_eq_getElem?, e0]; rfl
  have f1 : lastX ps = (ps[ps.length - 1]'(by omega)).1 := by unfold lastX; rw [List.getLast?_eq_getElem?, e1]; rfl
  omega
end

section
open Go.RowKit

def InTab (ps : List P3) (ys : List Int) : Prop := ys.length = ps.length ∧ ∀ (k : Nat) (p : P3) (y : Int), ps[k]? = some p → ys[k]? = some y → p.2.1 ≤ y ∧ y ≤ p.2.2
theorem InTab.tail {p : P3} {ps : List P3} {y : Int} {ys : List Int} (h : InTab (p :: ps) (y :: ys)) : (p.2.1 ≤ y ∧ y ≤ p.2.2) ∧ InTab ps ys :=
  ⟨h.2 0 p y rfl rfl, by have := h.1; simpa using this, fun k q z hq hz => h.2 (k + 1) q z (by simpa using hq) (by simpa using hz)⟩
def Within3 (qs ps : List P3) : Prop := qs.length = ps.length ∧ ∀ (k : Nat) (q p : P3), qs[k]? = some q → ps[k]? = some p → q.1 = p.1 ∧ p.2.1 ≤ q.2.1 ∧ q.2.1 ≤ q.2.2 ∧ q.2.2 ≤ p.2.2
theorem Within3.map_fst {qs ps : List P3} (h : Within3 qs ps) : xsOf qs = xsOf ps := by
  apply List.ext_getElem?
  intro k
  rw [List.getElem?_map, List.getElem?_map]
  rcases Nat.lt_or_ge k qs.length with c | c
  · have e1 : qs[k]? = some (qs[k]'c) := List.getElem?_eq_getElem c
    have e2 : ps[k]? = some (ps[k]'(by have := h.1; omega)) := List.getElem?_eq_getElem _
    rw [e1, e2]
    simp only [Option.map_some]
    rw [(h.2 k _ _ e1 e2).1]
  · rw [List.getElem?_eq_none c, List.getElem?_eq_none (by have := h.1; omega)]
theorem firstX_map (ps : List P3) : firstX ps = ((xsOf ps).head?).getD 0 := by
  unfold firstX; rw [List.head?_map]
theorem lastX_map (ps : List P3) : lastX ps = ((xsOf ps).getLast?).getD 0 := by
  unfold lastX; rw [List.getLast?_map]
theorem Within3.first {qs ps : List P3} (h : Within3 qs ps) : firstX qs = firstX ps := by rw [firstX_map, firstX_map, h.map_fst]
theorem Within3.last {qs ps : List P3} (h : Within3 qs ps) : lastX qs = lastX ps := by rw [lastX_map, lastX_map, h.map_fst]
theorem Within3.place {qs ps : List P3} (h : Within3 qs ps) (z : Int) : placeS qs z = placeS ps z := by unfold placeS; rw [h.first, h.last]
theorem cornersS_map (ps : List P3) (a b : Int) : cornersS ps a b = a :: ((xsOf ps).filter fun x => decide (a < x) && decide (x < b)) ++ (if a < b then [b] else []) := by
  unfold cornersS
  rw [List.filter_map]; rfl
theorem Within3.corners {qs ps : List P3} (h : Within3 qs ps) (a b : Int) : cornersS qs a b = cornersS ps a b := by rw [cornersS_map, cornersS_map, h.map_fst]

theorem piece_at {ps : List P3} {x : Int} (ht : tabOk ps = true) (h1 : firstX ps ≤ x) (h2 : x ≤ lastX ps) : ∃ (i : Nat) (pq : P3 × P3), (pcs ps)[i]? = some pq ∧ pq.1.1 ≤ x ∧ x ≤ pq.2.1 ∧ (∀ j, j < i → ∀ r, (pcs ps)[j]? = some r → r.2.1 < x) := by
  have hl := (tabOk_len ht).1
  rcases Nat.lt_or_ge ps.length 2 with hc | hc
  · obtain ⟨p, rfl⟩ : ∃ p, ps = [p] := List.length_eq_one_iff.1 (by omega)
    exact ⟨0, (p, p), rfl, h1, h2, fun j hj => by omega⟩
  · cases hf : (pcs ps).find? (fun pq => decide (x ≤ pq.2.1)) with
    | none =>
      exfalso
      rw [List.find?_eq_none] at hf
      have e1 : ps[ps.length - 2]? = some ps[ps.length - 2] := List.getElem?_eq_getElem (by omega)
      have e2 : ps[ps.length - 2 + 1]? = some ps[ps.length - 2 + 1] := List.getElem?_eq_getElem (by omega)
      have hm := hf _ (List.mem_of_getElem? (pcs_at hc e1 e2))
      simp only [decide_eq_true_eq] at hm
      have : lastX ps = (ps[ps.length - 2 + 1]'(by omega)).1 := by
        unfold lastX
        rw [List.getLast?_eq_getElem?, show ps.length - 1 = ps.length - 2 + 1 by omega, e2]; rfl
      omega
    | some pq =>
      obtain ⟨hx, i, li, hi, hb⟩ := List.find?_eq_some_iff_getElem.1 hf
      have hx' : x ≤ pq.2.1 := by simpa using hx
      have hi' : (pcs ps)[i]? = some pq := by rw [List.getElem?_eq_getElem li, hi]
      refine ⟨i, pq, hi', ?_, hx', fun j hj r hr => ?_⟩
      · cases i with
        | zero =>
          have hz := hi'
          rw [pcs_two hc, List.getElem?_zip_eq_some] at hz
          have hz0 := hz.1
          have : firstX ps = pq.1.1 := by unfold firstX; rw [List.head?_eq_getElem?, hz0]; rfl
          omega
        | succ k =>
          have lk : k < (pcs ps).length := by omega
          have h0 := hb k (by omega)
          have hr := pcs_before hc (List.getElem?_eq_getElem lk)
          have hz := hi'
          rw [pcs_two hc, List.getElem?_zip_eq_some] at hz
          rw [hz.1] at hr
          injection hr with hr
          simp only [Bool.not_eq_true', decide_eq_false_iff_not] at h0
          rw [hr]; omega
      · have lj := (List.getElem?_eq_some_iff.1 hr).1
        have h0 := hb j hj
        have e := List.getElem?_eq_getElem lj
        rw [hr] at e
        injection e with e
        simp only [Bool.not_eq_true', decide_eq_false_iff_not] at h0
        rw [e]; omega
end

section
open Go.RowKit

theorem piece_start {ps : List P3} (ht : tabOk ps = true) {i j : Nat} {pq r : P3 × P3} (hi : (pcs ps)[i]? = some pq) (hj : (pcs ps)[j]? = some r) (h : j < i) : r.2.1 ≤ pq.1.1 := by
  rcases Nat.lt_or_ge ps.length 2 with c | c
  · exfalso
    have hl := (tabOk_len ht).1
    obtain ⟨p, rfl⟩ : ∃ p, ps = [p] := List.length_eq_one_iff.1 (by omega)
    have := (List.getElem?_eq_some_iff.1 hi).1
    simp [pcs] at this
    omega
  · have h1 := pcs_before c hj
    have h2 := hi
    rw [pcs_two c, List.getElem?_zip_eq_some] at h2
    exact rising_le ht h1 h2.1 (by omega)
theorem piece_mem {ps : List P3} (ht : tabOk ps = true) {i : Nat} {pq : P3 × P3} (hi : (pcs ps)[i]? = some pq) : pq.1 ∈ ps ∧ pq.2 ∈ ps ∧ pq.1.1 ≤ pq.2.1 := by
  rcases Nat.lt_or_ge ps.length 2 with c | c
  · have hl := (tabOk_len ht).1
    obtain ⟨p, rfl⟩ : ∃ p, ps = [p] := List.length_eq_one_iff.1 (by omega)
    have : pq = (p, p) := by
      have := List.mem_of_getElem? hi
      simpa [pcs] using this
    subst this
    exact ⟨by simp, by simp, Int.le_refl _⟩
  · have h2 := hi
    rw [pcs_two c, List.getElem?_zip_eq_some] at h2
    have h1 := pcs_before c hi
    exact ⟨List.mem_of_getElem? h2.1, List.mem_of_getElem? h1, rising_le ht h2.1 h1 (by omega)⟩
theorem pAt_start (p q : P3) : pAt p q p.1 = (p.2.1, p.2.2) := by simp [pAt, riseS]
theorem atS_any {ps : List P3} (ht : tabOk ps = true) {i : Nat} {pq : P3 × P3} {x : Int} (hi : (pcs ps)[i]? = some pq) (h1 : pq.1.1 ≤ x) (h2 : x ≤ pq.2.1) : atS ps x = pAt pq.1 pq.2 x := by
  by_cases he : pq.1.1 = x
  · subst he
    rw [atS_point ht (piece_mem ht hi).1, pAt_start]
  · exact atS_piece hi h2 (fun j hj r hr => by have := piece_start ht hi hr hj; omega)

theorem riseS_up {u v D dy : Int} (h : u ≤ v) (hy : 0 ≤ dy) : riseS u D dy ≤ riseS v D dy :=
  Int.ediv_le_ediv (by omega) (Int.mul_le_mul_of_nonneg_right h hy)
theorem riseS_down {u v D dy : Int} (h : u ≤ v) (hy : dy ≤ 0) : riseS v D dy ≤ riseS u D dy :=
  Int.ediv_le_ediv (by omega) (by
    have := Int.mul_le_mul_of_nonneg_right h (show 0 ≤ -dy by omega)
    rw [Int.mul_neg, Int.mul_neg] at this; omega)
theorem pAt_low_way (p q : P3) : (∀ x y, x ≤ y → (pAt p q x).1 ≤ (pAt p q y).1) ∨ (∀ x y, x ≤ y → (pAt p q y).1 ≤ (pAt p q x).1) := by
  rcases Int.le_total 0 (q.2.1 - p.2.1) with c | c
  · exact .inl fun x y h => by have := riseS_up (D := q.1 - p.1) (show x - p.1 ≤ y - p.1 by omega) c; simp only [pAt]; omega
  · exact .inr fun x y h => by have := riseS_down (D := q.1 - p.1) (show x - p.1 ≤ y - p.1 by omega) c; simp only [pAt]; omega
end

section
open Go.RowKit Go.Shelf

def RunsP (w : World) (A : Option Addr) (L : List (Int × Int)) : Prop := L = [] ∨ ∃ b o, A = some ⟨b, o, none⟩ ∧ b < w.heap.size ∧ RunsMem w b o L
theorem RunsP.below {w w' : World} {A : Option Addr} {L : List (Int × Int)} (h : RunsP w A L) (hB : Below w.heap.size w w') : RunsP w' A L := by
  rcases h with h | ⟨b, o, h1, h2, h3⟩
  · exact .inl h
  · exact .inr ⟨b, o, h1, Nat.lt_of_lt_of_le h2 hB.size, h3.below hB h2⟩
theorem runCells_at : ∀ (L : List (Int × Int)) (k : Nat) (r : Int × Int), L[k]? = some r → (runCells L)[k * 2]? = some (.int .i64 r.1) ∧ (runCells L)[k * 2 + 1]? = some (.int .i64 r.2)
  | [], k, r, h => by simp at h
  | z :: L, 0, r, h => by simp at h; subst h; simp [runCells]
  | z :: L, k + 1, r, h => by
    have := runCells_at L k r (by simpa using h)
    have e : runCells (z :: L) = [Value.int .i64 z.1, .int .i64 z.2] ++ runCells L := by simp [runCells]
    rw [e, List.getElem?_append_right (by simp; omega), List.getElem?_append_right (by simp; omega)]
    rw [show (k + 1) * 2 - [Value.int .i64 z.1, .int .i64 z.2].length = k * 2 by simp; omega, show (k + 1) * 2 + 1 - [Value.int .i64 z.1, .int .i64 z.2].length = k * 2 + 1 by simp; omega]
    exact this
theorem OwnRuns.runsP {base : Nat} {w : World} {v : Value} {L : List (Int × Int)} (ho : OwnRuns base w v L) : ∃ A c, v = .slice A L.length c ∧ RunsP w A L := by
  have ho' : w.ownsRow base 30 2 v L.length (runCells L) := ho
  rcases Nat.lt_or_ge 0 L.length with hl | hl
  · obtain ⟨g, cap, rfl, _, h2⟩ := ho'.form hl
    refine ⟨_, _, rfl, .inr ⟨g, 0, rfl, h2, fun k p hp => ?_⟩⟩
    have hk := (List.getElem?_eq_some_iff.1 hp).1
    obtain ⟨a, b⟩ := runCells_at L k p hp
    have c0 := (ho'.cellAt (k * 2) (by omega)).trans a
    have c1 := (ho'.cellAt (k * 2 + 1) (by omega)).trans b
    rw [Nat.zero_add]
    exact ⟨c0, c1⟩
  · obtain rfl : L = [] := List.eq_nil_of_length_eq_zero (by omega)
    rcases ho'.2 with ⟨h, _⟩ | ⟨g, cap, _, h, _⟩
    · exact ⟨_, _, h, .inl rfl⟩
    · exact ⟨_, _, h, .inl rfl⟩
def GivesRow2 (w : World) (L : List (Int × Int)) (e : Ending) (w' : World) : Prop := ∃ A c, e = .returned (.tuple #[.slice A L.length c, .int .i64 0]) ∧ RunsP w' A L ∧ Below w.heap.size w w'
theorem givesRow2_of {w w' : World} {L : List (Int × Int)} {e : Ending} (h : GivesRunsOk w L e w') : GivesRow2 w L e w' := by
  obtain ⟨v, rfl, ho, hb⟩ := h
  obtain ⟨A, c, rfl, hp⟩ := ho.runsP
  exact ⟨A, c, rfl, hp, hb⟩
end

section
open Go.RowKit Go.Shelf

def overE (ps : List P3) (a b : Int) : Int := if tabOk ps = true then (if vR a b = true then placesS ps a b else 10) else 11
def overS (ps : List P3) (a b : Int) : Int × Int × Int := if overE ps a b = 0 then ((overGood ps a b).1, (overGood ps a b).2.1, 0) else (0, 0, overE ps a b)
theorem placesS_cases (ps : List P3) (a b : Int) (ht : tabOk ps = true) : placesS ps a b = 0 ∨ placesS ps a b = 4 := by
  unfold placesS; rw [if_pos ht]; split
  · exact .inl rfl
  · exact .inr rfl

set_option maxRecDepth 100000 in
set_option maxHeartbeats 4000000 in
theorem over_bad (A : Option Addr) (n c : Nat) (ps : List P3) (x y : Int) (w : World) (hn : n = ps.length) (hm : n ≤ maxLen) (hp : Pts w A ps) (h0 : overE ps x y ≠ 0) :
  Calls Tryz.prog 97 #[tv A n c, rv x y] w fun e w' => e = .returned (.tuple #[rv 0 0, .int .i64 (overE ps x y)]) ∧ Below w.heap.size w w' := by
 have hE : Below w.heap.size w (((w.alloc (.cells #[.slice A n c] 48)).alloc (.cells #[.int .i64 x, .int .i64 y] 30)).alloc (.cells #[.int .i64 0, .int .i64 0] 30)) := below_a3 (Below.refl _ _)
 have hK : Boxes (((w.alloc (.cells #[.slice A n c] 48)).alloc (.cells #[.int .i64 x, .int .i64 y] 30)).alloc (.cells #[.int .i64 0, .int .i64 0] 30)) [(w.heap.size + 1 + 1, 30, #[.int .i64 0, .int .i64 0]), (w.heap.size + 1, 30, #[.int .i64 x, .int .i64 y]), (w.heap.size, 48, #[.slice A n c])] := by
  have h1 : Boxes (w.alloc (.cells #[.slice A n c] 48)) [(w.heap.size, 48, #[.slice A n c])] := fun p hp => by
   have := List.mem_singleton.1 hp; subst this; exact Blk.new w _ _
  have h2 := (h1.new 30 #[.int .i64 x, .int .i64 y]).new 30 #[.int .i64 0, .int .i64 0]
  simp only [World.size_alloc] at h2
  exact h2
 have HP := Lib.hid (hp.below hE); have HE := Lib.hid hE; have HK := Lib.hid hK; have HN := Lib.hid hn
 clear hE hK hp hn
 by_cases ht : tabOk ps = true
 ·have CT : Hid (∀ W, Pts W A ps → Calls Tryz.prog 98 #[tv A n c] W fun e w' => e = .returned (.int .i64 0) ∧ Below W.heap.size W w') := Lib.hid fun W hW => checkTable_to A n c ps true 0 W HN.out hm hW ht rfl
  by_cases hr : vR x y = true
  ·have he : overE ps x y = 4 := by
    unfold overE at h0 ⊢
    rw [if_pos ht, if_pos hr] at h0 ⊢
    exact (placesS_cases ps x y ht).resolve_left h0
   have hpl : placesS ps x y = 4 := by unfold overE at he; rw [if_pos ht, if_pos hr] at he; exact he
   rw [he]
   have HPL := Lib.hid hpl; have HR := Lib.hid hr
   clear ht hr h0 he hpl
   go_enter Tryz.func97, Tryz.ntmps97
   go_wp2_with fail
   obtain ⟨W0, hW0⟩ : ∃ W0, ((w.alloc (.cells #[.slice A n c] 48)).alloc (.cells #[.int .i64 x, .int .i64 y] 30)).alloc (.cells #[.int .i64 0, .int .i64 0] 30) = W0 := ⟨_, rfl⟩
   rw [hW0] at HE HK HP ⊢
   clear hW0
   refine (CT.out _ HP.out).mono ?_
   rintro e w1 ⟨rfl, hb1⟩
   have HK1 := Lib.hid (HK.out.on hb1); have HE1 := Lib.hid (below_then HE.out hb1); have HP1 := Lib.hid (HP.out.below hb1)
   clear hb1 HK HE HP
   have q0 := (HK1.out _ (.tail _ (.head _))).cell 0
   have q1 := (HK1.out _ (.tail _ (.head _))).cell 1
   simp at q0 q1
   go_wp2_with fail
   refine (checkRange_ok x y _ HR.out).mono ?_
   rintro e w2 ⟨rfl, hb1⟩
   have HK2 := Lib.hid (HK1.out.on hb1); have HE2 := Lib.hid (below_then HE1.out hb1); have HP2 := Lib.hid (HP1.out.below hb1)
   clear hb1 HK1 HE1 HP1 q0 q1
   have q0 := (HK2.out _ (.tail _ (.head _))).cell 0
   have q1 := (HK2.out _ (.tail _ (.head _))).cell 1
   have q2 := (HK2.out _ (.tail _ (.tail _ (.head _)))).cell 0
   simp at q0 q1 q2
   go_wp2_with fail
   refine (checkPlaces_to _ n c ps x y 4 _ HN.out hm HP2.out HPL.out).mono ?_
   rintro e w3 ⟨rfl, hb1⟩
   have hO := (HK2.out.on hb1) _ (.head _)
   have HE3 := Lib.hid (below_then HE2.out hb1)
   have r0 := hO.cell 0
   have r1 := hO.cell 1
   have f0 := hO.frozen 0
   have f1 := hO.frozen 1
   have lT := hO.lt
   simp at r0 r1
   clear hb1 q0 q1 q2 hO
   go_wp2
   refine bodyPost_ret (v := .tuple #[rv 0 0, .int .i64 4]) (by simp [results, Tryz.results97, go_sem, r0, r1, lT]) rfl ⟨rfl, ?_⟩
   exact (HE3.out.setCell (p := ⟨w.heap.size + 1 + 1, 0, none⟩) (by simp; omega) _).setCell (p := ⟨w.heap.size + 1 + 1, 1, none⟩) (by simp; omega) _
  ·have hr' : vR x y = false := by simpa using hr
   have he : overE ps x y = 10 := by unfold overE; rw [if_pos ht, if_neg hr]
   rw [he]
   have HR := Lib.hid hr'
   clear ht hr hr' h0 he
   go_enter Tryz.func97, Tryz.ntmps97
   go_wp2_with fail
   obtain ⟨W0, hW0⟩ : ∃ W0, ((w.alloc (.cells #[.slice A n c] 48)).alloc (.cells #[.int .i64 x, .int .i64 y] 30)).alloc (.cells #[.int .i64 0, .int .i64 0] 30) = W0 := ⟨_, rfl⟩
   rw [hW0] at HE HK HP ⊢
   clear hW0
   refine (CT.out _ HP.out).mono ?_
   rintro e w1 ⟨rfl, hb1⟩
   have HK1 := Lib.hid (HK.out.on hb1); have HE1 := Lib.hid (below_then HE.out hb1)
   clear hb1 HK HE HP
   have q0 := (HK1.out _ (.tail _ (.head _))).cell 0
   have q1 := (HK1.out _ (.tail _ (.head _))).cell 1
   simp at q0 q1
   go_wp2_with fail
   refine (checkRange_bad x y _ HR.out).mono ?_
   rintro e w3 ⟨rfl, hb1⟩
   have hO := (HK1.out.on hb1) _ (.head _)
   have HE3 := Lib.hid (below_then HE1.out hb1)
   have r0 := hO.cell 0
   have r1 := hO.cell 1
   have f0 := hO.frozen 0
   have f1 := hO.frozen 1
   have lT := hO.lt
   simp at r0 r1
   clear hb1 q0 q1 hO
   go_wp2
   refine bodyPost_ret (v := .tuple #[rv 0 0, .int .i64 10]) (by simp [results, Tryz.results97, go_sem, r0, r1, lT]) rfl ⟨rfl, ?_⟩
   exact (HE3.out.setCell (p := ⟨w.heap.size + 1 + 1, 0, none⟩) (by simp; omega) _).setCell (p := ⟨w.heap.size + 1 + 1, 1, none⟩) (by simp; omega) _
 ·have ht' : tabOk ps = false := by simpa using ht
  have CT : Hid (∀ W, Pts W A ps → Calls Tryz.prog 98 #[tv A n c] W fun e w' => e = .returned (.int .i64 11) ∧ Below W.heap.size W w') := Lib.hid fun W hW => checkTable_to A n c ps false 11 W HN.out hm hW ht' rfl
  have he : overE ps x y = 11 := by unfold overE; rw [if_neg ht]
  rw [he]
  clear ht ht' h0 he
  go_enter Tryz.func97, Tryz.ntmps97
  go_wp2_with fail
  obtain ⟨W0, hW0⟩ : ∃ W0, ((w.alloc (.cells #[.slice A n c] 48)).alloc (.cells #[.int .i64 x, .int .i64 y] 30)).alloc (.cells #[.int .i64 0, .int .i64 0] 30) = W0 := ⟨_, rfl⟩
  rw [hW0] at HE HK HP ⊢
  clear hW0
  refine (CT.out _ HP.out).mono ?_
  rintro e w3 ⟨rfl, hb1⟩
  have hO := (HK.out.on hb1) _ (.head _)
  have HE3 := Lib.hid (below_then HE.out hb1)
  have r0 := hO.cell 0
  have r1 := hO.cell 1
  have f0 := hO.frozen 0
  have f1 := hO.frozen 1
  have lT := hO.lt
  simp at r0 r1
  clear hb1 hO HK HE HP
  go_wp2
  refine bodyPost_ret (v := .tuple #[rv 0 0, .int .i64 11]) (by simp [results, Tryz.results97, go_sem, r0, r1, lT]) rfl ⟨rfl, ?_⟩
  exact (HE3.out.setCell (p := ⟨w.heap.size + 1 + 1, 0, none⟩) (by simp; omega) _).setCell (p := ⟨w.heap.size + 1 + 1, 1, none⟩) (by simp; omega) _

theorem over_all (A : Option Addr) (n c : Nat) (ps : List P3) (x y : Int) (w : World) (hn : n = ps.length) (hm : n ≤ maxLen) (hp : Pts w A ps) :
    Calls Tryz.prog 97 #[tv A n c, rv x y] w fun e w' => e = .returned (rt (overS ps x y)) ∧ Below w.heap.size w w' := by
  by_cases h0 : overE ps x y = 0
  · have ht : tabOk ps = true := by
      cases h : tabOk ps
      · unfold overE at h0; rw [h] at h0; simp at h0
      · rfl
    have hr : vR x y = true := by
      cases h : vR x y
      · unfold overE at h0; rw [if_pos ht, h] at h0; simp at h0
      · rfl
    have hpl : placesS ps x y = 0 := by unfold overE at h0; rw [if_pos ht, if_pos hr] at h0; exact h0
    have h1 := (tabOk_len ht).1
    obtain ⟨b, o, rfl, hb, hc⟩ := hp.block h1
    unfold overS
    rw [if_pos h0]
    exact over_good b o n c ps x y w hn (by omega) hb ht hr hpl hc
  · unfold overS
    rw [if_neg h0]
    exact over_bad A n c ps x y w hn hm hp h0

def RunsE (w : World) (L : List (Int × Int)) (E : Int) (e : Ending) (w' : World) : Prop := ∃ A c, e = .returned (.tuple #[.slice A L.length c, .int .i64 E]) ∧ RunsP w' A L ∧ Below w.heap.size w w'
theorem runsE_of {w w' : World} {L : List (Int × Int)} {e : Ending} (h : GivesRunsOk w L e w') : RunsE w L 0 e w' := givesRow2_of h
theorem runsE_nil {w w' : World} {E : Int} {e : Ending} (h : e = .returned (.tuple #[.slice none 0 0, .int .i64 E]) ∧ Below w.heap.size w w') : RunsE w [] E e w' := ⟨none, 0, h.1, .inl rfl, h.2⟩
noncomputable def prs (ps : List P3) : List Pr := if h : tabOk ps = true then (rise_list h).choose else []
theorem prs_pcs {ps : List P3} (h : tabOk ps = true) : (prs ps).map (·.1) = pcs ps := by
  unfold prs; rw [dif_pos h]; exact (rise_list h).choose_spec
def whereE (ps : List P3) (a b : Int) : Int := if tabOk ps = true then (if vR a b = true then 0 else 10) else 11
set_option maxRecDepth 100000 in
set_option maxHeartbeats 2000000 in
theorem where_bad (A : Option Addr) (n c : Nat) (ps : List P3) (x y : Int) (w : World) (hn : n = ps.length) (hm : n ≤ maxLen) (hp : Pts w A ps) (h0 : whereE ps x y ≠ 0) :
  Calls Tryz.prog 61 #[tv A n c, rv x y] w fun e w' => e = .returned (.tuple #[.slice none 0 0, .int .i64 (whereE ps x y)]) ∧ Below w.heap.size w w' := by
 have hE : Below w.heap.size w ((w.alloc (.cells #[.slice A n c] 48)).alloc (.cells #[.int .i64 x, .int .i64 y] 30)) := below_a2 (Below.refl _ _)
 have hK := (Blk.new (w.alloc (.cells #[.slice A n c] 48)) 30 #[.int .i64 x, .int .i64 y])
 simp only [World.size_alloc] at hK
 have HP := Lib.hid (hp.below hE); have HE := Lib.hid hE; have HK := Lib.hid hK; have HN := Lib.hid hn
 clear hE hK hp hn
 by_cases ht : tabOk ps = true
 ·have CT : Hid (∀ W, Pts W A ps → Calls Tryz.prog 98 #[tv A n c] W fun e w' => e = .returned (.int .i64 0) ∧ Below W.heap.size W w') := Lib.hid fun W hW => checkTable_to A n c ps true 0 W HN.out hm hW ht rfl
  have hr : ¬ vR x y = true := fun hr => h0 (by unfold whereE; rw [if_pos ht, if_pos hr])
  have hr' : vR x y = false := by simpa using hr
  have he : whereE ps x y = 10 := by unfold whereE; rw [if_pos ht, if_neg hr]
  rw [he]
  have HR := Lib.hid hr'
  clear ht hr hr' h0 he
  go_enter Tryz.func61, Tryz.ntmps61
  go_wp2_with fail
  obtain ⟨W0, hW0⟩ : ∃ W0, (w.alloc (.cells #[.slice A n c] 48)).alloc (.cells #[.int .i64 x, .int .i64 y] 30) = W0 := ⟨_, rfl⟩
  rw [hW0] at HE HK HP ⊢
  clear hW0
  refine (CT.out _ HP.out).mono ?_
  rintro e w1 ⟨rfl, hb1⟩
  have HK1 := Lib.hid (blkOn HK.out hb1); have HE1 := Lib.hid (below_then HE.out hb1)
  clear hb1 HK HE HP
  have q0 := HK1.out.cell 0
  have q1 := HK1.out.cell 1
  simp at q0 q1
  go_wp2_with fail
  refine (checkRange_bad x y _ HR.out).mono ?_
  rintro e w3 ⟨rfl, hb1⟩
  have HE3 := Lib.hid (below_then HE1.out hb1)
  clear hb1 q0 q1
  go_wp2
  go_ret2
  exact ⟨rfl, HE3.out⟩
 ·have ht' : tabOk ps = false := by simpa using ht
  have CT : Hid (∀ W, Pts W A ps → Calls Tryz.prog 98 #[tv A n c] W fun e w' => e = .returned (.int .i64 11) ∧ Below W.heap.size W w') := Lib.hid fun W hW => checkTable_to A n c ps false 11 W HN.out hm hW ht' rfl
  have he : whereE ps x y = 11 := by unfold whereE; rw [if_neg ht]
  rw [he]
  clear ht ht' h0 he
  go_enter Tryz.func61, Tryz.ntmps61
  go_wp2_with fail
  refine (CT.out _ HP.out).mono ?_
  rintro e w3 ⟨rfl, hb1⟩
  have HE3 := Lib.hid (below_then HE.out hb1)
  clear hb1 HK HE HP
  go_wp2
  go_ret2
  exact ⟨rfl, HE3.out⟩
theorem where_all (A : Option Addr) (n c : Nat) (ps : List P3) (x y : Int) (w : World) (hn : n = ps.length) (hm : n ≤ maxLen) (hp : Pts w A ps) :
    Calls Tryz.prog 61 #[tv A n c, rv x y] w (RunsE w (if whereE ps x y = 0 then runsF (whereS x y) (prs ps) else []) (whereE ps x y)) := by
  by_cases h0 : whereE ps x y = 0
  · have ht : tabOk ps = true := by
      cases h : tabOk ps
      · unfold whereE at h0; rw [h] at h0; simp at h0
      · rfl
    have hr : vR x y = true := by
      cases h : vR x y
      · unfold whereE at h0; rw [if_pos ht, h] at h0; simp at h0
      · rfl
    have h1 := (tabOk_len ht).1
    obtain ⟨b, o, rfl, hb, hc⟩ := hp.block h1
    rw [if_pos h0, h0]
    exact (where_good b o n c ps (prs ps) x y w hn (by omega) hb ht hr (prs_pcs ht) hc).mono fun e w' h => runsE_of h
  · rw [if_neg h0]
    exact (where_bad A n c ps x y w hn hm hp h0).mono fun e w' h => runsE_nil h
end

section
open Go.RowKit

set_option maxRecDepth 100000 in
set_option maxHeartbeats 2000000 in
theorem hover_any (A : Option Addr) (n c : Nat) (ps : List P3) (x y : Int) (w : World) (hp : TabIn w A n ps) :
  Calls Tryz.prog 60 #[tv A n c, rv x y] w fun e w' => e = .returned (rv (overS ps x y).1 (overS ps x y).2.1) ∧ Below w.heap.size w w' := by
 have HE := Lib.hid (show Below w.heap.size w (((w.alloc (.cells #[.slice A n c] 48)).alloc (.cells #[.int .i64 x, .int .i64 y] 30)).alloc (.cells #[.int .i64 0, .int .i64 0] 30)) from below_a3 (Below.refl _ _))
 have HK := Lib.hid (boxes3' w 48 30 30 #[.slice A n c] #[.int .i64 x, .int .i64 y] #[.int .i64 0, .int .i64 0])
 have C : Hid (∀ W, Below w.heap.size w W → Calls Tryz.prog 97 #[tv A n c, rv x y] W fun e w' => e = .returned (rt (overS ps x y)) ∧ Below W.heap.size W w') := Lib.hid fun W hW => over_all A n c ps x y W hp.1 hp.2.1 (hp.2.2.below hW)
 clear hp
 generalize overS ps x y = r at *
 obtain ⟨a, b, e⟩ := r
 go_enter Tryz.func60, Tryz.ntmps60
 go_wp2_with fail
 obtain ⟨W0, hW0⟩ : ∃ W0, (((w.alloc (.cells #[.slice A n c] 48)).alloc (.cells #[.int .i64 x, .int .i64 y] 30)).alloc (.cells #[.int .i64 0, .int .i64 0] 30)) = W0 := ⟨_, rfl⟩
 rw [hW0] at HE HK ⊢
 clear hW0
 refine (C.out _ HE.out).mono ?_
 rintro e1 w1 ⟨rfl, hb⟩
 have HE1 := Lib.hid (below_then HE.out hb)
 have HE2 := Lib.hid (below_then HE1.out (below_alloc1 w1 (.cells #[.int .i64 a, .int .i64 b] 30)))
 have HKN := Lib.hid ((HK.out.on hb).new 30 #[.int .i64 a, .int .i64 b])
 have z := HKN.out _ (.tail _ (.head _))
 have z0 := z.cell 0
 have z1 := z.cell 1
 have f0 := z.frozen 0
 have f1 := z.frozen 1
 have l0 := (HK.out.on hb _ (.head _)).lt
 simp at z0 z1 f0 f1 l0
 have hl : w.heap.size + 1 + 1 ≠ w1.heap.size := by omega
 have hl2 : w1.heap.size ≠ w.heap.size + 1 + 1 := by omega
 clear hb HE C z l0 HE1
 go_wp2
 refine bodyPost_ret (v := rv a b) (by simp [results, Tryz.results60, go_sem, z0, z1, hl, hl2]) rfl ⟨rfl, ?_⟩
 repeat (first | exact HE2.out | refine Below.setCell ?_ (by simp <;> omega) _)
end

end Go.Proofs.YtekkiedlajhaiaaGreat
