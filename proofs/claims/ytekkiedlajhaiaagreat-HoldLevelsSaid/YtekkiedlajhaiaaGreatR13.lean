/- Plain: four, five, six blocks laid one by one. No conditions. -/
import Derived.Deep.QuietTactic
import Derived.BigQuiet
import Derived.Test.YtekkiedlajhaiaaGreatR09
import Derived.Test.YtekkiedlajhaiaaGreatR11
import Derived.Test.YtekkiedlajhaiaaGreatR10
import Derived.Test.YtekkiedlajhaiaaGreatR12
import Derived.Deep.Onto
import Derived.Test.YtekkiedlajhaiaaGreatR07
import Derived.Deep.DeepCutAuto
import Derived.Test.YtekkiedlajhaiaaGreatR04
set_option linter.unusedVariables false
set_option linter.unusedSimpArgs false
set_option linter.constructorNameAsVariable false
namespace Go.Proofs.YtekkiedlajhaiaaGreat

section
open Go.RowKit
attribute [local go_sem ↓] eqlRange neqRange
structure FillD where
  hold : Int
  st : Int
  x0 : Int
  x1 : Int
  d0 : Int
  d1 : Int
abbrev fillV (f : FillD) : Value := .agg #[.int .i64 f.hold, .int .i64 f.st, .int .i64 f.x0, .int .i64 f.x1, .int .i64 f.d0, .int .i64 f.d1]
def stateS (st : Int) (ne nd inp de : Bool) : Bool := (decide (st = 0) && (ne && nd)) || ((decide (1 ≤ st ∧ st ≤ 2) && (ne && de)) || (decide (3 ≤ st ∧ st ≤ 5) && (inp && de)))
def fillS (h : HoldD) (f : FillD) : Bool := decide (f.hold = h.id) && stateS f.st (f.x0 == 0 && f.x1 == 0) (f.d0 == 0 && f.d1 == 0) (inB f.x0 f.x1 (firstX h.vol) (lastX h.vol)) (densS f.d0 f.d1)
def fillErr (h : HoldD) (f : FillD) : Int := if holdS h = true then (if fillS h f = true then 0 else 22) else 20
theorem fillErr_of {h : HoldD} {f : FillD} {a b : Bool} (g : holdS h = a) (e : fillS h f = b) : fillErr h f = if a = true then (if b = true then 0 else 22) else 20 := by unfold fillErr; rw [g, e]
theorem hold_tab {h : HoldD} (e : holdS h = true) : tabOk h.vol = true := by
  cases hm : measuresS h.vol
  · unfold holdS amtRest ctRest at e
    rw [hm] at e
    simp at e
  · exact measures_ok hm
end

section
open Go.RowKit Go.Shelf
attribute [local go_sem] Oper.semAt_some
def runStep (f : P3 → P3 → Int × Int) (L : List (Int × Int)) (y : Pr) : List (Int × Int) := if (f y.1.1 y.1.2).1 ≤ (f y.1.1 y.1.2).2 then addRun L (f y.1.1 y.1.2) else L
def runsF (f : P3 → P3 → Int × Int) (pre : List Pr) : List (Int × Int) := pre.foldl (runStep f) []
theorem runsF_snoc (f : P3 → P3 → Int × Int) (pre : List Pr) (y : Pr) : runsF f (pre ++ [y]) = runStep f (runsF f pre) y := by simp [runsF]
theorem runStep_len (f : P3 → P3 → Int × Int) (L : List (Int × Int)) (y : Pr) : (runStep f L y).length ≤ L.length + 1 := by
  unfold runStep; split
  · exact addRun_len _ _
  · omega
theorem foldl_runStep_len (f : P3 → P3 → Int × Int) : ∀ (pre : List Pr) (L : List (Int × Int)), (pre.foldl (runStep f) L).length ≤ L.length + pre.length
  | [], L => by simp
  | y :: pre, L => by
    have h1 := foldl_runStep_len f pre (runStep f L y)
    have h2 := runStep_len f L y
    simp only [List.foldl_cons, List.length_cons]; omega
theorem runsF_len (f : P3 → P3 → Int × Int) (pre : List Pr) : (runsF f pre).length ≤ pre.length := by
  have := foldl_runStep_len f pre []; simpa [runsF] using this

theorem OwnRuns.grown {base : Nat} {X Y : World} {row : Option Nat} {v : Value} {L : List (Int × Int)} (ho : OwnRuns base X v L) (hg : X.grownBy Y row) (hr : ∀ r, row = some r → ∃ o : Obj, X.heap[r]? = some o ∧ o.isCells = false) : OwnRuns base Y v L := by
  have ho' : X.ownsRow base 30 2 v L.length (runCells L) := ho
  refine World.ownsRow.kept ho' hg ?_
  rcases ho'.2 with ⟨h1, _⟩ | ⟨g3, cap3, cur3, h1, _, h2, _⟩
  · left; rw [h1]; rfl
  · right
    rw [h1]
    intro e
    obtain ⟨o, ho2, hc⟩ := hr g3 (by rw [← e]; rfl)
    rw [h2] at ho2
    cases ho2; cases hc
theorem OwnRuns.mono {base base' : Nat} {X : World} {v : Value} {L : List (Int × Int)} (ho : OwnRuns base X v L) (hb : base' ≤ base) : OwnRuns base' X v L := World.ownsRow.mono ho hb
theorem RunsN.grown {g base : Nat} {X Y : World} {row : Option Nat} {L : List (Int × Int)} (h : RunsN g base X L) (hg : X.grownBy Y row) (hr : ∀ r, row = some r → ∃ o : Obj, X.heap[r]? = some o ∧ o.isCells = false) : RunsN g base Y L := by
  have hcell : ∀ (cs : Array Value), Blk X g 170 cs → Blk Y g 170 cs := fun cs hb =>
    hb.grown hg (fun e' => by obtain ⟨o, ho, hc⟩ := hr g e'.symm; rw [show X.heap[g]? = _ from hb] at ho; cases ho; cases hc)
  rcases h with ⟨rfl, h⟩ | ⟨hne, v, hb, ho⟩
  · exact .inl ⟨rfl, hcell _ h⟩
  · exact .inr ⟨hne, v, hcell _ hb, ho.grown hg hr⟩
theorem RunsN.alloc {g base : Nat} {X : World} {L : List (Int × Int)} (h : RunsN g base X L) (o : Obj) : RunsN g base (X.alloc o) L := h.grown (World.grownBy_alloc X o none) (fun _ e => by cases e)
theorem RunsN.below {g base : Nat} {X Y : World} {L : List (Int × Int)} (h : RunsN g base X L) (hb : Below X.heap.size X Y) : RunsN g base Y L := h.grown (below_grownNone hb) (fun _ e => by cases e)
theorem Most.below {base g n : Nat} {w w' : World} (h : Most base g w w') (h1 : n ≤ base) (h2 : n ≤ g) : Below n w w' := ⟨h.1, h.2.1, h.2.2.1, h.2.2.2.1, fun k hk => h.2.2.2.2 k (by omega) (by omega)⟩
theorem Blk.most {base g j : Nat} {w w' : World} {t : TypeId} {cs : Array Value} (hb : Blk w j t cs) (h : Most base g w w') (h1 : j < base) (h2 : j ≠ g) : Blk w' j t cs := by
  unfold Blk at hb ⊢
  rw [h.2.2.2.2 j h1 h2]; exact hb
theorem below_then' {n : Nat} {X Y Z : World} (h : Below n X Y) (hb : Below Y.heap.size Y Z) (a b : Int) (hn : n ≤ Y.heap.size) : Below n X (Z.alloc (.cells #[.int .i64 a, .int .i64 b] 30)) :=
  (h.trans (hb.mono hn)).alloc (Nat.le_trans hn hb.size) _
def GivesRuns (w : World) (L : List (Int × Int)) (e : Ending) (w' : World) : Prop := ∃ v, e = .returned v ∧ OwnRuns w.heap.size w' v L ∧ Below w.heap.size w w'
@[reducible] def whereFn (Br : Nat) : Value := .func (.func 101) #[] #[.pointer (some ⟨Br, 0, none⟩)]

set_option maxRecDepth 100000 in
set_option maxHeartbeats 4000000 in
theorem collect_where (b0 o n c Br : Nat) (ps : List P3) (xs : List Pr) (lo hi : Int) (w : World) (hn : n = ps.length) (h2 : 1 ≤ n) (hb : b0 < w.heap.size) (ht : tabOk ps = true) (hxs : xs.map (·.1) = pcs ps) (hc : PtsAt w b0 o ps)
    (hr : Blk w Br 30 #[.int .i64 lo, .int .i64 hi]) :
    Calls Tryz.prog 100 #[tv (some ⟨b0, o, none⟩) n c, whereFn Br] w fun e w' => GivesRuns w (runsF (whereS lo hi) xs) e w' := by
  have h40 := (tabOk_len ht).2
  have hml : n ≤ maxLen := by unfold maxLen; omega
  have hn40 : n ≤ 40 := by omega
  have hbr := hr.lt
  have HN := Lib.hid hn; clear hn
  have HT := Lib.hid ht; clear ht
  have HX := Lib.hid hxs; clear hxs
  refine (callsIn_wide (n := 6)).1 ?_
  refine callsIn_of_wp_marks Tryz.func100 rfl trivial ?_ rfl
  simp only [Tryz.ntmps100, List.size_toArray, List.length_cons, List.length_nil, Nat.reduceAdd, Nat.reduceSub, Array.replicate_succ, Array.replicate_zero, List.push_toArray, List.append_toArray, List.nil_append, List.cons_append]
  gi_wp2_with (refine ⟨trivial, ?_⟩; gi_at_call 148; refine (callsIn_wide.2 (pieces_any _ _ _ _)).mono ?_; rintro e w' ⟨rfl, rfl⟩)
  have bF := (((Blk.new (w.alloc (.cells #[.slice (some ⟨b0, o, none⟩) n c] 48)) 141 #[whereFn Br]).alloc (.cells #[.slice none 0 0] 170)).alloc (.cells #[.pointer (some ⟨w.heap.size + 1 + 1, 0, none⟩)] 168)).alloc (.cells #[.slice (some ⟨b0, o, none⟩) n c] 48)
  have bG := ((Blk.new ((w.alloc (.cells #[.slice (some ⟨b0, o, none⟩) n c] 48)).alloc (.cells #[whereFn Br] 141)) 170 #[.slice none 0 0]).alloc (.cells #[.pointer (some ⟨w.heap.size + 1 + 1, 0, none⟩)] 168)).alloc (.cells #[.slice (some ⟨b0, o, none⟩) n c] 48)
  have bL := (Blk.new (((w.alloc (.cells #[.slice (some ⟨b0, o, none⟩) n c] 48)).alloc (.cells #[whereFn Br] 141)).alloc (.cells #[.slice none 0 0] 170)) 168 #[.pointer (some ⟨w.heap.size + 1 + 1, 0, none⟩)]).alloc (.cells #[.slice (some ⟨b0, o, none⟩) n c] 48)
  have bT := Blk.new ((((w.alloc (.cells #[.slice (some ⟨b0, o, none⟩) n c] 48)).alloc (.cells #[whereFn Br] 141)).alloc (.cells #[.slice none 0 0] 170)).alloc (.cells #[.pointer (some ⟨w.heap.size + 1 + 1, 0, none⟩)] 168)) 48 #[.slice (some ⟨b0, o, none⟩) n c]
  simp only [World.size_alloc] at bF bG bL bT
  have hE : Below w.heap.size w (((((w.alloc (.cells #[.slice (some ⟨b0, o, none⟩) n c] 48)).alloc (.cells #[whereFn Br] 141)).alloc (.cells #[.slice none 0 0] 170)).alloc (.cells #[.pointer (some ⟨w.heap.size + 1 + 1, 0, none⟩)] 168)).alloc (.cells #[.slice (some ⟨b0, o, none⟩) n c] 48)) := below_a3 (below_a2 (Below.refl _ _))
  have hsz : (((((w.alloc (.cells #[.slice (some ⟨b0, o, none⟩) n c] 48)).alloc (.cells #[whereFn Br] 141)).alloc (.cells #[.slice none 0 0] 170)).alloc (.cells #[.pointer (some ⟨w.heap.size + 1 + 1, 0, none⟩)] 168)).alloc (.cells #[.slice (some ⟨b0, o, none⟩) n c] 48)).heap.size = w.heap.size + 5 := by simp
  obtain ⟨W0, hW0⟩ : ∃ W0, (((((w.alloc (.cells #[.slice (some ⟨b0, o, none⟩) n c] 48)).alloc (.cells #[whereFn Br] 141)).alloc (.cells #[.slice none 0 0] 170)).alloc (.cells #[.pointer (some ⟨w.heap.size + 1 + 1, 0, none⟩)] 168)).alloc (.cells #[.slice (some ⟨b0, o, none⟩) n c] 48)) = W0 := ⟨_, rfl⟩
  rw [hW0] at bF bG bL bT hE hsz ⊢
  clear hW0
  have hc0 := hc.below hE hb
  have hr0 := hr.below hE hbr
  have HE := Lib.hid hE
  clear hE hc hr
  refine wpIn_rangeFunc_ownH rfl (by omega) (gf := 187) (lb := #[.pointer (some ⟨w.heap.size + 1 + 1 + 1 + 1, 0, none⟩)]) rfl trivial (enters_of Tryz.func187 (by kernel_rfl) rfl)
    (rise_stops xs (6 - 1) (by omega) (w.heap.size + 1 + 1 + 1 + 1) w.heap.size b0 o n c ps HN.out h2 hn40 HX.out hb W0 (by omega) (by omega) (bT.cell 0) hc0) belowK_t (belowK_b (by omega)) (Below.refl _ _) (fun _ => rfl)
    (fun pre W => (Blk W (w.heap.size + 1) 141 #[whereFn Br] ∧ Blk W (w.heap.size + 1 + 1 + 1) 168 #[.pointer (some ⟨w.heap.size + 1 + 1, 0, none⟩)] ∧ Blk W Br 30 #[.int .i64 lo, .int .i64 hi] ∧ RunsN (w.heap.size + 1 + 1) W0.heap.size W (runsF (whereS lo hi) pre)) ∧ Below w.heap.size W0 W)
    (fun _ _ _ => False)
    (OwnFrom.and (Own.from (fun s X Y row hs hg hr => ⟨blk_own (β := Unit) _ _ (fun _ => _) () X Y row hs.1 hg hr, blk_own (β := Unit) _ _ (fun _ => _) () X Y row hs.2.1 hg hr, blk_own (β := Unit) _ _ (fun _ => _) () X Y row hs.2.2.1 hg hr, hs.2.2.2.grown hg hr⟩) _) (ownFrom_below (by omega) (by omega)))
    (fun _ _ _ _ _ hs _ _ => hs)
    ⟨⟨bF, bL, hr0, .inl ⟨rfl, bG⟩⟩, Below.refl _ _⟩
    (fun y a' W => ∃ Bx, w.heap.size + 1 + 1 + 1 < Bx ∧ Blk W Bx 138 #[.int .i64 y.1.1.1, .int .i64 y.1.1.2.1, .int .i64 y.1.1.2.2, .int .i64 y.1.2.1, .int .i64 y.1.2.2.1, .int .i64 y.1.2.2.2] ∧ a' = { tmps := #[tv (some ⟨b0, o, none⟩) n c, whereFn Br, .pointer (some ⟨w.heap.size, 0, none⟩), .pointer (some ⟨w.heap.size + 1, 0, none⟩), .slice none 0 0, .pointer (some ⟨w.heap.size + 1 + 1 + 1, 0, none⟩), .pointer (some ⟨Bx, 0, none⟩), undef, .agg #[.slice none 0 0], .pointer (some ⟨w.heap.size + 1 + 1, 0, none⟩), .agg #[.slice (some ⟨b0, o, none⟩) n c], .func (.func 187) #[] #[.pointer (some ⟨w.heap.size + 1 + 1 + 1 + 1, 0, none⟩)], pv y.1.1 y.1.2, undef, undef, undef, undef, undef, undef, undef, undef, undef, undef, undef, undef, undef, undef, undef], defers := [] })
    (fun y a' _ X Y row hs hg hr => by
      obtain ⟨Bx, h1, h2, h3⟩ := hs
      exact ⟨Bx, h1, blk_own (β := Unit) _ _ (fun _ => _) () X Y row h2 hg (fun r e => (hr r e).2), h3⟩)
    ?assign ?body ?done ?stop
  case assign =>
    rintro l pre y W K ⟨⟨i1, i2, i3, i4⟩, hB1⟩ hK
    gi_wp2
    have hBs := hB1.size
    exact hK _ _ ((KeepsOthers.alloc _ _).from _) ((Below.refl _ W).alloc (by omega) _) ⟨⟨i1.alloc _, i2.alloc _, i3.alloc _, i4.alloc _⟩, hB1.alloc (by omega) _⟩ ⟨W.heap.size, by omega, Blk.new W 138 _, rfl⟩
  case body =>
    rintro l pre y a' W hl ⟨r, hr⟩ ⟨⟨i1, i2, i3, i4⟩, hB1⟩ ⟨Bx, hBx, bP, rfl⟩ hlt
    have x1 := i1.cell 0
    have x2 := i2.cell 0
    have p0 := bP.cell 0
    have p1 := bP.cell 1
    have p2 := bP.cell 2
    have p3 := bP.cell 3
    have p4 := bP.cell 4
    have p5 := bP.cell 5
    simp at x1 x2 p0 p1 p2 p3 p4 p5
    have hBs := hB1.size
    have J1 := Lib.hid i1; have J2 := Lib.hid i2; have J3 := Lib.hid i3; have J4 := Lib.hid i4; have JB := Lib.hid hB1
    clear i1 i2 i3 i4 hB1 bP
    have hy3 := y.2.2.2
    gi_wp2_with fail
    refine ⟨trivial, ?_⟩
    refine (CallsIn.inRound l (callsIn_wide.2 (whereAsk Br y.1.1 y.1.2 lo hi W J3.out y.2.1 y.2.2.1 (by omega)))).mono ?_
    rintro e W2 ⟨rfl, hb2⟩
    have hs2 := hb2.size
    generalize hR : whereS lo hi y.1.1 y.1.2 = R
    obtain ⟨ra, rb⟩ := R
    dsimp only
    have HR := Lib.hid hR; clear hR
    have hOb : Below W.heap.size W (W2.alloc (.cells #[.int .i64 ra, .int .i64 rb] 30)) := below_then hb2 ((Below.refl _ _).alloc (Nat.le_refl _) _)
    have k1 := (J1.out.below hb2 J1.out.lt).alloc (.cells #[.int .i64 ra, .int .i64 rb] 30)
    have k2 := (J2.out.below hb2 J2.out.lt).alloc (.cells #[.int .i64 ra, .int .i64 rb] 30)
    have k3 := (J3.out.below hb2 J3.out.lt).alloc (.cells #[.int .i64 ra, .int .i64 rb] 30)
    have k4 := (J4.out.below hb2).alloc (.cells #[.int .i64 ra, .int .i64 rb] 30)
    have kR := Blk.new W2 30 #[.int .i64 ra, .int .i64 rb]
    have kB := below_then' JB.out hb2 ra rb (by omega)
    have kK := keeps_below W0.heap.size hOb
    have kN := hOb.mono (show w.heap.size ≤ W.heap.size by omega)
    have z1 := (J2.out.below hb2 J2.out.lt).cell 0
    simp at z1
    have L1 := Lib.hid k1; have L2 := Lib.hid k2; have L3 := Lib.hid k3; have L4 := Lib.hid k4; have LR := Lib.hid kR; have LB := Lib.hid kB; have LK := Lib.hid kK; have LN := Lib.hid kN
    clear x1 x2 p0 p1 p2 p3 p4 p5 k1 k2 k3 k4 kR kB kK kN hb2 hOb
    have hza : w.heap.size + 1 + 1 + 1 < W2.heap.size := by omega
    by_cases hle : ra ≤ rb
    · gi_wp2_with fail
      refine ⟨trivial, ?_⟩
      have hpl : pre.length ≤ 1000000 := by have h1 := HN.out; have h2' := congrArg List.length HX.out; have h3' := pcs_len ps; simp at h2'; omega
      refine (CallsIn.inRound l (callsIn_wide.2 (runsAdd_any (w.heap.size + 1 + 1) W0.heap.size (runsF (whereS lo hi) pre) ra rb (W2.alloc (.cells #[.int .i64 ra, .int .i64 rb] 30)) L4.out (by simp; omega) (Nat.le_trans (runsF_len _ _) hpl)))).mono ?_
      rintro e W3 ⟨rfl, hA3, hM3, hK3⟩
      have m1 := L1.out.most hM3 (by omega) (by omega)
      have m2 := L2.out.most hM3 (by omega) (by omega)
      have m3 := L3.out.most hM3 (by omega) (by omega)
      have mN := hM3.below (n := w.heap.size) (by omega) (by omega)
      have H3 := Lib.hid hA3; have HK3 := Lib.hid hK3; have M1 := Lib.hid m1; have M2 := Lib.hid m2; have M3 := Lib.hid m3; have MN := Lib.hid mN
      clear hA3 hM3 hK3 m1 m2 m3 mN
      gi_wp2
      have q1 : KeepsFrom W0.heap.size W W3 := LK.out.trans (HK3.out.from _)
      have q2 : Below w.heap.size W W3 := LN.out.trans MN.out
      have q3 : Below w.heap.size W0 W3 := LB.out.trans MN.out
      refine ⟨q1, q2, ⟨M1.out, M2.out, M3.out, ?_⟩, q3⟩
      rw [runsF_snoc]; unfold runStep; rw [HR.out, if_pos hle]; exact .inr ⟨addRun_ne _ _, H3.out⟩
    · gi_wp2
      rw [← hsz]
      refine ⟨LK.out, LN.out, ⟨L1.out, L2.out, L3.out, ?_⟩, LB.out⟩
      rw [runsF_snoc]; unfold runStep; rw [HR.out, if_neg (show ¬ ra ≤ rb by omega)]; exact L4.out
  case done =>
    rintro D ys W hD rfl ⟨⟨i1, i2, i3, i4⟩, hB1⟩ hK
    have x2 := i2.cell 0
    simp at x2
    have hBs := hB1.size
    obtain ⟨v, hbv, hov⟩ : ∃ v, Blk W (w.heap.size + 1 + 1) 170 #[v] ∧ OwnRuns W0.heap.size W v (runsF (whereS lo hi) ys) := by
      rcases i4 with ⟨h1, h2⟩ | ⟨_, v, h1, h2⟩
      · exact ⟨_, h2, by rw [h1]; exact World.ownsRow_nil _ _ _ _⟩
      · exact ⟨v, h1, h2⟩
    have x3 := hbv.cell 0
    simp at x3
    have JB := Lib.hid hB1; have JV := Lib.hid hov
    clear i1 i2 i3 i4 hB1 hov
    gi_wp2
    refine ⟨by simp, .inl ⟨_, _, rfl, run_takeDeferred hK, ?_⟩⟩
    refine ⟨v, ?_, v, rfl, (JV.out.grown (grownBy_putObj' W D (.deferred none)) (fun r e => by injection e with e; subst e; exact ⟨_, hK, rfl⟩)).mono (by omega), ?_⟩
    · simp [results, Tryz.f100, go_sem]
    · exact (HE.out.trans JB.out).trans (belowK_b (w := W0) (by omega) _ D _ _ (by omega) hK rfl rfl)
  case stop =>
    rintro D cd pre W _ _ h _
    exact h.elim
end

section
open Go.RowKit Go.Shelf

def GivesRunsOk (w : World) (L : List (Int × Int)) (e : Ending) (w' : World) : Prop := ∃ v, e = .returned (.tuple #[v, .int .i64 0]) ∧ OwnRuns w.heap.size w' v L ∧ Below w.heap.size w w'

set_option maxRecDepth 100000 in
set_option maxHeartbeats 2000000 in
theorem where_good (b0 o n c : Nat) (ps : List P3) (xs : List Pr) (lo hi : Int) (w : World) (hn : n = ps.length) (h2 : 1 ≤ n) (hb : b0 < w.heap.size) (ht : tabOk ps = true) (hr : vR lo hi = true) (hxs : xs.map (·.1) = pcs ps) (hc : PtsAt w b0 o ps) :
  Calls Tryz.prog 61 #[tv (some ⟨b0, o, none⟩) n c, rv lo hi] w (GivesRunsOk w (runsF (whereS lo hi) xs)) := by
 have h40 := (tabOk_len ht).2
 have hml : n ≤ maxLen := by unfold maxLen; omega
 have HN := Lib.hid hn; clear hn
 have HT := Lib.hid ht; clear ht
 have HR := Lib.hid hr; clear hr
 have HX := Lib.hid hxs; clear hxs
 have hB0 : Below w.heap.size w ((w.alloc (.cells #[.slice (some ⟨b0, o, none⟩) n c] 48)).alloc (.cells #[.int .i64 lo, .int .i64 hi] 30)) := below_a2 (Below.refl _ _)
 have HC := Lib.hid (hc.below hB0 hb); clear hc
 have hb0 : b0 < ((w.alloc (.cells #[.slice (some ⟨b0, o, none⟩) n c] 48)).alloc (.cells #[.int .i64 lo, .int .i64 hi] 30)).heap.size := by simp; omega
 have bT := (Blk.new w 48 #[.slice (some ⟨b0, o, none⟩) n c]).alloc (.cells #[.int .i64 lo, .int .i64 hi] 30)
 have bR := Blk.new (w.alloc (.cells #[.slice (some ⟨b0, o, none⟩) n c] 48)) 30 #[.int .i64 lo, .int .i64 hi]
 simp only [World.size_alloc] at bR
 have HB := Lib.hid hb0; have HBT := Lib.hid bT; have HBR := Lib.hid bR; have HB0 := Lib.hid hB0
 clear hb0 bT bR hB0
 go_enter Tryz.func61, Tryz.ntmps61
 go_wp2_with fail
 refine (checkTable_to _ n c ps _ _ _ HN.out hml (HC.out.pts HB.out) HT.out rfl).mono ?_
 rintro e w1 ⟨rfl, hb1⟩
 have bT1 := HBT.out.below hb1 HBT.out.lt
 have bR1 := HBR.out.below hb1 HBR.out.lt
 have P1 := HC.out.below hb1 HB.out
 have hB1 := below_then HB0.out hb1
 have hz1 : w.heap.size + 1 < w1.heap.size := by have := hb1.size; simp at this; omega
 have r0 := bR1.cell 0
 have r1 := bR1.cell 1
 simp at r0 r1
 have HBT1 := Lib.hid bT1; have HBR1 := Lib.hid bR1; have HP1 := Lib.hid P1; have HB1 := Lib.hid hB1
 clear bT1 bR1 P1 hB1 hb1
 have hza : w.heap.size < w1.heap.size := by omega
 go_wp2_with fail
 refine (checkRange_ok lo hi _ HR.out).mono ?_
 rintro e w2 ⟨rfl, hb2⟩
 have bT2 := HBT1.out.below hb2 HBT1.out.lt
 have bR2 := HBR1.out.below hb2 HBR1.out.lt
 have P2 := HP1.out.below hb2 (by omega)
 have hB2 := below_then HB1.out hb2
 have hz2 : w.heap.size + 1 < w2.heap.size := by have := hb2.size; omega
 have t0 := bT2.cell 0
 simp at t0
 have hzc : w.heap.size < w2.heap.size := by omega
 have HBR2 := Lib.hid bR2; have HP2 := Lib.hid P2; have HB2 := Lib.hid hB2
 clear bT2 bR2 P2 hB2 hb2 r0 r1
 go_wp2_with fail
 refine (collect_where b0 o n c (w.heap.size + 1) ps xs lo hi w2 HN.out h2 (by omega) HT.out HX.out HP2.out HBR2.out).mono ?_
 rintro e w3 ⟨v, rfl, ho, hb3⟩
 have hB3 := below_then HB2.out hb3
 have HO := Lib.hid ho; have HB3 := Lib.hid hB3
 clear ho hB3 hb3
 go_wp2
 refine bodyPost_ret (v := .tuple #[v, .int .i64 0]) (by simp [results, Tryz.results61, go_sem]) rfl ⟨v, rfl, HO.out.mono (by omega), HB3.out⟩
end

section
open Go.RowKit

theorem OwnPts.pts {base : Nat} {w : World} {v : Value} {L : List P3} (ho : OwnPts base w v L) (hne : 0 < L.length) :
    ∃ g cap, v = .slice (some ⟨g, 0, none⟩) L.length cap ∧ base ≤ g ∧ g < w.heap.size ∧ PtsAt w g 0 L := by
  have ho' : w.ownsRow base 93 3 v L.length (ptCells L) := ho
  obtain ⟨g, cap, rfl, h1, h2⟩ := ho'.form hne
  refine ⟨g, cap, rfl, h1, h2, fun k p hp => ?_⟩
  have hk : k < L.length := (List.getElem?_eq_some_iff.1 hp).1
  have hcell : ∀ i, i < 3 → (ptCells L)[k * 3 + i]? = [Value.int .i64 p.1, .int .i64 p.2.1, .int .i64 p.2.2][i]? := by
    intro i hi
    clear ho ho' h1 h2 hne
    induction L generalizing k with
    | nil => cases hp
    | cons q L ih =>
      cases k with
      | zero =>
        simp at hp; subst hp
        have : i = 0 ∨ i = 1 ∨ i = 2 := by omega
        rcases this with rfl | rfl | rfl <;> simp [ptCells]
      | succ k =>
        have e : ptCells (q :: L) = [Value.int .i64 q.1, .int .i64 q.2.1, .int .i64 q.2.2] ++ ptCells L := by simp [ptCells]
        rw [e, List.getElem?_append_right (by simp; omega)]
        have := ih k (by simpa using hp) (by simpa using hk)
        rw [← this]
        congr 1
        simp; omega
  have c := fun i (hi : i < 3) => (ho'.cellAt (k * 3 + i) (by omega)).trans (hcell i hi)
  refine ⟨?_, ?_, ?_⟩
  · rw [Nat.zero_add]; exact c 0 (by omega)
  · rw [Nat.zero_add]; exact c 1 (by omega)
  · rw [Nat.zero_add]; exact c 2 (by omega)
theorem OwnRuns.mem {base : Nat} {w : World} {v : Value} {r : Int × Int} (ho : OwnRuns base w v [r]) :
    ∃ g cap, v = .slice (some ⟨g, 0, none⟩) 1 cap ∧ g < w.heap.size ∧ RunsMem w g 0 [r] := by
  have ho' : w.ownsRow base 30 2 v 1 (runCells [r]) := ho
  obtain ⟨g, cap, rfl, _, h2⟩ := ho'.form (by omega)
  refine ⟨g, cap, rfl, h2, fun k p hp => ?_⟩
  have c0 := ho'.cellAt 0 (by omega)
  have c1 := ho'.cellAt 1 (by omega)
  cases k with
  | zero => simp at hp; subst hp; exact ⟨c0, c1⟩
  | succ k => simp at hp
end

section
open Go.RowKit
attribute [local go_sem ↓] eqlRange neqRange
end

section
open Go.RowKit

theorem below_a4 {w w1 : World} {o0 o1 o2 o3 : Obj} (hb : Below ((((w.alloc o0).alloc o1).alloc o2).alloc o3).heap.size ((((w.alloc o0).alloc o1).alloc o2).alloc o3) w1) : Below w.heap.size w w1 := below_a1 (below_a3 hb)
theorem below_a5 {w w1 : World} {o0 o1 o2 o3 o4 : Obj} (hb : Below (((((w.alloc o0).alloc o1).alloc o2).alloc o3).alloc o4).heap.size (((((w.alloc o0).alloc o1).alloc o2).alloc o3).alloc o4) w1) : Below w.heap.size w w1 := below_a1 (below_a4 hb)
theorem boxes4' (w : World) (t1 t2 t3 t4 : TypeId) (c1 c2 c3 c4 : Array Value) : Boxes ((((w.alloc (.cells c1 t1)).alloc (.cells c2 t2)).alloc (.cells c3 t3)).alloc (.cells c4 t4)) [(w.heap.size + 1 + 1 + 1, t4, c4), (w.heap.size + 1 + 1, t3, c3), (w.heap.size + 1, t2, c2), (w.heap.size, t1, c1)] := by
  have h2 := (boxes3' w t1 t2 t3 c1 c2 c3).new t4 c4
  simp only [World.size_alloc] at h2
  exact h2
theorem boxes5' (w : World) (t1 t2 t3 t4 t5 : TypeId) (c1 c2 c3 c4 c5 : Array Value) : Boxes (((((w.alloc (.cells c1 t1)).alloc (.cells c2 t2)).alloc (.cells c3 t3)).alloc (.cells c4 t4)).alloc (.cells c5 t5)) [(w.heap.size + 1 + 1 + 1 + 1, t5, c5), (w.heap.size + 1 + 1 + 1, t4, c4), (w.heap.size + 1 + 1, t3, c3), (w.heap.size + 1, t2, c2), (w.heap.size, t1, c1)] := by
  have h2 := (boxes4' w t1 t2 t3 t4 c1 c2 c3 c4).new t5 c5
  simp only [World.size_alloc] at h2
  exact h2
end

end Go.Proofs.YtekkiedlajhaiaaGreat
