/- The places that numbers describe (xs of the specification). Its condition: the lists lie in memory. -/
import Derived.Test.YtemlaaipnhmcoaaGreatR15
import Derived.Test.YtemlaaipnhmcoaaGreatR11
import Derived.Deep.Onto
import Derived.Test.YtemlaaipnhmcoaaGreatR08
import Derived.Test.YtemlaaipnhmcoaaGreatR02
set_option linter.unusedVariables false
set_option linter.unusedSimpArgs false
set_option linter.constructorNameAsVariable false
namespace Go.Proofs.YtemlaaipnhmcoaaGreat

section
open Go.RowKit
structure RawD where
  id : Int
  fi : Int
  st : List Int
  vs : List Int
structure RawM where
  S : Option Addr
  sn : Nat
  sc : Nat
  V : Option Addr
  vn : Nat
  vc : Nat
abbrev rawV (r : RawD) (m : RawM) : Value := .agg #[.int .i64 r.id, .int .i64 r.fi, .slice m.S m.sn m.sc, .slice m.V m.vn m.vc]
def RawIn (w : World) (r : RawD) (m : RawM) : Prop := m.sn = r.st.length ∧ m.sn ≤ 4611686018427387904 ∧ IntsP w m.S r.st ∧ m.vn = r.vs.length ∧ m.vn ≤ 4611686018427387904 ∧ IntsP w m.V r.vs
theorem RawIn.below {w w' : World} {r : RawD} {m : RawM} (h : RawIn w r m) (hB : Below w.heap.size w w') : RawIn w' r m := ⟨h.1, h.2.1, h.2.2.1.below hB, h.2.2.2.1, h.2.2.2.2.1, h.2.2.2.2.2.below hB⟩
theorem emod_in (n : Int) {m : Int} (h : 0 < m) : 0 ≤ n % m ∧ n % m < m := ⟨Int.emod_nonneg n (by omega), Int.emod_lt_of_pos n h⟩
def someS (vs : List Int) (fr mo : Int) : Int × Int := (pickS vs fr % mo, pickS vs fr % mo + pickS vs (fr + 1) % 9)

set_option maxRecDepth 100000 in
set_option maxHeartbeats 4000000 in
theorem ssome_to (r : RawD) (m : RawM) (fr mo : Int) (w : World) (hi : RawIn w r m) (h0 : 0 ≤ fr) (h1 : fr ≤ 1000) (g0 : 0 < mo) (g1 : mo ≤ 1000000) :
  Calls Tryz.prog 64 #[rawV r m, .int .i64 fr, .int .i64 mo] w fun e w' => e = .returned (rv (someS r.vs fr mo).1 (someS r.vs fr mo).2) ∧ Below w.heap.size w w' := by
 obtain ⟨id, fi, st, vs⟩ := r
 obtain ⟨S, sn, sc, V, vn, vc⟩ := m
 unfold someS
 dsimp only
 have w1 : IntKind.i64.wrap (fr + 1) = fr + 1 := IntWalk.i64_in _ ⟨by omega, by omega⟩
 obtain ⟨P0, hP0⟩ : ∃ x, pickS vs fr = x := ⟨_, rfl⟩
 obtain ⟨P1, hP1⟩ : ∃ x, pickS vs (fr + 1) = x := ⟨_, rfl⟩
 rw [hP0, hP1]
 obtain ⟨b0, b1⟩ := emod_in P0 g0
 obtain ⟨b2, b3⟩ := emod_in P1 (show (0 : Int) < 9 by omega)
 obtain ⟨a, ha⟩ : ∃ x, P0 % mo = x := ⟨_, rfl⟩
 obtain ⟨b, hb⟩ : ∃ x, P1 % 9 = x := ⟨_, rfl⟩
 rw [ha, hb]
 rw [ha] at b0 b1
 rw [hb] at b2 b3
 have w2 : IntKind.i64.wrap (a + b) = a + b := IntWalk.i64_in _ ⟨by omega, by omega⟩
 have CP0 : Hid (∀ W, Below w.heap.size w W → Calls Tryz.prog 61 #[.slice V vn vc, .int .i64 fr] W fun e w' => e = .returned (.int .i64 P0) ∧ Below W.heap.size W w') := Lib.hid fun W hW => int_to (spick_to V vn vc vs fr W hi.2.2.2.1 hi.2.2.2.2.1 (hi.2.2.2.2.2.below hW)) hP0
 have CP1 : Hid (∀ W, Below w.heap.size w W → Calls Tryz.prog 61 #[.slice V vn vc, .int .i64 (fr + 1)] W fun e w' => e = .returned (.int .i64 P1) ∧ Below W.heap.size W w') := Lib.hid fun W hW => int_to (spick_to V vn vc vs (fr + 1) W hi.2.2.2.1 hi.2.2.2.2.1 (hi.2.2.2.2.2.below hW)) hP1
 have CM0 : Hid (∀ W, Calls Tryz.prog 23 #[.int .i64 P0, .int .i64 mo] W fun e w' => e = .returned (.int .i64 a) ∧ Below W.heap.size W w') := Lib.hid fun W => int_to (smod_to P0 mo W (by omega) (by omega)) ha
 have CM1 : Hid (∀ W, Calls Tryz.prog 23 #[.int .i64 P1, .int .i64 9] W fun e w' => e = .returned (.int .i64 b) ∧ Below W.heap.size W w') := Lib.hid fun W => int_to (smod_to P1 9 W (by omega) (by omega)) hb
 clear hi hP0 hP1 ha hb b0 b1 b2 b3 g0 g1 h0 h1
 have HE := Lib.hid (show Below w.heap.size w ((w.alloc (.cells #[.int .i64 id, .int .i64 fi, .slice S sn sc, .slice V vn vc] 24)).alloc (.cells #[.int .i64 0, .int .i64 0] 30)) from below_a2 (Below.refl _ _))
 have HK := Lib.hid (boxes2' w 24 30 #[.int .i64 id, .int .i64 fi, .slice S sn sc, .slice V vn vc] #[.int .i64 0, .int .i64 0])
 go_enter Tryz.func64, Tryz.ntmps64
 go_upto_region 1 with fail
 obtain ⟨W0, hW0⟩ : ∃ W0 : World, ((w.alloc (.cells #[.int .i64 id, .int .i64 fi, .slice S sn sc, .slice V vn vc] 24)).alloc (.cells #[.int .i64 0, .int .i64 0] 30)) = W0 := ⟨_, rfl⟩
 rw [hW0] at HE HK ⊢
 clear hW0
 obtain ⟨G, hG⟩ : ∃ G, w.heap.size = G := ⟨_, rfl⟩
 rw [hG] at HK ⊢
 have HG := Lib.hid hG; clear hG
 have r_ := HK.out _ (.tail _ (.head _))
 have r_3 := r_.cell 3
 simp at r_3
 clear r_
 go_wp2_with fail
 refine (CP0.out _ HE.out).mono ?_
 rintro e y1 ⟨rfl, hq⟩
 have HE1 := Lib.hid (below_then HE.out hq); have HK1 := Lib.hid (HK.out.on hq)
 clear hq HE HK r_3 CP0
 have r_ := HK1.out _ (.tail _ (.head _))
 have r_3 := r_.cell 3
 simp at r_3
 clear r_
 go_wp2_with fail
 refine (CM0.out _).mono ?_
 rintro e y2 ⟨rfl, hq⟩
 have HE2 := Lib.hid (below_then HE1.out hq); have HK2 := Lib.hid (HK1.out.on hq)
 clear hq HE1 HK1 r_3 CM0
 have r_ := HK2.out _ (.tail _ (.head _))
 have r_3 := r_.cell 3
 simp at r_3
 clear r_
 go_wp2_with fail
 refine (CP1.out _ HE2.out).mono ?_
 rintro e y3 ⟨rfl, hq⟩
 have HE3 := Lib.hid (below_then HE2.out hq); have HK3 := Lib.hid (HK2.out.on hq)
 clear hq HE2 HK2 r_3 CP1
 have r_ := HK3.out _ (.tail _ (.head _))
 have r_3 := r_.cell 3
 simp at r_3
 clear r_
 go_wp2_with fail
 refine (CM1.out _).mono ?_
 rintro e y4 ⟨rfl, hq⟩
 have HE4 := Lib.hid (below_then HE3.out hq); have HK4 := Lib.hid (HK3.out.on hq)
 clear hq HE3 HK3 r_3 CM1
 have r_ := HK4.out _ (.tail _ (.head _))
 have r_3 := r_.cell 3
 simp at r_3
 clear r_
 have z_ := HK4.out _ (.head _)
 have z_0 := z_.cell 0
 have z_f0 := z_.frozen 0
 have z_1 := z_.cell 1
 have z_f1 := z_.frozen 1
 have z_l := z_.lt
 simp at z_0 z_f0 z_1 z_f1
 clear z_
 go_wp2
 refine bodyPost_ret (v := rv a (a + b)) (by simp [results, Tryz.results64, go_sem, z_0, z_1]) rfl ⟨rfl, ?_⟩
 have hg := HG.out
 repeat (first | exact HE4.out | refine Below.setCell ?_ (by simp <;> omega) _)

def densityS (a b : Int) : Int × Int := (500 + a % 900, 500 + a % 900 + b % 200)

set_option maxRecDepth 100000 in
set_option maxHeartbeats 4000000 in
theorem sDensityN_to (x y : Int) (w : World) :
  Calls Tryz.prog 18 #[.int .i64 x, .int .i64 y] w fun e w' => e = .returned (rv (densityS x y).1 (densityS x y).2) ∧ Below w.heap.size w w' := by
 unfold densityS
 dsimp only
 obtain ⟨b0, b1⟩ := emod_in x (show (0 : Int) < 900 by omega)
 obtain ⟨b2, b3⟩ := emod_in y (show (0 : Int) < 200 by omega)
 obtain ⟨a, ha⟩ : ∃ z, x % 900 = z := ⟨_, rfl⟩
 obtain ⟨b, hb⟩ : ∃ z, y % 200 = z := ⟨_, rfl⟩
 rw [ha, hb]
 rw [ha] at b0 b1
 rw [hb] at b2 b3
 have w1 : IntKind.i64.wrap (500 + a) = 500 + a := IntWalk.i64_in _ ⟨by omega, by omega⟩
 have w2 : IntKind.i64.wrap (500 + a + b) = 500 + a + b := IntWalk.i64_in _ ⟨by omega, by omega⟩
 have CM0 : Hid (∀ W, Calls Tryz.prog 23 #[.int .i64 x, .int .i64 900] W fun e w' => e = .returned (.int .i64 a) ∧ Below W.heap.size W w') := Lib.hid fun W => int_to (smod_to x 900 W (by omega) (by omega)) ha
 have CM1 : Hid (∀ W, Calls Tryz.prog 23 #[.int .i64 y, .int .i64 200] W fun e w' => e = .returned (.int .i64 b) ∧ Below W.heap.size W w') := Lib.hid fun W => int_to (smod_to y 200 W (by omega) (by omega)) hb
 clear ha hb b0 b1 b2 b3
 have HE := Lib.hid (show Below w.heap.size w (w.alloc (.cells #[.int .i64 0, .int .i64 0] 30)) from below_alloc1 w _)
 have HK := Lib.hid (boxes1' w 30 #[.int .i64 0, .int .i64 0])
 go_enter Tryz.func18, Tryz.ntmps18
 go_upto_region 1 with fail
 obtain ⟨W0, hW0⟩ : ∃ W0 : World, (w.alloc (.cells #[.int .i64 0, .int .i64 0] 30)) = W0 := ⟨_, rfl⟩
 rw [hW0] at HE HK ⊢
 clear hW0
 obtain ⟨G, hG⟩ : ∃ G, w.heap.size = G := ⟨_, rfl⟩
 rw [hG] at HK ⊢
 have HG := Lib.hid hG; clear hG
 go_wp2_with fail
 refine (CM0.out _).mono ?_
 rintro e y1 ⟨rfl, hq⟩
 have HE1 := Lib.hid (below_then HE.out hq); have HK1 := Lib.hid (HK.out.on hq)
 clear hq HE HK  CM0
 go_wp2_with fail
 refine (CM1.out _).mono ?_
 rintro e y2 ⟨rfl, hq⟩
 have HE2 := Lib.hid (below_then HE1.out hq); have HK2 := Lib.hid (HK1.out.on hq)
 clear hq HE1 HK1  CM1
 have z_ := HK2.out _ (.head _)
 have z_0 := z_.cell 0
 have z_f0 := z_.frozen 0
 have z_1 := z_.cell 1
 have z_f1 := z_.frozen 1
 have z_l := z_.lt
 simp at z_0 z_f0 z_1 z_f1
 clear z_
 go_wp2
 refine bodyPost_ret (v := rv (500 + a) (500 + a + b)) (by simp [results, Tryz.results18, go_sem, z_0, z_1]) rfl ⟨rfl, ?_⟩
 have hg := HG.out
 repeat (first | exact HE2.out | refine Below.setCell ?_ (by simp <;> omega) _)
end

section
open Go.RowKit Go.Shelf
attribute [local go_sem] Oper.semAt_some
def runStep (f : P3 → P3 → Int × Int) (L : List (Int × Int)) (y : Pr) : List (Int × Int) := if (f y.1.1 y.1.2).1 ≤ (f y.1.1 y.1.2).2 then addRun L (f y.1.1 y.1.2) else L
def runsF (f : P3 → P3 → Int × Int) (pre : List Pr) : List (Int × Int) := pre.foldl (runStep f) []
theorem runsF_snoc (f : P3 → P3 → Int × Int) (pre : List Pr) (y : Pr) : runsF f (pre ++ [y]) = runStep f (runsF f pre) y := by simp [runsF]
theorem runStep_len (f : P3 → P3 → Int × Int) (L : List (Int × Int)) (y : Pr) : (runStep f L y).length ≤ L.length + 1 := by
  unfold runStep; split
  · exact addRun_len _ _
  · omega
theorem foldl_runStep_len (f : P3 → P3 → Int × Int) : ∀ (pre : List Pr) (L : List (Int × Int)), (pre.foldl (runStep f) L).length ≤ L.length + pre.length
  | [], L => by simp
  | y :: pre, L => by
    have h1 := foldl_runStep_len f pre (runStep f L y)
    have h2 := runStep_len f L y
    simp only [List.foldl_cons, List.length_cons]; omega
theorem runsF_len (f : P3 → P3 → Int × Int) (pre : List Pr) : (runsF f pre).length ≤ pre.length := by
  have := foldl_runStep_len f pre []; simpa [runsF] using this

theorem OwnRuns.grown {base : Nat} {X Y : World} {row : Option Nat} {v : Value} {L : List (Int × Int)} (ho : OwnRuns base X v L) (hg : X.grownBy Y row) (hr : ∀ r, row = some r → ∃ o : Obj, X.heap[r]? = some o ∧ o.isCells = false) : OwnRuns base Y v L := by
  have ho' : X.ownsRow base 30 2 v L.length (runCells L) := ho
  refine World.ownsRow.kept ho' hg ?_
  rcases ho'.2 with ⟨h1, _⟩ | ⟨g3, cap3, cur3, h1, _, h2, _⟩
  · left; rw [h1]; rfl
  · right
    rw [h1]
    intro e
    obtain ⟨o, ho2, hc⟩ := hr g3 (by rw [← e]; rfl)
    rw [h2] at ho2
    cases ho2; cases hc
theorem OwnRuns.mono {base base' : Nat} {X : World} {v : Value} {L : List (Int × Int)} (ho : OwnRuns base X v L) (hb : base' ≤ base) : OwnRuns base' X v L := World.ownsRow.mono ho hb
theorem RunsN.grown {g base : Nat} {X Y : World} {row : Option Nat} {L : List (Int × Int)} (h : RunsN g base X L) (hg : X.grownBy Y row) (hr : ∀ r, row = some r → ∃ o : Obj, X.heap[r]? = some o ∧ o.isCells = false) : RunsN g base Y L := by
  have hcell : ∀ (cs : Array Value), Blk X g 195 cs → Blk Y g 195 cs := fun cs hb =>
    hb.grown hg (fun e' => by obtain ⟨o, ho, hc⟩ := hr g e'.symm; rw [show X.heap[g]? = _ from hb] at ho; cases ho; cases hc)
  rcases h with ⟨rfl, h⟩ | ⟨hne, v, hb, ho⟩
  · exact .inl ⟨rfl, hcell _ h⟩
  · exact .inr ⟨hne, v, hcell _ hb, ho.grown hg hr⟩
theorem RunsN.alloc {g base : Nat} {X : World} {L : List (Int × Int)} (h : RunsN g base X L) (o : Obj) : RunsN g base (X.alloc o) L := h.grown (World.grownBy_alloc X o none) (fun _ e => by cases e)
theorem RunsN.below {g base : Nat} {X Y : World} {L : List (Int × Int)} (h : RunsN g base X L) (hb : Below X.heap.size X Y) : RunsN g base Y L := h.grown (below_grownNone hb) (fun _ e => by cases e)
theorem Most.below {base g n : Nat} {w w' : World} (h : Most base g w w') (h1 : n ≤ base) (h2 : n ≤ g) : Below n w w' := ⟨h.1, h.2.1, h.2.2.1, h.2.2.2.1, fun k hk => h.2.2.2.2 k (by omega) (by omega)⟩
theorem Blk.most {base g j : Nat} {w w' : World} {t : TypeId} {cs : Array Value} (hb : Blk w j t cs) (h : Most base g w w') (h1 : j < base) (h2 : j ≠ g) : Blk w' j t cs := by
  unfold Blk at hb ⊢
  rw [h.2.2.2.2 j h1 h2]; exact hb
theorem below_then' {n : Nat} {X Y Z : World} (h : Below n X Y) (hb : Below Y.heap.size Y Z) (a b : Int) (hn : n ≤ Y.heap.size) : Below n X (Z.alloc (.cells #[.int .i64 a, .int .i64 b] 30)) :=
  (h.trans (hb.mono hn)).alloc (Nat.le_trans hn hb.size) _
def GivesRuns (w : World) (L : List (Int × Int)) (e : Ending) (w' : World) : Prop := ∃ v, e = .returned v ∧ OwnRuns w.heap.size w' v L ∧ Below w.heap.size w w'
@[reducible] def whereFn (Br : Nat) : Value := .func (.func 166) #[] #[.pointer (some ⟨Br, 0, none⟩)]

set_option maxRecDepth 100000 in
set_option maxHeartbeats 4000000 in
theorem collect_where (b0 o n c Br : Nat) (ps : List P3) (xs : List Pr) (lo hi : Int) (w : World) (hn : n = ps.length) (h2 : 1 ≤ n) (hb : b0 < w.heap.size) (ht : tabOk ps = true) (hxs : xs.map (·.1) = pcs ps) (hc : PtsAt w b0 o ps)
    (hr : Blk w Br 30 #[.int .i64 lo, .int .i64 hi]) :
    Calls Tryz.prog 165 #[tv (some ⟨b0, o, none⟩) n c, whereFn Br] w fun e w' => GivesRuns w (runsF (whereS lo hi) xs) e w' := by
  have h40 := (tabOk_len ht).2
  have hml : n ≤ maxLen := by unfold maxLen; omega
  have hn40 : n ≤ 40 := by omega
  have hbr := hr.lt
  have HN := Lib.hid hn; clear hn
  have HT := Lib.hid ht; clear ht
  have HX := Lib.hid hxs; clear hxs
  refine (callsIn_wide (n := 6)).1 ?_
  refine callsIn_of_wp_marks Tryz.func165 rfl trivial ?_ rfl
  simp only [Tryz.ntmps165, List.size_toArray, List.length_cons, List.length_nil, Nat.reduceAdd, Nat.reduceSub, Array.replicate_succ, Array.replicate_zero, List.push_toArray, List.append_toArray, List.nil_append, List.cons_append]
  gi_wp2_with (refine ⟨trivial, ?_⟩; gi_at_call 205; refine (callsIn_wide.2 (pieces_any _ _ _ _)).mono ?_; rintro e w' ⟨rfl, rfl⟩)
  have bF := (((Blk.new (w.alloc (.cells #[.slice (some ⟨b0, o, none⟩) n c] 33)) 174 #[whereFn Br]).alloc (.cells #[.slice none 0 0] 195)).alloc (.cells #[.pointer (some ⟨w.heap.size + 1 + 1, 0, none⟩)] 193)).alloc (.cells #[.slice (some ⟨b0, o, none⟩) n c] 33)
  have bG := ((Blk.new ((w.alloc (.cells #[.slice (some ⟨b0, o, none⟩) n c] 33)).alloc (.cells #[whereFn Br] 174)) 195 #[.slice none 0 0]).alloc (.cells #[.pointer (some ⟨w.heap.size + 1 + 1, 0, none⟩)] 193)).alloc (.cells #[.slice (some ⟨b0, o, none⟩) n c] 33)
  have bL := (Blk.new (((w.alloc (.cells #[.slice (some ⟨b0, o, none⟩) n c] 33)).alloc (.cells #[whereFn Br] 174)).alloc (.cells #[.slice none 0 0] 195)) 193 #[.pointer (some ⟨w.heap.size + 1 + 1, 0, none⟩)]).alloc (.cells #[.slice (some ⟨b0, o, none⟩) n c] 33)
  have bT := Blk.new ((((w.alloc (.cells #[.slice (some ⟨b0, o, none⟩) n c] 33)).alloc (.cells #[whereFn Br] 174)).alloc (.cells #[.slice none 0 0] 195)).alloc (.cells #[.pointer (some ⟨w.heap.size + 1 + 1, 0, none⟩)] 193)) 33 #[.slice (some ⟨b0, o, none⟩) n c]
  simp only [World.size_alloc] at bF bG bL bT
  have hE : Below w.heap.size w (((((w.alloc (.cells #[.slice (some ⟨b0, o, none⟩) n c] 33)).alloc (.cells #[whereFn Br] 174)).alloc (.cells #[.slice none 0 0] 195)).alloc (.cells #[.pointer (some ⟨w.heap.size + 1 + 1, 0, none⟩)] 193)).alloc (.cells #[.slice (some ⟨b0, o, none⟩) n c] 33)) := below_a3 (below_a2 (Below.refl _ _))
  have hsz : (((((w.alloc (.cells #[.slice (some ⟨b0, o, none⟩) n c] 33)).alloc (.cells #[whereFn Br] 174)).alloc (.cells #[.slice none 0 0] 195)).alloc (.cells #[.pointer (some ⟨w.heap.size + 1 + 1, 0, none⟩)] 193)).alloc (.cells #[.slice (some ⟨b0, o, none⟩) n c] 33)).heap.size = w.heap.size + 5 := by simp
  obtain ⟨W0, hW0⟩ : ∃ W0, (((((w.alloc (.cells #[.slice (some ⟨b0, o, none⟩) n c] 33)).alloc (.cells #[whereFn Br] 174)).alloc (.cells #[.slice none 0 0] 195)).alloc (.cells #[.pointer (some ⟨w.heap.size + 1 + 1, 0, none⟩)] 193)).alloc (.cells #[.slice (some ⟨b0, o, none⟩) n c] 33)) = W0 := ⟨_, rfl⟩
  rw [hW0] at bF bG bL bT hE hsz ⊢
  clear hW0
  have hc0 := hc.below hE hb
  have hr0 := hr.below hE hbr
  have HE := Lib.hid hE
  clear hE hc hr
  refine wpIn_rangeFunc_ownH rfl (by omega) (gf := 220) (lb := #[.pointer (some ⟨w.heap.size + 1 + 1 + 1 + 1, 0, none⟩)]) rfl trivial (enters_of Tryz.func220 (by kernel_rfl) rfl)
    (rise_stops xs (6 - 1) (by omega) (w.heap.size + 1 + 1 + 1 + 1) w.heap.size b0 o n c ps HN.out h2 hn40 HX.out hb W0 (by omega) (by omega) (bT.cell 0) hc0) belowK_t (belowK_b (by omega)) (Below.refl _ _) (fun _ => rfl)
    (fun pre W => (Blk W (w.heap.size + 1) 174 #[whereFn Br] ∧ Blk W (w.heap.size + 1 + 1 + 1) 193 #[.pointer (some ⟨w.heap.size + 1 + 1, 0, none⟩)] ∧ Blk W Br 30 #[.int .i64 lo, .int .i64 hi] ∧ RunsN (w.heap.size + 1 + 1) W0.heap.size W (runsF (whereS lo hi) pre)) ∧ Below w.heap.size W0 W)
    (fun _ _ _ => False)
    (OwnFrom.and (Own.from (fun s X Y row hs hg hr => ⟨blk_own (β := Unit) _ _ (fun _ => _) () X Y row hs.1 hg hr, blk_own (β := Unit) _ _ (fun _ => _) () X Y row hs.2.1 hg hr, blk_own (β := Unit) _ _ (fun _ => _) () X Y row hs.2.2.1 hg hr, hs.2.2.2.grown hg hr⟩) _) (ownFrom_below (by omega) (by omega)))
    (fun _ _ _ _ _ hs _ _ => hs)
    ⟨⟨bF, bL, hr0, .inl ⟨rfl, bG⟩⟩, Below.refl _ _⟩
    (fun y a' W => ∃ Bx, w.heap.size + 1 + 1 + 1 < Bx ∧ Blk W Bx 172 #[.int .i64 y.1.1.1, .int .i64 y.1.1.2.1, .int .i64 y.1.1.2.2, .int .i64 y.1.2.1, .int .i64 y.1.2.2.1, .int .i64 y.1.2.2.2] ∧ a' = { tmps := #[tv (some ⟨b0, o, none⟩) n c, whereFn Br, .pointer (some ⟨w.heap.size, 0, none⟩), .pointer (some ⟨w.heap.size + 1, 0, none⟩), .slice none 0 0, .pointer (some ⟨w.heap.size + 1 + 1 + 1, 0, none⟩), .pointer (some ⟨Bx, 0, none⟩), undef, .agg #[.slice none 0 0], .pointer (some ⟨w.heap.size + 1 + 1, 0, none⟩), .agg #[.slice (some ⟨b0, o, none⟩) n c], .func (.func 220) #[] #[.pointer (some ⟨w.heap.size + 1 + 1 + 1 + 1, 0, none⟩)], pv y.1.1 y.1.2, undef, undef, undef, undef, undef, undef, undef, undef, undef, undef, undef, undef, undef, undef, undef], defers := [] })
    (fun y a' _ X Y row hs hg hr => by
      obtain ⟨Bx, h1, h2, h3⟩ := hs
      exact ⟨Bx, h1, blk_own (β := Unit) _ _ (fun _ => _) () X Y row h2 hg (fun r e => (hr r e).2), h3⟩)
    ?assign ?body ?done ?stop
  case assign =>
    rintro l pre y W K ⟨⟨i1, i2, i3, i4⟩, hB1⟩ hK
    gi_wp2
    have hBs := hB1.size
    exact hK _ _ ((KeepsOthers.alloc _ _).from _) ((Below.refl _ W).alloc (by omega) _) ⟨⟨i1.alloc _, i2.alloc _, i3.alloc _, i4.alloc _⟩, hB1.alloc (by omega) _⟩ ⟨W.heap.size, by omega, Blk.new W 172 _, rfl⟩
  case body =>
    rintro l pre y a' W hl ⟨r, hr⟩ ⟨⟨i1, i2, i3, i4⟩, hB1⟩ ⟨Bx, hBx, bP, rfl⟩ hlt
    have x1 := i1.cell 0
    have x2 := i2.cell 0
    have p0 := bP.cell 0
    have p1 := bP.cell 1
    have p2 := bP.cell 2
    have p3 := bP.cell 3
    have p4 := bP.cell 4
    have p5 := bP.cell 5
    simp at x1 x2 p0 p1 p2 p3 p4 p5
    have hBs := hB1.size
    have J1 := Lib.hid i1; have J2 := Lib.hid i2; have J3 := Lib.hid i3; have J4 := Lib.hid i4; have JB := Lib.hid hB1
    clear i1 i2 i3 i4 hB1 bP
    have hy3 := y.2.2.2
    gi_wp2_with fail
    refine ⟨trivial, ?_⟩
    refine (CallsIn.inRound l (callsIn_wide.2 (whereAsk Br y.1.1 y.1.2 lo hi W J3.out y.2.1 y.2.2.1 (by omega)))).mono ?_
    rintro e W2 ⟨rfl, hb2⟩
    have hs2 := hb2.size
    generalize hR : whereS lo hi y.1.1 y.1.2 = R
    obtain ⟨ra, rb⟩ := R
    dsimp only
    have HR := Lib.hid hR; clear hR
    have hOb : Below W.heap.size W (W2.alloc (.cells #[.int .i64 ra, .int .i64 rb] 30)) := below_then hb2 ((Below.refl _ _).alloc (Nat.le_refl _) _)
    have k1 := (J1.out.below hb2 J1.out.lt).alloc (.cells #[.int .i64 ra, .int .i64 rb] 30)
    have k2 := (J2.out.below hb2 J2.out.lt).alloc (.cells #[.int .i64 ra, .int .i64 rb] 30)
    have k3 := (J3.out.below hb2 J3.out.lt).alloc (.cells #[.int .i64 ra, .int .i64 rb] 30)
    have k4 := (J4.out.below hb2).alloc (.cells #[.int .i64 ra, .int .i64 rb] 30)
    have kR := Blk.new W2 30 #[.int .i64 ra, .int .i64 rb]
    have kB := below_then' JB.out hb2 ra rb (by omega)
    have kK := keeps_below W0.heap.size hOb
    have kN := hOb.mono (show w.heap.size ≤ W.heap.size by omega)
    have z1 := (J2.out.below hb2 J2.out.lt).cell 0
    simp at z1
    have L1 := Lib.hid k1; have L2 := Lib.hid k2; have L3 := Lib.hid k3; have L4 := Lib.hid k4; have LR := Lib.hid kR; have LB := Lib.hid kB; have LK := Lib.hid kK; have LN := Lib.hid kN
    clear x1 x2 p0 p1 p2 p3 p4 p5 k1 k2 k3 k4 kR kB kK kN hb2 hOb
    have hza : w.heap.size + 1 + 1 + 1 < W2.heap.size := by omega
    by_cases hle : ra ≤ rb
    · gi_wp2_with fail
      refine ⟨trivial, ?_⟩
      have hpl : pre.length ≤ 1000000 := by have h1 := HN.out; have h2' := congrArg List.length HX.out; have h3' := pcs_len ps; simp at h2'; omega
      refine (CallsIn.inRound l (callsIn_wide.2 (runsAdd_any (w.heap.size + 1 + 1) W0.heap.size (runsF (whereS lo hi) pre) ra rb (W2.alloc (.cells #[.int .i64 ra, .int .i64 rb] 30)) L4.out (by simp; omega) (Nat.le_trans (runsF_len _ _) hpl)))).mono ?_
      rintro e W3 ⟨rfl, hA3, hM3, hK3⟩
      have m1 := L1.out.most hM3 (by omega) (by omega)
      have m2 := L2.out.most hM3 (by omega) (by omega)
      have m3 := L3.out.most hM3 (by omega) (by omega)
      have mN := hM3.below (n := w.heap.size) (by omega) (by omega)
      have H3 := Lib.hid hA3; have HK3 := Lib.hid hK3; have M1 := Lib.hid m1; have M2 := Lib.hid m2; have M3 := Lib.hid m3; have MN := Lib.hid mN
      clear hA3 hM3 hK3 m1 m2 m3 mN
      gi_wp2
      have q1 : KeepsFrom W0.heap.size W W3 := LK.out.trans (HK3.out.from _)
      have q2 : Below w.heap.size W W3 := LN.out.trans MN.out
      have q3 : Below w.heap.size W0 W3 := LB.out.trans MN.out
      refine ⟨q1, q2, ⟨M1.out, M2.out, M3.out, ?_⟩, q3⟩
      rw [runsF_snoc]; unfold runStep; rw [HR.out, if_pos hle]; exact .inr ⟨addRun_ne _ _, H3.out⟩
    · gi_wp2
      rw [← hsz]
      refine ⟨LK.out, LN.out, ⟨L1.out, L2.out, L3.out, ?_⟩, LB.out⟩
      rw [runsF_snoc]; unfold runStep; rw [HR.out, if_neg (show ¬ ra ≤ rb by omega)]; exact L4.out
  case done =>
    rintro D ys W hD rfl ⟨⟨i1, i2, i3, i4⟩, hB1⟩ hK
    have x2 := i2.cell 0
    simp at x2
    have hBs := hB1.size
    obtain ⟨v, hbv, hov⟩ : ∃ v, Blk W (w.heap.size + 1 + 1) 195 #[v] ∧ OwnRuns W0.heap.size W v (runsF (whereS lo hi) ys) := by
      rcases i4 with ⟨h1, h2⟩ | ⟨_, v, h1, h2⟩
      · exact ⟨_, h2, by rw [h1]; exact World.ownsRow_nil _ _ _ _⟩
      · exact ⟨v, h1, h2⟩
    have x3 := hbv.cell 0
    simp at x3
    have JB := Lib.hid hB1; have JV := Lib.hid hov
    clear i1 i2 i3 i4 hB1 hov
    gi_wp2
    refine ⟨by simp, .inl ⟨_, _, rfl, run_takeDeferred hK, ?_⟩⟩
    refine ⟨v, ?_, v, rfl, (JV.out.grown (grownBy_putObj' W D (.deferred none)) (fun r e => by injection e with e; subst e; exact ⟨_, hK, rfl⟩)).mono (by omega), ?_⟩
    · simp [results, Tryz.f165, go_sem]
    · exact (HE.out.trans JB.out).trans (belowK_b (w := W0) (by omega) _ D _ _ (by omega) hK rfl rfl)
  case stop =>
    rintro D cd pre W _ _ h _
    exact h.elim
end

section
open Go.RowKit

def xsTo (fi : Int) (st : List Int) : Nat → List Int × Int
  | 0 => ([fi % 50], fi % 50)
  | k + 1 => match st[k]? with
    | some s => ((xsTo fi st k).1 ++ [(xsTo fi st k).2 + (1 + s % 40)], (xsTo fi st k).2 + (1 + s % 40))
    | none => xsTo fi st k
def xsS (fi : Int) (st : List Int) : List Int := if st.length = 0 then (xsTo fi st 0).1 ++ [(xsTo fi st 0).2 + 10] else (xsTo fi st (min st.length 7)).1
theorem xsTo_succ {fi : Int} {st : List Int} {k : Nat} {s : Int} (h : st[k]? = some s) : xsTo fi st (k + 1) = ((xsTo fi st k).1 ++ [(xsTo fi st k).2 + (1 + s % 40)], (xsTo fi st k).2 + (1 + s % 40)) := by
  rw [xsTo, h]
theorem xsTo_in (fi : Int) (st : List Int) : ∀ k : Nat, 0 ≤ (xsTo fi st k).2 ∧ (xsTo fi st k).2 ≤ 49 + 40 * k
  | 0 => by
    obtain ⟨h1, h2⟩ := emod_in fi (show (0 : Int) < 50 by omega)
    exact ⟨h1, by show fi % 50 ≤ _; omega⟩
  | k + 1 => by
    obtain ⟨h1, h2⟩ := xsTo_in fi st k
    rw [xsTo]
    split
    · rename_i s _
      obtain ⟨h3, h4⟩ := emod_in s (show (0 : Int) < 40 by omega)
      dsimp only
      exact ⟨by omega, by push_cast; omega⟩
    · exact ⟨h1, by push_cast; omega⟩
theorem boxes_grown {w w' : World} {row : Option Nat} {L : List (Nat × TypeId × Array Value)} (h : Boxes w L) (hg : w.grownBy w' row) (hr : ∀ p ∈ L, some p.1 ≠ row) : Boxes w' L := fun p hp => (h p hp).grown hg (hr p hp)
theorem xsTo_len (fi : Int) (st : List Int) : ∀ k : Nat, k ≤ st.length → (xsTo fi st k).1.length = k + 1
  | 0, _ => rfl
  | k + 1, h => by
    have q := xsTo_len fi st k (by omega)
    rw [xsTo, List.getElem?_eq_getElem (show k < st.length by omega)]
    dsimp only
    rw [List.length_append, q]
    rfl

set_option maxRecDepth 100000 in
set_option maxHeartbeats 4000000 in
theorem sxs_to (r : RawD) (m : RawM) (w : World) (hi : RawIn w r m) :
  Calls Tryz.prog 118 #[rawV r m] w (GivesInts w (xsS r.fi r.st)) := by
 obtain ⟨id, fi, st, vs⟩ := r
 obtain ⟨S, sn, sc, V, vn, vc⟩ := m
 obtain ⟨i0, i1, i2, i3, i4⟩ := info_parts Tryz.info3
 obtain ⟨hn, hm, hS, _, _, _⟩ := hi
 dsimp only at hn hm hS
 have CM0 : Hid (∀ W, Calls Tryz.prog 23 #[.int .i64 fi, .int .i64 50] W fun e w' => e = .returned (.int .i64 (fi % 50)) ∧ Below W.heap.size W w') := Lib.hid fun W => smod_to fi 50 W (by omega) (by omega)
 have HN := Lib.hid hn; have HS := Lib.hid hS
 clear hn hm hS
 have HE := Lib.hid (show Below w.heap.size w (w.alloc (.cells #[.int .i64 id, .int .i64 fi, .slice S sn sc, .slice V vn vc] 24)) from below_alloc1 w _)
 have HK := Lib.hid (boxes1' w 24 #[.int .i64 id, .int .i64 fi, .slice S sn sc, .slice V vn vc])
 go_enter Tryz.func118, Tryz.ntmps118
 go_upto_region 1 with fail
 obtain ⟨W0, hW0⟩ : ∃ W0 : World, (w.alloc (.cells #[.int .i64 id, .int .i64 fi, .slice S sn sc, .slice V vn vc] 24)) = W0 := ⟨_, rfl⟩
 rw [hW0] at HE HK ⊢
 clear hW0
 obtain ⟨G, hG⟩ : ∃ G, w.heap.size = G := ⟨_, rfl⟩
 rw [hG] at HK ⊢
 have HG := Lib.hid hG; clear hG
 have r_ := HK.out _ (.head _)
 have r_1 := r_.cell 1
 simp at r_1
 clear r_
 go_wp2_with fail
 refine (CM0.out _).mono ?_
 rintro e y1 ⟨rfl, hq⟩
 have HE1 := Lib.hid (below_then HE.out hq); have HK1 := Lib.hid (HK.out.on hq)
 clear hq HE HK r_1 CM0
 go_wp2_with fail
 have H0 := xsTo_in fi st 0
 go_loopw [3, 4, 5] (fun x v i wr => ∃ (k : Nat) (y : Int), k ≤ sn ∧ k ≤ 7 ∧ x = .int .i64 y ∧ i = .int .i64 k ∧ OwnInts (G + 1) wr v (xsTo fi st k).1 ∧ (xsTo fi st k).2 = y ∧ Below w.heap.size w wr ∧ Boxes wr [(G, 24, #[.int .i64 id, .int .i64 fi, .slice S sn sc, .slice V vn vc])]) (fun _ _ i _ => 7 - (intOf i).toNat)
 case atStart => exact ⟨0, _, by omega, by omega, rfl, rfl, (by have h := own_one y1 (G + 1) (fi % 50) (HK1.out _ (.head _)).lt; exact h), rfl, below_then HE1.out (below_alloc1 _ _), HK1.out.on (below_alloc1 _ _)⟩
 case round =>
  obtain ⟨k, y, hk, hk7, rfl, rfl, hown, hy, hB, hX⟩ := hrel
  have HB := Lib.hid hB; have HX := Lib.hid hX; have HO := Lib.hid hown; have HY := Lib.hid hy
  have hin := xsTo_in fi st k
  rw [hy] at hin
  have hln := xsTo_len fi st k (by rw [← HN.out]; exact hk)
  clear hB hX hown hy HE1 HK1 H0
  have r_ := HX.out _ (.head _)
  have r_2 := r_.cell 2
  simp at r_2
  clear r_
  by_cases hlt : k < sn ∧ k < 7
  ·obtain ⟨h1, h2⟩ := hlt
   have k1 : (k : Int) < (sn : Int) := by omega
   have k2 : (k : Int) < 7 := by omega
   have k3 : (0 : Int) ≤ (k : Int) := by omega
   obtain ⟨s, hs⟩ : ∃ s, st[k]? = some s := ⟨_, List.getElem?_eq_getElem (show k < st.length by rw [← HN.out]; exact h1)⟩
   obtain ⟨b, o, rfl, lb, hc⟩ : ∃ b o, S = some ⟨b, o, none⟩ ∧ b < w.heap.size ∧ IntsMem w b o st := by
    rcases HS.out with h | h
    ·exfalso; rw [h] at hs; cases hs
    ·exact h
   have c0 := hc k s hs
   rw [← HB.out.cell (p := ⟨b, o + k, none⟩) lb] at c0
   have hsc := xsTo_succ (fi := fi) hs
   rw [HY.out] at hsc
   obtain ⟨b0, b1⟩ := emod_in s (show (0 : Int) < 40 by omega)
   have CM : Hid (∀ W, Calls Tryz.prog 23 #[.int .i64 s, .int .i64 40] W fun e w' => e = .returned (.int .i64 (s % 40)) ∧ Below W.heap.size W w') := Lib.hid fun W => smod_to s 40 W (by omega) (by omega)
   obtain ⟨a, ha⟩ : ∃ a, s % 40 = a := ⟨_, rfl⟩
   rw [ha] at b0 b1 CM hsc
   have w1 : IntKind.i64.wrap (1 + a) = 1 + a := IntWalk.i64_in _ ⟨by omega, by omega⟩
   have w2 : IntKind.i64.wrap (y + (1 + a)) = y + (1 + a) := IntWalk.i64_in _ ⟨by omega, by omega⟩
   have hin2 : 0 ≤ y + (1 + a) := by omega
   have HSC := Lib.hid hsc; have HLN := Lib.hid hln
   clear hsc hln ha b0 b1 hin hin2 hs hc
   go_wp2_with fail
   refine (CM.out _).mono ?_
   rintro e w2' ⟨rfl, hq⟩
   have HB2 := Lib.hid (below_then HB.out hq); have HX2 := Lib.hid (HX.out.on hq); have HO2' := Lib.hid (show OwnInts (G + 1) w2' u4 (xsTo fi st k).1 from World.ownsRow.kept (show wr.ownsRow (G + 1) 3 1 u4 _ _ from HO.out) (below_grownNone hq) (by cases hv : Value.ownBlock u4 <;> simp))
   clear hq HB HX HO c0 r_2 CM
   have HO2 := Lib.hid (HO2'.out.alloc (.cells #[.int .i64 (y + (1 + a))] 3)); clear HO2'
   have HCE := Lib.hid (cell_one w2' (y + (1 + a)) 3)
   go_wp2_with (at_builtin; refine wpList_append_own _ rfl (.tmp 31) (.tmp 33) 22 rfl (G + 1) 3 i0 (.int .i64 0) 1 8 Tryz.underlying22 i1 i2 i3 i4 rfl (by decide) _ _ _ rfl HO2.out ⟨w2'.heap.size, 0, none⟩ 1 1 [.int .i64 (y + (1 + a))] rfl rfl HCE.out ?d2 ?d3 ?d4 ?d5 ?_)
   case d2 => simp [Value.oneCell']
   case d3 => simp only [maxLen, List.length_map]; have := HLN.out; omega
   case d4 => simp only [List.length_map]; have := HLN.out; omega
   case d5 => have := (HX2.out _ (.head _)).lt; simp; omega
   intro v' w5 hown1 hgrow _
   have hb5 := (HB2.out.alloc HB2.out.size _).grown hgrow (by have := HB2.out.size; simp; omega) (fun j hj => by have := (World.ownsRow.lt HO2.out j hj).1; have := HG.out; omega)
   have hX5 := boxes_grown (HX2.out.on (below_alloc1 w2' (.cells #[.int .i64 (y + (1 + a))] 3))) hgrow (fun p hp hj => by
    have q := (World.ownsRow.lt HO2.out _ hj.symm).1
    simp only [List.mem_cons, List.not_mem_nil, or_false] at hp
    rw [hp] at q; dsimp only at q; have := HG.out; omega)
   have hown2 : OwnInts (G + 1) w5 v' (xsTo fi st (k + 1)).1 := by
    rw [HSC.out]; exact own_snoc hown1
   clear hown1 hgrow
   go_wp2
   go_roundw
   case rel => exact ⟨k + 1, _, by omega, by omega, rfl, by go_num, hown2, by rw [HSC.out], hb5, hX5⟩
   case measure => simp [intOf]; omega
  have hlenN : (ints (xsTo fi st k).1).length = k + 1 := by rw [List.length_map, hln]
  have HO1 : Hid (wr.ownsRow (G + 1) 3 1 u4 (k + 1) (ints (xsTo fi st k).1)) := Lib.hid (by
   have q := HO.out
   unfold OwnInts at q
   rw [hlenN] at q
   exact q)
  obtain ⟨g2, cap, rfl, _, _⟩ := HO1.out.form (by omega)
  by_cases h0 : sn = 0
  ·-- no step: a second place ten behind the first
   have hk0 : k = 0 := by omega
   subst hk0
   have hfin : xsS fi st = (xsTo fi st 0).1 ++ [y + 10] := by unfold xsS; rw [if_pos (by have := HN.out; omega), HY.out]
   have HF := Lib.hid hfin
   have k1 : ¬ ((0 : Nat) : Int) < (sn : Int) := by omega
   have k1' : ¬ (0 : Int) < (sn : Int) := by omega
   have w3 : IntKind.i64.wrap (y + 10) = y + 10 := IntWalk.i64_in _ ⟨by omega, by omega⟩
   have HO2 := Lib.hid (World.ownsRow.alloc (o := .cells #[.int .i64 (y + 10)] 3) HO1.out)
   have HCE := Lib.hid (cell_one wr (y + 10) 3)
   have HLN := Lib.hid hln
   clear hin hln hfin hlenN HO HO1 hlt h0 hk hk7
   go_wp2_with (at_builtin; refine wpList_append_own _ rfl (.tmp 38) (.tmp 41) 22 rfl (G + 1) 3 i0 (.int .i64 0) 1 8 Tryz.underlying22 i1 i2 i3 i4 rfl (by decide) _ _ _ rfl HO2.out ⟨wr.heap.size, 0, none⟩ 1 1 [.int .i64 (y + 10)] rfl rfl HCE.out ?d2 ?d3 ?d4 ?d5 ?_)
   case d2 => simp [Value.oneCell']
   case d3 => simp only [maxLen]; omega
   case d5 => have := (HX.out _ (.head _)).lt; simp; omega
   intro v' w5 hown1 hgrow _
   have hb5 := (HB.out.alloc HB.out.size _).grown hgrow (by have := HB.out.size; simp; omega) (fun j hj => by have := (World.ownsRow.lt HO2.out j hj).1; have := HG.out; omega)
   have hown2 : OwnInts (G + 1) w5 v' (xsS fi st) := by
    rw [HF.out]; exact own_snoc (by rw [HLN.out]; exact hown1)
   clear hown1 hgrow
   go_wp2
   go_ret
   exact ⟨_, rfl, World.ownsRow.mono (show w5.ownsRow (G + 1) 3 1 v' _ _ from hown2) (by have := HG.out; omega), hb5⟩
  have hfin : xsS fi st = (xsTo fi st k).1 := by
   unfold xsS; rw [if_neg (by have := HN.out; omega), show min st.length 7 = k by have := HN.out; omega]
  have hown2 : OwnInts (G + 1) wr (.slice (some ⟨g2, 0, none⟩) (k + 1) cap) (xsS fi st) := by rw [hfin]; exact HO.out
  have HO3 := Lib.hid hown2
  have k3 : ¬ ((k : Int) + 1) < 2 := by omega
  have k4 : ¬ (((k + 1 : Nat) : Int)) < 2 := by omega
  rcases (show ((k : Int) < (sn : Int) ∧ ¬ (k : Int) < 7) ∨ ¬ (k : Int) < (sn : Int) by omega) with ⟨k1, k2⟩ | k1
  all_goals
   clear hin hln hfin hown2 hlenN HO HO1 hlt h0 hk hk7
   go_wp2
   go_ret
   exact ⟨_, rfl, World.ownsRow.mono (show wr.ownsRow (G + 1) 3 1 (.slice (some ⟨g2, 0, none⟩) (k + 1) cap) _ _ from HO3.out) (by have := HG.out; omega), HB.out⟩
end

end Go.Proofs.YtemlaaipnhmcoaaGreat
