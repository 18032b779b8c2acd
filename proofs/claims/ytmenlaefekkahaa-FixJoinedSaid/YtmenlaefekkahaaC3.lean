/- The contract of Area (fix) where it tells one. Its conditions: the table's points lie in memory, it is valid; the fractions of its totals fit. -/
import Derived.Test.YtmenlaefekkahaaC1
import Derived.Test.YtmenlaefekkahaaB7
import Derived.WalkSmall
set_option linter.unusedVariables false
set_option linter.unusedSimpArgs false
set_option linter.constructorNameAsVariable false
namespace Go.Proofs.Ytmenlaefekkahaa
open Go.RowKit Go.Shelf
attribute [local go_sem] Oper.semAt_some

/-- the totals of the lower line, and of the upper one upside down -/
def lowF (a b : Int) (pre : List Pc) : Int × Int × Int := pre.foldl (fun s y => areaStep s y.1.1 y.1.2 y.1.1.2.1 y.1.2.2.1 a b) (0, 0, 1)
def highF (a b : Int) (pre : List Pc) : Int × Int × Int := pre.foldl (fun s y => areaStep s y.1.1 y.1.2 (-y.1.1.2.2) (-y.1.2.2.2) a b) (0, 0, 1)
theorem lowF_snoc (a b : Int) (pre : List Pc) (y : Pc) : lowF a b (pre ++ [y]) = areaStep (lowF a b pre) y.1.1 y.1.2 y.1.1.2.1 y.1.2.2.1 a b := by simp [lowF]
theorem highF_snoc (a b : Int) (pre : List Pc) (y : Pc) : highF a b (pre ++ [y]) = areaStep (highF a b pre) y.1.1 y.1.2 (-y.1.1.2.2) (-y.1.2.2.2) a b := by simp [highF]

theorem quiet_add {P : Program} {f : FuncId} {args : Array Value} {w : World} {a n : Nat} {v : Value}
    (h : Calls P f args (w.drewN (a + n)) fun e w' => e = .returned v ∧ ∃ m, w' = (w.drewN (a + n)).drewN m) :
    Calls P f args (w.drewN (a + n)) fun e w'' => e = .returned v ∧ ∃ m, w'' = w.drewN (a + m) :=
  h.mono fun _ _ ⟨he, m, hm⟩ => ⟨he, n + m, by rw [hm, World.drewN_drewN, Nat.add_assoc]⟩

set_option maxRecDepth 100000 in
set_option maxHeartbeats 4000000 in
theorem area_good (b0 o n c : Nat) (ps : List P3) (xs : List Pc) (a b : Int) (w : World) (hn : n = ps.length) (h2 : 1 ≤ n) (hb : b0 < w.heap.size) (ht : tabOk ps = true) (hxs : xs.map (·.1) = pcs ps) (hpl : placesS ps a b = 0) (hc : PtsAt w b0 o ps)
    (hl1 : 1 ≤ (lowF a b xs).2.2) (hl2 : -9223372036854775808 ≤ (lowF a b xs).2.1) (hl3 : (lowF a b xs).2.1 ≤ 9223372036854775807) (hh1 : 1 ≤ (highF a b xs).2.2) (hh2 : -9223372036854775808 ≤ (highF a b xs).2.1) (hh3 : (highF a b xs).2.1 ≤ 9223372036854775807) :
    Calls Try.prog 54 #[tv (some ⟨b0, o, none⟩) n c, .int .i64 a, .int .i64 b] w fun e w' => e = .returned (.tuple #[.int .i64 (downS (lowF a b xs)), .int .i64 (wrap64 (-(downS (highF a b xs)))), .int .i64 0]) ∧ Below w.heap.size w w' := by
  have h40 := (tabOk_len ht).2
  have hml : n ≤ maxLen := by unfold maxLen; omega
  have hn40 : n ≤ 40 := by omega
  have HN := Lib.hid hn; clear hn
  have HT := Lib.hid ht; clear ht
  have HX := Lib.hid hxs; clear hxs
  have HPL := Lib.hid hpl; clear hpl
  have HD := Lib.hid (And.intro hl1 (And.intro hl2 (And.intro hl3 (And.intro hh1 (And.intro hh2 hh3))))); clear hl1 hl2 hl3 hh1 hh2 hh3
  have hB0 : Below w.heap.size w (((w.alloc (.cells #[.slice (some ⟨b0, o, none⟩) n c] 43)).alloc (.cells #[.int .i64 a] 3)).alloc (.cells #[.int .i64 b] 3)) := below_a2 ((Below.refl _ _).alloc (Nat.le_refl _) _)
  have HC := Lib.hid (hc.below hB0 hb); clear hc
  have hb0 : b0 < (((w.alloc (.cells #[.slice (some ⟨b0, o, none⟩) n c] 43)).alloc (.cells #[.int .i64 a] 3)).alloc (.cells #[.int .i64 b] 3)).heap.size := by simp; omega
  have bA := (Blk.new (w.alloc (.cells #[.slice (some ⟨b0, o, none⟩) n c] 43)) 3 #[.int .i64 a]).alloc (.cells #[.int .i64 b] 3)
  have bB := Blk.new ((w.alloc (.cells #[.slice (some ⟨b0, o, none⟩) n c] 43)).alloc (.cells #[.int .i64 a] 3)) 3 #[.int .i64 b]
  have bT := ((Blk.new w 43 #[.slice (some ⟨b0, o, none⟩) n c]).alloc (.cells #[.int .i64 a] 3)).alloc (.cells #[.int .i64 b] 3)
  simp only [World.size_alloc] at bA bB
  have HB := Lib.hid hb0; clear hb0
  have HBA := Lib.hid bA; have HBB := Lib.hid bB; have HBT := Lib.hid bT; clear bA bB bT
  have HB0 := Lib.hid hB0; clear hB0
  refine (callsIn_wide (n := 6)).1 ?_
  refine callsIn_of_wp_marks Try.func54 rfl trivial ?_ rfl
  simp only [Try.ntmps54, List.size_toArray, List.length_cons, List.length_nil, Nat.reduceAdd, Nat.reduceSub, Array.replicate_succ, Array.replicate_zero, List.push_toArray, List.append_toArray, List.nil_append, List.cons_append]
  gi_wp2_with fail
  refine ⟨trivial, ?_⟩
  refine (callsIn_wide.2 (checkPlaces_to _ n c ps a b _ _ HN.out hml (HC.out.pts HB.out) HPL.out)).mono ?_
  rintro e w1 ⟨rfl, hb1⟩
  have bA1 := HBA.out.below hb1 HBA.out.lt
  have bB1 := HBB.out.below hb1 HBB.out.lt
  have bT1 := HBT.out.below hb1 HBT.out.lt
  have P1 := HC.out.below hb1 HB.out
  have hz1 : w.heap.size + 1 + 1 < w1.heap.size := by have := hb1.size; simp at this; omega
  have hB1 := below_then HB0.out hb1
  have hbw : b0 < w1.heap.size := by omega
  have t0 := bT1.cell 0
  simp at t0
  have HP1 := Lib.hid P1; have HBA1 := Lib.hid bA1; have HBB1 := Lib.hid bB1; have HB1 := Lib.hid hB1
  clear P1 bA1 bB1 hB1 bT1 hb1
  have hya : w.heap.size < w1.heap.size := by omega
  have hyb : w.heap.size < w1.heap.size + 1 := by omega
  have hyc : w.heap.size < w1.heap.size + 1 + 1 := by omega
  have hyd : w.heap.size < w1.heap.size + 1 + 1 + 1 := by omega
  gi_wp2_with (refine ⟨trivial, ?_⟩; gi_at_call 111; refine (callsIn_wide.2 (pieces_any _ _ _ _)).mono ?_; rintro e w' ⟨rfl, rfl⟩)
  have bA := ((((HBA1.out.alloc (.cells #[.int .i64 0, .int .i64 0, .int .i64 1] 118)).alloc (.cells #[.int .i64 0, .int .i64 0, .int .i64 1] 118)).alloc (.cells #[.pointer (some ⟨w1.heap.size, 0, none⟩)] 116)).alloc (.cells #[.pointer (some ⟨w1.heap.size + 1, 0, none⟩)] 116)).alloc (.cells #[.slice (some ⟨b0, o, none⟩) n c] 43)
  have bB := ((((HBB1.out.alloc (.cells #[.int .i64 0, .int .i64 0, .int .i64 1] 118)).alloc (.cells #[.int .i64 0, .int .i64 0, .int .i64 1] 118)).alloc (.cells #[.pointer (some ⟨w1.heap.size, 0, none⟩)] 116)).alloc (.cells #[.pointer (some ⟨w1.heap.size + 1, 0, none⟩)] 116)).alloc (.cells #[.slice (some ⟨b0, o, none⟩) n c] 43)
  have bL := (((((Blk.new w1 118 #[.int .i64 0, .int .i64 0, .int .i64 1])).alloc (.cells #[.int .i64 0, .int .i64 0, .int .i64 1] 118)).alloc (.cells #[.pointer (some ⟨w1.heap.size, 0, none⟩)] 116)).alloc (.cells #[.pointer (some ⟨w1.heap.size + 1, 0, none⟩)] 116)).alloc (.cells #[.slice (some ⟨b0, o, none⟩) n c] 43)
  have bH := (((Blk.new (w1.alloc (.cells #[.int .i64 0, .int .i64 0, .int .i64 1] 118)) 118 #[.int .i64 0, .int .i64 0, .int .i64 1]).alloc (.cells #[.pointer (some ⟨w1.heap.size, 0, none⟩)] 116)).alloc (.cells #[.pointer (some ⟨w1.heap.size + 1, 0, none⟩)] 116)).alloc (.cells #[.slice (some ⟨b0, o, none⟩) n c] 43)
  have bP := ((Blk.new ((w1.alloc (.cells #[.int .i64 0, .int .i64 0, .int .i64 1] 118)).alloc (.cells #[.int .i64 0, .int .i64 0, .int .i64 1] 118)) 116 #[.pointer (some ⟨w1.heap.size, 0, none⟩)]).alloc (.cells #[.pointer (some ⟨w1.heap.size + 1, 0, none⟩)] 116)).alloc (.cells #[.slice (some ⟨b0, o, none⟩) n c] 43)
  have bQ := (Blk.new (((w1.alloc (.cells #[.int .i64 0, .int .i64 0, .int .i64 1] 118)).alloc (.cells #[.int .i64 0, .int .i64 0, .int .i64 1] 118)).alloc (.cells #[.pointer (some ⟨w1.heap.size, 0, none⟩)] 116)) 116 #[.pointer (some ⟨w1.heap.size + 1, 0, none⟩)]).alloc (.cells #[.slice (some ⟨b0, o, none⟩) n c] 43)
  have bT := Blk.new ((((w1.alloc (.cells #[.int .i64 0, .int .i64 0, .int .i64 1] 118)).alloc (.cells #[.int .i64 0, .int .i64 0, .int .i64 1] 118)).alloc (.cells #[.pointer (some ⟨w1.heap.size, 0, none⟩)] 116)).alloc (.cells #[.pointer (some ⟨w1.heap.size + 1, 0, none⟩)] 116)) 43 #[.slice (some ⟨b0, o, none⟩) n c]
  simp only [World.size_alloc] at bH bP bQ bT
  have hE : Below w1.heap.size w1 (((((w1.alloc (.cells #[.int .i64 0, .int .i64 0, .int .i64 1] 118)).alloc (.cells #[.int .i64 0, .int .i64 0, .int .i64 1] 118)).alloc (.cells #[.pointer (some ⟨w1.heap.size, 0, none⟩)] 116)).alloc (.cells #[.pointer (some ⟨w1.heap.size + 1, 0, none⟩)] 116)).alloc (.cells #[.slice (some ⟨b0, o, none⟩) n c] 43)) := below_a3 (below_a2 (Below.refl _ _))
  have hsz : (((((w1.alloc (.cells #[.int .i64 0, .int .i64 0, .int .i64 1] 118)).alloc (.cells #[.int .i64 0, .int .i64 0, .int .i64 1] 118)).alloc (.cells #[.pointer (some ⟨w1.heap.size, 0, none⟩)] 116)).alloc (.cells #[.pointer (some ⟨w1.heap.size + 1, 0, none⟩)] 116)).alloc (.cells #[.slice (some ⟨b0, o, none⟩) n c] 43)).heap.size = w1.heap.size + 5 := by simp
  obtain ⟨W0, hW0⟩ : ∃ W0, (((((w1.alloc (.cells #[.int .i64 0, .int .i64 0, .int .i64 1] 118)).alloc (.cells #[.int .i64 0, .int .i64 0, .int .i64 1] 118)).alloc (.cells #[.pointer (some ⟨w1.heap.size, 0, none⟩)] 116)).alloc (.cells #[.pointer (some ⟨w1.heap.size + 1, 0, none⟩)] 116)).alloc (.cells #[.slice (some ⟨b0, o, none⟩) n c] 43)) = W0 := ⟨_, rfl⟩
  rw [hW0] at bA bB bL bH bP bQ bT hE hsz ⊢
  clear hW0
  have hBW := below_then HB1.out hE
  have hc0 := HP1.out.below hE hbw
  clear hE
  refine wpIn_rangeFunc_ownH rfl (by omega) (gf := 132) (lb := #[.pointer (some ⟨w1.heap.size + 1 + 1 + 1 + 1, 0, none⟩)]) rfl trivial (enters_of Try.func132 (by kernel_rfl) rfl)
    (pieces_stops xs (6 - 1) (by omega) (w1.heap.size + 1 + 1 + 1 + 1) w.heap.size b0 o n c ps HN.out h2 hn40 HX.out hb W0 (by omega) (by omega) (bT.cell 0) hc0) belowK_t (belowK_b (by omega)) (Below.refl _ _) (fun _ => rfl)
    (fun pre W => (Blk W (w.heap.size + 1) 3 #[.int .i64 a] ∧ Blk W (w.heap.size + 1 + 1) 3 #[.int .i64 b] ∧ Blk W (w1.heap.size + 1 + 1) 116 #[.pointer (some ⟨w1.heap.size, 0, none⟩)] ∧ Blk W (w1.heap.size + 1 + 1 + 1) 116 #[.pointer (some ⟨w1.heap.size + 1, 0, none⟩)] ∧ Blk W w1.heap.size 118 (tot3 (lowF a b pre)) ∧ Blk W (w1.heap.size + 1) 118 (tot3 (highF a b pre))) ∧ Below w.heap.size w W)
    (fun _ _ _ => False)
    (OwnFrom.and (Own.from (fun s X Y row hs hg hr => ⟨blk_own (β := Unit) _ _ (fun _ => _) () X Y row hs.1 hg hr, blk_own (β := Unit) _ _ (fun _ => _) () X Y row hs.2.1 hg hr, blk_own (β := Unit) _ _ (fun _ => _) () X Y row hs.2.2.1 hg hr, blk_own (β := Unit) _ _ (fun _ => _) () X Y row hs.2.2.2.1 hg hr, blk_own (β := Unit) _ _ (fun _ => _) () X Y row hs.2.2.2.2.1 hg hr, blk_own (β := Unit) _ _ (fun _ => _) () X Y row hs.2.2.2.2.2 hg hr⟩) _) (ownFrom_below (Nat.le_refl _) (by omega)))
    (fun _ _ _ _ _ hs _ _ => hs)
    ⟨⟨bA, bB, bP, bQ, bL, bH⟩, hBW⟩
    (fun y a' W => ∃ Bx, w1.heap.size + 1 + 1 + 1 < Bx ∧ Blk W Bx 111 #[.int .i64 y.1.1.1, .int .i64 y.1.1.2.1, .int .i64 y.1.1.2.2, .int .i64 y.1.2.1, .int .i64 y.1.2.2.1, .int .i64 y.1.2.2.2] ∧ a' = { tmps := #[tv (some ⟨b0, o, none⟩) n c, .int .i64 a, .int .i64 b, .pointer (some ⟨w.heap.size, 0, none⟩), .pointer (some ⟨w.heap.size + 1, 0, none⟩), .pointer (some ⟨w.heap.size + 1 + 1, 0, none⟩), .int .i64 0, .int .i64 0, .int .i64 0, .int .i64 0, .pointer (some ⟨w1.heap.size + 1 + 1, 0, none⟩), .pointer (some ⟨w1.heap.size + 1 + 1 + 1, 0, none⟩), .pointer (some ⟨Bx, 0, none⟩), .agg #[.slice (some ⟨b0, o, none⟩) n c], .int .i64 a, .int .i64 b, .int .i64 0, .int .i64 0, .bool false, undef, .agg #[.int .i64 0, .int .i64 0, .int .i64 1], .pointer (some ⟨w1.heap.size, 0, none⟩), .agg #[.int .i64 0, .int .i64 0, .int .i64 1], .pointer (some ⟨w1.heap.size + 1, 0, none⟩), .agg #[.slice (some ⟨b0, o, none⟩) n c], .func (.func 132) #[] #[.pointer (some ⟨w1.heap.size + 1 + 1 + 1 + 1, 0, none⟩)], pv y.1.1 y.1.2, undef, undef, undef, undef, undef, undef, undef, undef, undef, undef, undef, undef, undef, undef, undef, undef, undef, undef, undef, undef, undef, undef, undef, undef, undef, undef, undef, undef, undef, undef, undef], defers := [] })
    (fun y a' _ X Y row hs hg hr => by
      obtain ⟨Bx, h1, h2, h3⟩ := hs
      exact ⟨Bx, h1, blk_own (β := Unit) _ _ (fun _ => _) () X Y row h2 hg (fun r e => (hr r e).2), h3⟩)
    ?assign ?body ?done ?stop
  case assign =>
    rintro l pre y W K ⟨⟨i1, i2, i3, i4, i5, i6⟩, hB1⟩ hK
    gi_wp2
    exact hK _ _ ((KeepsOthers.alloc _ _).from _) ((Below.refl _ W).alloc hB1.size _) ⟨⟨i1.alloc _, i2.alloc _, i3.alloc _, i4.alloc _, i5.alloc _, i6.alloc _⟩, hB1.alloc hB1.size _⟩ ⟨W.heap.size, i4.lt, Blk.new W 111 _, rfl⟩
  case body =>
    rintro l pre y a' W hl ⟨r, hr⟩ ⟨⟨i1, i2, i3, i4, i5, i6⟩, hB1⟩ ⟨Bx, hBx, bP, rfl⟩ hlt
    have x1 := i1.cell 0
    have x2 := i2.cell 0
    have x3 := i3.cell 0
    have x4 := i4.cell 0
    have p0 := bP.cell 0
    have p1 := bP.cell 1
    have p2 := bP.cell 2
    have p3 := bP.cell 3
    have p4 := bP.cell 4
    have p5 := bP.cell 5
    simp at x1 x2 x3 x4 p0 p1 p2 p3 p4 p5
    have J1 := Lib.hid i1; have J2 := Lib.hid i2; have J3 := Lib.hid i3; have J4 := Lib.hid i4; have J5 := Lib.hid i5; have J6 := Lib.hid i6; have JP := Lib.hid bP; have JB := Lib.hid hB1
    clear i1 i2 i3 i4 i5 i6 bP hB1
    obtain ⟨o1, o2, o3, o4, o5, o6⟩ := y.2.1
    obtain ⟨o7, o8, o9, o10, o11, o12⟩ := y.2.2
    gi_wp2_with fail
    refine ⟨trivial, ?_⟩
    refine (CallsIn.inRound l (callsIn_wide.2 (addArea_any w1.heap.size (lowF a b pre) y.1.1 y.1.2 y.1.1.2.1 y.1.2.2.1 a b W J5.out y.2.1 y.2.2 o3 o4 o9 o10))).mono ?_
    rintro e W2 ⟨rfl, k5, u2⟩
    have k1 := J1.out.grown u2 (by intro e; injection e; omega)
    have k2 := J2.out.grown u2 (by intro e; injection e; omega)
    have k3 := J3.out.grown u2 (by intro e; injection e; omega)
    have k4 := J4.out.grown u2 (by intro e; injection e; omega)
    have k6 := J6.out.grown u2 (by intro e; injection e; omega)
    have kP := JP.out.grown u2 (by intro e; injection e; omega)
    have kB : Below w.heap.size w W2 := u2.below JB.out (by omega)
    have kK : KeepsFrom W0.heap.size W W2 := KeepsFrom.of_grownBy u2 (fun j e => by injection e; omega)
    have kN : Below w.heap.size W W2 := (Below.refl _ _).grown u2 JB.out.size (fun j e => by injection e; omega)
    clear x1 x2 x3 x4 p0 p1 p2 p3 p4 p5
    have x1 := k1.cell 0
    have x2 := k2.cell 0
    have x3 := k3.cell 0
    have x4 := k4.cell 0
    have p0 := kP.cell 0
    have p1 := kP.cell 1
    have p2 := kP.cell 2
    have p3 := kP.cell 3
    have p4 := kP.cell 4
    have p5 := kP.cell 5
    simp at x1 x2 x3 x4 p0 p1 p2 p3 p4 p5
    have L1 := Lib.hid k1; have L2 := Lib.hid k2; have L3 := Lib.hid k3; have L4 := Lib.hid k4; have L5 := Lib.hid k5; have L6 := Lib.hid k6; have LB := Lib.hid kB; have LK := Lib.hid kK; have LN := Lib.hid kN
    clear k1 k2 k3 k4 k5 k6 kP kB kK kN u2
    gi_wp2_with fail
    refine ⟨trivial, ?_⟩
    refine (CallsIn.inRound l (callsIn_wide.2 (addArea_any (w1.heap.size + 1) (highF a b pre) y.1.1 y.1.2 (-y.1.1.2.2) (-y.1.2.2.2) a b W2 L6.out y.2.1 y.2.2 (by omega) (by omega) (by omega) (by omega)))).mono ?_
    rintro e W3 ⟨rfl, m6, u3⟩
    have m1 := L1.out.grown u3 (by intro e; injection e; omega)
    have m2 := L2.out.grown u3 (by intro e; injection e; omega)
    have m3 := L3.out.grown u3 (by intro e; injection e; omega)
    have m4 := L4.out.grown u3 (by intro e; injection e; omega)
    have m5 := L5.out.grown u3 (by intro e; injection e; omega)
    have mB : Below w.heap.size w W3 := u3.below LB.out (by omega)
    have mK : KeepsFrom W0.heap.size W2 W3 := KeepsFrom.of_grownBy u3 (fun j e => by injection e; omega)
    have mN : Below w.heap.size W2 W3 := (Below.refl _ _).grown u3 LB.out.size (fun j e => by injection e; omega)
    rw [← lowF_snoc] at m5
    rw [← highF_snoc] at m6
    have M1 := Lib.hid m1; have M2 := Lib.hid m2; have M3 := Lib.hid m3; have M4 := Lib.hid m4; have M5 := Lib.hid m5; have M6 := Lib.hid m6; have MB := Lib.hid mB
    clear m1 m2 m3 m4 m5 m6 mB u3
    gi_wp2
    exact ⟨LK.out.trans mK, LN.out.trans mN, ⟨M1.out, M2.out, M3.out, M4.out, M5.out, M6.out⟩, MB.out⟩
  case done =>
    rintro D ys W hD rfl ⟨⟨i1, i2, i3, i4, i5, i6⟩, hB1⟩ hK
    have x3 := i3.cell 0
    have x4 := i4.cell 0
    simp at x3 x4
    obtain ⟨d1, d2, d3, d4, d5, d6⟩ := HD.out
    have J5 := Lib.hid i5; have J6 := Lib.hid i6; have JB := Lib.hid hB1
    clear i1 i2 i3 i4 i5 i6 hB1
    gi_wp2_with fail
    refine wpIn_wide.2 ?_
    go_quiet ((go_at_call 113; first | exact Calls.quiet_of (down_any _ (lowF a b ys) _ (by exact J5.out) d1 d2 d3) | exact Calls.quiet_of (down_any _ (highF a b ys) _ (by exact J6.out) d4 d5 d6) | exact quiet_add (down_any _ (lowF a b ys) _ (by exact J5.out) d1 d2 d3) | exact quiet_add (down_any _ (highF a b ys) _ (by exact J6.out) d4 d5 d6)))
    gi_wp2
    have hK' : ∀ k, (W.drewN k).heap[D]? = some (.deferred (some [])) := fun k => hK
    refine ⟨by simp, .inl ⟨_, _, rfl, run_takeDeferred (hK' _), ?_⟩⟩
    refine ⟨.tuple #[.int .i64 (downS (lowF a b ys)), .int .i64 (wrap64 (-(downS (highF a b ys)))), .int .i64 0], ?_, rfl, ?_⟩
    · simp [results, Try.f54, go_sem]
    · exact (below_drewN JB.out _).trans (belowK_b (w := W0) (by omega) _ D _ _ (by omega) (hK' _) rfl rfl)
  case stop =>
    rintro D cd pre W _ _ h _
    exact h.elim
end Go.Proofs.Ytmenlaefekkahaa
