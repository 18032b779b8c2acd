/- The walk of FixNarrows (the law package): it returns true. Its conditions: the points and the numbers lie in memory. -/
import Derived.Test.YthhcejcpopgkiaaY0
import Derived.Test.YthhcejcpopgkiaaI1
import Derived.Test.YthhcejcpopgkiaaU0
import Derived.Deep.RegionHeld3
import Derived.StillTailTactics
import Derived.Deep.RegionLaw
import Derived.Deep.RegionHeldLaw
import Derived.Deep.AppendLies
set_option linter.unusedVariables false
set_option linter.unusedSimpArgs false
set_option linter.constructorNameAsVariable false
namespace Go.Proofs.Ythhcejcpopgkiaa
open Go.RowKit
attribute [local go_sem ↓] run_minI run_maxI

/-- A row of numbers in memory is handed back. -/
def GivesRow (w : World) (n : Nat) (L : List Int) (e : Ending) (w' : World) : Prop := ∃ pg cap, e = .returned (.slice (some ⟨pg, 0, none⟩) n cap) ∧ pg < w'.heap.size ∧ IntsMem w' pg 0 L ∧ Below w.heap.size w w'
theorem row_of {w w' : World} {n : Nat} {L : List Int} {e : Ending} (h : GivesInts w L e w') (hn : n = L.length) (h1 : 1 ≤ n) : GivesRow w n L e w' := by
  subst hn
  obtain ⟨pg, cap, rfl, _, l, m, hb⟩ := gives_form h (by intro c; rw [c] at h1; simp at h1)
  exact ⟨pg, cap, rfl, l, fun k x hx => by rw [Nat.zero_add]; exact m k x hx, hb⟩
/-- A table in a box, its points in a row of the call's own. -/
def NarRow (base g : Nat) (W : World) (L : List P3) : Prop := ∃ v, Blk W g 43 #[v] ∧ OwnPts base W v L
theorem Most.refl (base g : Nat) (w : World) : Most base g w w := ⟨rfl, rfl, rfl, Nat.le_refl _, fun _ _ _ => rfl⟩
theorem Most.cell {base g b o : Nat} {w w' : World} (h : Most base g w w') (h1 : b < base) (h2 : b ≠ g) : w'.cell? ⟨b, o, none⟩ = w.cell? ⟨b, o, none⟩ := by
  unfold World.cell?
  dsimp only
  rw [h.2.2.2.2 b h1 h2]
/-- One more point behind a table's. -/
theorem Most.push {base g : Nat} {W0 wr w5 : World} {o1 o2 : Obj} {j : Nat} {row : Option Nat} {u : Value} (h : Most base g W0 wr) (hb : base ≤ W0.heap.size) (hg : (((wr.alloc o1).drewN j).alloc o2).grownBy w5 row) (hr : ∀ i, row = some i → base ≤ i) : Most base g W0 (w5.setCell ⟨g, 0, none⟩ u) := by
  obtain ⟨h1, h2, h3, h4, h5⟩ := h
  have hs := hg.size
  have hs' : (((wr.alloc o1).drewN j).alloc o2).heap.size = wr.heap.size + 2 := by show ((wr.alloc o1).alloc o2).heap.size = _; simp
  refine ⟨hg.os.trans h1, hg.tape.trans h2, hg.output.trans h3, by simp [World.setCell]; omega, fun i hi hne => ?_⟩
  refine (Below.heap_setCell _ _ _ i (by exact hne)).trans ?_
  refine (hg.block i (by omega) (fun e => by have := hr i e.symm; omega)).trans ?_
  refine (Below.heap_alloc _ _ i (by show i < (wr.alloc _).heap.size; simp; omega)).trans ?_
  exact (Below.heap_alloc wr _ i (by omega)).trans (h5 i hi hne)
theorem narrow_len : ∀ (ps : List P3) (ys zs : List Int), (narrowS ps ys zs).length ≤ ps.length
  | [], _, _ => by simp [narrowS]
  | _ :: _, [], _ => by simp [narrowS]
  | _ :: _, _ :: _, [] => by simp [narrowS]
  | p :: ps, y :: ys, z :: zs => by have := narrow_len ps ys zs; simp [narrowS]; omega
theorem keep_grown {X w5 : World} {row : Option Nat} {A B C i j : Nat} {x0 x1 x2 : Value} (hg : X.grownBy w5 row) (h : X.cell? ⟨A, 0, none⟩ = some x0 ∧ X.cell? ⟨B, i, none⟩ = some x1 ∧ X.cell? ⟨C, j, none⟩ = some x2)
    (hA : A < X.heap.size) (hB : B < X.heap.size) (hC : C < X.heap.size) (a : row ≠ some A) (b : row ≠ some B) (c : row ≠ some C) : w5.cell? ⟨A, 0, none⟩ = some x0 ∧ w5.cell? ⟨B, i, none⟩ = some x1 ∧ w5.cell? ⟨C, j, none⟩ = some x2 :=
  ⟨(hg.cell_far _ hA (Ne.symm a)).trans h.1, (hg.cell_far _ hB (Ne.symm b)).trans h.2.1, (hg.cell_far _ hC (Ne.symm c)).trans h.2.2⟩
theorem keep_set {X : World} {A B C i j g : Nat} {x0 x1 x2 u : Value} (h : X.cell? ⟨A, 0, none⟩ = some x0 ∧ X.cell? ⟨B, i, none⟩ = some x1 ∧ X.cell? ⟨C, j, none⟩ = some x2) (a : A ≠ g) (b : B ≠ g) (c : C ≠ g) :
    (X.setCell ⟨g, 0, none⟩ u).cell? ⟨A, 0, none⟩ = some x0 ∧ (X.setCell ⟨g, 0, none⟩ u).cell? ⟨B, i, none⟩ = some x1 ∧ (X.setCell ⟨g, 0, none⟩ u).cell? ⟨C, j, none⟩ = some x2 := by
  have k : ∀ b o, b ≠ g → (X.setCell ⟨g, 0, none⟩ u).cell? ⟨b, o, none⟩ = X.cell? ⟨b, o, none⟩ := fun b o hb => by
    unfold World.cell?
    dsimp only
    rw [Below.heap_setCell _ _ _ b (by exact hb)]
  exact ⟨(k _ _ a).trans h.1, (k _ _ b).trans h.2.1, (k _ _ c).trans h.2.2⟩
theorem keep3c {W2 w0 w1 : World} {x0 x1 x2 : Value} {A B : Nat} (hb : Below w0.heap.size w0 w1) (h : w0.cell? ⟨A, 0, none⟩ = some x0 ∧ w0.cell? ⟨B, 0, none⟩ = some x1 ∧ w0.cell? ⟨B, 1, none⟩ = some x2 ∧ Below W2.heap.size W2 w0) (h1 : A < W2.heap.size) (h2 : B < W2.heap.size) :
    w1.cell? ⟨A, 0, none⟩ = some x0 ∧ w1.cell? ⟨B, 0, none⟩ = some x1 ∧ w1.cell? ⟨B, 1, none⟩ = some x2 ∧ Below W2.heap.size W2 w1 := by
  obtain ⟨q0, q1, q2, q6⟩ := h
  have hl := Nat.lt_of_lt_of_le h1 q6.size
  have hl2 := Nat.lt_of_lt_of_le h2 q6.size
  obtain ⟨p, _⟩ := bcell hb
  exact ⟨(p _ _ hl).trans q0, (p _ _ hl2).trans q1, (p _ _ hl2).trans q2, below_then q6 hb⟩
theorem below3c {W2 w0 : World} {x0 x1 x2 : Value} {A B : Nat} (h : w0.cell? ⟨A, 0, none⟩ = some x0 ∧ w0.cell? ⟨B, 0, none⟩ = some x1 ∧ w0.cell? ⟨B, 1, none⟩ = some x2 ∧ Below W2.heap.size W2 w0) : Below W2.heap.size W2 w0 := h.2.2.2
theorem keep3d {W2 w0 w1 : World} {x0 x1 x2 : Value} {A B C i j : Nat} (hb : Below w0.heap.size w0 w1) (h : w0.cell? ⟨A, 0, none⟩ = some x0 ∧ w0.cell? ⟨B, i, none⟩ = some x1 ∧ w0.cell? ⟨C, j, none⟩ = some x2 ∧ Below W2.heap.size W2 w0) (h1 : A < W2.heap.size) (h2 : B < W2.heap.size) (h3 : C < W2.heap.size) :
    w1.cell? ⟨A, 0, none⟩ = some x0 ∧ w1.cell? ⟨B, i, none⟩ = some x1 ∧ w1.cell? ⟨C, j, none⟩ = some x2 ∧ Below W2.heap.size W2 w1 := by
  obtain ⟨q0, q1, q2, q6⟩ := h
  obtain ⟨p, _⟩ := bcell hb
  exact ⟨(p _ _ (Nat.lt_of_lt_of_le h1 q6.size)).trans q0, (p _ _ (Nat.lt_of_lt_of_le h2 q6.size)).trans q1, (p _ _ (Nat.lt_of_lt_of_le h3 q6.size)).trans q2, below_then q6 hb⟩
theorem below3d {W2 w0 : World} {x0 x1 x2 : Value} {A B C i j : Nat} (h : w0.cell? ⟨A, 0, none⟩ = some x0 ∧ w0.cell? ⟨B, i, none⟩ = some x1 ∧ w0.cell? ⟨C, j, none⟩ = some x2 ∧ Below W2.heap.size W2 w0) : Below W2.heap.size W2 w0 := h.2.2.2

set_option maxRecDepth 100000 in
set_option maxHeartbeats 16000000 in
theorem fixNarrows_walk (A A' A2 : Option Addr) (n n' c c' n2 c2 : Nat) (ps : List P3) (cs cs2 : List Int) (z0 z1 : Int) (w : World) (hn : n = ps.length) (hn' : n' = cs.length) (hm : n ≤ maxLen) (hm' : n' ≤ maxLen) (hp : Pts w A ps) (hq : IntsP w A' cs)
    (hn2 : n2 = cs2.length) (hm2 : n2 ≤ maxLen) (hq2 : IntsP w A2 cs2) :
    Calls Try.prog 11 #[.agg #[.slice A n c, .slice A' n' c'], .slice A2 n2 c2, .agg #[.int .i64 z0, .int .i64 z1]] w fun e w' => e = .returned (.bool true) ∧ Below w.heap.size w w' := by
  have hK : Boxes ((w.alloc (.cells #[.slice A n c, .slice A' n' c'] 66)).alloc (.cells #[.int .i64 z0, .int .i64 z1] 45)) [(w.heap.size + 1, 45, #[.int .i64 z0, .int .i64 z1]), (w.heap.size, 66, #[.slice A n c, .slice A' n' c'])] := by
    have h1 : Boxes (w.alloc (.cells #[.slice A n c, .slice A' n' c'] 66)) [(w.heap.size, 66, #[.slice A n c, .slice A' n' c'])] := fun p hp => by
      have := List.mem_singleton.1 hp; subst this; exact Blk.new w _ _
    have h2 := h1.new 45 #[.int .i64 z0, .int .i64 z1]
    rw [World.size_alloc] at h2
    exact h2
  have HK0 := Lib.hid hK; clear hK
  have HE0 := Lib.hid (show Below w.heap.size w ((w.alloc (.cells #[.slice A n c, .slice A' n' c'] 66)).alloc (.cells #[.int .i64 z0, .int .i64 z1] 45)) from below_a2 (Below.refl _ _))
  by_cases ht : tabOk ps = true
  · have h1 := (tabOk_len ht).1
    have h40 := (tabOk_len ht).2
    have hn1 : 1 ≤ n := by omega
    have hn40 : n ≤ 40 := by omega
    obtain ⟨b, o, rfl, hb, hc⟩ := hp.block h1
    have CV : Hid (∀ W, Below w.heap.size w W → Calls Try.prog 63 #[tv (some ⟨b, o, none⟩) n c] W fun e w' => e = .returned (.bool true) ∧ Below W.heap.size W w') := Lib.hid fun W hW => by
      have h := validTable_any _ n c ps W hn (by unfold maxLen; omega) ((hc.below hW hb).pts (Nat.lt_of_lt_of_le hb hW.size))
      rw [ht] at h; exact h
    have hl1 := curveFrom_len cs 0 ps
    have hl2 := curveFrom_len cs2 0 ps
    have CC : Hid (∀ W, Below w.heap.size w W → Calls Try.prog 64 #[.agg #[.slice (some ⟨b, o, none⟩) n c, .slice A' n' c']] W (GivesRow W n (curveFrom cs 0 ps))) := Lib.hid fun W hW =>
      (curve_any b o n c A' n' c' ps cs W hn (Nat.lt_of_lt_of_le hb hW.size) ht (hc.below hW hb) hn' hm' (hq.below hW)).mono fun e w' h => row_of h (by rw [hl1]; exact hn) hn1
    have CC2 : Hid (∀ W, Below w.heap.size w W → Calls Try.prog 64 #[.agg #[.slice (some ⟨b, o, none⟩) n c, .slice A2 n2 c2]] W (GivesRow W n (curveFrom cs2 0 ps))) := Lib.hid fun W hW =>
      (curve_any b o n c A2 n2 c2 ps cs2 W hn (Nat.lt_of_lt_of_le hb hW.size) ht (hc.below hW hb) hn2 hm2 (hq2.below hW)).mono fun e w' h => row_of h (by rw [hl2]; exact hn) hn1
    have i1 := curve_inTab cs ht
    have i2 := curve_inTab cs2 ht
    generalize curveFrom cs 0 ps = ys at *
    generalize curveFrom cs2 0 ps = zs at *
    have hwi := narrow_within ps ys zs i1 i2
    have htq := tabOk_within hwi ht
    obtain ⟨qs, hqs⟩ : ∃ r, narrowS ps ys zs = r := ⟨_, rfl⟩
    rw [hqs] at hwi htq
    have hnq : n = qs.length := by rw [hwi.1]; exact hn
    have hfl := first_le_last ht
    have k0 := placeS_in hfl z0
    have k1 := placeS_in hfl z1
    obtain ⟨pl1, pl2⟩ := places_in ht
    obtain ⟨a0, ha0⟩ : ∃ r, placeS ps z0 = r := ⟨_, rfl⟩
    obtain ⟨d0, hd0⟩ : ∃ r, placeS ps z1 = r := ⟨_, rfl⟩
    rw [ha0] at k0
    rw [hd0] at k1
    obtain ⟨x, hx⟩ : ∃ r, min a0 d0 = r := ⟨_, rfl⟩
    obtain ⟨y, hy⟩ : ∃ r, max a0 d0 = r := ⟨_, rfl⟩
    have hxy : x ≤ y := by omega
    have hx1 : firstX ps ≤ x := by omega
    have hy1 : y ≤ lastX ps := by omega
    have q1 : placesS ps x y = 0 := by unfold placesS; rw [if_pos ht, if_pos (inB_yes (by omega) (by omega) (by omega))]
    have q2 : placesS qs x y = 0 := by unfold placesS; rw [if_pos htq, if_pos (inB_yes (by omega) (by rw [hwi.first]; omega) (by rw [hwi.last]; omega))]
    have q3 : placesS ps x x = 0 := by unfold placesS; rw [if_pos ht, if_pos (inB_yes (by omega) (by omega) (by omega))]
    have q4 : placesS qs x x = 0 := by unfold placesS; rw [if_pos htq, if_pos (inB_yes (by omega) (by rw [hwi.first]; omega) (by rw [hwi.last]; omega))]
    have hv : vR x y = true := (vR_iff x y).2 ⟨by omega, by omega, by omega⟩
    have mo := over_mono hwi ht hxy hx1 hy1
    have ma := area_mono (a := x) (b := y) hwi
    have mt := atS_mono hwi ht hx1 (show x ≤ lastX ps by omega)
    have PQ : Hid (∀ W gg cap z r, gg < W.heap.size → PtsAt W gg 0 qs → placeS ps z = r → Calls Try.prog 65 #[tv (some ⟨gg, 0, none⟩) n cap, .int .i64 z] W fun e w' => e = .returned (.int .i64 r) ∧ Below W.heap.size W w') := Lib.hid fun W gg cap z r hg hW hr =>
      int_to (place_any gg 0 n cap qs z W hnq hg htq hW) (by rw [hwi.place]; exact hr)
    have OQ : Hid (∀ W gg cap, gg < W.heap.size → PtsAt W gg 0 qs → Calls Try.prog 48 #[tv (some ⟨gg, 0, none⟩) n cap, rv x y] W fun e w' => e = .returned (.tuple #[rv (overGood qs x y).1 (overGood qs x y).2.1, .int .i64 0]) ∧ Below W.heap.size W w') := Lib.hid fun W gg cap hg hW =>
      over_good gg 0 n cap qs x y W hnq hn1 hg htq hv q2 hW
    have OP : Hid (∀ W, Below w.heap.size w W → Calls Try.prog 48 #[tv (some ⟨b, o, none⟩) n c, rv x y] W fun e w' => e = .returned (.tuple #[rv (overGood ps x y).1 (overGood ps x y).2.1, .int .i64 0]) ∧ Below W.heap.size W w') := Lib.hid fun W hW =>
      over_good b o n c ps x y W hn hn1 (Nat.lt_of_lt_of_le hb hW.size) ht hv q1 (hc.below hW hb)
    have AQ : Hid (∀ W gg cap, gg < W.heap.size → PtsAt W gg 0 qs → Calls Try.prog 54 #[tv (some ⟨gg, 0, none⟩) n cap, .int .i64 x, .int .i64 y] W fun e w' => e = .returned (.tuple #[.int .i64 (areaLo qs x y), .int .i64 (areaHi qs x y), .int .i64 0]) ∧ Below W.heap.size W w') := Lib.hid fun W gg cap hg hW =>
      area_to gg 0 n cap qs x y W hnq hg q2 hW
    have AP : Hid (∀ W, Below w.heap.size w W → Calls Try.prog 54 #[tv (some ⟨b, o, none⟩) n c, .int .i64 x, .int .i64 y] W fun e w' => e = .returned (.tuple #[.int .i64 (areaLo ps x y), .int .i64 (areaHi ps x y), .int .i64 0]) ∧ Below W.heap.size W w') := Lib.hid fun W hW =>
      area_to b o n c ps x y W hn (Nat.lt_of_lt_of_le hb hW.size) q1 (hc.below hW hb)
    have TQ : Hid (∀ W gg cap, gg < W.heap.size → PtsAt W gg 0 qs → Calls Try.prog 35 #[tv (some ⟨gg, 0, none⟩) n cap, .int .i64 x] W fun e w' => e = .returned (.tuple #[rv (atS qs x).1 (atS qs x).2, .int .i64 0]) ∧ Below W.heap.size W w') := Lib.hid fun W gg cap hg hW =>
      rt_to (at_all _ n cap qs x W hnq (by unfold maxLen; omega) (hW.pts hg)) (by unfold AtS; rw [if_pos q4])
    have TP : Hid (∀ W, Below w.heap.size w W → Calls Try.prog 35 #[tv (some ⟨b, o, none⟩) n c, .int .i64 x] W fun e w' => e = .returned (.tuple #[rv (atS ps x).1 (atS ps x).2, .int .i64 0]) ∧ Below W.heap.size W w') := Lib.hid fun W hW =>
      rt_to (at_all _ n c ps x W hn hm (hp.below hW)) (by unfold AtS; rw [if_pos q3])
    obtain ⟨rs, hrs⟩ : ∃ r, risingS ps = r := ⟨_, rfl⟩
    obtain ⟨fs, hfs⟩ : ∃ r, fallingS ps = r := ⟨_, rfl⟩
    have RP : Hid (∀ W, Below w.heap.size w W → Calls Try.prog 44 #[tv (some ⟨b, o, none⟩) n c] W fun e w' => e = .returned (.bool rs) ∧ Below W.heap.size W w') :=
      Lib.hid fun W hW => bool_to (rising_any _ n c ps W hn hm (hp.below hW)) hrs
    have FP : Hid (∀ W, Below w.heap.size w W → Calls Try.prog 46 #[tv (some ⟨b, o, none⟩) n c] W fun e w' => e = .returned (.bool fs) ∧ Below W.heap.size W w') :=
      Lib.hid fun W hW => bool_to (falling_any _ n c ps W hn hm (hp.below hW)) hfs
    have RC : Hid (rs = true → ∀ (k : Nat) (u v : Int), ys[k + 1]? = some u → zs[k]? = some v → v ≤ u) := Lib.hid fun h k u v hu hv => rising_curves (hrs.trans h) i1 i2 hu hv
    have FC : Hid (fs = true → ∀ (k : Nat) (u v : Int), ys[k + 1]? = some u → zs[k]? = some v → u ≤ v) := Lib.hid fun h k u v hu hv => falling_curves (hfs.trans h) i1 i2 hu hv
    have HC := Lib.hid hc; have HN := Lib.hid (And.intro hn (And.intro hl1 (And.intro hl2 (And.intro hnq hqs)))); have HPL := Lib.hid (And.intro ha0 hd0)
    have hx' : min a0 d0 = x := hx
    clear hx hn hl1 hl2 hnq hqs ha0 hd0 hc hrs hfs i1 i2 hwi htq hn' hm' hp hq hn2 hm2 hq2 ht h1 h40 q1 q2 q3 q4 hv k0 k1 pl1 pl2 hfl hx1 hy1 hm
    generalize (overGood qs x y).1 = r1 at *
    generalize (overGood qs x y).2.1 = r2 at *
    generalize (overGood ps x y).1 = s1 at *
    generalize (overGood ps x y).2.1 = s2 at *
    generalize areaLo qs x y = lo at *
    generalize areaHi qs x y = hi at *
    generalize areaLo ps x y = low at *
    generalize areaHi ps x y = high at *
    generalize (atS qs x).1 = p1 at *
    generalize (atS qs x).2 = p2 at *
    generalize (atS ps x).1 = t1 at *
    generalize (atS ps x).2 = t2 at *
    obtain ⟨i0, hi0, hz0, hz1, hz2⟩ := info_parts Try.infoP
    go_enter Try.func11, Try.ntmps11
    go_wp2_with fail
    obtain ⟨W0, hW⟩ : ∃ W, (w.alloc (.cells #[.slice (some ⟨b, o, none⟩) n c, .slice A' n' c'] 66)).alloc (.cells #[.int .i64 z0, .int .i64 z1] 45) = W := ⟨_, rfl⟩
    rw [hW] at HK0 HE0 ⊢
    clear hW
    obtain ⟨G, hG⟩ : ∃ G, w.heap.size = G := ⟨_, rfl⟩
    rw [hG] at HK0 ⊢
    have HG := Lib.hid hG; clear hG
    refine (CV.out W0 HE0.out).mono ?_
    rintro e v ⟨rfl, hbv⟩
    have HK1 := Lib.hid (HK0.out.on hbv); have HE1 := Lib.hid (below_then HE0.out hbv)
    clear hbv HK0 HE0
    have e0 := (HK1.out _ (.tail _ (.head _))).cell 0
    have e1 := (HK1.out _ (.tail _ (.head _))).cell 1
    simp at e0 e1
    go_wp2_with fail
    refine (CC.out v HE1.out).mono ?_
    rintro e v1 ⟨g1, k1, rfl, lg1, m1, hbv⟩
    have HK2 := Lib.hid (HK1.out.on hbv); have HE2 := Lib.hid (below_then HE1.out hbv); have HM1 := Lib.hid m1
    clear hbv HK1 HE1 e0 e1 m1
    have e0 := (HK2.out _ (.tail _ (.head _))).cell 0
    simp at e0
    go_wp2_with fail
    refine (CC2.out v1 HE2.out).mono ?_
    rintro e v2 ⟨g2, k2, rfl, lg2, m2, hbv⟩
    have HK3 := Lib.hid (HK2.out.on hbv); have HE3 := Lib.hid (below_then HE2.out hbv); have HM2 := Lib.hid (And.intro (HM1.out.below hbv lg1) m2)
    have lg1' := Nat.lt_of_lt_of_le lg1 hbv.size
    clear hbv HK2 HE2 e0 m2 HM1 lg1
    have HK4 := Lib.hid (HK3.out.new 43 #[.slice none 0 0])
    have hbv := below_alloc1 v2 (.cells #[.slice none 0 0] 43)
    have HE4 := Lib.hid (below_then HE3.out hbv)
    have HM4 := Lib.hid (And.intro (HM2.out.1.below hbv lg1') (HM2.out.2.below hbv lg2))
    have e0 := (HK4.out _ (.tail _ (.tail _ (.head _)))).cell 0
    have lG := (HK3.out _ (.tail _ (.head _))).lt
    have lG1 := (HK3.out _ (.head _)).lt
    simp at e0 lG lG1
    clear hbv HK3 HE3 HM2
    go_wp2_with fail
    obtain ⟨g, hg⟩ : ∃ g, v2.heap.size = g := ⟨_, rfl⟩
    obtain ⟨W1, hW⟩ : ∃ W, v2.alloc (.cells #[.slice none 0 0] 43) = W := ⟨_, rfl⟩
    have hsz : W1.heap.size = g + 1 := by rw [← hW, ← hg]; simp
    rw [hW] at HK4 HE4 HM4 e0 ⊢
    rw [hg] at HK4 lg1' lg2 lG lG1 ⊢
    clear hW hg
    have HXY := Lib.hid (And.intro hx' hy)
    clear hx' hy
    go_loopw [46] (fun i wr => ∃ k : Nat, k ≤ n ∧ i = .int .i64 k ∧ NarRow (g + 1) g wr (narrowS (ps.take k) (ys.take k) (zs.take k)) ∧ Most (g + 1) g W1 wr) (fun i _ => n - (intOf i).toNat)
    case atStart => exact ⟨0, by omega, rfl, ⟨_, HK4.out _ (.head _), World.ownsRow_nil _ _ _ _⟩, Most.refl _ _ _⟩
    case round =>
      obtain ⟨k, hk, rfl, ⟨v, hB, hO⟩, hM⟩ := hrel
      have hBw : Below w.heap.size w wr := HE4.out.trans (hM.below (by rw [HG.out]; omega) (by rw [HG.out]; omega))
      have hMs := hM.2.2.2.1
      by_cases hlt : k < n
      · obtain ⟨P, NN, C, rfl⟩ := hO.slice
        obtain ⟨p, hp⟩ : ∃ p, ps[k]? = some p := ⟨_, List.getElem?_eq_getElem (show k < ps.length by rw [← HN.out.1]; exact hlt)⟩
        obtain ⟨yv, hyv⟩ : ∃ u, ys[k]? = some u := ⟨_, List.getElem?_eq_getElem (by have := HN.out.1; have := HN.out.2.1; omega)⟩
        obtain ⟨zv, hzv⟩ : ∃ u, zs[k]? = some u := ⟨_, List.getElem?_eq_getElem (by have := HN.out.1; have := HN.out.2.2.1; omega)⟩
        have hsn := narrow_snoc ps ys zs k p yv zv hp hyv hzv HN.out.2.1 HN.out.2.2.1
        have hll := narrow_len (ps.take k) (ys.take k) (zs.take k)
        rw [List.length_take] at hll
        obtain ⟨L, hL⟩ : ∃ L, narrowS (ps.take k) (ys.take k) (zs.take k) = L := ⟨_, rfl⟩
        rw [hL] at hsn hll hO
        have hl40 : L.length ≤ 40 := by omega
        obtain ⟨c0, c1, c2⟩ := HC.out k p hp
        rw [← hBw.cell (p := ⟨b, o + k * 3, none⟩) hb] at c0
        rw [← hBw.cell (p := ⟨b, o + k * 3 + 1, none⟩) hb] at c1
        rw [← hBw.cell (p := ⟨b, o + k * 3 + 2, none⟩) hb] at c2
        have d1a := HM4.out.1 k yv hyv
        have d2a := HM4.out.2 k zv hzv
        rw [Nat.zero_add] at d1a d2a
        have d1 := (hM.cell (b := g1) (o := k) (by omega) (by omega)).trans d1a
        have d2 := (hM.cell (b := g2) (o := k) (by omega) (by omega)).trans d2a
        clear d1a d2a
        obtain ⟨px, plo, phi⟩ := p
        dsimp only at c0 c1 c2 hsn
        obtain ⟨mn, hmn⟩ : ∃ r, min yv zv = r := ⟨_, rfl⟩
        obtain ⟨mx, hmx⟩ : ∃ r, max yv zv = r := ⟨_, rfl⟩
        rw [hmn, hmx] at hsn
        have x0 := hB.cell 0
        have f0 := hB.frozen 0
        simp at x0
        have lb' : b < wr.heap.size := Nat.lt_of_lt_of_le hb hBw.size
        have l1' : g1 < wr.heap.size := by omega
        have l2' : g2 < wr.heap.size := by omega
        have l0' : g < wr.heap.size := hB.lt
        have r3 : (k : Int) < (n : Int) := by omega
        have r4 : (0 : Int) ≤ (k : Int) := by omega
        have HB := Lib.hid hB; have HO := Lib.hid hO; have HMM := Lib.hid hM; have HSN := Lib.hid hsn
        have HOW := Lib.hid (World.ownsRow.alloc (World.ownsRow.alloc (show wr.ownsRow (g + 1) 87 3 (.slice P NN C) L.length (ptCells L) from hO) (.cells #[.int .i64 px, .int .i64 plo, .int .i64 phi] 87)) (.cells #[.int .i64 px, .int .i64 mn, .int .i64 mx] 87))
        have hnb : ∀ k, (((wr.alloc (.cells #[.int .i64 px, .int .i64 plo, .int .i64 phi] 87)).drewN k).alloc (.cells #[.int .i64 px, .int .i64 mn, .int .i64 mx] 87)).heap[wr.heap.size + 1]? = some (.cells #[.int .i64 px, .int .i64 mn, .int .i64 mx] 87 (0, 0)) := fun k => by
          have h1 := heap_alloc_new ((wr.alloc (.cells #[.int .i64 px, .int .i64 plo, .int .i64 phi] 87)).drewN k) (.cells #[.int .i64 px, .int .i64 mn, .int .i64 mx] 87)
          have h2 : ((wr.alloc (.cells #[.int .i64 px, .int .i64 plo, .int .i64 phi] 87)).drewN k).heap.size = wr.heap.size + 1 := by show (wr.alloc _).heap.size = _; simp
          rw [h2] at h1; exact h1
        have HNB := Lib.hid hnb
        have hrow2 : ∀ i, Value.ownBlock (.slice P NN C) = some i → g + 1 ≤ i ∧ i < wr.heap.size := fun i e => World.ownsRow.lt (show World.ownsRow wr (g + 1) 87 3 (.slice P NN C) _ _ from hO) i e
        have hrow : ∀ i, Value.ownBlock (.slice P NN C) = some i → g + 1 ≤ i := fun i e => (hrow2 i e).1
        have HROW2 := Lib.hid hrow2
        clear hrow2
        have e1 : wr.heap.size ≠ g := by omega
        have e2 : g ≠ wr.heap.size := by omega
        have e3 : g1 ≠ g := by omega
        have e4 : g ≠ g1 := by omega
        have e5 : g2 ≠ g := by omega
        have e6 : g ≠ g2 := by omega
        have HROW := Lib.hid hrow
        clear hnb hB hO hM hsn hL hrow hp hyv hzv hll hBw
        go_wp2_with fail
        refine wp_region_held_drew (S := (fun w' => w'.cell? ⟨wr.heap.size, 0, none⟩ = some (.int .i64 px) ∧ w'.cell? ⟨g1, k, none⟩ = some (.int .i64 yv) ∧ w'.cell? ⟨g2, k, none⟩ = some (.int .i64 zv))) (by kernel_rfl) ?_ (fun hHeld => ?_)
        · go_keep
        refine wpAnyH_take (i := 0) (v := ?_) rfl (by kernel_rfl) (by kernel_rfl) (by kernel_rfl) (fun _ _ _ h => h) (Or.inl ⟨by rfl, ?_⟩) hHeld ?_
        rotate_left
        · intro w hSw; (try dsimp only at hSw); go_simp; try with_reducible rfl
        try simp only [Act.put, List.setIfInBounds_toArray, List.set_cons_zero, List.set_cons_succ]
        refine wpAnyH_take (i := 2) (v := ?_) rfl (by kernel_rfl) (by kernel_rfl) (by kernel_rfl) (fun _ _ _ h => h) (Or.inl ⟨by rfl, ?_⟩) hHeld ?_
        rotate_left
        · intro w hSw; (try dsimp only at hSw); go_simp; try with_reducible rfl
        try simp only [Act.put, List.setIfInBounds_toArray, List.set_cons_zero, List.set_cons_succ]
        refine wpAnyH_take (i := 3) (v := ?_) rfl (by kernel_rfl) (by kernel_rfl) (by kernel_rfl) (fun _ _ _ h => h) (Or.inl ⟨by rfl, ?_⟩) hHeld ?_
        rotate_left
        · intro w hSw; (try dsimp only at hSw); go_simp; try with_reducible rfl
        try simp only [Act.put, List.setIfInBounds_toArray, List.set_cons_zero, List.set_cons_succ]
        refine wpAnyH_take (i := 4) (v := ?_) rfl (by kernel_rfl) (by kernel_rfl) (by kernel_rfl) (fun _ _ _ h => h) (Or.inl ⟨by rfl, ?_⟩) hHeld ?_
        rotate_left
        · intro w hSw; (try dsimp only at hSw); go_simp; try with_reducible rfl
        try simp only [Act.put, List.setIfInBounds_toArray, List.set_cons_zero, List.set_cons_succ]
        refine wpAnyH_take (i := 5) (v := ?_) rfl (by kernel_rfl) (by kernel_rfl) (by kernel_rfl) (fun _ _ _ h => h) (Or.inl ⟨by rfl, ?_⟩) hHeld ?_
        rotate_left
        · intro w hSw; (try dsimp only at hSw); go_simp; try with_reducible rfl
        try simp only [Act.put, List.setIfInBounds_toArray, List.set_cons_zero, List.set_cons_succ]
        refine wpAnyH_take (i := 6) (v := ?_) rfl (by kernel_rfl) (by kernel_rfl) (by kernel_rfl) (fun _ _ _ h => h) (Or.inl ⟨by rfl, ?_⟩) hHeld ?_
        rotate_left
        · intro w hSw; (try dsimp only at hSw); go_simp; try with_reducible rfl
        try simp only [Act.put, List.setIfInBounds_toArray, List.set_cons_zero, List.set_cons_succ]
        refine wpAnyH_take (i := 7) (v := ?_) rfl (by kernel_rfl) (by kernel_rfl) (by kernel_rfl) (fun _ _ _ h => h) (Or.inl ⟨by rfl, ?_⟩) hHeld ?_
        rotate_left
        · intro w hSw; (try dsimp only at hSw); go_simp; try with_reducible rfl
        try simp only [Act.put, List.setIfInBounds_toArray, List.set_cons_zero, List.set_cons_succ]
        refine wpAnyH_take (i := 8) (v := ?_) rfl (by kernel_rfl) (by kernel_rfl) (by kernel_rfl) (fun _ _ _ h => h) (Or.inl ⟨by rfl, ?_⟩) hHeld ?_
        rotate_left
        · intro w hSw; (try dsimp only at hSw); go_simp; try with_reducible rfl
        try simp only [Act.put, List.setIfInBounds_toArray, List.set_cons_zero, List.set_cons_succ]
        refine wpAnyH_take (i := 9) (v := ?_) rfl (by kernel_rfl) (by kernel_rfl) (by kernel_rfl) (fun _ _ _ h => h) (Or.inl ⟨by rfl, ?_⟩) hHeld ?_
        rotate_left
        · intro w hSw; (try dsimp only at hSw); go_simp; try with_reducible rfl
        try simp only [Act.put, List.setIfInBounds_toArray, List.set_cons_zero, List.set_cons_succ]
        refine wpAnyH_take (i := 10) (v := ?_) rfl (by kernel_rfl) (by kernel_rfl) (by kernel_rfl) (fun _ _ _ h => h) (Or.inl ⟨by rfl, ?_⟩) hHeld ?_
        rotate_left
        · intro w hSw; (try dsimp only at hSw); go_simp; try with_reducible rfl
        try simp only [Act.put, List.setIfInBounds_toArray, List.set_cons_zero, List.set_cons_succ]
        refine wpAnyH_take (i := 11) (v := ?_) rfl (by kernel_rfl) (by kernel_rfl) (by kernel_rfl) (fun _ _ _ h => h) (Or.inl ⟨by rfl, ?_⟩) hHeld ?_
        rotate_left
        · intro w hSw; (try dsimp only at hSw); go_simp; try with_reducible rfl
        try simp only [Act.put, List.setIfInBounds_toArray, List.set_cons_zero, List.set_cons_succ]
        refine wpAnyH_take (i := 12) (v := ?_) rfl (by kernel_rfl) (by kernel_rfl) (by kernel_rfl) (fun _ _ _ h => h) (Or.inl ⟨by rfl, ?_⟩) hHeld ?_
        rotate_left
        · intro w hSw; (try dsimp only at hSw); go_simp; try with_reducible rfl
        try simp only [Act.put, List.setIfInBounds_toArray, List.set_cons_zero, List.set_cons_succ]
        refine wpAnyH_take (i := 13) (v := ?_) rfl (by kernel_rfl) (by kernel_rfl) (by kernel_rfl) (fun _ _ _ h => h) (Or.inl ⟨by rfl, ?_⟩) hHeld ?_
        rotate_left
        · intro w hSw; (try dsimp only at hSw); go_simp; try with_reducible rfl
        try simp only [Act.put, List.setIfInBounds_toArray, List.set_cons_zero, List.set_cons_succ]
        refine wpAnyH_take (i := 14) (v := ?_) rfl (by kernel_rfl) (by kernel_rfl) (by kernel_rfl) (fun _ _ _ h => h) (Or.inl ⟨by rfl, ?_⟩) hHeld ?_
        rotate_left
        · intro w hSw; (try dsimp only at hSw); go_simp; try with_reducible rfl
        try simp only [Act.put, List.setIfInBounds_toArray, List.set_cons_zero, List.set_cons_succ]
        refine wpAnyH_take (i := 15) (v := ?_) rfl (by kernel_rfl) (by kernel_rfl) (by kernel_rfl) (fun _ _ _ h => h) (Or.inl ⟨by rfl, ?_⟩) hHeld ?_
        rotate_left
        · intro w hSw; (try dsimp only at hSw); go_simp; try with_reducible rfl
        try simp only [Act.put, List.setIfInBounds_toArray, List.set_cons_zero, List.set_cons_succ]
        refine wpAnyH_take (i := 16) (v := ?_) rfl (by kernel_rfl) (by kernel_rfl) (by kernel_rfl) (fun _ _ _ h => h) (Or.inl ⟨by rfl, ?_⟩) hHeld ?_
        rotate_left
        · intro w hSw; (try dsimp only at hSw); go_simp; try with_reducible rfl
        try simp only [Act.put, List.setIfInBounds_toArray, List.set_cons_zero, List.set_cons_succ]
        refine wpAnyH_take (i := 17) (v := ?_) rfl (by kernel_rfl) (by kernel_rfl) (by kernel_rfl) (fun _ _ _ h => h) (Or.inl ⟨by rfl, ?_⟩) hHeld ?_
        rotate_left
        · intro w hSw; (try dsimp only at hSw); go_simp; try with_reducible rfl
        try simp only [Act.put, List.setIfInBounds_toArray, List.set_cons_zero, List.set_cons_succ]
        refine wpAnyH_take (i := 18) (v := ?_) rfl (by kernel_rfl) (by kernel_rfl) (by kernel_rfl) (fun _ _ _ h => h) (Or.inl ⟨by rfl, ?_⟩) hHeld ?_
        rotate_left
        · intro w hSw; (try dsimp only at hSw); go_simp; try with_reducible rfl
        try simp only [Act.put, List.setIfInBounds_toArray, List.set_cons_zero, List.set_cons_succ]
        refine wpAnyH_take (i := 19) (v := ?_) rfl (by kernel_rfl) (by kernel_rfl) (by kernel_rfl) (fun _ _ _ h => h) (Or.inl ⟨by rfl, ?_⟩) hHeld ?_
        rotate_left
        · intro w hSw; (try dsimp only at hSw); go_simp; try with_reducible rfl
        try simp only [Act.put, List.setIfInBounds_toArray, List.set_cons_zero, List.set_cons_succ]
        refine wpAnyH_take (i := 20) (v := ?_) rfl (by kernel_rfl) (by kernel_rfl) (by kernel_rfl) (fun _ _ _ h => h) (Or.inl ⟨by rfl, ?_⟩) hHeld ?_
        rotate_left
        · intro w hSw; (try dsimp only at hSw); go_simp; try with_reducible rfl
        try simp only [Act.put, List.setIfInBounds_toArray, List.set_cons_zero, List.set_cons_succ]
        refine wpAnyH_take (i := 21) (v := ?_) rfl (by kernel_rfl) (by kernel_rfl) (by kernel_rfl) (fun _ _ _ h => h) (Or.inl ⟨by rfl, ?_⟩) hHeld ?_
        rotate_left
        · intro w hSw; (try dsimp only at hSw); go_simp; try with_reducible rfl
        try simp only [Act.put, List.setIfInBounds_toArray, List.set_cons_zero, List.set_cons_succ]
        refine wpAnyH_take (i := 22) (v := ?_) rfl (by kernel_rfl) (by kernel_rfl) (by kernel_rfl) (fun _ _ _ h => h) (Or.inl ⟨by rfl, ?_⟩) hHeld ?_
        rotate_left
        · intro w hSw; (try dsimp only at hSw); go_simp; try with_reducible rfl
        try simp only [Act.put, List.setIfInBounds_toArray, List.set_cons_zero, List.set_cons_succ]
        refine wpAnyH_ready (rs := [1, 23]) (by kernel_rfl) (by simp) ?_
        refine AllReadyH.cons rfl (fun K hK => ?_) (AllReadyH.cons rfl (fun K hK => ?_) AllReadyH.nil)
        · skip
          go_simp
          refine hK.out _ _ ?_ (fun hHeld2 => ?_)
          · try dsimp only
            exact hHeld
          clear hK K hHeld
          have hHeld := hHeld2
          clear hHeld2
          refine wpAnyH_ready (rs := [23]) (by kernel_rfl) (by simp) ?_
          refine AllReadyH.cons rfl (fun K hK => ?_) AllReadyH.nil
          go_simp
          refine hK.out _ _ ?_ (fun hHeld2 => ?_)
          · try dsimp only
            go_keep
          clear hK K hHeld
          have hHeld := hHeld2
          clear hHeld2
          refine wpAnyH_ready (rs := [24]) (by kernel_rfl) (by simp) ?_
          refine AllReadyH.cons rfl (fun K hK => ?_) AllReadyH.nil
          (refine step_append_lies _ (by rfl) _ _ _ (by rfl) (g + 1) 87 i0 _ 3 24 Try.underlying41 hi0 hz0 hz1 hz2 rfl (by omega) (.slice P NN C) L.length (ptCells L) (by rfl) (by exact HOW.out) ⟨wr.heap.size + 1, 0, none⟩ 1 1 [.int .i64 px, .int .i64 mn, .int .i64 mx] (by rfl) (by rfl) (World.news_of_block (cs := #[.int .i64 px, .int .i64 mn, .int .i64 mx]) (t := 87) (fr := (0, 0)) (by exact HNB.out _)) (by simp [Value.oneCell']) (by omega) (by simp [maxLen]; omega) (by omega) (by simp; omega) (wr.heap.size + 1 + 1) (by simp) ?_; intro gg cap w5 hown1 hgrow hat hlt5; have hB1 := (((HB.out.alloc (.cells #[.int .i64 px, .int .i64 plo, .int .i64 phi] 87)).drewN _).alloc (.cells #[.int .i64 px, .int .i64 mn, .int .i64 mx] 87)).grown hgrow (fun e => absurd (HROW.out _ e.symm) (by omega)); have f1 := hB1.frozen 0; have c1' := hB1.cell 0; simp at c1')
          refine hK.out _ _ ?_ (fun hHeld2 => ?_)
          · try dsimp only
            exact keep_grown hgrow hHeld (show wr.heap.size < ((wr.alloc _).alloc _).heap.size by simp; omega) (show g1 < ((wr.alloc _).alloc _).heap.size by simp; omega) (show g2 < ((wr.alloc _).alloc _).heap.size by simp; omega) (fun e => absurd (HROW2.out _ e) (by omega)) (fun e => absurd (HROW2.out _ e) (by omega)) (fun e => absurd (HROW2.out _ e) (by omega))
          clear hK K hHeld
          have hHeld := hHeld2
          clear hHeld2
          refine wpAnyH_take (i := 25) (v := ?_) rfl (by kernel_rfl) (by kernel_rfl) (by kernel_rfl) (fun _ _ _ h => h) (Or.inl ⟨by rfl, ?_⟩) hHeld ?_
          rotate_left
          · intro w hSw; (try dsimp only at hSw); go_simp; try with_reducible rfl
          try simp only [Act.put, List.setIfInBounds_toArray, List.set_cons_zero, List.set_cons_succ]
          refine wpAnyH_ready (rs := [26]) (by kernel_rfl) (by simp) ?_
          refine AllReadyH.cons rfl (fun K hK => ?_) AllReadyH.nil
          go_simp
          refine hK.out _ _ ?_ (fun hHeld2 => ?_)
          · try dsimp only
            exact keep_set hHeld e1 e3 e5
          clear hK K hHeld
          have hHeld := hHeld2
          clear hHeld2
          refine wpAnyH_done (by kernel_rfl) ?_ _
          have hgg : gg ≠ g := by
            rcases hat with hat | hat
            · have := HROW.out _ hat; omega
            · omega
          have hB2 := hB1.set_ 0 (.slice (some ⟨gg, 0, none⟩) (L.length + 1) cap)
          have hown2 := World.ownsRow.kept hown1 (grownBy_setCell' w5 g (.slice (some ⟨gg, 0, none⟩) (L.length + 1) cap)) (.inr (by simp [Value.ownBlock]; exact hgg))
          have hMo := HMM.out.push (u := .slice (some ⟨gg, 0, none⟩) (L.length + 1) cap) (by omega) hgrow HROW.out
          have HNR : Hid (NarRow (g + 1) g (w5.setCell ⟨g, 0, none⟩ (.slice (some ⟨gg, 0, none⟩) (L.length + 1) cap)) (narrowS (ps.take (k + 1)) (ys.take (k + 1)) (zs.take (k + 1)))) := Lib.hid ⟨_, by simpa using hB2, by
            unfold OwnPts
            rw [HSN.out, List.length_append, ptCells_snoc]
            exact hown2⟩
          have HMO := Lib.hid hMo
          clear hMo hown1 hown2 hgrow hat hB1 hB2 f1 c1' hgg hHeld
          go_wp2
          go_roundw
          case rel => exact ⟨k + 1, by omega, by go_num, HNR.out, HMO.out⟩
          case measure => simp [intOf]; omega
        · skip
          go_simp
          refine hK.out _ _ ?_ (fun hHeld2 => ?_)
          · try dsimp only
            go_keep
          clear hK K hHeld
          have hHeld := hHeld2
          clear hHeld2
          refine wpAnyH_ready (rs := [1]) (by kernel_rfl) (by simp) ?_
          refine AllReadyH.cons rfl (fun K hK => ?_) AllReadyH.nil
          go_simp
          refine hK.out _ _ ?_ (fun hHeld2 => ?_)
          · try dsimp only
            exact hHeld
          clear hK K hHeld
          have hHeld := hHeld2
          clear hHeld2
          refine wpAnyH_ready (rs := [24]) (by kernel_rfl) (by simp) ?_
          refine AllReadyH.cons rfl (fun K hK => ?_) AllReadyH.nil
          (refine step_append_lies _ (by rfl) _ _ _ (by rfl) (g + 1) 87 i0 _ 3 24 Try.underlying41 hi0 hz0 hz1 hz2 rfl (by omega) (.slice P NN C) L.length (ptCells L) (by rfl) (by exact HOW.out) ⟨wr.heap.size + 1, 0, none⟩ 1 1 [.int .i64 px, .int .i64 mn, .int .i64 mx] (by rfl) (by rfl) (World.news_of_block (cs := #[.int .i64 px, .int .i64 mn, .int .i64 mx]) (t := 87) (fr := (0, 0)) (by exact HNB.out _)) (by simp [Value.oneCell']) (by omega) (by simp [maxLen]; omega) (by omega) (by simp; omega) (wr.heap.size + 1 + 1) (by simp) ?_; intro gg cap w5 hown1 hgrow hat hlt5; have hB1 := (((HB.out.alloc (.cells #[.int .i64 px, .int .i64 plo, .int .i64 phi] 87)).drewN _).alloc (.cells #[.int .i64 px, .int .i64 mn, .int .i64 mx] 87)).grown hgrow (fun e => absurd (HROW.out _ e.symm) (by omega)); have f1 := hB1.frozen 0; have c1' := hB1.cell 0; simp at c1')
          refine hK.out _ _ ?_ (fun hHeld2 => ?_)
          · try dsimp only
            exact keep_grown hgrow hHeld (show wr.heap.size < ((wr.alloc _).alloc _).heap.size by simp; omega) (show g1 < ((wr.alloc _).alloc _).heap.size by simp; omega) (show g2 < ((wr.alloc _).alloc _).heap.size by simp; omega) (fun e => absurd (HROW2.out _ e) (by omega)) (fun e => absurd (HROW2.out _ e) (by omega)) (fun e => absurd (HROW2.out _ e) (by omega))
          clear hK K hHeld
          have hHeld := hHeld2
          clear hHeld2
          refine wpAnyH_take (i := 25) (v := ?_) rfl (by kernel_rfl) (by kernel_rfl) (by kernel_rfl) (fun _ _ _ h => h) (Or.inl ⟨by rfl, ?_⟩) hHeld ?_
          rotate_left
          · intro w hSw; (try dsimp only at hSw); go_simp; try with_reducible rfl
          try simp only [Act.put, List.setIfInBounds_toArray, List.set_cons_zero, List.set_cons_succ]
          refine wpAnyH_ready (rs := [26]) (by kernel_rfl) (by simp) ?_
          refine AllReadyH.cons rfl (fun K hK => ?_) AllReadyH.nil
          go_simp
          refine hK.out _ _ ?_ (fun hHeld2 => ?_)
          · try dsimp only
            exact keep_set hHeld e1 e3 e5
          clear hK K hHeld
          have hHeld := hHeld2
          clear hHeld2
          refine wpAnyH_done (by kernel_rfl) ?_ _
          have hgg : gg ≠ g := by
            rcases hat with hat | hat
            · have := HROW.out _ hat; omega
            · omega
          have hB2 := hB1.set_ 0 (.slice (some ⟨gg, 0, none⟩) (L.length + 1) cap)
          have hown2 := World.ownsRow.kept hown1 (grownBy_setCell' w5 g (.slice (some ⟨gg, 0, none⟩) (L.length + 1) cap)) (.inr (by simp [Value.ownBlock]; exact hgg))
          have hMo := HMM.out.push (u := .slice (some ⟨gg, 0, none⟩) (L.length + 1) cap) (by omega) hgrow HROW.out
          have HNR : Hid (NarRow (g + 1) g (w5.setCell ⟨g, 0, none⟩ (.slice (some ⟨gg, 0, none⟩) (L.length + 1) cap)) (narrowS (ps.take (k + 1)) (ys.take (k + 1)) (zs.take (k + 1)))) := Lib.hid ⟨_, by simpa using hB2, by
            unfold OwnPts
            rw [HSN.out, List.length_append, ptCells_snoc]
            exact hown2⟩
          have HMO := Lib.hid hMo
          clear hMo hown1 hown2 hgrow hat hB1 hB2 f1 c1' hgg hHeld
          go_wp2
          go_roundw
          case rel => exact ⟨k + 1, by omega, by go_num, HNR.out, HMO.out⟩
          case measure => simp [intOf]; omega
      · have t1' : ps.take k = ps := List.take_of_length_le (by have := HN.out.1; omega)
        have t2' : ys.take k = ys := List.take_of_length_le (by have := HN.out.1; have := HN.out.2.1; omega)
        have t3' : zs.take k = zs := List.take_of_length_le (by have := HN.out.1; have := HN.out.2.2.1; omega)
        rw [t1', t2', t3', HN.out.2.2.2.2] at hO
        obtain ⟨gg, cap, rfl, _, lgg, hpt⟩ := hO.pts (by have := HN.out.2.2.2.1; omega)
        rw [← HN.out.2.2.2.1] at hB
        have hk1 := (HK4.out _ (.tail _ (.head _))).most hM (by omega) (by omega)
        have hk0 := (HK4.out _ (.tail _ (.tail _ (.head _)))).most hM (by omega) (by omega)
        have HK : Hid (Boxes wr [(g, 43, #[.slice (some ⟨gg, 0, none⟩) n cap]), (G + 1, 45, #[.int .i64 z0, .int .i64 z1]), (G, 66, #[.slice (some ⟨b, o, none⟩) n c, .slice A' n' c'])]) := Lib.hid fun p hp => by
          rcases List.mem_cons.1 hp with rfl | hp
          · exact hB
          · rcases List.mem_cons.1 hp with rfl | hp
            · exact hk1
            · have := List.mem_singleton.1 hp; subst this; exact hk0
        have d1 : IntsMem wr g1 0 ys := fun j u hu => (hM.cell (b := g1) (by omega) (by omega)).trans (HM4.out.1 j u hu)
        have d2 : IntsMem wr g2 0 zs := fun j u hu => (hM.cell (b := g2) (by omega) (by omega)).trans (HM4.out.2 j u hu)
        have HD := Lib.hid (And.intro d1 d2); have HE := Lib.hid hBw; have HPT := Lib.hid hpt
        have l1' : g1 < wr.heap.size := by omega
        have l2' : g2 < wr.heap.size := by omega
        have P0 : Hid (∀ W, Below wr.heap.size wr W → Calls Try.prog 65 #[tv (some ⟨gg, 0, none⟩) n cap, .int .i64 z0] W fun e w' => e = .returned (.int .i64 a0) ∧ Below W.heap.size W w') := Lib.hid fun W hW => PQ.out W gg cap z0 a0 (Nat.lt_of_lt_of_le lgg hW.size) (HPT.out.below hW lgg) HPL.out.1
        have P1 : Hid (∀ W, Below wr.heap.size wr W → Calls Try.prog 65 #[tv (some ⟨gg, 0, none⟩) n cap, .int .i64 z1] W fun e w' => e = .returned (.int .i64 d0) ∧ Below W.heap.size W w') := Lib.hid fun W hW => PQ.out W gg cap z1 d0 (Nat.lt_of_lt_of_le lgg hW.size) (HPT.out.below hW lgg) HPL.out.2
        obtain ⟨hx', hy⟩ := HXY.out
        clear hM hB hO hk0 hk1 d1 d2 hBw hpt t1' t2' t3' HXY
        rename World => WL
        -- the two places, twice
        have q0 := (HK.out _ (.head _)).cell 0
        have q1 := (HK.out _ (.tail _ (.head _))).cell 0
        have q2 := (HK.out _ (.tail _ (.head _))).cell 1
        have lA := (HK.out _ (.head _)).lt
        have lB := (HK.out _ (.tail _ (.head _))).lt
        simp at q0 q1 q2 lA lB
        go_wp2_with fail
        go_region_held3 (fun w' => w'.cell? ⟨g, 0, none⟩ = some (.slice (some ⟨gg, 0, none⟩) n cap) ∧ w'.cell? ⟨G + 1, 0, none⟩ = some (.int .i64 z0) ∧ w'.cell? ⟨G + 1, 1, none⟩ = some (.int .i64 z1) ∧ Below WL.heap.size WL w')
          (first | assumption | exact ⟨q0, q1, q2, (Below.refl _ _).drew⟩ | exact keep3c (by assumption) (by assumption) lA lB)
          (first
            | (go_at_call 65; (with_reducible refine (P0.out _ (below3c (by assumption))).mono ?_); rintro e v1 ⟨rfl, hb1⟩)
            | (go_at_call 65; (with_reducible refine (P1.out _ (below3c (by assumption))).mono ?_); rintro e v3 ⟨rfl, hb3⟩; have T3 := keep3c (W2 := WL) (A := g) (B := G + 1) hb3 (by assumption) lA lB)
            | fail)
        have HR1 := Lib.hid T3.2.2.2; have HK1 := Lib.hid (HK.out.on T3.2.2.2)
        clear T3 q0 q1 q2 lA lB hb1 hb3
        have q0 := (HK1.out _ (.head _)).cell 0
        have q1 := (HK1.out _ (.tail _ (.head _))).cell 0
        have q2 := (HK1.out _ (.tail _ (.head _))).cell 1
        have lA := (HK1.out _ (.head _)).lt
        have lB := (HK1.out _ (.tail _ (.head _))).lt
        simp at q0 q1 q2 lA lB
        go_wp2_with fail
        go_region_held3 (fun w' => w'.cell? ⟨g, 0, none⟩ = some (.slice (some ⟨gg, 0, none⟩) n cap) ∧ w'.cell? ⟨G + 1, 0, none⟩ = some (.int .i64 z0) ∧ w'.cell? ⟨G + 1, 1, none⟩ = some (.int .i64 z1) ∧ Below v3.heap.size v3 w')
          (first | assumption | exact ⟨q0, q1, q2, (Below.refl _ _).drew⟩ | exact keep3c (by assumption) (by assumption) lA lB)
          (first
            | (go_at_call 65; (with_reducible refine (P0.out _ (below_then HR1.out (below3c (by assumption)))).mono ?_); rintro e v1 ⟨rfl, hb1⟩)
            | (go_at_call 65; (with_reducible refine (P1.out _ (below_then HR1.out (below3c (by assumption)))).mono ?_); rintro e v5 ⟨rfl, hb3⟩; have T3 := keep3c (W2 := v3) (A := g) (B := G + 1) hb3 (by assumption) lA lB)
            | fail)
        have HR := Lib.hid (below_then HR1.out T3.2.2.2); have HK2 := Lib.hid (HK1.out.on T3.2.2.2)
        clear T3 q0 q1 q2 lA lB hb1 hb3 HR1 HK1 HK P0 P1
        have HQ : Hid (∀ W, Below WL.heap.size WL W → gg < W.heap.size ∧ PtsAt W gg 0 qs) := Lib.hid fun W hW => ⟨Nat.lt_of_lt_of_le lgg hW.size, HPT.out.below hW lgg⟩
        -- OQ
        have q0 := (HK2.out _ (.head _)).cell 0
        have lA := (HK2.out _ (.head _)).lt
        simp at q0 lA
        go_wp2_with fail
        refine (OQ.out _ gg cap (HQ.out _ HR.out).1 (HQ.out _ HR.out).2).mono ?_
        rintro e u0 ⟨rfl, hbv⟩
        have HKb0 := Lib.hid ((HK2.out.on hbv).new 23 #[.int .i64 r1, .int .i64 r2]); have HRb0 := Lib.hid (below_then (below_then HR.out hbv) (below_alloc1 u0 (.cells #[.int .i64 r1, .int .i64 r2] 23)))
        clear hbv q0 lA HK2 HR
        have q0 := (HKb0.out _ (.tail _ (.tail _ (.tail _ (.head _))))).cell 0
        simp at q0
        go_upto_region 14 with fail
        clear q0
        obtain ⟨B0, hB⟩ : ∃ B, u0.heap.size = B := ⟨_, rfl⟩
        obtain ⟨W00, hW⟩ : ∃ W, u0.alloc (.cells #[.int .i64 r1, .int .i64 r2] 23) = W := ⟨_, rfl⟩
        rw [hW] at HKb0 HRb0 ⊢
        rw [hB] at HKb0 ⊢
        clear hW hB
        -- OP
        have q0 := (HKb0.out _ (.tail _ (.tail _ (.tail _ (.head _))))).cell 0
        have lA := (HKb0.out _ (.tail _ (.tail _ (.tail _ (.head _))))).lt
        simp at q0 lA
        go_wp2_with fail
        refine (OP.out _ (below_then HE.out HRb0.out)).mono ?_
        rintro e u1 ⟨rfl, hbv⟩
        have HKb1 := Lib.hid ((HKb0.out.on hbv).new 23 #[.int .i64 s1, .int .i64 s2]); have HRb1 := Lib.hid (below_then (below_then HRb0.out hbv) (below_alloc1 u1 (.cells #[.int .i64 s1, .int .i64 s2] 23)))
        clear hbv q0 lA HKb0 HRb0
        have q0 := (HKb1.out _ (.tail _ (.tail _ (.head _)))).cell 0
        simp at q0
        go_upto_region 15 with fail
        clear q0
        obtain ⟨B1, hB⟩ : ∃ B, u1.heap.size = B := ⟨_, rfl⟩
        obtain ⟨W10, hW⟩ : ∃ W, u1.alloc (.cells #[.int .i64 s1, .int .i64 s2] 23) = W := ⟨_, rfl⟩
        rw [hW] at HKb1 HRb1 ⊢
        rw [hB] at HKb1 ⊢
        clear hW hB
        -- AQ
        have q0 := (HKb1.out _ (.tail _ (.tail _ (.head _)))).cell 0
        have lA := (HKb1.out _ (.tail _ (.tail _ (.head _)))).lt
        simp at q0 lA
        go_wp2_with fail
        refine (AQ.out _ gg cap (HQ.out _ HRb1.out).1 (HQ.out _ HRb1.out).2).mono ?_
        rintro e u2 ⟨rfl, hbv⟩
        have HKb2 := Lib.hid (HKb1.out.on hbv); have HRb2 := Lib.hid (below_then HRb1.out hbv)
        clear hbv q0 lA HKb1 HRb1
        -- AP
        have q0 := (HKb2.out _ (.tail _ (.tail _ (.tail _ (.tail _ (.head _)))))).cell 0
        have lA := (HKb2.out _ (.tail _ (.tail _ (.tail _ (.tail _ (.head _)))))).lt
        simp at q0 lA
        go_wp2_with fail
        refine (AP.out _ (below_then HE.out HRb2.out)).mono ?_
        rintro e u3 ⟨rfl, hbv⟩
        have HKb3 := Lib.hid (HKb2.out.on hbv); have HRb3 := Lib.hid (below_then HRb2.out hbv)
        clear hbv q0 lA HKb2 HRb2
        -- TQ
        have q0 := (HKb3.out _ (.tail _ (.tail _ (.head _)))).cell 0
        have lA := (HKb3.out _ (.tail _ (.tail _ (.head _)))).lt
        simp at q0 lA
        go_wp2_with fail
        refine (TQ.out _ gg cap (HQ.out _ HRb3.out).1 (HQ.out _ HRb3.out).2).mono ?_
        rintro e u4 ⟨rfl, hbv⟩
        have HKb4 := Lib.hid ((HKb3.out.on hbv).new 23 #[.int .i64 p1, .int .i64 p2]); have HRb4 := Lib.hid (below_then (below_then HRb3.out hbv) (below_alloc1 u4 (.cells #[.int .i64 p1, .int .i64 p2] 23)))
        clear hbv q0 lA HKb3 HRb3
        have q0 := (HKb4.out _ (.tail _ (.tail _ (.tail _ (.tail _ (.tail _ (.head _))))))).cell 0
        simp at q0
        go_upto_region 18 with fail
        clear q0
        obtain ⟨B4, hB⟩ : ∃ B, u4.heap.size = B := ⟨_, rfl⟩
        obtain ⟨W40, hW⟩ : ∃ W, u4.alloc (.cells #[.int .i64 p1, .int .i64 p2] 23) = W := ⟨_, rfl⟩
        rw [hW] at HKb4 HRb4 ⊢
        rw [hB] at HKb4 ⊢
        clear hW hB
        -- TP
        have q0 := (HKb4.out _ (.tail _ (.tail _ (.tail _ (.tail _ (.tail _ (.head _))))))).cell 0
        have lA := (HKb4.out _ (.tail _ (.tail _ (.tail _ (.tail _ (.tail _ (.head _))))))).lt
        simp at q0 lA
        go_wp2_with fail
        refine (TP.out _ (below_then HE.out HRb4.out)).mono ?_
        rintro e u5 ⟨rfl, hbv⟩
        have HKb5 := Lib.hid ((HKb4.out.on hbv).new 23 #[.int .i64 t1, .int .i64 t2]); have HRb5 := Lib.hid (below_then (below_then HRb4.out hbv) (below_alloc1 u5 (.cells #[.int .i64 t1, .int .i64 t2] 23)))
        clear hbv q0 lA HKb4 HRb4
        have f1 := (HKb5.out _ (.head _)).cell 0; have g1' := (HKb5.out _ (.head _)).cell 1
        have f2 := (HKb5.out _ (.tail _ (.head _))).cell 0; have g2' := (HKb5.out _ (.tail _ (.head _))).cell 1
        have f3 := (HKb5.out _ (.tail _ (.tail _ (.head _)))).cell 0; have g3' := (HKb5.out _ (.tail _ (.tail _ (.head _)))).cell 1
        have f4 := (HKb5.out _ (.tail _ (.tail _ (.tail _ (.head _))))).cell 0; have g4' := (HKb5.out _ (.tail _ (.tail _ (.tail _ (.head _))))).cell 1
        go_upto_region 19 with fail
        obtain ⟨B5, hB⟩ : ∃ B, u5.heap.size = B := ⟨_, rfl⟩
        obtain ⟨W7, hW⟩ : ∃ W, u5.alloc (.cells #[.int .i64 t1, .int .i64 t2] 23) = W := ⟨_, rfl⟩
        rw [hW] at HKb5 HRb5 f1 g1' f2 g2' f3 g3' f4 g4' ⊢
        rw [hB] at HKb5 f1 g1' ⊢
        clear hW hB
        simp at f1 g1' f2 g2' f3 g3' f4 g4'
        have n1 : ¬ r1 < s1 := by omega
        have n2 : ¬ s2 < r2 := by omega
        have n3 : ¬ lo < low := by omega
        have n4 : ¬ high < hi := by omega
        have n5 : ¬ p1 < t1 := by omega
        have n6 : ¬ t2 < p2 := by omega
        go_wp2_with fail
        clear f1 g1' f2 g2' f3 g3' f4 g4' n1 n2 n3 n4 n5 n6 mo ma mt hx' hy
        have c0 := HKb5.out _ (.tail _ (.tail _ (.tail _ (.tail _ (.tail _ (.tail _ (.head _)))))))
        have HDD := Lib.hid (And.intro (HD.out.1.below HRb5.out l1') (HD.out.2.below HRb5.out l2'))
        have l1 : g1 < W7.heap.size := Nat.lt_of_lt_of_le l1' HRb5.out.size
        have l2 : g2 < W7.heap.size := Nat.lt_of_lt_of_le l2' HRb5.out.size
        have l0 := c0.lt
        have HC0 := Lib.hid c0
        clear c0 HKb5
        go_loopw [28] (fun i wr => ∃ k : Nat, k + 1 ≤ n ∧ i = .int .i64 ((k : Int) + 1) ∧ Below W7.heap.size W7 wr) (fun i _ => n - (intOf i).toNat)
        case atStart => exact ⟨0, by omega, rfl, Below.refl _ _⟩
        case round =>
          obtain ⟨k, hk, rfl, hB⟩ := hrel
          by_cases hlt : k + 1 < n
          · obtain ⟨u, hu⟩ : ∃ u, ys[k + 1]? = some u := ⟨_, List.getElem?_eq_getElem (by have := HN.out.1; have := HN.out.2.1; omega)⟩
            obtain ⟨v, hv⟩ : ∃ u, zs[k]? = some u := ⟨_, List.getElem?_eq_getElem (by have := HN.out.1; have := HN.out.2.2.1; omega)⟩
            have m0 := (blkOn HC0.out hB).cell 0
            have m1 := (HDD.out.1.below hB l1) (k + 1) u hu
            have m2 := (HDD.out.2.below hB l2) k v hv
            rw [Nat.zero_add] at m1 m2
            simp at m0
            have j0 := Nat.lt_of_lt_of_le l0 hB.size
            have j1 := Nat.lt_of_lt_of_le l1 hB.size
            have j2 := Nat.lt_of_lt_of_le l2 hB.size
            have HB := Lib.hid hB
            have HRC : Hid (rs = true → v ≤ u) := Lib.hid fun h => RC.out h k u v hu hv
            have HFC : Hid (fs = true → u ≤ v) := Lib.hid fun h => FC.out h k u v hu hv
            clear hu hv hB
            have s1 : IntKind.i64.wrap ((k : Int) + 1 - 1) = (k : Int) := by rw [IntWalk.i64_in _ ⟨by omega, by omega⟩]; omega
            have s2 : (0 : Int) ≤ (k : Int) := by omega
            have s7 : IntKind.i64.wrap (k : Int) = (k : Int) := IntWalk.i64_in _ ⟨by omega, by omega⟩
            have s3 : (k : Int) < (n : Int) := by omega
            have s4 : (k : Int) + 1 < (n : Int) := by omega
            have s5 : (0 : Int) ≤ (k : Int) + 1 := by omega
            have s6 : ((k : Int) + 1).toNat = k + 1 := by omega
            cases rs <;> cases fs
            · skip
              go_wp2_with fail
              refine wp_region_held_drew (S := (fun w' => w'.cell? ⟨G, 0, none⟩ = some (.slice (some ⟨b, o, none⟩) n c) ∧ w'.cell? ⟨g1, k + 1, none⟩ = some (.int .i64 u) ∧ w'.cell? ⟨g2, k, none⟩ = some (.int .i64 v) ∧ Below wr.heap.size wr w')) (by kernel_rfl) ?_ (fun hHeld => ?_)
              · exact ⟨m0, m1, m2, (Below.refl _ _).drew⟩
              refine wpAnyH_take (i := 0) (v := ?_) rfl (by kernel_rfl) (by kernel_rfl) (by kernel_rfl) (fun _ _ _ h => h) (Or.inl ⟨by kernel_rfl, ?_⟩) hHeld ?_
              rotate_left
              · intro w hSw; (try dsimp only at hSw); go_simp; try with_reducible rfl
              change wpAnyH _ _ _ _ _ _ _ (Act.put _ (some 209) _) _
              try simp only [Act.put, List.setIfInBounds_toArray, List.set_cons_zero, List.set_cons_succ]
              refine wpAnyH_take (i := 1) (v := ?_) rfl (by kernel_rfl) (by kernel_rfl) (by kernel_rfl) (fun _ _ _ h => h) (Or.inl ⟨by kernel_rfl, ?_⟩) hHeld ?_
              rotate_left
              · intro w hSw; (try dsimp only at hSw); go_simp; try with_reducible rfl
              change wpAnyH _ _ _ _ _ _ _ (Act.put _ (some 210) _) _
              try simp only [Act.put, List.setIfInBounds_toArray, List.set_cons_zero, List.set_cons_succ]
              refine wpAnyH_ready (rs := [2]) (by kernel_rfl) (by simp) ?_
              refine AllReadyH.cons rfl (fun K hK => ?_) AllReadyH.nil
              go_simp
              (with_reducible refine (RP.out _ (below_then (below_then HE.out (below_then HRb5.out HB.out)) (below3d hHeld))).mono ?_)
              rintro e v1 ⟨rfl, hb1⟩
              refine hK.out _ _ (keep3d hb1 hHeld j0 j1 j2) (fun hHeld2 => ?_)
              try simp only [Act.put, List.setIfInBounds_toArray, List.set_cons_zero, List.set_cons_succ]
              clear hK K hHeld
              have hHeld := hHeld2
              clear hHeld2
              refine wpAnyH_take (i := 3) (v := ?_) rfl (by kernel_rfl) (by kernel_rfl) (by kernel_rfl) (fun _ _ _ h => h) (Or.inl ⟨by kernel_rfl, ?_⟩) hHeld ?_
              rotate_left
              · intro w hSw; (try dsimp only at hSw); go_simp; try with_reducible rfl
              change wpAnyH _ _ _ _ _ _ _ (Act.put _ (some 212) _) _
              try simp only [Act.put, List.setIfInBounds_toArray, List.set_cons_zero, List.set_cons_succ]
              refine wpAnyH_take (i := 4) (v := undef) rfl (by kernel_rfl) (by kernel_rfl) (by kernel_rfl) (fun _ _ _ h => h) (Or.inr ⟨by kernel_rfl, rfl⟩) hHeld ?_
              change wpAnyH _ _ _ _ _ _ _ (Act.put _ (some 213) _) _
              try simp only [Act.put, List.setIfInBounds_toArray, List.set_cons_zero, List.set_cons_succ]
              refine wpAnyH_take (i := 5) (v := undef) rfl (by kernel_rfl) (by kernel_rfl) (by kernel_rfl) (fun _ _ _ h => h) (Or.inr ⟨by kernel_rfl, rfl⟩) hHeld ?_
              change wpAnyH _ _ _ _ _ _ _ (Act.put _ (some 214) _) _
              try simp only [Act.put, List.setIfInBounds_toArray, List.set_cons_zero, List.set_cons_succ]
              refine wpAnyH_take (i := 6) (v := undef) rfl (by kernel_rfl) (by kernel_rfl) (by kernel_rfl) (fun _ _ _ h => h) (Or.inr ⟨by kernel_rfl, rfl⟩) hHeld ?_
              change wpAnyH _ _ _ _ _ _ _ (Act.put _ (some 215) _) _
              try simp only [Act.put, List.setIfInBounds_toArray, List.set_cons_zero, List.set_cons_succ]
              refine wpAnyH_take (i := 7) (v := undef) rfl (by kernel_rfl) (by kernel_rfl) (by kernel_rfl) (fun _ _ _ h => h) (Or.inr ⟨by kernel_rfl, rfl⟩) hHeld ?_
              change wpAnyH _ _ _ _ _ _ _ (Act.put _ (some 216) _) _
              try simp only [Act.put, List.setIfInBounds_toArray, List.set_cons_zero, List.set_cons_succ]
              refine wpAnyH_take (i := 8) (v := undef) rfl (by kernel_rfl) (by kernel_rfl) (by kernel_rfl) (fun _ _ _ h => h) (Or.inr ⟨by kernel_rfl, rfl⟩) hHeld ?_
              change wpAnyH _ _ _ _ _ _ _ (Act.put _ (some 217) _) _
              try simp only [Act.put, List.setIfInBounds_toArray, List.set_cons_zero, List.set_cons_succ]
              refine wpAnyH_take (i := 9) (v := undef) rfl (by kernel_rfl) (by kernel_rfl) (by kernel_rfl) (fun _ _ _ h => h) (Or.inr ⟨by kernel_rfl, rfl⟩) hHeld ?_
              change wpAnyH _ _ _ _ _ _ _ (Act.put _ (some 218) _) _
              try simp only [Act.put, List.setIfInBounds_toArray, List.set_cons_zero, List.set_cons_succ]
              refine wpAnyH_take (i := 10) (v := undef) rfl (by kernel_rfl) (by kernel_rfl) (by kernel_rfl) (fun _ _ _ h => h) (Or.inr ⟨by kernel_rfl, rfl⟩) hHeld ?_
              change wpAnyH _ _ _ _ _ _ _ (Act.put _ (some 219) _) _
              try simp only [Act.put, List.setIfInBounds_toArray, List.set_cons_zero, List.set_cons_succ]
              refine wpAnyH_take (i := 11) (v := undef) rfl (by kernel_rfl) (by kernel_rfl) (by kernel_rfl) (fun _ _ _ h => h) (Or.inr ⟨by kernel_rfl, rfl⟩) hHeld ?_
              change wpAnyH _ _ _ _ _ _ _ (Act.put _ (some 220) _) _
              try simp only [Act.put, List.setIfInBounds_toArray, List.set_cons_zero, List.set_cons_succ]
              refine wpAnyH_take (i := 12) (v := undef) rfl (by kernel_rfl) (by kernel_rfl) (by kernel_rfl) (fun _ _ _ h => h) (Or.inr ⟨by kernel_rfl, rfl⟩) hHeld ?_
              change wpAnyH _ _ _ _ _ _ _ (Act.put _ (some 221) _) _
              try simp only [Act.put, List.setIfInBounds_toArray, List.set_cons_zero, List.set_cons_succ]
              refine wpAnyH_take (i := 13) (v := undef) rfl (by kernel_rfl) (by kernel_rfl) (by kernel_rfl) (fun _ _ _ h => h) (Or.inr ⟨by kernel_rfl, rfl⟩) hHeld ?_
              change wpAnyH _ _ _ _ _ _ _ (Act.put _ (some 222) _) _
              try simp only [Act.put, List.setIfInBounds_toArray, List.set_cons_zero, List.set_cons_succ]
              refine wpAnyH_take (i := 14) (v := .bool false) rfl (by kernel_rfl) (by kernel_rfl) (by kernel_rfl) (fun _ _ _ h => h) (Or.inl ⟨by kernel_rfl, ?_⟩) hHeld ?_
              · intro w hSw; (try dsimp only at hSw); go_simp; try with_reducible rfl
              change wpAnyH _ _ _ _ _ _ _ (Act.put _ (some 223) _) _
              try simp only [Act.put, List.setIfInBounds_toArray, List.set_cons_zero, List.set_cons_succ]
              refine wpAnyH_take (i := 15) (v := .bool false) rfl (by kernel_rfl) (by kernel_rfl) (by kernel_rfl) (fun _ _ _ h => h) (Or.inl ⟨by kernel_rfl, ?_⟩) hHeld ?_
              · intro w hSw; (try dsimp only at hSw); go_simp; try with_reducible rfl
              change wpAnyH _ _ _ _ _ _ _ (Act.put _ (some 224) _) _
              try simp only [Act.put, List.setIfInBounds_toArray, List.set_cons_zero, List.set_cons_succ]
              refine wpAnyH_take (i := 16) (v := ?_) rfl (by kernel_rfl) (by kernel_rfl) (by kernel_rfl) (fun _ _ _ h => h) (Or.inl ⟨by kernel_rfl, ?_⟩) hHeld ?_
              rotate_left
              · intro w hSw; (try dsimp only at hSw); go_simp; try with_reducible rfl
              change wpAnyH _ _ _ _ _ _ _ (Act.put _ (some 225) _) _
              try simp only [Act.put, List.setIfInBounds_toArray, List.set_cons_zero, List.set_cons_succ]
              refine wpAnyH_take (i := 17) (v := ?_) rfl (by kernel_rfl) (by kernel_rfl) (by kernel_rfl) (fun _ _ _ h => h) (Or.inl ⟨by kernel_rfl, ?_⟩) hHeld ?_
              rotate_left
              · intro w hSw; (try dsimp only at hSw); go_simp; try with_reducible rfl
              change wpAnyH _ _ _ _ _ _ _ (Act.put _ (some 226) _) _
              try simp only [Act.put, List.setIfInBounds_toArray, List.set_cons_zero, List.set_cons_succ]
              refine wpAnyH_ready (rs := [18]) (by kernel_rfl) (by simp) ?_
              refine AllReadyH.cons rfl (fun K hK => ?_) AllReadyH.nil
              go_simp
              (with_reducible refine (FP.out _ (below_then (below_then HE.out (below_then HRb5.out HB.out)) (below3d hHeld))).mono ?_)
              rintro e v3 ⟨rfl, hb3⟩
              refine hK.out _ _ (keep3d hb3 hHeld j0 j1 j2) (fun hHeld2 => ?_)
              try simp only [Act.put, List.setIfInBounds_toArray, List.set_cons_zero, List.set_cons_succ]
              clear hK K hHeld
              have hHeld := hHeld2
              clear hHeld2
              refine wpAnyH_take (i := 19) (v := ?_) rfl (by kernel_rfl) (by kernel_rfl) (by kernel_rfl) (fun _ _ _ h => h) (Or.inl ⟨by kernel_rfl, ?_⟩) hHeld ?_
              rotate_left
              · intro w hSw; (try dsimp only at hSw); go_simp; try with_reducible rfl
              change wpAnyH _ _ _ _ _ _ _ (Act.put _ (some 228) _) _
              try simp only [Act.put, List.setIfInBounds_toArray, List.set_cons_zero, List.set_cons_succ]
              refine wpAnyH_take (i := 20) (v := undef) rfl (by kernel_rfl) (by kernel_rfl) (by kernel_rfl) (fun _ _ _ h => h) (Or.inr ⟨by kernel_rfl, rfl⟩) hHeld ?_
              change wpAnyH _ _ _ _ _ _ _ (Act.put _ (some 229) _) _
              try simp only [Act.put, List.setIfInBounds_toArray, List.set_cons_zero, List.set_cons_succ]
              refine wpAnyH_take (i := 21) (v := undef) rfl (by kernel_rfl) (by kernel_rfl) (by kernel_rfl) (fun _ _ _ h => h) (Or.inr ⟨by kernel_rfl, rfl⟩) hHeld ?_
              change wpAnyH _ _ _ _ _ _ _ (Act.put _ (some 230) _) _
              try simp only [Act.put, List.setIfInBounds_toArray, List.set_cons_zero, List.set_cons_succ]
              refine wpAnyH_take (i := 22) (v := undef) rfl (by kernel_rfl) (by kernel_rfl) (by kernel_rfl) (fun _ _ _ h => h) (Or.inr ⟨by kernel_rfl, rfl⟩) hHeld ?_
              change wpAnyH _ _ _ _ _ _ _ (Act.put _ (some 231) _) _
              try simp only [Act.put, List.setIfInBounds_toArray, List.set_cons_zero, List.set_cons_succ]
              refine wpAnyH_take (i := 23) (v := undef) rfl (by kernel_rfl) (by kernel_rfl) (by kernel_rfl) (fun _ _ _ h => h) (Or.inr ⟨by kernel_rfl, rfl⟩) hHeld ?_
              change wpAnyH _ _ _ _ _ _ _ (Act.put _ (some 232) _) _
              try simp only [Act.put, List.setIfInBounds_toArray, List.set_cons_zero, List.set_cons_succ]
              refine wpAnyH_take (i := 24) (v := undef) rfl (by kernel_rfl) (by kernel_rfl) (by kernel_rfl) (fun _ _ _ h => h) (Or.inr ⟨by kernel_rfl, rfl⟩) hHeld ?_
              change wpAnyH _ _ _ _ _ _ _ (Act.put _ (some 233) _) _
              try simp only [Act.put, List.setIfInBounds_toArray, List.set_cons_zero, List.set_cons_succ]
              refine wpAnyH_take (i := 25) (v := undef) rfl (by kernel_rfl) (by kernel_rfl) (by kernel_rfl) (fun _ _ _ h => h) (Or.inr ⟨by kernel_rfl, rfl⟩) hHeld ?_
              change wpAnyH _ _ _ _ _ _ _ (Act.put _ (some 234) _) _
              try simp only [Act.put, List.setIfInBounds_toArray, List.set_cons_zero, List.set_cons_succ]
              refine wpAnyH_take (i := 26) (v := undef) rfl (by kernel_rfl) (by kernel_rfl) (by kernel_rfl) (fun _ _ _ h => h) (Or.inr ⟨by kernel_rfl, rfl⟩) hHeld ?_
              change wpAnyH _ _ _ _ _ _ _ (Act.put _ (some 235) _) _
              try simp only [Act.put, List.setIfInBounds_toArray, List.set_cons_zero, List.set_cons_succ]
              refine wpAnyH_take (i := 27) (v := undef) rfl (by kernel_rfl) (by kernel_rfl) (by kernel_rfl) (fun _ _ _ h => h) (Or.inr ⟨by kernel_rfl, rfl⟩) hHeld ?_
              change wpAnyH _ _ _ _ _ _ _ (Act.put _ (some 236) _) _
              try simp only [Act.put, List.setIfInBounds_toArray, List.set_cons_zero, List.set_cons_succ]
              refine wpAnyH_take (i := 28) (v := undef) rfl (by kernel_rfl) (by kernel_rfl) (by kernel_rfl) (fun _ _ _ h => h) (Or.inr ⟨by kernel_rfl, rfl⟩) hHeld ?_
              change wpAnyH _ _ _ _ _ _ _ (Act.put _ (some 237) _) _
              try simp only [Act.put, List.setIfInBounds_toArray, List.set_cons_zero, List.set_cons_succ]
              refine wpAnyH_take (i := 29) (v := undef) rfl (by kernel_rfl) (by kernel_rfl) (by kernel_rfl) (fun _ _ _ h => h) (Or.inr ⟨by kernel_rfl, rfl⟩) hHeld ?_
              change wpAnyH _ _ _ _ _ _ _ (Act.put _ (some 238) _) _
              try simp only [Act.put, List.setIfInBounds_toArray, List.set_cons_zero, List.set_cons_succ]
              refine wpAnyH_take (i := 30) (v := .bool false) rfl (by kernel_rfl) (by kernel_rfl) (by kernel_rfl) (fun _ _ _ h => h) (Or.inl ⟨by kernel_rfl, ?_⟩) hHeld ?_
              · intro w hSw; (try dsimp only at hSw); go_simp; try with_reducible rfl
              change wpAnyH _ _ _ _ _ _ _ (Act.put _ (some 239) _) _
              try simp only [Act.put, List.setIfInBounds_toArray, List.set_cons_zero, List.set_cons_succ]
              refine wpAnyH_take (i := 31) (v := .bool false) rfl (by kernel_rfl) (by kernel_rfl) (by kernel_rfl) (fun _ _ _ h => h) (Or.inl ⟨by kernel_rfl, ?_⟩) hHeld ?_
              · intro w hSw; (try dsimp only at hSw); go_simp; try with_reducible rfl
              change wpAnyH _ _ _ _ _ _ _ (Act.put _ (some 240) _) _
              try simp only [Act.put, List.setIfInBounds_toArray, List.set_cons_zero, List.set_cons_succ]
              refine wpAnyH_done (by kernel_rfl) ?_ _
              have HB3 := Lib.hid (below_then HB.out hHeld.2.2.2)
              clear hHeld hb1 hb3 m0 m1 m2
              go_wp2
              go_roundw
              case rel => exact ⟨k + 1, by omega, by go_num, HB3.out⟩
              case measure => simp [intOf]; omega
            · have t2 : decide (v < u) = false := decide_eq_false (by have := HFC.out rfl; omega); skip
              go_wp2_with fail
              refine wp_region_held_drew (S := (fun w' => w'.cell? ⟨G, 0, none⟩ = some (.slice (some ⟨b, o, none⟩) n c) ∧ w'.cell? ⟨g1, k + 1, none⟩ = some (.int .i64 u) ∧ w'.cell? ⟨g2, k, none⟩ = some (.int .i64 v) ∧ Below wr.heap.size wr w')) (by kernel_rfl) ?_ (fun hHeld => ?_)
              · exact ⟨m0, m1, m2, (Below.refl _ _).drew⟩
              refine wpAnyH_take (i := 0) (v := ?_) rfl (by kernel_rfl) (by kernel_rfl) (by kernel_rfl) (fun _ _ _ h => h) (Or.inl ⟨by kernel_rfl, ?_⟩) hHeld ?_
              rotate_left
              · intro w hSw; (try dsimp only at hSw); go_simp; try with_reducible rfl
              change wpAnyH _ _ _ _ _ _ _ (Act.put _ (some 209) _) _
              try simp only [Act.put, List.setIfInBounds_toArray, List.set_cons_zero, List.set_cons_succ]
              refine wpAnyH_take (i := 1) (v := ?_) rfl (by kernel_rfl) (by kernel_rfl) (by kernel_rfl) (fun _ _ _ h => h) (Or.inl ⟨by kernel_rfl, ?_⟩) hHeld ?_
              rotate_left
              · intro w hSw; (try dsimp only at hSw); go_simp; try with_reducible rfl
              change wpAnyH _ _ _ _ _ _ _ (Act.put _ (some 210) _) _
              try simp only [Act.put, List.setIfInBounds_toArray, List.set_cons_zero, List.set_cons_succ]
              refine wpAnyH_ready (rs := [2]) (by kernel_rfl) (by simp) ?_
              refine AllReadyH.cons rfl (fun K hK => ?_) AllReadyH.nil
              go_simp
              (with_reducible refine (RP.out _ (below_then (below_then HE.out (below_then HRb5.out HB.out)) (below3d hHeld))).mono ?_)
              rintro e v1 ⟨rfl, hb1⟩
              refine hK.out _ _ (keep3d hb1 hHeld j0 j1 j2) (fun hHeld2 => ?_)
              try simp only [Act.put, List.setIfInBounds_toArray, List.set_cons_zero, List.set_cons_succ]
              clear hK K hHeld
              have hHeld := hHeld2
              clear hHeld2
              refine wpAnyH_take (i := 3) (v := ?_) rfl (by kernel_rfl) (by kernel_rfl) (by kernel_rfl) (fun _ _ _ h => h) (Or.inl ⟨by kernel_rfl, ?_⟩) hHeld ?_
              rotate_left
              · intro w hSw; (try dsimp only at hSw); go_simp; try with_reducible rfl
              change wpAnyH _ _ _ _ _ _ _ (Act.put _ (some 212) _) _
              try simp only [Act.put, List.setIfInBounds_toArray, List.set_cons_zero, List.set_cons_succ]
              refine wpAnyH_take (i := 4) (v := undef) rfl (by kernel_rfl) (by kernel_rfl) (by kernel_rfl) (fun _ _ _ h => h) (Or.inr ⟨by kernel_rfl, rfl⟩) hHeld ?_
              change wpAnyH _ _ _ _ _ _ _ (Act.put _ (some 213) _) _
              try simp only [Act.put, List.setIfInBounds_toArray, List.set_cons_zero, List.set_cons_succ]
              refine wpAnyH_take (i := 5) (v := undef) rfl (by kernel_rfl) (by kernel_rfl) (by kernel_rfl) (fun _ _ _ h => h) (Or.inr ⟨by kernel_rfl, rfl⟩) hHeld ?_
              change wpAnyH _ _ _ _ _ _ _ (Act.put _ (some 214) _) _
              try simp only [Act.put, List.setIfInBounds_toArray, List.set_cons_zero, List.set_cons_succ]
              refine wpAnyH_take (i := 6) (v := undef) rfl (by kernel_rfl) (by kernel_rfl) (by kernel_rfl) (fun _ _ _ h => h) (Or.inr ⟨by kernel_rfl, rfl⟩) hHeld ?_
              change wpAnyH _ _ _ _ _ _ _ (Act.put _ (some 215) _) _
              try simp only [Act.put, List.setIfInBounds_toArray, List.set_cons_zero, List.set_cons_succ]
              refine wpAnyH_take (i := 7) (v := undef) rfl (by kernel_rfl) (by kernel_rfl) (by kernel_rfl) (fun _ _ _ h => h) (Or.inr ⟨by kernel_rfl, rfl⟩) hHeld ?_
              change wpAnyH _ _ _ _ _ _ _ (Act.put _ (some 216) _) _
              try simp only [Act.put, List.setIfInBounds_toArray, List.set_cons_zero, List.set_cons_succ]
              refine wpAnyH_take (i := 8) (v := undef) rfl (by kernel_rfl) (by kernel_rfl) (by kernel_rfl) (fun _ _ _ h => h) (Or.inr ⟨by kernel_rfl, rfl⟩) hHeld ?_
              change wpAnyH _ _ _ _ _ _ _ (Act.put _ (some 217) _) _
              try simp only [Act.put, List.setIfInBounds_toArray, List.set_cons_zero, List.set_cons_succ]
              refine wpAnyH_take (i := 9) (v := undef) rfl (by kernel_rfl) (by kernel_rfl) (by kernel_rfl) (fun _ _ _ h => h) (Or.inr ⟨by kernel_rfl, rfl⟩) hHeld ?_
              change wpAnyH _ _ _ _ _ _ _ (Act.put _ (some 218) _) _
              try simp only [Act.put, List.setIfInBounds_toArray, List.set_cons_zero, List.set_cons_succ]
              refine wpAnyH_take (i := 10) (v := undef) rfl (by kernel_rfl) (by kernel_rfl) (by kernel_rfl) (fun _ _ _ h => h) (Or.inr ⟨by kernel_rfl, rfl⟩) hHeld ?_
              change wpAnyH _ _ _ _ _ _ _ (Act.put _ (some 219) _) _
              try simp only [Act.put, List.setIfInBounds_toArray, List.set_cons_zero, List.set_cons_succ]
              refine wpAnyH_take (i := 11) (v := undef) rfl (by kernel_rfl) (by kernel_rfl) (by kernel_rfl) (fun _ _ _ h => h) (Or.inr ⟨by kernel_rfl, rfl⟩) hHeld ?_
              change wpAnyH _ _ _ _ _ _ _ (Act.put _ (some 220) _) _
              try simp only [Act.put, List.setIfInBounds_toArray, List.set_cons_zero, List.set_cons_succ]
              refine wpAnyH_take (i := 12) (v := undef) rfl (by kernel_rfl) (by kernel_rfl) (by kernel_rfl) (fun _ _ _ h => h) (Or.inr ⟨by kernel_rfl, rfl⟩) hHeld ?_
              change wpAnyH _ _ _ _ _ _ _ (Act.put _ (some 221) _) _
              try simp only [Act.put, List.setIfInBounds_toArray, List.set_cons_zero, List.set_cons_succ]
              refine wpAnyH_take (i := 13) (v := undef) rfl (by kernel_rfl) (by kernel_rfl) (by kernel_rfl) (fun _ _ _ h => h) (Or.inr ⟨by kernel_rfl, rfl⟩) hHeld ?_
              change wpAnyH _ _ _ _ _ _ _ (Act.put _ (some 222) _) _
              try simp only [Act.put, List.setIfInBounds_toArray, List.set_cons_zero, List.set_cons_succ]
              refine wpAnyH_take (i := 14) (v := .bool false) rfl (by kernel_rfl) (by kernel_rfl) (by kernel_rfl) (fun _ _ _ h => h) (Or.inl ⟨by kernel_rfl, ?_⟩) hHeld ?_
              · intro w hSw; (try dsimp only at hSw); go_simp; try with_reducible rfl
              change wpAnyH _ _ _ _ _ _ _ (Act.put _ (some 223) _) _
              try simp only [Act.put, List.setIfInBounds_toArray, List.set_cons_zero, List.set_cons_succ]
              refine wpAnyH_take (i := 15) (v := .bool false) rfl (by kernel_rfl) (by kernel_rfl) (by kernel_rfl) (fun _ _ _ h => h) (Or.inl ⟨by kernel_rfl, ?_⟩) hHeld ?_
              · intro w hSw; (try dsimp only at hSw); go_simp; try with_reducible rfl
              change wpAnyH _ _ _ _ _ _ _ (Act.put _ (some 224) _) _
              try simp only [Act.put, List.setIfInBounds_toArray, List.set_cons_zero, List.set_cons_succ]
              refine wpAnyH_take (i := 16) (v := ?_) rfl (by kernel_rfl) (by kernel_rfl) (by kernel_rfl) (fun _ _ _ h => h) (Or.inl ⟨by kernel_rfl, ?_⟩) hHeld ?_
              rotate_left
              · intro w hSw; (try dsimp only at hSw); go_simp; try with_reducible rfl
              change wpAnyH _ _ _ _ _ _ _ (Act.put _ (some 225) _) _
              try simp only [Act.put, List.setIfInBounds_toArray, List.set_cons_zero, List.set_cons_succ]
              refine wpAnyH_take (i := 17) (v := ?_) rfl (by kernel_rfl) (by kernel_rfl) (by kernel_rfl) (fun _ _ _ h => h) (Or.inl ⟨by kernel_rfl, ?_⟩) hHeld ?_
              rotate_left
              · intro w hSw; (try dsimp only at hSw); go_simp; try with_reducible rfl
              change wpAnyH _ _ _ _ _ _ _ (Act.put _ (some 226) _) _
              try simp only [Act.put, List.setIfInBounds_toArray, List.set_cons_zero, List.set_cons_succ]
              refine wpAnyH_ready (rs := [18]) (by kernel_rfl) (by simp) ?_
              refine AllReadyH.cons rfl (fun K hK => ?_) AllReadyH.nil
              go_simp
              (with_reducible refine (FP.out _ (below_then (below_then HE.out (below_then HRb5.out HB.out)) (below3d hHeld))).mono ?_)
              rintro e v3 ⟨rfl, hb3⟩
              refine hK.out _ _ (keep3d hb3 hHeld j0 j1 j2) (fun hHeld2 => ?_)
              try simp only [Act.put, List.setIfInBounds_toArray, List.set_cons_zero, List.set_cons_succ]
              clear hK K hHeld
              have hHeld := hHeld2
              clear hHeld2
              refine wpAnyH_take (i := 19) (v := ?_) rfl (by kernel_rfl) (by kernel_rfl) (by kernel_rfl) (fun _ _ _ h => h) (Or.inl ⟨by kernel_rfl, ?_⟩) hHeld ?_
              rotate_left
              · intro w hSw; (try dsimp only at hSw); go_simp; try with_reducible rfl
              change wpAnyH _ _ _ _ _ _ _ (Act.put _ (some 228) _) _
              try simp only [Act.put, List.setIfInBounds_toArray, List.set_cons_zero, List.set_cons_succ]
              refine wpAnyH_take (i := 20) (v := ?_) rfl (by kernel_rfl) (by kernel_rfl) (by kernel_rfl) (fun _ _ _ h => h) (Or.inl ⟨by kernel_rfl, ?_⟩) hHeld ?_
              rotate_left
              · intro w hSw; (try dsimp only at hSw); go_simp; try with_reducible rfl
              change wpAnyH _ _ _ _ _ _ _ (Act.put _ (some 229) _) _
              try simp only [Act.put, List.setIfInBounds_toArray, List.set_cons_zero, List.set_cons_succ]
              refine wpAnyH_take (i := 21) (v := ?_) rfl (by kernel_rfl) (by kernel_rfl) (by kernel_rfl) (fun _ _ _ h => h) (Or.inl ⟨by kernel_rfl, ?_⟩) hHeld ?_
              rotate_left
              · intro w hSw; (try dsimp only at hSw); go_simp; try with_reducible rfl
              change wpAnyH _ _ _ _ _ _ _ (Act.put _ (some 230) _) _
              try simp only [Act.put, List.setIfInBounds_toArray, List.set_cons_zero, List.set_cons_succ]
              refine wpAnyH_take (i := 22) (v := ?_) rfl (by kernel_rfl) (by kernel_rfl) (by kernel_rfl) (fun _ _ _ h => h) (Or.inl ⟨by kernel_rfl, ?_⟩) hHeld ?_
              rotate_left
              · intro w hSw; (try dsimp only at hSw); go_simp; try with_reducible rfl
              change wpAnyH _ _ _ _ _ _ _ (Act.put _ (some 231) _) _
              try simp only [Act.put, List.setIfInBounds_toArray, List.set_cons_zero, List.set_cons_succ]
              refine wpAnyH_take (i := 23) (v := ?_) rfl (by kernel_rfl) (by kernel_rfl) (by kernel_rfl) (fun _ _ _ h => h) (Or.inl ⟨by kernel_rfl, ?_⟩) hHeld ?_
              rotate_left
              · intro w hSw; (try dsimp only at hSw); go_simp; try with_reducible rfl
              change wpAnyH _ _ _ _ _ _ _ (Act.put _ (some 232) _) _
              try simp only [Act.put, List.setIfInBounds_toArray, List.set_cons_zero, List.set_cons_succ]
              refine wpAnyH_take (i := 24) (v := ?_) rfl (by kernel_rfl) (by kernel_rfl) (by kernel_rfl) (fun _ _ _ h => h) (Or.inl ⟨by kernel_rfl, ?_⟩) hHeld ?_
              rotate_left
              · intro w hSw; (try dsimp only at hSw); go_simp; try with_reducible rfl
              change wpAnyH _ _ _ _ _ _ _ (Act.put _ (some 233) _) _
              try simp only [Act.put, List.setIfInBounds_toArray, List.set_cons_zero, List.set_cons_succ]
              refine wpAnyH_take (i := 25) (v := ?_) rfl (by kernel_rfl) (by kernel_rfl) (by kernel_rfl) (fun _ _ _ h => h) (Or.inl ⟨by kernel_rfl, ?_⟩) hHeld ?_
              rotate_left
              · intro w hSw; (try dsimp only at hSw); go_simp; try with_reducible rfl
              change wpAnyH _ _ _ _ _ _ _ (Act.put _ (some 234) _) _
              try simp only [Act.put, List.setIfInBounds_toArray, List.set_cons_zero, List.set_cons_succ]
              refine wpAnyH_take (i := 26) (v := ?_) rfl (by kernel_rfl) (by kernel_rfl) (by kernel_rfl) (fun _ _ _ h => h) (Or.inl ⟨by kernel_rfl, ?_⟩) hHeld ?_
              rotate_left
              · intro w hSw; (try dsimp only at hSw); go_simp; try with_reducible rfl
              change wpAnyH _ _ _ _ _ _ _ (Act.put _ (some 235) _) _
              try simp only [Act.put, List.setIfInBounds_toArray, List.set_cons_zero, List.set_cons_succ]
              refine wpAnyH_take (i := 27) (v := ?_) rfl (by kernel_rfl) (by kernel_rfl) (by kernel_rfl) (fun _ _ _ h => h) (Or.inl ⟨by kernel_rfl, ?_⟩) hHeld ?_
              rotate_left
              · intro w hSw; (try dsimp only at hSw); go_simp; try with_reducible rfl
              change wpAnyH _ _ _ _ _ _ _ (Act.put _ (some 236) _) _
              try simp only [Act.put, List.setIfInBounds_toArray, List.set_cons_zero, List.set_cons_succ]
              refine wpAnyH_take (i := 28) (v := ?_) rfl (by kernel_rfl) (by kernel_rfl) (by kernel_rfl) (fun _ _ _ h => h) (Or.inl ⟨by kernel_rfl, ?_⟩) hHeld ?_
              rotate_left
              · intro w hSw; (try dsimp only at hSw); go_simp; try with_reducible rfl
              change wpAnyH _ _ _ _ _ _ _ (Act.put _ (some 237) _) _
              try simp only [Act.put, List.setIfInBounds_toArray, List.set_cons_zero, List.set_cons_succ]
              refine wpAnyH_take (i := 29) (v := .bool false) rfl (by kernel_rfl) (by kernel_rfl) (by kernel_rfl) (fun _ _ _ h => h) (Or.inl ⟨by kernel_rfl, ?_⟩) hHeld ?_
              · intro w hSw; (try dsimp only at hSw); go_simp; try with_reducible rfl
              change wpAnyH _ _ _ _ _ _ _ (Act.put _ (some 238) _) _
              try simp only [Act.put, List.setIfInBounds_toArray, List.set_cons_zero, List.set_cons_succ]
              refine wpAnyH_take (i := 30) (v := .bool false) rfl (by kernel_rfl) (by kernel_rfl) (by kernel_rfl) (fun _ _ _ h => h) (Or.inl ⟨by kernel_rfl, ?_⟩) hHeld ?_
              · intro w hSw; (try dsimp only at hSw); go_simp; try with_reducible rfl
              change wpAnyH _ _ _ _ _ _ _ (Act.put _ (some 239) _) _
              try simp only [Act.put, List.setIfInBounds_toArray, List.set_cons_zero, List.set_cons_succ]
              refine wpAnyH_take (i := 31) (v := .bool false) rfl (by kernel_rfl) (by kernel_rfl) (by kernel_rfl) (fun _ _ _ h => h) (Or.inl ⟨by kernel_rfl, ?_⟩) hHeld ?_
              · intro w hSw; (try dsimp only at hSw); go_simp; try with_reducible rfl
              change wpAnyH _ _ _ _ _ _ _ (Act.put _ (some 240) _) _
              try simp only [Act.put, List.setIfInBounds_toArray, List.set_cons_zero, List.set_cons_succ]
              refine wpAnyH_done (by kernel_rfl) ?_ _
              have HB3 := Lib.hid (below_then HB.out hHeld.2.2.2)
              clear hHeld hb1 hb3 m0 m1 m2
              go_wp2
              go_roundw
              case rel => exact ⟨k + 1, by omega, by go_num, HB3.out⟩
              case measure => simp [intOf]; omega
            · have t1 : decide (u < v) = false := decide_eq_false (by have := HRC.out rfl; omega); skip
              go_wp2_with fail
              refine wp_region_held_drew (S := (fun w' => w'.cell? ⟨G, 0, none⟩ = some (.slice (some ⟨b, o, none⟩) n c) ∧ w'.cell? ⟨g1, k + 1, none⟩ = some (.int .i64 u) ∧ w'.cell? ⟨g2, k, none⟩ = some (.int .i64 v) ∧ Below wr.heap.size wr w')) (by kernel_rfl) ?_ (fun hHeld => ?_)
              · exact ⟨m0, m1, m2, (Below.refl _ _).drew⟩
              refine wpAnyH_take (i := 0) (v := ?_) rfl (by kernel_rfl) (by kernel_rfl) (by kernel_rfl) (fun _ _ _ h => h) (Or.inl ⟨by kernel_rfl, ?_⟩) hHeld ?_
              rotate_left
              · intro w hSw; (try dsimp only at hSw); go_simp; try with_reducible rfl
              change wpAnyH _ _ _ _ _ _ _ (Act.put _ (some 209) _) _
              try simp only [Act.put, List.setIfInBounds_toArray, List.set_cons_zero, List.set_cons_succ]
              refine wpAnyH_take (i := 1) (v := ?_) rfl (by kernel_rfl) (by kernel_rfl) (by kernel_rfl) (fun _ _ _ h => h) (Or.inl ⟨by kernel_rfl, ?_⟩) hHeld ?_
              rotate_left
              · intro w hSw; (try dsimp only at hSw); go_simp; try with_reducible rfl
              change wpAnyH _ _ _ _ _ _ _ (Act.put _ (some 210) _) _
              try simp only [Act.put, List.setIfInBounds_toArray, List.set_cons_zero, List.set_cons_succ]
              refine wpAnyH_ready (rs := [2]) (by kernel_rfl) (by simp) ?_
              refine AllReadyH.cons rfl (fun K hK => ?_) AllReadyH.nil
              go_simp
              (with_reducible refine (RP.out _ (below_then (below_then HE.out (below_then HRb5.out HB.out)) (below3d hHeld))).mono ?_)
              rintro e v1 ⟨rfl, hb1⟩
              refine hK.out _ _ (keep3d hb1 hHeld j0 j1 j2) (fun hHeld2 => ?_)
              try simp only [Act.put, List.setIfInBounds_toArray, List.set_cons_zero, List.set_cons_succ]
              clear hK K hHeld
              have hHeld := hHeld2
              clear hHeld2
              refine wpAnyH_take (i := 3) (v := ?_) rfl (by kernel_rfl) (by kernel_rfl) (by kernel_rfl) (fun _ _ _ h => h) (Or.inl ⟨by kernel_rfl, ?_⟩) hHeld ?_
              rotate_left
              · intro w hSw; (try dsimp only at hSw); go_simp; try with_reducible rfl
              change wpAnyH _ _ _ _ _ _ _ (Act.put _ (some 212) _) _
              try simp only [Act.put, List.setIfInBounds_toArray, List.set_cons_zero, List.set_cons_succ]
              refine wpAnyH_take (i := 4) (v := ?_) rfl (by kernel_rfl) (by kernel_rfl) (by kernel_rfl) (fun _ _ _ h => h) (Or.inl ⟨by kernel_rfl, ?_⟩) hHeld ?_
              rotate_left
              · intro w hSw; (try dsimp only at hSw); go_simp; try with_reducible rfl
              change wpAnyH _ _ _ _ _ _ _ (Act.put _ (some 213) _) _
              try simp only [Act.put, List.setIfInBounds_toArray, List.set_cons_zero, List.set_cons_succ]
              refine wpAnyH_take (i := 5) (v := ?_) rfl (by kernel_rfl) (by kernel_rfl) (by kernel_rfl) (fun _ _ _ h => h) (Or.inl ⟨by kernel_rfl, ?_⟩) hHeld ?_
              rotate_left
              · intro w hSw; (try dsimp only at hSw); go_simp; try with_reducible rfl
              change wpAnyH _ _ _ _ _ _ _ (Act.put _ (some 214) _) _
              try simp only [Act.put, List.setIfInBounds_toArray, List.set_cons_zero, List.set_cons_succ]
              refine wpAnyH_take (i := 6) (v := ?_) rfl (by kernel_rfl) (by kernel_rfl) (by kernel_rfl) (fun _ _ _ h => h) (Or.inl ⟨by kernel_rfl, ?_⟩) hHeld ?_
              rotate_left
              · intro w hSw; (try dsimp only at hSw); go_simp; try with_reducible rfl
              change wpAnyH _ _ _ _ _ _ _ (Act.put _ (some 215) _) _
              try simp only [Act.put, List.setIfInBounds_toArray, List.set_cons_zero, List.set_cons_succ]
              refine wpAnyH_take (i := 7) (v := ?_) rfl (by kernel_rfl) (by kernel_rfl) (by kernel_rfl) (fun _ _ _ h => h) (Or.inl ⟨by kernel_rfl, ?_⟩) hHeld ?_
              rotate_left
              · intro w hSw; (try dsimp only at hSw); go_simp; try with_reducible rfl
              change wpAnyH _ _ _ _ _ _ _ (Act.put _ (some 216) _) _
              try simp only [Act.put, List.setIfInBounds_toArray, List.set_cons_zero, List.set_cons_succ]
              refine wpAnyH_take (i := 8) (v := ?_) rfl (by kernel_rfl) (by kernel_rfl) (by kernel_rfl) (fun _ _ _ h => h) (Or.inl ⟨by kernel_rfl, ?_⟩) hHeld ?_
              rotate_left
              · intro w hSw; (try dsimp only at hSw); go_simp; try with_reducible rfl
              change wpAnyH _ _ _ _ _ _ _ (Act.put _ (some 217) _) _
              try simp only [Act.put, List.setIfInBounds_toArray, List.set_cons_zero, List.set_cons_succ]
              refine wpAnyH_take (i := 9) (v := ?_) rfl (by kernel_rfl) (by kernel_rfl) (by kernel_rfl) (fun _ _ _ h => h) (Or.inl ⟨by kernel_rfl, ?_⟩) hHeld ?_
              rotate_left
              · intro w hSw; (try dsimp only at hSw); go_simp; try with_reducible rfl
              change wpAnyH _ _ _ _ _ _ _ (Act.put _ (some 218) _) _
              try simp only [Act.put, List.setIfInBounds_toArray, List.set_cons_zero, List.set_cons_succ]
              refine wpAnyH_take (i := 10) (v := ?_) rfl (by kernel_rfl) (by kernel_rfl) (by kernel_rfl) (fun _ _ _ h => h) (Or.inl ⟨by kernel_rfl, ?_⟩) hHeld ?_
              rotate_left
              · intro w hSw; (try dsimp only at hSw); go_simp; try with_reducible rfl
              change wpAnyH _ _ _ _ _ _ _ (Act.put _ (some 219) _) _
              try simp only [Act.put, List.setIfInBounds_toArray, List.set_cons_zero, List.set_cons_succ]
              refine wpAnyH_take (i := 11) (v := ?_) rfl (by kernel_rfl) (by kernel_rfl) (by kernel_rfl) (fun _ _ _ h => h) (Or.inl ⟨by kernel_rfl, ?_⟩) hHeld ?_
              rotate_left
              · intro w hSw; (try dsimp only at hSw); go_simp; try with_reducible rfl
              change wpAnyH _ _ _ _ _ _ _ (Act.put _ (some 220) _) _
              try simp only [Act.put, List.setIfInBounds_toArray, List.set_cons_zero, List.set_cons_succ]
              refine wpAnyH_take (i := 12) (v := ?_) rfl (by kernel_rfl) (by kernel_rfl) (by kernel_rfl) (fun _ _ _ h => h) (Or.inl ⟨by kernel_rfl, ?_⟩) hHeld ?_
              rotate_left
              · intro w hSw; (try dsimp only at hSw); go_simp; try with_reducible rfl
              change wpAnyH _ _ _ _ _ _ _ (Act.put _ (some 221) _) _
              try simp only [Act.put, List.setIfInBounds_toArray, List.set_cons_zero, List.set_cons_succ]
              refine wpAnyH_take (i := 13) (v := .bool false) rfl (by kernel_rfl) (by kernel_rfl) (by kernel_rfl) (fun _ _ _ h => h) (Or.inl ⟨by kernel_rfl, ?_⟩) hHeld ?_
              · intro w hSw; (try dsimp only at hSw); go_simp; try with_reducible rfl
              change wpAnyH _ _ _ _ _ _ _ (Act.put _ (some 222) _) _
              try simp only [Act.put, List.setIfInBounds_toArray, List.set_cons_zero, List.set_cons_succ]
              refine wpAnyH_take (i := 14) (v := .bool false) rfl (by kernel_rfl) (by kernel_rfl) (by kernel_rfl) (fun _ _ _ h => h) (Or.inl ⟨by kernel_rfl, ?_⟩) hHeld ?_
              · intro w hSw; (try dsimp only at hSw); go_simp; try with_reducible rfl
              change wpAnyH _ _ _ _ _ _ _ (Act.put _ (some 223) _) _
              try simp only [Act.put, List.setIfInBounds_toArray, List.set_cons_zero, List.set_cons_succ]
              refine wpAnyH_take (i := 15) (v := .bool false) rfl (by kernel_rfl) (by kernel_rfl) (by kernel_rfl) (fun _ _ _ h => h) (Or.inl ⟨by kernel_rfl, ?_⟩) hHeld ?_
              · intro w hSw; (try dsimp only at hSw); go_simp; try with_reducible rfl
              change wpAnyH _ _ _ _ _ _ _ (Act.put _ (some 224) _) _
              try simp only [Act.put, List.setIfInBounds_toArray, List.set_cons_zero, List.set_cons_succ]
              refine wpAnyH_take (i := 16) (v := ?_) rfl (by kernel_rfl) (by kernel_rfl) (by kernel_rfl) (fun _ _ _ h => h) (Or.inl ⟨by kernel_rfl, ?_⟩) hHeld ?_
              rotate_left
              · intro w hSw; (try dsimp only at hSw); go_simp; try with_reducible rfl
              change wpAnyH _ _ _ _ _ _ _ (Act.put _ (some 225) _) _
              try simp only [Act.put, List.setIfInBounds_toArray, List.set_cons_zero, List.set_cons_succ]
              refine wpAnyH_take (i := 17) (v := ?_) rfl (by kernel_rfl) (by kernel_rfl) (by kernel_rfl) (fun _ _ _ h => h) (Or.inl ⟨by kernel_rfl, ?_⟩) hHeld ?_
              rotate_left
              · intro w hSw; (try dsimp only at hSw); go_simp; try with_reducible rfl
              change wpAnyH _ _ _ _ _ _ _ (Act.put _ (some 226) _) _
              try simp only [Act.put, List.setIfInBounds_toArray, List.set_cons_zero, List.set_cons_succ]
              refine wpAnyH_ready (rs := [18]) (by kernel_rfl) (by simp) ?_
              refine AllReadyH.cons rfl (fun K hK => ?_) AllReadyH.nil
              go_simp
              (with_reducible refine (FP.out _ (below_then (below_then HE.out (below_then HRb5.out HB.out)) (below3d hHeld))).mono ?_)
              rintro e v3 ⟨rfl, hb3⟩
              refine hK.out _ _ (keep3d hb3 hHeld j0 j1 j2) (fun hHeld2 => ?_)
              try simp only [Act.put, List.setIfInBounds_toArray, List.set_cons_zero, List.set_cons_succ]
              clear hK K hHeld
              have hHeld := hHeld2
              clear hHeld2
              refine wpAnyH_take (i := 19) (v := ?_) rfl (by kernel_rfl) (by kernel_rfl) (by kernel_rfl) (fun _ _ _ h => h) (Or.inl ⟨by kernel_rfl, ?_⟩) hHeld ?_
              rotate_left
              · intro w hSw; (try dsimp only at hSw); go_simp; try with_reducible rfl
              change wpAnyH _ _ _ _ _ _ _ (Act.put _ (some 228) _) _
              try simp only [Act.put, List.setIfInBounds_toArray, List.set_cons_zero, List.set_cons_succ]
              refine wpAnyH_take (i := 20) (v := undef) rfl (by kernel_rfl) (by kernel_rfl) (by kernel_rfl) (fun _ _ _ h => h) (Or.inr ⟨by kernel_rfl, rfl⟩) hHeld ?_
              change wpAnyH _ _ _ _ _ _ _ (Act.put _ (some 229) _) _
              try simp only [Act.put, List.setIfInBounds_toArray, List.set_cons_zero, List.set_cons_succ]
              refine wpAnyH_take (i := 21) (v := undef) rfl (by kernel_rfl) (by kernel_rfl) (by kernel_rfl) (fun _ _ _ h => h) (Or.inr ⟨by kernel_rfl, rfl⟩) hHeld ?_
              change wpAnyH _ _ _ _ _ _ _ (Act.put _ (some 230) _) _
              try simp only [Act.put, List.setIfInBounds_toArray, List.set_cons_zero, List.set_cons_succ]
              refine wpAnyH_take (i := 22) (v := undef) rfl (by kernel_rfl) (by kernel_rfl) (by kernel_rfl) (fun _ _ _ h => h) (Or.inr ⟨by kernel_rfl, rfl⟩) hHeld ?_
              change wpAnyH _ _ _ _ _ _ _ (Act.put _ (some 231) _) _
              try simp only [Act.put, List.setIfInBounds_toArray, List.set_cons_zero, List.set_cons_succ]
              refine wpAnyH_take (i := 23) (v := undef) rfl (by kernel_rfl) (by kernel_rfl) (by kernel_rfl) (fun _ _ _ h => h) (Or.inr ⟨by kernel_rfl, rfl⟩) hHeld ?_
              change wpAnyH _ _ _ _ _ _ _ (Act.put _ (some 232) _) _
              try simp only [Act.put, List.setIfInBounds_toArray, List.set_cons_zero, List.set_cons_succ]
              refine wpAnyH_take (i := 24) (v := undef) rfl (by kernel_rfl) (by kernel_rfl) (by kernel_rfl) (fun _ _ _ h => h) (Or.inr ⟨by kernel_rfl, rfl⟩) hHeld ?_
              change wpAnyH _ _ _ _ _ _ _ (Act.put _ (some 233) _) _
              try simp only [Act.put, List.setIfInBounds_toArray, List.set_cons_zero, List.set_cons_succ]
              refine wpAnyH_take (i := 25) (v := undef) rfl (by kernel_rfl) (by kernel_rfl) (by kernel_rfl) (fun _ _ _ h => h) (Or.inr ⟨by kernel_rfl, rfl⟩) hHeld ?_
              change wpAnyH _ _ _ _ _ _ _ (Act.put _ (some 234) _) _
              try simp only [Act.put, List.setIfInBounds_toArray, List.set_cons_zero, List.set_cons_succ]
              refine wpAnyH_take (i := 26) (v := undef) rfl (by kernel_rfl) (by kernel_rfl) (by kernel_rfl) (fun _ _ _ h => h) (Or.inr ⟨by kernel_rfl, rfl⟩) hHeld ?_
              change wpAnyH _ _ _ _ _ _ _ (Act.put _ (some 235) _) _
              try simp only [Act.put, List.setIfInBounds_toArray, List.set_cons_zero, List.set_cons_succ]
              refine wpAnyH_take (i := 27) (v := undef) rfl (by kernel_rfl) (by kernel_rfl) (by kernel_rfl) (fun _ _ _ h => h) (Or.inr ⟨by kernel_rfl, rfl⟩) hHeld ?_
              change wpAnyH _ _ _ _ _ _ _ (Act.put _ (some 236) _) _
              try simp only [Act.put, List.setIfInBounds_toArray, List.set_cons_zero, List.set_cons_succ]
              refine wpAnyH_take (i := 28) (v := undef) rfl (by kernel_rfl) (by kernel_rfl) (by kernel_rfl) (fun _ _ _ h => h) (Or.inr ⟨by kernel_rfl, rfl⟩) hHeld ?_
              change wpAnyH _ _ _ _ _ _ _ (Act.put _ (some 237) _) _
              try simp only [Act.put, List.setIfInBounds_toArray, List.set_cons_zero, List.set_cons_succ]
              refine wpAnyH_take (i := 29) (v := undef) rfl (by kernel_rfl) (by kernel_rfl) (by kernel_rfl) (fun _ _ _ h => h) (Or.inr ⟨by kernel_rfl, rfl⟩) hHeld ?_
              change wpAnyH _ _ _ _ _ _ _ (Act.put _ (some 238) _) _
              try simp only [Act.put, List.setIfInBounds_toArray, List.set_cons_zero, List.set_cons_succ]
              refine wpAnyH_take (i := 30) (v := .bool false) rfl (by kernel_rfl) (by kernel_rfl) (by kernel_rfl) (fun _ _ _ h => h) (Or.inl ⟨by kernel_rfl, ?_⟩) hHeld ?_
              · intro w hSw; (try dsimp only at hSw); go_simp; try with_reducible rfl
              change wpAnyH _ _ _ _ _ _ _ (Act.put _ (some 239) _) _
              try simp only [Act.put, List.setIfInBounds_toArray, List.set_cons_zero, List.set_cons_succ]
              refine wpAnyH_take (i := 31) (v := .bool false) rfl (by kernel_rfl) (by kernel_rfl) (by kernel_rfl) (fun _ _ _ h => h) (Or.inl ⟨by kernel_rfl, ?_⟩) hHeld ?_
              · intro w hSw; (try dsimp only at hSw); go_simp; try with_reducible rfl
              change wpAnyH _ _ _ _ _ _ _ (Act.put _ (some 240) _) _
              try simp only [Act.put, List.setIfInBounds_toArray, List.set_cons_zero, List.set_cons_succ]
              refine wpAnyH_done (by kernel_rfl) ?_ _
              have HB3 := Lib.hid (below_then HB.out hHeld.2.2.2)
              clear hHeld hb1 hb3 m0 m1 m2
              go_wp2
              go_roundw
              case rel => exact ⟨k + 1, by omega, by go_num, HB3.out⟩
              case measure => simp [intOf]; omega
            · have t1 : decide (u < v) = false := decide_eq_false (by have := HRC.out rfl; omega); have t2 : decide (v < u) = false := decide_eq_false (by have := HFC.out rfl; omega); skip
              go_wp2_with fail
              refine wp_region_held_drew (S := (fun w' => w'.cell? ⟨G, 0, none⟩ = some (.slice (some ⟨b, o, none⟩) n c) ∧ w'.cell? ⟨g1, k + 1, none⟩ = some (.int .i64 u) ∧ w'.cell? ⟨g2, k, none⟩ = some (.int .i64 v) ∧ Below wr.heap.size wr w')) (by kernel_rfl) ?_ (fun hHeld => ?_)
              · exact ⟨m0, m1, m2, (Below.refl _ _).drew⟩
              refine wpAnyH_take (i := 0) (v := ?_) rfl (by kernel_rfl) (by kernel_rfl) (by kernel_rfl) (fun _ _ _ h => h) (Or.inl ⟨by kernel_rfl, ?_⟩) hHeld ?_
              rotate_left
              · intro w hSw; (try dsimp only at hSw); go_simp; try with_reducible rfl
              change wpAnyH _ _ _ _ _ _ _ (Act.put _ (some 209) _) _
              try simp only [Act.put, List.setIfInBounds_toArray, List.set_cons_zero, List.set_cons_succ]
              refine wpAnyH_take (i := 1) (v := ?_) rfl (by kernel_rfl) (by kernel_rfl) (by kernel_rfl) (fun _ _ _ h => h) (Or.inl ⟨by kernel_rfl, ?_⟩) hHeld ?_
              rotate_left
              · intro w hSw; (try dsimp only at hSw); go_simp; try with_reducible rfl
              change wpAnyH _ _ _ _ _ _ _ (Act.put _ (some 210) _) _
              try simp only [Act.put, List.setIfInBounds_toArray, List.set_cons_zero, List.set_cons_succ]
              refine wpAnyH_ready (rs := [2]) (by kernel_rfl) (by simp) ?_
              refine AllReadyH.cons rfl (fun K hK => ?_) AllReadyH.nil
              go_simp
              (with_reducible refine (RP.out _ (below_then (below_then HE.out (below_then HRb5.out HB.out)) (below3d hHeld))).mono ?_)
              rintro e v1 ⟨rfl, hb1⟩
              refine hK.out _ _ (keep3d hb1 hHeld j0 j1 j2) (fun hHeld2 => ?_)
              try simp only [Act.put, List.setIfInBounds_toArray, List.set_cons_zero, List.set_cons_succ]
              clear hK K hHeld
              have hHeld := hHeld2
              clear hHeld2
              refine wpAnyH_take (i := 3) (v := ?_) rfl (by kernel_rfl) (by kernel_rfl) (by kernel_rfl) (fun _ _ _ h => h) (Or.inl ⟨by kernel_rfl, ?_⟩) hHeld ?_
              rotate_left
              · intro w hSw; (try dsimp only at hSw); go_simp; try with_reducible rfl
              change wpAnyH _ _ _ _ _ _ _ (Act.put _ (some 212) _) _
              try simp only [Act.put, List.setIfInBounds_toArray, List.set_cons_zero, List.set_cons_succ]
              refine wpAnyH_take (i := 4) (v := ?_) rfl (by kernel_rfl) (by kernel_rfl) (by kernel_rfl) (fun _ _ _ h => h) (Or.inl ⟨by kernel_rfl, ?_⟩) hHeld ?_
              rotate_left
              · intro w hSw; (try dsimp only at hSw); go_simp; try with_reducible rfl
              change wpAnyH _ _ _ _ _ _ _ (Act.put _ (some 213) _) _
              try simp only [Act.put, List.setIfInBounds_toArray, List.set_cons_zero, List.set_cons_succ]
              refine wpAnyH_take (i := 5) (v := ?_) rfl (by kernel_rfl) (by kernel_rfl) (by kernel_rfl) (fun _ _ _ h => h) (Or.inl ⟨by kernel_rfl, ?_⟩) hHeld ?_
              rotate_left
              · intro w hSw; (try dsimp only at hSw); go_simp; try with_reducible rfl
              change wpAnyH _ _ _ _ _ _ _ (Act.put _ (some 214) _) _
              try simp only [Act.put, List.setIfInBounds_toArray, List.set_cons_zero, List.set_cons_succ]
              refine wpAnyH_take (i := 6) (v := ?_) rfl (by kernel_rfl) (by kernel_rfl) (by kernel_rfl) (fun _ _ _ h => h) (Or.inl ⟨by kernel_rfl, ?_⟩) hHeld ?_
              rotate_left
              · intro w hSw; (try dsimp only at hSw); go_simp; try with_reducible rfl
              change wpAnyH _ _ _ _ _ _ _ (Act.put _ (some 215) _) _
              try simp only [Act.put, List.setIfInBounds_toArray, List.set_cons_zero, List.set_cons_succ]
              refine wpAnyH_take (i := 7) (v := ?_) rfl (by kernel_rfl) (by kernel_rfl) (by kernel_rfl) (fun _ _ _ h => h) (Or.inl ⟨by kernel_rfl, ?_⟩) hHeld ?_
              rotate_left
              · intro w hSw; (try dsimp only at hSw); go_simp; try with_reducible rfl
              change wpAnyH _ _ _ _ _ _ _ (Act.put _ (some 216) _) _
              try simp only [Act.put, List.setIfInBounds_toArray, List.set_cons_zero, List.set_cons_succ]
              refine wpAnyH_take (i := 8) (v := ?_) rfl (by kernel_rfl) (by kernel_rfl) (by kernel_rfl) (fun _ _ _ h => h) (Or.inl ⟨by kernel_rfl, ?_⟩) hHeld ?_
              rotate_left
              · intro w hSw; (try dsimp only at hSw); go_simp; try with_reducible rfl
              change wpAnyH _ _ _ _ _ _ _ (Act.put _ (some 217) _) _
              try simp only [Act.put, List.setIfInBounds_toArray, List.set_cons_zero, List.set_cons_succ]
              refine wpAnyH_take (i := 9) (v := ?_) rfl (by kernel_rfl) (by kernel_rfl) (by kernel_rfl) (fun _ _ _ h => h) (Or.inl ⟨by kernel_rfl, ?_⟩) hHeld ?_
              rotate_left
              · intro w hSw; (try dsimp only at hSw); go_simp; try with_reducible rfl
              change wpAnyH _ _ _ _ _ _ _ (Act.put _ (some 218) _) _
              try simp only [Act.put, List.setIfInBounds_toArray, List.set_cons_zero, List.set_cons_succ]
              refine wpAnyH_take (i := 10) (v := ?_) rfl (by kernel_rfl) (by kernel_rfl) (by kernel_rfl) (fun _ _ _ h => h) (Or.inl ⟨by kernel_rfl, ?_⟩) hHeld ?_
              rotate_left
              · intro w hSw; (try dsimp only at hSw); go_simp; try with_reducible rfl
              change wpAnyH _ _ _ _ _ _ _ (Act.put _ (some 219) _) _
              try simp only [Act.put, List.setIfInBounds_toArray, List.set_cons_zero, List.set_cons_succ]
              refine wpAnyH_take (i := 11) (v := ?_) rfl (by kernel_rfl) (by kernel_rfl) (by kernel_rfl) (fun _ _ _ h => h) (Or.inl ⟨by kernel_rfl, ?_⟩) hHeld ?_
              rotate_left
              · intro w hSw; (try dsimp only at hSw); go_simp; try with_reducible rfl
              change wpAnyH _ _ _ _ _ _ _ (Act.put _ (some 220) _) _
              try simp only [Act.put, List.setIfInBounds_toArray, List.set_cons_zero, List.set_cons_succ]
              refine wpAnyH_take (i := 12) (v := ?_) rfl (by kernel_rfl) (by kernel_rfl) (by kernel_rfl) (fun _ _ _ h => h) (Or.inl ⟨by kernel_rfl, ?_⟩) hHeld ?_
              rotate_left
              · intro w hSw; (try dsimp only at hSw); go_simp; try with_reducible rfl
              change wpAnyH _ _ _ _ _ _ _ (Act.put _ (some 221) _) _
              try simp only [Act.put, List.setIfInBounds_toArray, List.set_cons_zero, List.set_cons_succ]
              refine wpAnyH_take (i := 13) (v := .bool false) rfl (by kernel_rfl) (by kernel_rfl) (by kernel_rfl) (fun _ _ _ h => h) (Or.inl ⟨by kernel_rfl, ?_⟩) hHeld ?_
              · intro w hSw; (try dsimp only at hSw); go_simp; try with_reducible rfl
              change wpAnyH _ _ _ _ _ _ _ (Act.put _ (some 222) _) _
              try simp only [Act.put, List.setIfInBounds_toArray, List.set_cons_zero, List.set_cons_succ]
              refine wpAnyH_take (i := 14) (v := .bool false) rfl (by kernel_rfl) (by kernel_rfl) (by kernel_rfl) (fun _ _ _ h => h) (Or.inl ⟨by kernel_rfl, ?_⟩) hHeld ?_
              · intro w hSw; (try dsimp only at hSw); go_simp; try with_reducible rfl
              change wpAnyH _ _ _ _ _ _ _ (Act.put _ (some 223) _) _
              try simp only [Act.put, List.setIfInBounds_toArray, List.set_cons_zero, List.set_cons_succ]
              refine wpAnyH_take (i := 15) (v := .bool false) rfl (by kernel_rfl) (by kernel_rfl) (by kernel_rfl) (fun _ _ _ h => h) (Or.inl ⟨by kernel_rfl, ?_⟩) hHeld ?_
              · intro w hSw; (try dsimp only at hSw); go_simp; try with_reducible rfl
              change wpAnyH _ _ _ _ _ _ _ (Act.put _ (some 224) _) _
              try simp only [Act.put, List.setIfInBounds_toArray, List.set_cons_zero, List.set_cons_succ]
              refine wpAnyH_take (i := 16) (v := ?_) rfl (by kernel_rfl) (by kernel_rfl) (by kernel_rfl) (fun _ _ _ h => h) (Or.inl ⟨by kernel_rfl, ?_⟩) hHeld ?_
              rotate_left
              · intro w hSw; (try dsimp only at hSw); go_simp; try with_reducible rfl
              change wpAnyH _ _ _ _ _ _ _ (Act.put _ (some 225) _) _
              try simp only [Act.put, List.setIfInBounds_toArray, List.set_cons_zero, List.set_cons_succ]
              refine wpAnyH_take (i := 17) (v := ?_) rfl (by kernel_rfl) (by kernel_rfl) (by kernel_rfl) (fun _ _ _ h => h) (Or.inl ⟨by kernel_rfl, ?_⟩) hHeld ?_
              rotate_left
              · intro w hSw; (try dsimp only at hSw); go_simp; try with_reducible rfl
              change wpAnyH _ _ _ _ _ _ _ (Act.put _ (some 226) _) _
              try simp only [Act.put, List.setIfInBounds_toArray, List.set_cons_zero, List.set_cons_succ]
              refine wpAnyH_ready (rs := [18]) (by kernel_rfl) (by simp) ?_
              refine AllReadyH.cons rfl (fun K hK => ?_) AllReadyH.nil
              go_simp
              (with_reducible refine (FP.out _ (below_then (below_then HE.out (below_then HRb5.out HB.out)) (below3d hHeld))).mono ?_)
              rintro e v3 ⟨rfl, hb3⟩
              refine hK.out _ _ (keep3d hb3 hHeld j0 j1 j2) (fun hHeld2 => ?_)
              try simp only [Act.put, List.setIfInBounds_toArray, List.set_cons_zero, List.set_cons_succ]
              clear hK K hHeld
              have hHeld := hHeld2
              clear hHeld2
              refine wpAnyH_take (i := 19) (v := ?_) rfl (by kernel_rfl) (by kernel_rfl) (by kernel_rfl) (fun _ _ _ h => h) (Or.inl ⟨by kernel_rfl, ?_⟩) hHeld ?_
              rotate_left
              · intro w hSw; (try dsimp only at hSw); go_simp; try with_reducible rfl
              change wpAnyH _ _ _ _ _ _ _ (Act.put _ (some 228) _) _
              try simp only [Act.put, List.setIfInBounds_toArray, List.set_cons_zero, List.set_cons_succ]
              refine wpAnyH_take (i := 20) (v := ?_) rfl (by kernel_rfl) (by kernel_rfl) (by kernel_rfl) (fun _ _ _ h => h) (Or.inl ⟨by kernel_rfl, ?_⟩) hHeld ?_
              rotate_left
              · intro w hSw; (try dsimp only at hSw); go_simp; try with_reducible rfl
              change wpAnyH _ _ _ _ _ _ _ (Act.put _ (some 229) _) _
              try simp only [Act.put, List.setIfInBounds_toArray, List.set_cons_zero, List.set_cons_succ]
              refine wpAnyH_take (i := 21) (v := ?_) rfl (by kernel_rfl) (by kernel_rfl) (by kernel_rfl) (fun _ _ _ h => h) (Or.inl ⟨by kernel_rfl, ?_⟩) hHeld ?_
              rotate_left
              · intro w hSw; (try dsimp only at hSw); go_simp; try with_reducible rfl
              change wpAnyH _ _ _ _ _ _ _ (Act.put _ (some 230) _) _
              try simp only [Act.put, List.setIfInBounds_toArray, List.set_cons_zero, List.set_cons_succ]
              refine wpAnyH_take (i := 22) (v := ?_) rfl (by kernel_rfl) (by kernel_rfl) (by kernel_rfl) (fun _ _ _ h => h) (Or.inl ⟨by kernel_rfl, ?_⟩) hHeld ?_
              rotate_left
              · intro w hSw; (try dsimp only at hSw); go_simp; try with_reducible rfl
              change wpAnyH _ _ _ _ _ _ _ (Act.put _ (some 231) _) _
              try simp only [Act.put, List.setIfInBounds_toArray, List.set_cons_zero, List.set_cons_succ]
              refine wpAnyH_take (i := 23) (v := ?_) rfl (by kernel_rfl) (by kernel_rfl) (by kernel_rfl) (fun _ _ _ h => h) (Or.inl ⟨by kernel_rfl, ?_⟩) hHeld ?_
              rotate_left
              · intro w hSw; (try dsimp only at hSw); go_simp; try with_reducible rfl
              change wpAnyH _ _ _ _ _ _ _ (Act.put _ (some 232) _) _
              try simp only [Act.put, List.setIfInBounds_toArray, List.set_cons_zero, List.set_cons_succ]
              refine wpAnyH_take (i := 24) (v := ?_) rfl (by kernel_rfl) (by kernel_rfl) (by kernel_rfl) (fun _ _ _ h => h) (Or.inl ⟨by kernel_rfl, ?_⟩) hHeld ?_
              rotate_left
              · intro w hSw; (try dsimp only at hSw); go_simp; try with_reducible rfl
              change wpAnyH _ _ _ _ _ _ _ (Act.put _ (some 233) _) _
              try simp only [Act.put, List.setIfInBounds_toArray, List.set_cons_zero, List.set_cons_succ]
              refine wpAnyH_take (i := 25) (v := ?_) rfl (by kernel_rfl) (by kernel_rfl) (by kernel_rfl) (fun _ _ _ h => h) (Or.inl ⟨by kernel_rfl, ?_⟩) hHeld ?_
              rotate_left
              · intro w hSw; (try dsimp only at hSw); go_simp; try with_reducible rfl
              change wpAnyH _ _ _ _ _ _ _ (Act.put _ (some 234) _) _
              try simp only [Act.put, List.setIfInBounds_toArray, List.set_cons_zero, List.set_cons_succ]
              refine wpAnyH_take (i := 26) (v := ?_) rfl (by kernel_rfl) (by kernel_rfl) (by kernel_rfl) (fun _ _ _ h => h) (Or.inl ⟨by kernel_rfl, ?_⟩) hHeld ?_
              rotate_left
              · intro w hSw; (try dsimp only at hSw); go_simp; try with_reducible rfl
              change wpAnyH _ _ _ _ _ _ _ (Act.put _ (some 235) _) _
              try simp only [Act.put, List.setIfInBounds_toArray, List.set_cons_zero, List.set_cons_succ]
              refine wpAnyH_take (i := 27) (v := ?_) rfl (by kernel_rfl) (by kernel_rfl) (by kernel_rfl) (fun _ _ _ h => h) (Or.inl ⟨by kernel_rfl, ?_⟩) hHeld ?_
              rotate_left
              · intro w hSw; (try dsimp only at hSw); go_simp; try with_reducible rfl
              change wpAnyH _ _ _ _ _ _ _ (Act.put _ (some 236) _) _
              try simp only [Act.put, List.setIfInBounds_toArray, List.set_cons_zero, List.set_cons_succ]
              refine wpAnyH_take (i := 28) (v := ?_) rfl (by kernel_rfl) (by kernel_rfl) (by kernel_rfl) (fun _ _ _ h => h) (Or.inl ⟨by kernel_rfl, ?_⟩) hHeld ?_
              rotate_left
              · intro w hSw; (try dsimp only at hSw); go_simp; try with_reducible rfl
              change wpAnyH _ _ _ _ _ _ _ (Act.put _ (some 237) _) _
              try simp only [Act.put, List.setIfInBounds_toArray, List.set_cons_zero, List.set_cons_succ]
              refine wpAnyH_take (i := 29) (v := .bool false) rfl (by kernel_rfl) (by kernel_rfl) (by kernel_rfl) (fun _ _ _ h => h) (Or.inl ⟨by kernel_rfl, ?_⟩) hHeld ?_
              · intro w hSw; (try dsimp only at hSw); go_simp; try with_reducible rfl
              change wpAnyH _ _ _ _ _ _ _ (Act.put _ (some 238) _) _
              try simp only [Act.put, List.setIfInBounds_toArray, List.set_cons_zero, List.set_cons_succ]
              refine wpAnyH_take (i := 30) (v := .bool false) rfl (by kernel_rfl) (by kernel_rfl) (by kernel_rfl) (fun _ _ _ h => h) (Or.inl ⟨by kernel_rfl, ?_⟩) hHeld ?_
              · intro w hSw; (try dsimp only at hSw); go_simp; try with_reducible rfl
              change wpAnyH _ _ _ _ _ _ _ (Act.put _ (some 239) _) _
              try simp only [Act.put, List.setIfInBounds_toArray, List.set_cons_zero, List.set_cons_succ]
              refine wpAnyH_take (i := 31) (v := .bool false) rfl (by kernel_rfl) (by kernel_rfl) (by kernel_rfl) (fun _ _ _ h => h) (Or.inl ⟨by kernel_rfl, ?_⟩) hHeld ?_
              · intro w hSw; (try dsimp only at hSw); go_simp; try with_reducible rfl
              change wpAnyH _ _ _ _ _ _ _ (Act.put _ (some 240) _) _
              try simp only [Act.put, List.setIfInBounds_toArray, List.set_cons_zero, List.set_cons_succ]
              refine wpAnyH_done (by kernel_rfl) ?_ _
              have HB3 := Lib.hid (below_then HB.out hHeld.2.2.2)
              clear hHeld hb1 hb3 m0 m1 m2
              go_wp2
              go_roundw
              case rel => exact ⟨k + 1, by omega, by go_num, HB3.out⟩
              case measure => simp [intOf]; omega
          · have s4 : ¬ (k : Int) + 1 < (n : Int) := by omega
            have HB := Lib.hid (below_then (below_then HE.out HRb5.out) hB)
            clear hB
            go_wp2_with fail
            refine (sane_any _).mono ?_
            rintro e v ⟨rfl, hbv⟩
            go_wp2
            go_ret
            exact ⟨rfl, below_then HB.out hbv⟩
  · have hf : tabOk ps = false := by simpa using ht
    have CV : Hid (∀ W, Below w.heap.size w W → Calls Try.prog 63 #[tv A n c] W fun e w' => e = .returned (.bool false) ∧ Below W.heap.size W w') := Lib.hid fun W hW => by
      have h := validTable_any _ n c ps W hn hm (hp.below hW)
      rw [hf] at h; exact h
    clear hn hn' hm hm' hp hq ht hf hn2 hm2 hq2
    go_enter Try.func11, Try.ntmps11
    go_wp2_with fail
    refine (CV.out _ HE0.out).mono ?_
    rintro e v ⟨rfl, hbv⟩
    have HE1 := Lib.hid (below_then HE0.out hbv)
    clear hbv
    go_wp2_with fail
    refine (sane_any _).mono ?_
    rintro e v ⟨rfl, hbv⟩
    go_wp2
    go_ret
    exact ⟨rfl, below_then HE1.out hbv⟩
end Go.Proofs.Ythhcejcpopgkiaa
