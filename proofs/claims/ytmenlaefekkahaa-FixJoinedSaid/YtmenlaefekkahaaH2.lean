/- The contract of combine (fix) with Add, where both tables are valid, places in common, and no number is too great. The contract of Plus (fix), where both tables are valid, places in common, and no number is too great. -/
import Derived.Test.YtmenlaefekkahaaH1
import Derived.Test.YtmenlaefekkahaaG1
import Derived.Test.YtmenlaefekkahaaG2
import Derived.Deep.DeepCutAuto
import Derived.Deep.RegionHeld3
set_option linter.unusedVariables false
set_option linter.unusedSimpArgs false
set_option linter.constructorNameAsVariable false
namespace Go.Proofs.Ytmenlaefekkahaa
open Go.RowKit

/-- A table of the call's own, given back with a word beside it. -/
def GivesTab0 (w : World) (L : List P3) (e : Ending) (w' : World) : Prop := ∃ v, e = .returned (.tuple #[.agg #[v], .int .i64 0]) ∧ OwnPts w.heap.size w' v L ∧ Below w.heap.size w w'

theorem below_alloc1 (w : World) (o : Obj) : Below w.heap.size w (w.alloc o) := (Below.refl _ _).alloc (Nat.le_refl _) _
/-- What is held while places are joined: two boxes' cells, and that all from before is as it was. -/
theorem keepC {W2 w0 w1 : World} {a b : Value} {A B : Nat} (hb : Below w0.heap.size w0 w1) (h : w0.cell? ⟨A, 0, none⟩ = some a ∧ w0.cell? ⟨B, 0, none⟩ = some b ∧ Below W2.heap.size W2 w0) (h1 : A < W2.heap.size) (h2 : B < W2.heap.size) :
    w1.cell? ⟨A, 0, none⟩ = some a ∧ w1.cell? ⟨B, 0, none⟩ = some b ∧ Below W2.heap.size W2 w1 :=
  ⟨((bcell hb).1 _ _ (Nat.lt_of_lt_of_le h1 h.2.2.size)).trans h.1, ((bcell hb).1 _ _ (Nat.lt_of_lt_of_le h2 h.2.2.size)).trans h.2.1, below_then h.2.2 hb⟩
theorem keepCa {W2 w0 : World} {o : Obj} {a b : Value} {A B : Nat} (h : w0.cell? ⟨A, 0, none⟩ = some a ∧ w0.cell? ⟨B, 0, none⟩ = some b ∧ Below W2.heap.size W2 w0) (h1 : A < W2.heap.size) (h2 : B < W2.heap.size) :
    (w0.alloc o).cell? ⟨A, 0, none⟩ = some a ∧ (w0.alloc o).cell? ⟨B, 0, none⟩ = some b ∧ Below W2.heap.size W2 (w0.alloc o) :=
  keepC ((Below.refl _ _).alloc (Nat.le_refl _) _) h h1 h2
theorem keepCs {W2 w0 : World} {x y : Value} {a b : Value} {A B g : Nat} (h : w0.cell? ⟨A, 0, none⟩ = some a ∧ w0.cell? ⟨B, 0, none⟩ = some b ∧ Below W2.heap.size W2 w0) (h1 : A < W2.heap.size) (h2 : B < W2.heap.size) (hg : W2.heap.size ≤ g) :
    ((w0.setCell ⟨g, 0, none⟩ x).setCell ⟨g, 1, none⟩ y).cell? ⟨A, 0, none⟩ = some a ∧ ((w0.setCell ⟨g, 0, none⟩ x).setCell ⟨g, 1, none⟩ y).cell? ⟨B, 0, none⟩ = some b ∧ Below W2.heap.size W2 ((w0.setCell ⟨g, 0, none⟩ x).setCell ⟨g, 1, none⟩ y) := by
  have hB := (h.2.2.setCell (p := ⟨g, 0, none⟩) hg x).setCell (p := ⟨g, 1, none⟩) hg y
  obtain ⟨q, _⟩ := bcell h.2.2
  obtain ⟨r, _⟩ := bcell hB
  exact ⟨((r _ _ h1).trans (q _ _ h1).symm).trans h.1, ((r _ _ h2).trans (q _ _ h2).symm).trans h.2.1, hB⟩
theorem belowOf {W2 w0 : World} {a b : Value} {A B : Nat} (h : w0.cell? ⟨A, 0, none⟩ = some a ∧ w0.cell? ⟨B, 0, none⟩ = some b ∧ Below W2.heap.size W2 w0) : Below W2.heap.size W2 w0 := h.2.2
theorem blkNew {X w1 : World} {t : TypeId} {cs : Array Value} (h : Below (X.alloc (.cells cs t)).heap.size (X.alloc (.cells cs t)) w1) : Blk w1 X.heap.size t cs := (Blk.new X t cs).below h (Blk.new X t cs).lt
theorem blkNewD {X w1 : World} {t : TypeId} {cs : Array Value} (h : Below (X.alloc (.cells cs t)).drew.heap.size (X.alloc (.cells cs t)).drew w1) : Blk w1 X.heap.size t cs := (Blk.new X t cs).drew.below h (Blk.new X t cs).lt
theorem blkOn {w w1 : World} {g : Nat} {t : TypeId} {cs : Array Value} (h : Blk w g t cs) (hb : Below w.heap.size w w1) : Blk w1 g t cs := h.below hb h.lt

/-- What is held while places are collected: four cells, and that all from before is as it was. -/
theorem mkE {W2 w1 : World} {a b c d : Value} {A B C : Nat} (hb : Below W2.heap.size W2 w1) (h : W2.cell? ⟨A, 0, none⟩ = some a ∧ W2.cell? ⟨B, 0, none⟩ = some b ∧ W2.cell? ⟨C, 0, none⟩ = some c ∧ W2.cell? ⟨C, 1, none⟩ = some d) (h1 : A < W2.heap.size) (h2 : B < W2.heap.size) (h3 : C < W2.heap.size) :
    w1.cell? ⟨A, 0, none⟩ = some a ∧ w1.cell? ⟨B, 0, none⟩ = some b ∧ w1.cell? ⟨C, 0, none⟩ = some c ∧ w1.cell? ⟨C, 1, none⟩ = some d ∧ Below W2.heap.size W2 w1 :=
  ⟨((bcell hb).1 _ _ h1).trans h.1, ((bcell hb).1 _ _ h2).trans h.2.1, ((bcell hb).1 _ _ h3).trans h.2.2.1, ((bcell hb).1 _ _ h3).trans h.2.2.2, hb⟩
theorem belowE {W2 w0 : World} {a b c d : Value} {A B C : Nat} (h : w0.cell? ⟨A, 0, none⟩ = some a ∧ w0.cell? ⟨B, 0, none⟩ = some b ∧ w0.cell? ⟨C, 0, none⟩ = some c ∧ w0.cell? ⟨C, 1, none⟩ = some d ∧ Below W2.heap.size W2 w0) : Below W2.heap.size W2 w0 := h.2.2.2.2
theorem OwnInts.below {base : Nat} {X Y : World} {v : Value} {L : List Int} (ho : OwnInts base X v L) (hb : Below X.heap.size X Y) : OwnInts base Y v L :=
  World.ownsRow.kept (show X.ownsRow base 3 1 v _ _ from ho) (below_grownNone hb) (by
    rcases (show X.ownsRow base 3 1 v _ _ from ho).2 with ⟨h1, _⟩ | ⟨g3, cap3, cur3, h1, _⟩
    · left; rw [h1]; rfl
    · right; rw [h1]; simp [Value.ownBlock])
theorem newsInts {w : World} {g : Nat} {L : List Int} (h : ∀ (j : Nat) (x : Int), L[j]? = some x → w.cell? ⟨g, 0 + j, none⟩ = some (.int .i64 x)) : ∀ (j : Nat) (u : Value), (ints L)[j]? = some u → w.cell? ((⟨g, 0, none⟩ : Addr).add j) = some u := by
  intro j u hu
  rw [List.getElem?_map] at hu
  cases hx : L[j]? with
  | none => rw [hx] at hu; cases hu
  | some x =>
    rw [hx] at hu; injection hu with hu; subst hu
    have h0 := h j x hx
    cases j with
    | zero => simpa [Addr.add] using h0
    | succ j => simpa [Addr.add] using h0
theorem ints_one (L : List Int) : ∀ u ∈ ints L, u.oneCell' = true := by
  intro u hu
  obtain ⟨x, _, rfl⟩ := List.mem_map.1 hu
  rfl

set_option maxRecDepth 100000 in
set_option maxHeartbeats 4000000 in
theorem combine_plus (b o n c b' o' n' c' : Nat) (ps qs : List P3) (LO HI : Int) (L : List Int) (w : World)
    (hn : n = ps.length) (h2 : 1 ≤ n) (ht : tabOk ps = true) (hn' : n' = qs.length) (h2' : 1 ≤ n') (ht' : tabOk qs = true)
    (hb : b < w.heap.size) (hb' : b' < w.heap.size) (hc : PtsAt w b o ps) (hc' : PtsAt w b' o' qs)
    (hLO : max (firstX ps) (firstX qs) = LO) (hHI : min (lastX ps) (lastX qs) = HI) (hov : LO ≤ HI)
    (hL : L.Pairwise (· < ·)) (hm : ∀ x, x ∈ L ↔ x ∈ cornersS ps LO HI ++ cornersS qs LO HI) (h40 : L.length ≤ 40)
    (hok : ∀ x ∈ L, (plusAt ps qs x).2.2 = 0 ∧ inB (plusAt ps qs x).1 (plusAt ps qs x).2.1 (-1000000000) 1000000000 = true) :
    Calls Try.prog 115 #[tv (some ⟨b, o, none⟩) n c, tv (some ⟨b', o', none⟩) n' c', addFn] w (GivesTab0 w (built (plusAt ps qs) L)) := by
  obtain ⟨i0, hi, hz0, hz1, hz2⟩ := info_parts Try.info3
  have hp40 := (tabOk_len ht).2
  have hq40 := (tabOk_len ht').2
  have hml : n ≤ maxLen := by unfold maxLen; omega
  have hml' : n' ≤ maxLen := by unfold maxLen; omega
  have hn40 : n ≤ 40 := by omega
  have hn40' : n' ≤ 40 := by omega
  obtain ⟨pl1, pl2⟩ := places_in ht
  obtain ⟨ql1, ql2⟩ := places_in ht'
  have hLx : ∀ x ∈ L, 0 ≤ x ∧ x ≤ 1000000 := fun x hx => by
    rcases List.mem_append.1 ((hm x).1 hx) with h | h <;> rcases corners_mem h with h | h <;> omega
  have hlen1 := corners_len ps LO HI hp40
  have hlen2 := corners_len qs LO HI hq40
  have tle : ¬ HI < LO := by omega
  have HN := Lib.hid (And.intro hn (And.intro ht (And.intro hn' ht'))); clear hn ht hn' ht'
  have HL := Lib.hid (And.intro hL (And.intro hm (And.intro hok hLx))); clear hL hm hok hLx
  have HD := Lib.hid (And.intro hLO hHI); clear hLO hHI pl1 pl2 ql1 ql2 hov
  have hJ : Joined ((((w.alloc (.cells #[.slice (some ⟨b, o, none⟩) n c] 43)).alloc (.cells #[.slice (some ⟨b', o', none⟩) n' c'] 43)).alloc (.cells #[addFn] 28)).alloc (.cells #[.slice none 0 0] 43)) (w.heap.size + 1 + 1) w.heap.size (w.heap.size + 1) b o n c b' o' n' c' ps qs := by
    have hE : Below w.heap.size w ((((w.alloc (.cells #[.slice (some ⟨b, o, none⟩) n c] 43)).alloc (.cells #[.slice (some ⟨b', o', none⟩) n' c'] 43)).alloc (.cells #[addFn] 28)).alloc (.cells #[.slice none 0 0] 43)) := below_a2 (below_a2 (Below.refl _ _))
    refine ⟨?_, ?_, ?_, hc.below hE hb, hc'.below hE hb', Nat.lt_of_lt_of_le hb hE.size, Nat.lt_of_lt_of_le hb' hE.size⟩
    · have h := (Blk.new ((w.alloc (.cells #[.slice (some ⟨b, o, none⟩) n c] 43)).alloc (.cells #[.slice (some ⟨b', o', none⟩) n' c'] 43)) 28 #[addFn]).alloc (.cells #[.slice none 0 0] 43)
      simpa only [World.size_alloc] using h
    · exact (((Blk.new w 43 #[.slice (some ⟨b, o, none⟩) n c]).alloc _).alloc _).alloc _
    · have h := ((Blk.new (w.alloc (.cells #[.slice (some ⟨b, o, none⟩) n c] 43)) 43 #[.slice (some ⟨b', o', none⟩) n' c']).alloc (.cells #[addFn] 28)).alloc (.cells #[.slice none 0 0] 43)
      simpa only [World.size_alloc] using h
  have hT := Blk.new (((w.alloc (.cells #[.slice (some ⟨b, o, none⟩) n c] 43)).alloc (.cells #[.slice (some ⟨b', o', none⟩) n' c'] 43)).alloc (.cells #[addFn] 28)) 43 #[.slice none 0 0]
  simp only [World.size_alloc] at hT
  have hE : Below w.heap.size w ((((w.alloc (.cells #[.slice (some ⟨b, o, none⟩) n c] 43)).alloc (.cells #[.slice (some ⟨b', o', none⟩) n' c'] 43)).alloc (.cells #[addFn] 28)).alloc (.cells #[.slice none 0 0] 43)) := below_a2 (below_a2 (Below.refl _ _))
  have HJ := Lib.hid hJ; have HT := Lib.hid hT; have HE := Lib.hid hE
  clear hJ hT hE hc hc'
  go_enter Try.func115, Try.ntmps115
  go_wp2_with fail
  obtain ⟨W0, hW0⟩ : ∃ W0, ((((w.alloc (.cells #[.slice (some ⟨b, o, none⟩) n c] 43)).alloc (.cells #[.slice (some ⟨b', o', none⟩) n' c'] 43)).alloc (.cells #[addFn] 28)).alloc (.cells #[.slice none 0 0] 43)) = W0 := ⟨_, rfl⟩
  rw [hW0] at HJ HT HE ⊢
  clear hW0
  refine (checkTable_to _ n c ps _ _ _ HN.out.1 hml (HJ.out.2.2.2.1.pts HJ.out.2.2.2.2.2.1) HN.out.2.1 rfl).mono ?_
  rintro e w1 ⟨rfl, hb1⟩
  have HJ1 := Lib.hid (HJ.out.below hb1); have HT1 := Lib.hid (blkOn HT.out hb1); have HE1 := Lib.hid (below_then HE.out hb1)
  clear hb1
  have c1 := HJ1.out.2.2.1.cell 0
  simp at c1
  go_wp2_with fail
  refine (checkTable_to _ n' c' qs _ _ _ HN.out.2.2.1 hml' (HJ1.out.2.2.2.2.1.pts HJ1.out.2.2.2.2.2.2) HN.out.2.2.2 rfl).mono ?_
  rintro e w2 ⟨rfl, hb2⟩
  have HJ2 := Lib.hid (HJ1.out.below hb2); have HT2 := Lib.hid (blkOn HT1.out hb2); have HE2 := Lib.hid (below_then HE1.out hb2)
  clear hb2 c1
  have l0 : w.heap.size < w2.heap.size := HJ2.out.2.1.lt
  have l1 : w.heap.size + 1 < w2.heap.size := HJ2.out.2.2.1.lt
  have c0 := HJ2.out.2.1.cell 0
  have c1 := HJ2.out.2.2.1.cell 0
  simp at c0 c1
  have HD1 : Hid (∀ W, Below w2.heap.size w2 W → Calls Try.prog 118 #[tv (some ⟨b, o, none⟩) n c] W fun e w' => e = .returned (rv (firstX ps) (lastX ps)) ∧ Below W.heap.size W w') :=
    Lib.hid fun W hW => domain_tab _ n c ps W HN.out.1 ((HJ2.out.below hW).2.2.2.1.pts (HJ2.out.below hW).2.2.2.2.2.1) HN.out.2.1
  have HD2 : Hid (∀ W, Below w2.heap.size w2 W → Calls Try.prog 118 #[tv (some ⟨b', o', none⟩) n' c'] W fun e w' => e = .returned (rv (firstX qs) (lastX qs)) ∧ Below W.heap.size W w') :=
    Lib.hid fun W hW => domain_tab _ n' c' qs W HN.out.2.2.1 ((HJ2.out.below hW).2.2.2.2.1.pts (HJ2.out.below hW).2.2.2.2.2.2) HN.out.2.2.2
  go_upto_region 3 with fail
  go_cut [8] (fun s8 wx => ∃ B, s8 = .pointer (some ⟨B, 0, none⟩) ∧ Blk wx B 23 #[.int .i64 LO, .int .i64 HI] ∧ w2.heap.size ≤ B ∧ Below w2.heap.size w2 wx)
  case first =>
    go_region_held3 (fun w' => w'.cell? ⟨w.heap.size, 0, none⟩ = some (.slice (some ⟨b, o, none⟩) n c) ∧ w'.cell? ⟨w.heap.size + 1, 0, none⟩ = some (.slice (some ⟨b', o', none⟩) n' c') ∧ Below w2.heap.size w2 w')
      (first | exact ⟨c0, c1, (Below.refl _ _).drew⟩ | exact keepC (by assumption) (by assumption) l0 l1 | exact keepCa (by assumption) l0 l1 | exact keepCs (by assumption) l0 l1 (by first | exact Nat.le_refl _ | assumption))
      (first
        | (go_at_call 118; (with_reducible refine (HD1.out _ (belowOf (by assumption))).mono ?_); rintro e w3 ⟨rfl, hb3⟩; have s3 := (below_then (belowOf (W2 := w2) (A := w.heap.size) (B := w.heap.size + 1) (by assumption)) hb3).size; (try have N1 : Blk w3 w2.heap.size 23 #[.int .i64 0, .int .i64 0] := blkNewD hb3))
        | (go_at_call 118; (with_reducible refine (HD2.out _ (belowOf (by assumption))).mono ?_); rintro e w4 ⟨rfl, hb4⟩; have s4 := (below_then (belowOf (W2 := w2) (A := w.heap.size) (B := w.heap.size + 1) (by assumption)) hb4).size; (first | with_reducible have N2 := blkNew hb4 | have N2 := blkOn N1 hb4 | skip))
        | (go_at_call 86; refine (common_to _ _ _ _ LO HI _ HD.out.1 HD.out.2).mono ?_; rintro e w5 ⟨rfl, hb5⟩; have T5 := keepC (W2 := w2) (A := w.heap.size) (B := w.heap.size + 1) hb5 (by assumption) l0 l1; (first | (with_reducible have N3 := blkNew hb5; have d0 := N3.cell 0; have d1 := N3.cell 1; have d2 := N3.frozen 0; have d3 := N3.frozen 1; simp at d0 d1) | (have N3 := blkOn N2 hb5; have d0 := N3.cell 0; have d1 := N3.cell 1; have d2 := N3.frozen 0; have d3 := N3.frozen 1; simp at d0 d1) | skip)))
    all_goals go_wp2_with fail
    all_goals go_meet
    all_goals (first
      | exact ⟨_, rfl, Blk.new _ _ _, T5.2.2.size, T5.2.2.alloc T5.2.2.size _⟩
      | exact ⟨_, rfl, blk2 N3 LO HI, s4, (T5.2.2.setCell (p := ⟨_, 0, none⟩) s4 _).setCell (p := ⟨_, 1, none⟩) s4 _⟩
      | exact ⟨_, rfl, blk2 N3 LO HI, s3, (T5.2.2.setCell (p := ⟨_, 0, none⟩) s3 _).setCell (p := ⟨_, 1, none⟩) s3 _⟩
      | exact ⟨_, rfl, blk2 N3 LO HI, Nat.le_refl _, (T5.2.2.setCell (p := ⟨_, 0, none⟩) (Nat.le_refl _) _).setCell (p := ⟨_, 1, none⟩) (Nat.le_refl _) _⟩)
  case rest =>
    obtain ⟨B, rfl, hBk, hB2, hbc⟩ := hcut
    have HJc := Lib.hid (HJ2.out.below hbc); have HTc := Lib.hid (blkOn HT2.out hbc); have HEc := Lib.hid (below_then HE2.out hbc)
    have z0 := hBk.cell 0
    have z1 := hBk.cell 1
    have lB := hBk.lt
    simp at z0 z1
    have HBk := Lib.hid hBk
    clear hBk hbc c0 c1 HD1 HD2
    obtain ⟨L1, hL1⟩ : ∃ L1, cornersS ps LO HI = L1 := ⟨_, rfl⟩
    obtain ⟨L2, hL2⟩ : ∃ L2, cornersS qs LO HI = L2 := ⟨_, rfl⟩
    have hne1 := corners_ne ps LO HI
    have hne2 := corners_ne qs LO HI
    rw [hL1] at hlen1 hne1
    rw [hL2] at hlen2 hne2
    have hpos2 : 0 < L2.length := List.length_pos_iff.2 hne2
    have K1 : Hid (∀ W, Below wc.heap.size wc W → Calls Try.prog 95 #[tv (some ⟨b, o, none⟩) n c, .int .i64 LO, .int .i64 HI] W (GivesInts W L1)) :=
      Lib.hid fun W hW => by
        rw [← hL1]
        exact corners_any b o n c ps LO HI W HN.out.1 (by omega) hn40 (HJc.out.below hW).2.2.2.2.2.1 (HJc.out.below hW).2.2.2.1
    have K2 : Hid (∀ W, Below wc.heap.size wc W → Calls Try.prog 95 #[tv (some ⟨b', o', none⟩) n' c', .int .i64 LO, .int .i64 HI] W (GivesInts W L2)) :=
      Lib.hid fun W hW => by
        rw [← hL2]
        exact corners_any b' o' n' c' qs LO HI W HN.out.2.2.1 (by omega) hn40' (HJc.out.below hW).2.2.2.2.2.2 (HJc.out.below hW).2.2.2.2.1
    have HC := Lib.hid (And.intro hL1 (And.intro hL2 (And.intro hne1 hne2))); clear hL1 hL2 hne1 hne2
    have l0 : w.heap.size < wc.heap.size := HJc.out.2.1.lt
    have l1 : w.heap.size + 1 < wc.heap.size := HJc.out.2.2.1.lt
    have c0 := HJc.out.2.1.cell 0
    have c1 := HJc.out.2.2.1.cell 0
    simp at c0 c1
    go_wp2_with fail
    go_region_held3 (fun w' => w'.cell? ⟨w.heap.size, 0, none⟩ = some (.slice (some ⟨b, o, none⟩) n c) ∧ w'.cell? ⟨w.heap.size + 1, 0, none⟩ = some (.slice (some ⟨b', o', none⟩) n' c') ∧ w'.cell? ⟨B, 0, none⟩ = some (.int .i64 LO) ∧ w'.cell? ⟨B, 1, none⟩ = some (.int .i64 HI) ∧ Below wc.heap.size wc w')
      (first | assumption | exact mkE (Below.refl _ _).drew ⟨c0, c1, z0, z1⟩ l0 l1 lB | exact mkE (below_then (belowE (by assumption)) (by assumption)) ⟨c0, c1, z0, z1⟩ l0 l1 lB | exact mkE E8 ⟨c0, c1, z0, z1⟩ l0 l1 lB)
      (first
        | (go_at_call 95; (with_reducible refine (K1.out _ (belowE (by assumption))).mono ?_); rintro e w6 ⟨v1, rfl, ho1, hb6⟩; have E6 := below_then (belowE (W2 := wc) (A := w.heap.size) (B := w.heap.size + 1) (C := B) (by assumption)) hb6)
        | (go_at_call 95; (with_reducible refine (K2.out _ (belowE (by assumption))).mono ?_); rintro e w7 ⟨v2, rfl, ho2, hb7⟩; have E7 := below_then E6 hb7; obtain ⟨pg, cap2, rfl, hpg, hpl, hcell⟩ := OwnInts.cells ho2 HC.out.2.2.2; have HO1 := Lib.hid (World.ownsRow.mono (ho1.below hb7) (show wc.heap.size ≤ _ from Nat.le_refl _)); have HN2 := Lib.hid (newsInts hcell); have HB7 := Lib.hid E7; clear ho2 hcell ho1)
        | (refine step_append_lies _ (by rfl) _ _ _ (by rfl) wc.heap.size 3 i0 _ 1 8 Try.underlying44 hi hz0 hz1 hz2 rfl (by omega) v1 (ints L1).length (ints L1) (by rfl) (by exact HO1.out) ⟨pg, 0, none⟩ L2.length cap2 (ints L2) (by rfl) (by simp) HN2.out (ints_one L2) (by omega) (by simp [maxLen]; omega) (by simp; omega) HB7.out.size _ rfl ?_; intro gg cap3 w8 hown8 hgrow hat hlt; have E8 : Below wc.heap.size wc w8 := HB7.out.grown hgrow HB7.out.size (fun k hk => (World.ownsRow.lt HO1.out k hk).1))
        | fail)
    have HO8 : Hid (OwnInts wc.heap.size w8 (.slice (some ⟨gg, 0, none⟩) (L1.length + L2.length) cap3) (L1 ++ L2)) := Lib.hid (by unfold OwnInts; simpa using hown8)
    have HE8 := Lib.hid E8
    clear hown8 hgrow hat hlt E8 E6 E7 HO1 HN2 HB7 hb6 hb7 K1 K2 z0 z1 c0 c1
    have hne : L1 ++ L2 ≠ [] := by simp [HC.out.2.2.1]
    have HNE := Lib.hid hne; clear hne
    go_wp2_with fail
    refine (sort_own wc.heap.size _ (L1 ++ L2) w8 HO8.out HNE.out (by simp; omega)).mono ?_
    rintro e w9 ⟨rfl, ho9, hg9⟩
    have E9 := HE8.out.grown hg9 HE8.out.size (fun k hk => (World.ownsRow.lt HO8.out k hk).1)
    have HO9 := Lib.hid ho9; have HE9 := Lib.hid E9
    clear ho9 hg9 E9
    go_wp2_with fail
    refine (compact_own wc.heap.size _ _ w9 HO9.out (fun h => HNE.out (by have h1 := congrArg List.length h; rw [List.length_mergeSort] at h1; exact List.eq_nil_of_length_eq_zero h1))).mono ?_
    rintro e w10 ⟨v', rfl, ho10, hob, hg10⟩
    have E10 := HE9.out.grown hg10 HE9.out.size (fun k hk => (World.ownsRow.lt HO9.out k hk).1)
    have hmem : ∀ x, x ∈ L ↔ x ∈ L1 ++ L2 := by rw [← HC.out.1, ← HC.out.2.1]; exact HL.out.2.1
    rw [compact_sorted (L1 ++ L2) L HL.out.1 hmem] at ho10
    have hneL : L ≠ [] := by
      intro h
      obtain ⟨x, hx⟩ := List.exists_mem_of_ne_nil _ HNE.out
      have := (hmem x).2 hx
      rw [h] at this; cases this
    obtain ⟨pg2, cap4, rfl, hpg2, hpl2, hcell2⟩ := ho10.cells hneL
    have HCE := Lib.hid hcell2; have HJ10 := Lib.hid (HJc.out.below E10); have HT10 := Lib.hid (blkOn HTc.out E10); have HE10 := Lib.hid (below_then HEc.out E10)
    clear ho10 hob hg10 E10 hmem hneL hcell2
    go_wp2_with fail
    refine (build_good pg2 0 L.length cap4 (w.heap.size + 1 + 1) w.heap.size (w.heap.size + 1) L (plusAt ps qs) w10 rfl h40 hpl2 (fun k x hx => HCE.out k x hx)
      (fun x hx W hW => plusAsk _ _ _ b o n c b' o' n' c' ps qs x W (HJ10.out.below hW) HN.out.1 h2 HN.out.2.1 HN.out.2.2.1 h2' HN.out.2.2.2 (HL.out.2.2.2 x hx).1 (HL.out.2.2.2 x hx).2)
      HL.out.2.2.1).mono ?_
    rintro e w11 ⟨v, rfl, ho11, hb11⟩
    obtain ⟨sp, sn, sc, rfl⟩ := ho11.slice
    have hT := blkOn HT10.out hb11
    have r0 := hT.cell 0
    have f0 := hT.frozen 0
    have lT := hT.lt
    simp at r0
    have HO := Lib.hid ho11; have HE11 := Lib.hid (below_then HE10.out hb11)
    have HLe := Lib.hid (Nat.le_trans HE10.out.size (Nat.le_refl _))
    clear ho11 hb11 hT
    go_wp2
    have hB5 := HE11.out.setCell (p := ⟨w.heap.size + 1 + 1 + 1, 0, none⟩) (by show w.heap.size ≤ w.heap.size + 1 + 1 + 1; omega) (.slice sp sn sc)
    have lT10 : w.heap.size + 1 + 1 + 1 < w10.heap.size := HT10.out.lt
    refine bodyPost_ret (v := .tuple #[.agg #[.slice sp sn sc], .int .i64 0]) (by simp [results, Try.results115, go_sem, r0, lT]) rfl ⟨_, rfl, ?_, hB5⟩
    refine World.ownsRow.kept (World.ownsRow.mono (show w11.ownsRow w10.heap.size 87 3 _ _ _ from HO.out) HLe.out) (grownBy_setCell' w11 _ _) (.inr ?_)
    intro e
    have := (World.ownsRow.lt (show w11.ownsRow w10.heap.size 87 3 _ _ _ from HO.out) _ e).1
    omega
end Go.Proofs.Ytmenlaefekkahaa
namespace Go.Proofs.Ytmenlaefekkahaa
open Go.RowKit

set_option maxRecDepth 100000 in
set_option maxHeartbeats 2000000 in
theorem plus_good (b o n c b' o' n' c' : Nat) (ps qs : List P3) (LO HI : Int) (L : List Int) (w : World)
    (hn : n = ps.length) (h2 : 1 ≤ n) (ht : tabOk ps = true) (hn' : n' = qs.length) (h2' : 1 ≤ n') (ht' : tabOk qs = true)
    (hb : b < w.heap.size) (hb' : b' < w.heap.size) (hc : PtsAt w b o ps) (hc' : PtsAt w b' o' qs)
    (hLO : max (firstX ps) (firstX qs) = LO) (hHI : min (lastX ps) (lastX qs) = HI) (hov : LO ≤ HI)
    (hL : L.Pairwise (· < ·)) (hm : ∀ x, x ∈ L ↔ x ∈ cornersS ps LO HI ++ cornersS qs LO HI) (h40 : L.length ≤ 40)
    (hok : ∀ x ∈ L, (plusAt ps qs x).2.2 = 0 ∧ inB (plusAt ps qs x).1 (plusAt ps qs x).2.1 (-1000000000) 1000000000 = true) :
    Calls Try.prog 57 #[tv (some ⟨b, o, none⟩) n c, tv (some ⟨b', o', none⟩) n' c'] w (GivesTab0 w (built (plusAt ps qs) L)) := by
  have hE : Below w.heap.size w (((w.alloc (.cells #[.slice (some ⟨b, o, none⟩) n c] 43)).alloc (.cells #[.slice (some ⟨b', o', none⟩) n' c'] 43)).alloc (.cells #[.slice none 0 0] 43)) := below_a3 (Below.refl _ _)
  have hT := Blk.new ((w.alloc (.cells #[.slice (some ⟨b, o, none⟩) n c] 43)).alloc (.cells #[.slice (some ⟨b', o', none⟩) n' c'] 43)) 43 #[.slice none 0 0]
  simp only [World.size_alloc] at hT
  have hC : Hid (∀ W, Below w.heap.size w W → Calls Try.prog 115 #[tv (some ⟨b, o, none⟩) n c, tv (some ⟨b', o', none⟩) n' c', addFn] W (GivesTab0 W (built (plusAt ps qs) L))) :=
    Lib.hid fun W hW => combine_plus b o n c b' o' n' c' ps qs LO HI L W hn h2 ht hn' h2' ht' (Nat.lt_of_lt_of_le hb hW.size) (Nat.lt_of_lt_of_le hb' hW.size) (hc.below hW hb) (hc'.below hW hb') hLO hHI hov hL hm h40 hok
  have HT := Lib.hid hT; have HE := Lib.hid hE
  clear hn hn' ht ht' hc hc' hLO hHI hov hL hm h40 hok hT hE
  go_enter Try.func57, Try.ntmps57
  go_wp2_with fail
  refine (hC.out _ HE.out).mono ?_
  rintro e w1 ⟨v, rfl, ho, hb1⟩
  obtain ⟨sp, sn, sc, rfl⟩ := ho.slice
  have hT1 := blkOn HT.out hb1
  have r0 := hT1.cell 0
  have f0 := hT1.frozen 0
  have lT := hT1.lt
  simp at r0
  have HO := Lib.hid ho; have HE1 := Lib.hid (below_then HE.out hb1)
  have HLe := Lib.hid HE.out.size
  have lT0 := HT.out.lt
  clear ho hb1 hT1
  go_wp2
  have hB5 := HE1.out.setCell (p := ⟨w.heap.size + 1 + 1, 0, none⟩) (by show w.heap.size ≤ w.heap.size + 1 + 1; omega) (.slice sp sn sc)
  refine bodyPost_ret (v := .tuple #[.agg #[.slice sp sn sc], .int .i64 0]) (by simp [results, Try.results57, go_sem, r0, lT]) rfl ⟨_, rfl, ?_, hB5⟩
  refine World.ownsRow.kept (World.ownsRow.mono (show w1.ownsRow _ 87 3 _ _ _ from HO.out) HLe.out) (grownBy_setCell' w1 _ _) (.inr ?_)
  intro e
  have := (World.ownsRow.lt (show w1.ownsRow _ 87 3 _ _ _ from HO.out) _ e).1
  omega
end Go.Proofs.Ytmenlaefekkahaa
