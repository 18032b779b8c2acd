/- The contracts of Mul, Over, Plus, Area and Where at the chapter's examples. Their conditions: the tables lie in memory. The contract of sane (the law package): the chapter's examples are so. No conditions. -/
import Derived.Test.YtmenlaefekkahaaH2
import Derived.Test.YtmenlaefekkahaaE5
import Derived.Test.YtmenlaefekkahaaF3
import Derived.Test.YtmenlaefekkahaaA7
import Derived.Deep.DeepCutAuto
set_option linter.unusedVariables false
set_option linter.unusedSimpArgs false
set_option linter.constructorNameAsVariable false
namespace Go.Proofs.Ytmenlaefekkahaa
open Go.RowKit

theorem mul_ex (w : World) : Calls Try.prog 18 #[rv (-2) 3, rv 4 5] w fun e w' => e = .returned (.tuple #[rv (-10) 15, .int .i64 0]) ∧ Below w.heap.size w w' := by
  have h := mul_any (-2) 3 4 5 w
  rwa [show mulS (-2) 3 4 5 = (-10, 15, 0) by decide] at h
theorem tabOk_tab : tabOk tabS = true := by decide
theorem tabOk_other : tabOk otherS = true := by decide
theorem over_ex (b c : Nat) (w : World) (hb : b < w.heap.size) (hc : PtsAt w b 0 tabS) : Calls Try.prog 48 #[tv (some ⟨b, 0, none⟩) 3 c, rv 5 12] w fun e w' => e = .returned (.tuple #[rv 2 9, .int .i64 0]) ∧ Below w.heap.size w w' := by
  have h := over_good b 0 3 c tabS 5 12 w rfl (by decide) hb tabOk_tab (by decide) (by decide) hc
  rwa [show overGood tabS 5 12 = (2, 9, true) by decide] at h

def sumS : List P3 := [(5, 3, 6), (10, 6, 11), (20, 11, 16)]
theorem sum_built : built (plusAt tabS otherS) [5, 10, 20] = sumS := by decide
theorem OwnPts.pts {base : Nat} {w : World} {v : Value} {L : List P3} (ho : OwnPts base w v L) (hne : 0 < L.length) :
    ∃ g cap, v = .slice (some ⟨g, 0, none⟩) L.length cap ∧ base ≤ g ∧ g < w.heap.size ∧ PtsAt w g 0 L := by
  have ho' : w.ownsRow base 87 3 v L.length (ptCells L) := ho
  obtain ⟨g, cap, rfl, h1, h2⟩ := ho'.form hne
  refine ⟨g, cap, rfl, h1, h2, fun k p hp => ?_⟩
  have hk : k < L.length := (List.getElem?_eq_some_iff.1 hp).1
  have hcell : ∀ i, i < 3 → (ptCells L)[k * 3 + i]? = [Value.int .i64 p.1, .int .i64 p.2.1, .int .i64 p.2.2][i]? := by
    intro i hi
    clear ho ho' h1 h2 hne
    induction L generalizing k with
    | nil => cases hp
    | cons q L ih =>
      cases k with
      | zero =>
        simp at hp; subst hp
        have : i = 0 ∨ i = 1 ∨ i = 2 := by omega
        rcases this with rfl | rfl | rfl <;> simp [ptCells]
      | succ k =>
        have e : ptCells (q :: L) = [Value.int .i64 q.1, .int .i64 q.2.1, .int .i64 q.2.2] ++ ptCells L := by simp [ptCells]
        rw [e, List.getElem?_append_right (by simp; omega)]
        have := ih k (by simpa using hp) (by simpa using hk)
        rw [← this]
        congr 1
        simp; omega
  have c := fun i (hi : i < 3) => (ho'.cellAt (k * 3 + i) (by omega)).trans (hcell i hi)
  refine ⟨?_, ?_, ?_⟩
  · rw [Nat.zero_add]; exact c 0 (by omega)
  · rw [Nat.zero_add]; exact c 1 (by omega)
  · rw [Nat.zero_add]; exact c 2 (by omega)
theorem plus_ex (b c b' c' : Nat) (w : World) (hb : b < w.heap.size) (hb' : b' < w.heap.size) (hc : PtsAt w b 0 tabS) (hc' : PtsAt w b' 0 otherS) :
    Calls Try.prog 57 #[tv (some ⟨b, 0, none⟩) 3 c, tv (some ⟨b', 0, none⟩) 2 c'] w fun e w' =>
      ∃ g cap, e = .returned (.tuple #[tv (some ⟨g, 0, none⟩) 3 cap, .int .i64 0]) ∧ w.heap.size ≤ g ∧ g < w'.heap.size ∧ PtsAt w' g 0 sumS ∧ Below w.heap.size w w' := by
  refine (plus_good b 0 3 c b' 0 2 c' tabS otherS 5 20 [5, 10, 20] w rfl (by decide) tabOk_tab rfl (by decide) tabOk_other hb hb' hc hc' (by decide) (by decide) (by decide) (by decide) ?_ (by decide) (by decide)).mono ?_
  · intro x
    rw [show cornersS tabS 5 20 ++ cornersS otherS 5 20 = [5, 10, 20, 5, 20] by decide]
    simp only [List.mem_cons, List.not_mem_nil, or_false]
    omega
  · rintro e w' ⟨v, rfl, ho, hB⟩
    rw [sum_built] at ho
    obtain ⟨g, cap, rfl, h1, h2, h3⟩ := ho.pts (by decide)
    exact ⟨g, cap, rfl, h1, h2, h3, hB⟩

def piecesEx : List Pc := [⟨((0, 0, 0), (10, 5, 8)), by unfold Okp; decide⟩, ⟨((10, 5, 8), (40, 20, 20)), by unfold Okp; decide⟩]
def piecesRise : List Pr := [⟨((0, 0, 0), (10, 5, 8)), by unfold Okp; decide⟩, ⟨((10, 5, 8), (40, 20, 20)), by unfold Okp; decide⟩]
theorem area_ex (b c : Nat) (w : World) (hb : b < w.heap.size) (hc : PtsAt w b 0 tabS) : Calls Try.prog 54 #[tv (some ⟨b, 0, none⟩) 3 c, .int .i64 5, .int .i64 11] w fun e w' => e = .returned (.tuple #[.int .i64 48, .int .i64 77, .int .i64 0]) ∧ Below w.heap.size w w' := by
  have h := area_good b 0 3 c tabS piecesEx 5 11 w rfl (by decide) hb tabOk_tab rfl (by decide) hc (by decide +kernel) (by decide +kernel) (by decide +kernel) (by decide +kernel) (by decide +kernel) (by decide +kernel)
  rwa [show downS (lowF 5 11 piecesEx) = 48 by decide +kernel, show wrap64 (-(downS (highF 5 11 piecesEx))) = 77 by decide +kernel] at h
theorem OwnRuns.mem {base : Nat} {w : World} {v : Value} {r : Int × Int} (ho : OwnRuns base w v [r]) :
    ∃ g cap, v = .slice (some ⟨g, 0, none⟩) 1 cap ∧ g < w.heap.size ∧ RunsMem w g 0 [r] := by
  have ho' : w.ownsRow base 23 2 v 1 (runCells [r]) := ho
  obtain ⟨g, cap, rfl, _, h2⟩ := ho'.form (by omega)
  refine ⟨g, cap, rfl, h2, fun k p hp => ?_⟩
  have c0 := ho'.cellAt 0 (by omega)
  have c1 := ho'.cellAt 1 (by omega)
  cases k with
  | zero => simp at hp; subst hp; exact ⟨c0, c1⟩
  | succ k => simp at hp
theorem where_ex (b c : Nat) (w : World) (hb : b < w.heap.size) (hc : PtsAt w b 0 tabS) : Calls Try.prog 50 #[tv (some ⟨b, 0, none⟩) 3 c, rv 6 6] w fun e w' =>
    ∃ g cap, e = .returned (.tuple #[.slice (some ⟨g, 0, none⟩) 1 cap, .int .i64 0]) ∧ g < w'.heap.size ∧ RunsMem w' g 0 [(7, 13)] ∧ Below w.heap.size w w' := by
  refine (where_good b 0 3 c tabS piecesRise 6 6 w rfl (by decide) hb tabOk_tab (by decide) rfl hc).mono ?_
  rintro e w' ⟨v, rfl, ho, hB⟩
  rw [show runsF (whereS 6 6) piecesRise = [(7, 13)] by decide +kernel] at ho
  obtain ⟨g, cap, rfl, h2, h3⟩ := ho.mem
  exact ⟨g, cap, rfl, h2, h3, hB⟩
end Go.Proofs.Ytmenlaefekkahaa
namespace Go.Proofs.Ytmenlaefekkahaa
open Go.RowKit
attribute [local go_sem ↓] eqlRange neqRange

theorem table_ex (w : World) : Calls Try.prog 88 #[] w fun e w' => ∃ g, e = .returned (tv (some ⟨g, 0, none⟩) 3 3) ∧ g < w'.heap.size ∧ PtsAt w' g 0 tabS ∧ Below w.heap.size w w' :=
  (table_any w).mono (by rintro e w' ⟨g, rfl, _, h⟩; exact ⟨g, rfl, h⟩)
theorem other_ex (w : World) : Calls Try.prog 89 #[] w fun e w' => ∃ g, e = .returned (tv (some ⟨g, 0, none⟩) 2 2) ∧ g < w'.heap.size ∧ PtsAt w' g 0 otherS ∧ Below w.heap.size w w' :=
  (other_any w).mono (by rintro e w' ⟨g, rfl, _, h⟩; exact ⟨g, rfl, h⟩)
theorem keepF {W2 w0 w1 : World} {a : Value} {A : Nat} (hb : Below w0.heap.size w0 w1) (h : w0.cell? ⟨A, 0, none⟩ = some a ∧ Below W2.heap.size W2 w0) (h1 : A < W2.heap.size) :
    w1.cell? ⟨A, 0, none⟩ = some a ∧ Below W2.heap.size W2 w1 := ⟨((bcell hb).1 _ _ (Nat.lt_of_lt_of_le h1 h.2.size)).trans h.1, below_then h.2 hb⟩
theorem keepFa {W2 w0 : World} {o : Obj} {a : Value} {A : Nat} (h : w0.cell? ⟨A, 0, none⟩ = some a ∧ Below W2.heap.size W2 w0) (h1 : A < W2.heap.size) :
    (w0.alloc o).cell? ⟨A, 0, none⟩ = some a ∧ Below W2.heap.size W2 (w0.alloc o) := keepF (below_alloc1 _ _) h h1
theorem keepFs {W2 w0 : World} {a x : Value} {A g : Nat} (h : w0.cell? ⟨A, 0, none⟩ = some a ∧ Below W2.heap.size W2 w0) (h1 : A < W2.heap.size) (hg : W2.heap.size ≤ g) :
    (w0.setCell ⟨g, 0, none⟩ x).cell? ⟨A, 0, none⟩ = some a ∧ Below W2.heap.size W2 (w0.setCell ⟨g, 0, none⟩ x) := by
  have hB := h.2.setCell (p := ⟨g, 0, none⟩) hg x
  exact ⟨((bcell hB).1 _ _ h1).trans (((bcell h.2).1 _ _ h1).symm.trans h.1), hB⟩
theorem belowF {W2 w0 : World} {a : Value} {A : Nat} (h : w0.cell? ⟨A, 0, none⟩ = some a ∧ Below W2.heap.size W2 w0) : Below W2.heap.size W2 w0 := h.2

set_option maxRecDepth 100000 in
set_option maxHeartbeats 4000000 in
theorem sane_any (w : World) : Calls Try.prog 32 #[] w fun e w' => e = .returned (.bool true) ∧ Below w.heap.size w w' := by
  go_enter Try.func32, Try.ntmps32
  go_wp2_with fail
  refine (table_ex w).mono ?_
  rintro e w1 ⟨g, rfl, hg, hP, hb1⟩
  have bT := Blk.new w1 43 #[.slice (some ⟨g, 0, none⟩) 3 3]
  have eW := below_alloc1 w1 (.cells #[.slice (some ⟨g, 0, none⟩) 3 3] 43)
  have P := hP.below eW hg
  have E := below_then hb1 eW
  have hg' := Nat.lt_of_lt_of_le hg eW.size
  have HP := Lib.hid (And.intro bT (And.intro P (And.intro E hg')))
  clear hP bT eW P E hg' hb1 hg
  go_wp2_with fail
  obtain ⟨A, hA⟩ : ∃ A, w1.heap.size = A := ⟨_, rfl⟩
  obtain ⟨W1, hW1⟩ : ∃ W1, w1.alloc (.cells #[.slice (some ⟨g, 0, none⟩) 3 3] 43) = W1 := ⟨_, rfl⟩
  rw [hW1] at HP ⊢
  rw [hA] at HP ⊢
  clear hW1 hA w1
  -- Mul
  refine (mul_ex W1).mono ?_
  rintro e w2 ⟨rfl, hb2⟩
  have HP2 := Lib.hid (And.intro (blkOn HP.out.1 hb2) (And.intro (HP.out.2.1.below hb2 HP.out.2.2.2) (And.intro (below_then HP.out.2.2.1 hb2) (Nat.lt_of_lt_of_le HP.out.2.2.2 hb2.size))))
  clear hb2 HP
  have c0 := HP2.out.1.cell 0
  have lA := HP2.out.1.lt
  simp at c0
  go_wp2_with fail
  have eW := below_alloc1 w2 (.cells #[.int .i64 (-10), .int .i64 15] 23)
  have bA := Blk.new w2 23 #[.int .i64 (-10), .int .i64 15]
  have HP3 := Lib.hid (And.intro (blkOn HP2.out.1 eW) (And.intro (HP2.out.2.1.below eW HP2.out.2.2.2) (And.intro (below_then HP2.out.2.2.1 eW) (Nat.lt_of_lt_of_le HP2.out.2.2.2 eW.size))))
  clear eW c0 lA HP2
  obtain ⟨A2, hA⟩ : ∃ A2, w2.heap.size = A2 := ⟨_, rfl⟩
  obtain ⟨W2, hW2⟩ : ∃ W2, w2.alloc (.cells #[.int .i64 (-10), .int .i64 15] 23) = W2 := ⟨_, rfl⟩
  rw [hW2] at HP3 bA ⊢
  rw [hA] at bA ⊢
  clear hW2 hA w2
  have HA := Lib.hid bA; clear bA
  -- Over
  refine (over_ex g 3 W2 HP3.out.2.2.2 HP3.out.2.1).mono ?_
  rintro e w3 ⟨rfl, hb3⟩
  have HP4 := Lib.hid (And.intro (blkOn HP3.out.1 hb3) (And.intro (HP3.out.2.1.below hb3 HP3.out.2.2.2) (And.intro (below_then HP3.out.2.2.1 hb3) (Nat.lt_of_lt_of_le HP3.out.2.2.2 hb3.size))))
  have HA4 := Lib.hid (blkOn HA.out hb3)
  clear hb3 HP3 HA
  have eW := below_alloc1 w3 (.cells #[.int .i64 2, .int .i64 9] 23)
  have bB := Blk.new w3 23 #[.int .i64 2, .int .i64 9]
  have HP5 := Lib.hid (And.intro (blkOn HP4.out.1 eW) (And.intro (HP4.out.2.1.below eW HP4.out.2.2.2) (And.intro (below_then HP4.out.2.2.1 eW) (Nat.lt_of_lt_of_le HP4.out.2.2.2 eW.size))))
  have HA5 := Lib.hid (blkOn HA4.out eW)
  clear eW HP4 HA4
  go_wp2_with fail
  obtain ⟨A3, hA⟩ : ∃ A3, w3.heap.size = A3 := ⟨_, rfl⟩
  obtain ⟨W3, hW3⟩ : ∃ W3, w3.alloc (.cells #[.int .i64 2, .int .i64 9] 23) = W3 := ⟨_, rfl⟩
  rw [hW3] at HP5 bB HA5 ⊢
  rw [hA] at bB ⊢
  clear hW3 hA w3
  have HB := Lib.hid bB; clear bB
  -- Plus
  have c0 := HP5.out.1.cell 0
  have lA := HP5.out.1.lt
  simp at c0
  go_cut [6, 7] (fun s6 s7 wx => ∃ B gp cap, s6 = .pointer (some ⟨B, 0, none⟩) ∧ s7 = .int .i64 0 ∧ Blk wx B 43 #[.slice (some ⟨gp, 0, none⟩) 3 cap] ∧ gp < wx.heap.size ∧ PtsAt wx gp 0 sumS ∧ Below W3.heap.size W3 wx)
  case first =>
    go_region_held3 (fun w' => w'.cell? ⟨A, 0, none⟩ = some (.slice (some ⟨g, 0, none⟩) 3 3) ∧ Below W3.heap.size W3 w')
      (first | exact ⟨c0, (Below.refl _ _).drew⟩ | exact keepF (by assumption) (by assumption) lA | exact keepFa (by assumption) lA | exact keepFs (by assumption) lA (by first | exact Nat.le_refl _ | assumption))
      (first
        | (go_at_call 89; refine (other_ex _).mono ?_; rintro e w4 ⟨g2, rfl, hg2, hQ, hb4⟩; have s4 := (below_then (belowF (W2 := W3) (A := A) (by assumption)) hb4).size; (try have N1 : Blk w4 W3.heap.size 43 #[.slice none 0 0] := blkNewD hb4);
           have HPl : Hid (∀ W, Below W3.heap.size W3 W → Below w4.heap.size w4 W → Calls Try.prog 57 #[tv (some ⟨g, 0, none⟩) 3 3, tv (some ⟨g2, 0, none⟩) 2 2] W fun e w' => ∃ g cap, e = .returned (.tuple #[tv (some ⟨g, 0, none⟩) 3 cap, .int .i64 0]) ∧ W.heap.size ≤ g ∧ g < w'.heap.size ∧ PtsAt w' g 0 sumS ∧ Below W.heap.size W w') := Lib.hid fun W h1 h2 => plus_ex g 3 g2 2 W (Nat.lt_of_lt_of_le HP5.out.2.2.2 h1.size) (Nat.lt_of_lt_of_le hg2 h2.size) (HP5.out.2.1.below h1 HP5.out.2.2.2) (hQ.below h2 hg2);
           clear hQ)
        | (go_at_call 57; (with_reducible refine (HPl.out _ (belowF (by assumption)) (by first | exact Below.refl _ _ | exact below_alloc1 _ _)).mono ?_); rintro e w5 ⟨gp, cap, rfl, hgp0, hgp, hS, hb5⟩; have T5 := keepF (W2 := W3) (A := A) hb5 (by assumption) lA; have HS := Lib.hid hS; clear hS;
           (first | (with_reducible have N2 := blkNew hb5; have d0 := N2.cell 0; have d1 := N2.frozen 0; have ne := Nat.ne_of_gt (Nat.lt_of_lt_of_le (Blk.new _ _ _).lt hgp0); simp at d0) | (have N2 := blkOn N1 hb5; have d0 := N2.cell 0; have d1 := N2.frozen 0; have ne := Nat.ne_of_gt (Nat.lt_of_lt_of_le N1.lt hgp0); simp at d0) | skip))
        | fail)
    all_goals go_wp2_with fail
    all_goals go_meet
    all_goals (first
      | exact ⟨_, gp, cap, rfl, rfl, Blk.new _ _ _, Nat.lt_of_lt_of_le hgp (below_alloc1 _ _).size, HS.out.below (below_alloc1 _ _) hgp, T5.2.alloc T5.2.size _⟩
      | exact ⟨_, gp, cap, rfl, rfl, by simpa using N2.set_ 0 (.slice (some ⟨gp, 0, none⟩) 3 cap), by simpa using hgp, HS.out.only ((Only.refl _ _).setCell (.inl rfl) _) hgp ne, T5.2.setCell (p := ⟨_, 0, none⟩) s4 _⟩
      | exact ⟨_, gp, cap, rfl, rfl, by simpa using N2.set_ 0 (.slice (some ⟨gp, 0, none⟩) 3 cap), by simpa using hgp, HS.out.only ((Only.refl _ _).setCell (.inl rfl) _) hgp ne, T5.2.setCell (p := ⟨_, 0, none⟩) (Nat.le_refl _) _⟩)
  case rest =>
    obtain ⟨B, gp, cap, rfl, rfl, hBk, hgp, hS, hbc⟩ := hcut
    have HP6 := Lib.hid (And.intro (blkOn HP5.out.1 hbc) (And.intro (HP5.out.2.1.below hbc HP5.out.2.2.2) (And.intro (below_then HP5.out.2.2.1 hbc) (Nat.lt_of_lt_of_le HP5.out.2.2.2 hbc.size))))
    have HA6 := Lib.hid (And.intro (blkOn HA5.out hbc) (And.intro (blkOn HB.out hbc) (And.intro hBk (And.intro hS hgp))))
    clear hbc hBk hS hgp HP5 HA5 HB c0 lA
    have c0 := HP6.out.1.cell 0
    simp at c0
    go_wp2_with fail
    -- Area
    refine (area_ex g 3 wc HP6.out.2.2.2 HP6.out.2.1).mono ?_
    rintro e w6 ⟨rfl, hbc⟩
    have HP7 := Lib.hid (And.intro (blkOn HP6.out.1 hbc) (And.intro (HP6.out.2.1.below hbc HP6.out.2.2.2) (And.intro (below_then HP6.out.2.2.1 hbc) (Nat.lt_of_lt_of_le HP6.out.2.2.2 hbc.size))))
    have HA7 := Lib.hid (And.intro (blkOn HA6.out.1 hbc) (And.intro (blkOn HA6.out.2.1 hbc) (And.intro (blkOn HA6.out.2.2.1 hbc) (And.intro (HA6.out.2.2.2.1.below hbc HA6.out.2.2.2.2) (Nat.lt_of_lt_of_le HA6.out.2.2.2.2 hbc.size)))))
    clear hbc HP6 HA6 c0
    have c0 := HP7.out.1.cell 0
    simp at c0
    go_wp2_with fail
    -- Where
    refine (where_ex g 3 w6 HP7.out.2.2.2 HP7.out.2.1).mono ?_
    rintro e w7 ⟨gw, cap7, rfl, hgw, hR, hbc⟩
    have HE8 := Lib.hid (below_then HP7.out.2.2.1 hbc)
    have HA8 := Lib.hid (And.intro (blkOn HA7.out.1 hbc) (And.intro (blkOn HA7.out.2.1 hbc) (And.intro (blkOn HA7.out.2.2.1 hbc) (And.intro (HA7.out.2.2.2.1.below hbc HA7.out.2.2.2.2) (Nat.lt_of_lt_of_le HA7.out.2.2.2.2 hbc.size)))))
    have HR := Lib.hid (And.intro hR hgw)
    clear hbc HP7 HA7 hR hgw c0
    have a0 := HA8.out.1.cell 0
    have a1 := HA8.out.1.cell 1
    have b0 := HA8.out.2.1.cell 0
    have b1 := HA8.out.2.1.cell 1
    have p0 := HA8.out.2.2.1.cell 0
    simp at a0 a1 b0 b1 p0
    go_wp2_with fail
    -- Same
    have eW := below_alloc1 w7 (.cells #[.int .i64 5, .int .i64 3, .int .i64 6, .int .i64 10, .int .i64 6, .int .i64 11, .int .i64 20, .int .i64 11, .int .i64 16] 87)
    have bS := Blk.new w7 87 #[.int .i64 5, .int .i64 3, .int .i64 6, .int .i64 10, .int .i64 6, .int .i64 11, .int .i64 20, .int .i64 11, .int .i64 16]
    have hQ : PtsAt (w7.alloc (.cells #[.int .i64 5, .int .i64 3, .int .i64 6, .int .i64 10, .int .i64 6, .int .i64 11, .int .i64 20, .int .i64 11, .int .i64 16] 87)) w7.heap.size 0 sumS := by
      intro k p hp
      rcases k with _ | _ | _ | k
      · simp [sumS] at hp; subst hp
        exact ⟨bS.cell 0, bS.cell 1, bS.cell 2⟩
      · simp [sumS] at hp; subst hp
        exact ⟨bS.cell 3, bS.cell 4, bS.cell 5⟩
      · simp [sumS] at hp; subst hp
        exact ⟨bS.cell 6, bS.cell 7, bS.cell 8⟩
      · simp [sumS] at hp
    have HR9 := Lib.hid (And.intro (HR.out.1.below eW HR.out.2) (Nat.lt_of_lt_of_le HR.out.2 eW.size))
    have HE9 := Lib.hid (below_then HE8.out eW)
    refine (same_yes gp 0 w7.heap.size 0 3 cap 3 sumS _ rfl (by decide) (Nat.lt_of_lt_of_le HA8.out.2.2.2.2 eW.size) bS.lt (HA8.out.2.2.2.1.below eW HA8.out.2.2.2.2) hQ).mono ?_
    rintro e w8 ⟨rfl, hbc⟩
    have HR10 := Lib.hid (And.intro (HR9.out.1.below hbc HR9.out.2) (Nat.lt_of_lt_of_le HR9.out.2 hbc.size))
    have HE10 := Lib.hid (below_then HE9.out hbc)
    clear eW bS hQ HR9 HE9 hbc HA8 a0 a1 b0 b1 p0 HR HE8
    go_wp2_with fail
    -- SameRanges
    have eW := below_alloc1 w8 (.cells #[.int .i64 7, .int .i64 13] 23)
    have bS := Blk.new w8 23 #[.int .i64 7, .int .i64 13]
    have hQ : RunsMem (w8.alloc (.cells #[.int .i64 7, .int .i64 13] 23)) w8.heap.size 0 [(7, 13)] := by
      intro k p hp
      cases k with
      | zero => simp at hp; subst hp; exact ⟨bS.cell 0, bS.cell 1⟩
      | succ k => simp at hp
    have HE11 := Lib.hid (below_then HE10.out eW)
    refine (sameRanges_yes gw 0 w8.heap.size 0 1 cap7 1 [(7, 13)] _ rfl (by decide) (Nat.lt_of_lt_of_le HR10.out.2 eW.size) bS.lt (HR10.out.1.below eW HR10.out.2) hQ).mono ?_
    rintro e w9 ⟨rfl, hbc⟩
    have HE12 := Lib.hid (below_then HE11.out hbc)
    clear eW bS hQ hbc
    go_wp2
    go_ret
    exact ⟨rfl, HE12.out⟩
end Go.Proofs.Ytmenlaefekkahaa
