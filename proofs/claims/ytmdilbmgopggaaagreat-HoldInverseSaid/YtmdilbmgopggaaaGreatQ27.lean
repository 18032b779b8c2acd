/- The contracts of the functions that a meaning has (hold). Their conditions: the hold's tables lie in memory; where places are asked for, its volume is a valid table. -/
import Derived.Test.YtmdilbmgopggaaaGreatQ25
import Derived.Test.YtmdilbmgopggaaaGreatQ26
import Derived.Test.YtmdilbmgopggaaaGreatQ16
import Derived.Test.YtmdilbmgopggaaaGreatQ13
import Derived.Test.YtmdilbmgopggaaaGreatQ17
import Derived.Test.YtmdilbmgopggaaaGreatQ24
set_option linter.unusedVariables false
set_option linter.unusedSimpArgs false
set_option linter.constructorNameAsVariable false
namespace Go.Proofs.YtmdilbmgopggaaaGreat

section
open Go.RowKit Go.Shelf

/-- A row of runs in memory, or nothing. -/
def RunsP (w : World) (A : Option Addr) (L : List (Int × Int)) : Prop := L = [] ∨ ∃ b o, A = some ⟨b, o, none⟩ ∧ b < w.heap.size ∧ RunsMem w b o L
theorem RunsP.below {w w' : World} {A : Option Addr} {L : List (Int × Int)} (h : RunsP w A L) (hB : Below w.heap.size w w') : RunsP w' A L := by
  rcases h with h | ⟨b, o, h1, h2, h3⟩
  · exact .inl h
  · exact .inr ⟨b, o, h1, Nat.lt_of_lt_of_le h2 hB.size, h3.below hB h2⟩
theorem runCells_at : ∀ (L : List (Int × Int)) (k : Nat) (r : Int × Int), L[k]? = some r → (runCells L)[k * 2]? = some (.int .i64 r.1) ∧ (runCells L)[k * 2 + 1]? = some (.int .i64 r.2)
  | [], k, r, h => by simp at h
  | z :: L, 0, r, h => by simp at h; subst h; simp [runCells]
  | z :: L, k + 1, r, h => by
    have := runCells_at L k r (by simpa using h)
    have e : runCells (z :: L) = [Value.int .i64 z.1, .int .i64 z.2] ++ runCells L := by simp [runCells]
    rw [e, List.getElem?_append_right (by simp; omega), List.getElem?_append_right (by simp; omega)]
    rw [show (k + 1) * 2 - [Value.int .i64 z.1, .int .i64 z.2].length = k * 2 by simp; omega, show (k + 1) * 2 + 1 - [Value.int .i64 z.1, .int .i64 z.2].length = k * 2 + 1 by simp; omega]
    exact this
theorem OwnRuns.runsP {base : Nat} {w : World} {v : Value} {L : List (Int × Int)} (ho : OwnRuns base w v L) : ∃ A c, v = .slice A L.length c ∧ RunsP w A L := by
  have ho' : w.ownsRow base 23 2 v L.length (runCells L) := ho
  rcases Nat.lt_or_ge 0 L.length with hl | hl
  · obtain ⟨g, cap, rfl, _, h2⟩ := ho'.form hl
    refine ⟨_, _, rfl, .inr ⟨g, 0, rfl, h2, fun k p hp => ?_⟩⟩
    have hk := (List.getElem?_eq_some_iff.1 hp).1
    obtain ⟨a, b⟩ := runCells_at L k p hp
    have c0 := (ho'.cellAt (k * 2) (by omega)).trans a
    have c1 := (ho'.cellAt (k * 2 + 1) (by omega)).trans b
    rw [Nat.zero_add]
    exact ⟨c0, c1⟩
  · obtain rfl : L = [] := List.eq_nil_of_length_eq_zero (by omega)
    rcases ho'.2 with ⟨h, _⟩ | ⟨g, cap, _, h, _⟩
    · exact ⟨_, _, h, .inl rfl⟩
    · exact ⟨_, _, h, .inl rfl⟩
/-- Runs are handed back, with no error. -/
def GivesRow2 (w : World) (L : List (Int × Int)) (e : Ending) (w' : World) : Prop := ∃ A c, e = .returned (.tuple #[.slice A L.length c, .int .i64 0]) ∧ RunsP w' A L ∧ Below w.heap.size w w'
theorem givesRow2_of {w w' : World} {L : List (Int × Int)} {e : Ending} (h : GivesRunsOk w L e w') : GivesRow2 w L e w' := by
  obtain ⟨v, rfl, ho, hb⟩ := h
  obtain ⟨A, c, rfl, hp⟩ := ho.runsP
  exact ⟨A, c, rfl, hp, hb⟩
end

section
open Go.RowKit Go.Shelf

/-- the error of a range of places -/
def overE (ps : List P3) (a b : Int) : Int := if tabOk ps = true then (if vR a b = true then placesS ps a b else 10) else 11
def overS (ps : List P3) (a b : Int) : Int × Int × Int := if overE ps a b = 0 then ((overGood ps a b).1, (overGood ps a b).2.1, 0) else (0, 0, overE ps a b)
theorem placesS_cases (ps : List P3) (a b : Int) (ht : tabOk ps = true) : placesS ps a b = 0 ∨ placesS ps a b = 4 := by
  unfold placesS; rw [if_pos ht]; split
  · exact .inl rfl
  · exact .inr rfl

set_option maxRecDepth 100000 in
set_option maxHeartbeats 4000000 in
theorem over_bad (A : Option Addr) (n c : Nat) (ps : List P3) (x y : Int) (w : World) (hn : n = ps.length) (hm : n ≤ maxLen) (hp : Pts w A ps) (h0 : overE ps x y ≠ 0) :
    Calls Tryz.prog 157 #[tv A n c, rv x y] w fun e w' => e = .returned (.tuple #[rv 0 0, .int .i64 (overE ps x y)]) ∧ Below w.heap.size w w' := by
  have hE : Below w.heap.size w (((w.alloc (.cells #[.slice A n c] 26)).alloc (.cells #[.int .i64 x, .int .i64 y] 23)).alloc (.cells #[.int .i64 0, .int .i64 0] 23)) := below_a3 (Below.refl _ _)
  have hK : Boxes (((w.alloc (.cells #[.slice A n c] 26)).alloc (.cells #[.int .i64 x, .int .i64 y] 23)).alloc (.cells #[.int .i64 0, .int .i64 0] 23)) [(w.heap.size + 1 + 1, 23, #[.int .i64 0, .int .i64 0]), (w.heap.size + 1, 23, #[.int .i64 x, .int .i64 y]), (w.heap.size, 26, #[.slice A n c])] := by
    have h1 : Boxes (w.alloc (.cells #[.slice A n c] 26)) [(w.heap.size, 26, #[.slice A n c])] := fun p hp => by
      have := List.mem_singleton.1 hp; subst this; exact Blk.new w _ _
    have h2 := (h1.new 23 #[.int .i64 x, .int .i64 y]).new 23 #[.int .i64 0, .int .i64 0]
    simp only [World.size_alloc] at h2
    exact h2
  have HP := Lib.hid (hp.below hE); have HE := Lib.hid hE; have HK := Lib.hid hK; have HN := Lib.hid hn
  clear hE hK hp hn
  by_cases ht : tabOk ps = true
  · have CT : Hid (∀ W, Pts W A ps → Calls Tryz.prog 169 #[tv A n c] W fun e w' => e = .returned (.int .i64 0) ∧ Below W.heap.size W w') := Lib.hid fun W hW => checkTable_to A n c ps true 0 W HN.out hm hW ht rfl
    by_cases hr : vR x y = true
    · have he : overE ps x y = 4 := by
        unfold overE at h0 ⊢
        rw [if_pos ht, if_pos hr] at h0 ⊢
        exact (placesS_cases ps x y ht).resolve_left h0
      have hpl : placesS ps x y = 4 := by unfold overE at he; rw [if_pos ht, if_pos hr] at he; exact he
      rw [he]
      have HPL := Lib.hid hpl; have HR := Lib.hid hr
      clear ht hr h0 he hpl
      go_enter Tryz.func157, Tryz.ntmps157
      go_wp2_with fail
      obtain ⟨W0, hW0⟩ : ∃ W0, ((w.alloc (.cells #[.slice A n c] 26)).alloc (.cells #[.int .i64 x, .int .i64 y] 23)).alloc (.cells #[.int .i64 0, .int .i64 0] 23) = W0 := ⟨_, rfl⟩
      rw [hW0] at HE HK HP ⊢
      clear hW0
      refine (CT.out _ HP.out).mono ?_
      rintro e w1 ⟨rfl, hb1⟩
      have HK1 := Lib.hid (HK.out.on hb1); have HE1 := Lib.hid (below_then HE.out hb1); have HP1 := Lib.hid (HP.out.below hb1)
      clear hb1 HK HE HP
      have q0 := (HK1.out _ (.tail _ (.head _))).cell 0
      have q1 := (HK1.out _ (.tail _ (.head _))).cell 1
      simp at q0 q1
      go_wp2_with fail
      refine (checkRange_ok x y _ HR.out).mono ?_
      rintro e w2 ⟨rfl, hb1⟩
      have HK2 := Lib.hid (HK1.out.on hb1); have HE2 := Lib.hid (below_then HE1.out hb1); have HP2 := Lib.hid (HP1.out.below hb1)
      clear hb1 HK1 HE1 HP1 q0 q1
      have q0 := (HK2.out _ (.tail _ (.head _))).cell 0
      have q1 := (HK2.out _ (.tail _ (.head _))).cell 1
      have q2 := (HK2.out _ (.tail _ (.tail _ (.head _)))).cell 0
      simp at q0 q1 q2
      go_wp2_with fail
      refine (checkPlaces_to _ n c ps x y 4 _ HN.out hm HP2.out HPL.out).mono ?_
      rintro e w3 ⟨rfl, hb1⟩
      have hO := (HK2.out.on hb1) _ (.head _)
      have HE3 := Lib.hid (below_then HE2.out hb1)
      have r0 := hO.cell 0
      have r1 := hO.cell 1
      have f0 := hO.frozen 0
      have f1 := hO.frozen 1
      have lT := hO.lt
      simp at r0 r1
      clear hb1 q0 q1 q2 hO
      go_wp2
      refine bodyPost_ret (v := .tuple #[rv 0 0, .int .i64 4]) (by simp [results, Tryz.results157, go_sem, r0, r1, lT]) rfl ⟨rfl, ?_⟩
      exact (HE3.out.setCell (p := ⟨w.heap.size + 1 + 1, 0, none⟩) (by simp; omega) _).setCell (p := ⟨w.heap.size + 1 + 1, 1, none⟩) (by simp; omega) _
    · have hr' : vR x y = false := by simpa using hr
      have he : overE ps x y = 10 := by unfold overE; rw [if_pos ht, if_neg hr]
      rw [he]
      have HR := Lib.hid hr'
      clear ht hr hr' h0 he
      go_enter Tryz.func157, Tryz.ntmps157
      go_wp2_with fail
      obtain ⟨W0, hW0⟩ : ∃ W0, ((w.alloc (.cells #[.slice A n c] 26)).alloc (.cells #[.int .i64 x, .int .i64 y] 23)).alloc (.cells #[.int .i64 0, .int .i64 0] 23) = W0 := ⟨_, rfl⟩
      rw [hW0] at HE HK HP ⊢
      clear hW0
      refine (CT.out _ HP.out).mono ?_
      rintro e w1 ⟨rfl, hb1⟩
      have HK1 := Lib.hid (HK.out.on hb1); have HE1 := Lib.hid (below_then HE.out hb1)
      clear hb1 HK HE HP
      have q0 := (HK1.out _ (.tail _ (.head _))).cell 0
      have q1 := (HK1.out _ (.tail _ (.head _))).cell 1
      simp at q0 q1
      go_wp2_with fail
      refine (checkRange_bad x y _ HR.out).mono ?_
      rintro e w3 ⟨rfl, hb1⟩
      have hO := (HK1.out.on hb1) _ (.head _)
      have HE3 := Lib.hid (below_then HE1.out hb1)
      have r0 := hO.cell 0
      have r1 := hO.cell 1
      have f0 := hO.frozen 0
      have f1 := hO.frozen 1
      have lT := hO.lt
      simp at r0 r1
      clear hb1 q0 q1 hO
      go_wp2
      refine bodyPost_ret (v := .tuple #[rv 0 0, .int .i64 10]) (by simp [results, Tryz.results157, go_sem, r0, r1, lT]) rfl ⟨rfl, ?_⟩
      exact (HE3.out.setCell (p := ⟨w.heap.size + 1 + 1, 0, none⟩) (by simp; omega) _).setCell (p := ⟨w.heap.size + 1 + 1, 1, none⟩) (by simp; omega) _
  · have ht' : tabOk ps = false := by simpa using ht
    have CT : Hid (∀ W, Pts W A ps → Calls Tryz.prog 169 #[tv A n c] W fun e w' => e = .returned (.int .i64 11) ∧ Below W.heap.size W w') := Lib.hid fun W hW => checkTable_to A n c ps false 11 W HN.out hm hW ht' rfl
    have he : overE ps x y = 11 := by unfold overE; rw [if_neg ht]
    rw [he]
    clear ht ht' h0 he
    go_enter Tryz.func157, Tryz.ntmps157
    go_wp2_with fail
    obtain ⟨W0, hW0⟩ : ∃ W0, ((w.alloc (.cells #[.slice A n c] 26)).alloc (.cells #[.int .i64 x, .int .i64 y] 23)).alloc (.cells #[.int .i64 0, .int .i64 0] 23) = W0 := ⟨_, rfl⟩
    rw [hW0] at HE HK HP ⊢
    clear hW0
    refine (CT.out _ HP.out).mono ?_
    rintro e w3 ⟨rfl, hb1⟩
    have hO := (HK.out.on hb1) _ (.head _)
    have HE3 := Lib.hid (below_then HE.out hb1)
    have r0 := hO.cell 0
    have r1 := hO.cell 1
    have f0 := hO.frozen 0
    have f1 := hO.frozen 1
    have lT := hO.lt
    simp at r0 r1
    clear hb1 hO HK HE HP
    go_wp2
    refine bodyPost_ret (v := .tuple #[rv 0 0, .int .i64 11]) (by simp [results, Tryz.results157, go_sem, r0, r1, lT]) rfl ⟨rfl, ?_⟩
    exact (HE3.out.setCell (p := ⟨w.heap.size + 1 + 1, 0, none⟩) (by simp; omega) _).setCell (p := ⟨w.heap.size + 1 + 1, 1, none⟩) (by simp; omega) _

theorem over_all (A : Option Addr) (n c : Nat) (ps : List P3) (x y : Int) (w : World) (hn : n = ps.length) (hm : n ≤ maxLen) (hp : Pts w A ps) :
    Calls Tryz.prog 157 #[tv A n c, rv x y] w fun e w' => e = .returned (rt (overS ps x y)) ∧ Below w.heap.size w w' := by
  by_cases h0 : overE ps x y = 0
  · have ht : tabOk ps = true := by
      cases h : tabOk ps
      · unfold overE at h0; rw [h] at h0; simp at h0
      · rfl
    have hr : vR x y = true := by
      cases h : vR x y
      · unfold overE at h0; rw [if_pos ht, h] at h0; simp at h0
      · rfl
    have hpl : placesS ps x y = 0 := by unfold overE at h0; rw [if_pos ht, if_pos hr] at h0; exact h0
    have h1 := (tabOk_len ht).1
    obtain ⟨b, o, rfl, hb, hc⟩ := hp.block h1
    unfold overS
    rw [if_pos h0]
    exact over_good b o n c ps x y w hn (by omega) hb ht hr hpl hc
  · unfold overS
    rw [if_neg h0]
    exact over_bad A n c ps x y w hn hm hp h0

/-- runs and an error are handed back -/
def RunsE (w : World) (L : List (Int × Int)) (E : Int) (e : Ending) (w' : World) : Prop := ∃ A c, e = .returned (.tuple #[.slice A L.length c, .int .i64 E]) ∧ RunsP w' A L ∧ Below w.heap.size w w'
theorem runsE_of {w w' : World} {L : List (Int × Int)} {e : Ending} (h : GivesRunsOk w L e w') : RunsE w L 0 e w' := givesRow2_of h
theorem runsE_nil {w w' : World} {E : Int} {e : Ending} (h : e = .returned (.tuple #[.slice none 0 0, .int .i64 E]) ∧ Below w.heap.size w w') : RunsE w [] E e w' := ⟨none, 0, h.1, .inl rfl, h.2⟩
/-- the pieces of a table -/
noncomputable def prs (ps : List P3) : List Pr := if h : tabOk ps = true then (rise_list h).choose else []
theorem prs_pcs {ps : List P3} (h : tabOk ps = true) : (prs ps).map (·.1) = pcs ps := by
  unfold prs; rw [dif_pos h]; exact (rise_list h).choose_spec
def whereE (ps : List P3) (a b : Int) : Int := if tabOk ps = true then (if vR a b = true then 0 else 10) else 11
set_option maxRecDepth 100000 in
set_option maxHeartbeats 2000000 in
theorem where_bad (A : Option Addr) (n c : Nat) (ps : List P3) (x y : Int) (w : World) (hn : n = ps.length) (hm : n ≤ maxLen) (hp : Pts w A ps) (h0 : whereE ps x y ≠ 0) :
    Calls Tryz.prog 129 #[tv A n c, rv x y] w fun e w' => e = .returned (.tuple #[.slice none 0 0, .int .i64 (whereE ps x y)]) ∧ Below w.heap.size w w' := by
  have hE : Below w.heap.size w ((w.alloc (.cells #[.slice A n c] 26)).alloc (.cells #[.int .i64 x, .int .i64 y] 23)) := below_a2 (Below.refl _ _)
  have hK := (Blk.new (w.alloc (.cells #[.slice A n c] 26)) 23 #[.int .i64 x, .int .i64 y])
  simp only [World.size_alloc] at hK
  have HP := Lib.hid (hp.below hE); have HE := Lib.hid hE; have HK := Lib.hid hK; have HN := Lib.hid hn
  clear hE hK hp hn
  by_cases ht : tabOk ps = true
  · have CT : Hid (∀ W, Pts W A ps → Calls Tryz.prog 169 #[tv A n c] W fun e w' => e = .returned (.int .i64 0) ∧ Below W.heap.size W w') := Lib.hid fun W hW => checkTable_to A n c ps true 0 W HN.out hm hW ht rfl
    have hr : ¬ vR x y = true := fun hr => h0 (by unfold whereE; rw [if_pos ht, if_pos hr])
    have hr' : vR x y = false := by simpa using hr
    have he : whereE ps x y = 10 := by unfold whereE; rw [if_pos ht, if_neg hr]
    rw [he]
    have HR := Lib.hid hr'
    clear ht hr hr' h0 he
    go_enter Tryz.func129, Tryz.ntmps129
    go_wp2_with fail
    obtain ⟨W0, hW0⟩ : ∃ W0, (w.alloc (.cells #[.slice A n c] 26)).alloc (.cells #[.int .i64 x, .int .i64 y] 23) = W0 := ⟨_, rfl⟩
    rw [hW0] at HE HK HP ⊢
    clear hW0
    refine (CT.out _ HP.out).mono ?_
    rintro e w1 ⟨rfl, hb1⟩
    have HK1 := Lib.hid (blkOn HK.out hb1); have HE1 := Lib.hid (below_then HE.out hb1)
    clear hb1 HK HE HP
    have q0 := HK1.out.cell 0
    have q1 := HK1.out.cell 1
    simp at q0 q1
    go_wp2_with fail
    refine (checkRange_bad x y _ HR.out).mono ?_
    rintro e w3 ⟨rfl, hb1⟩
    have HE3 := Lib.hid (below_then HE1.out hb1)
    clear hb1 q0 q1
    go_wp2
    go_ret2
    exact ⟨rfl, HE3.out⟩
  · have ht' : tabOk ps = false := by simpa using ht
    have CT : Hid (∀ W, Pts W A ps → Calls Tryz.prog 169 #[tv A n c] W fun e w' => e = .returned (.int .i64 11) ∧ Below W.heap.size W w') := Lib.hid fun W hW => checkTable_to A n c ps false 11 W HN.out hm hW ht' rfl
    have he : whereE ps x y = 11 := by unfold whereE; rw [if_neg ht]
    rw [he]
    clear ht ht' h0 he
    go_enter Tryz.func129, Tryz.ntmps129
    go_wp2_with fail
    refine (CT.out _ HP.out).mono ?_
    rintro e w3 ⟨rfl, hb1⟩
    have HE3 := Lib.hid (below_then HE.out hb1)
    clear hb1 HK HE HP
    go_wp2
    go_ret2
    exact ⟨rfl, HE3.out⟩
theorem where_all (A : Option Addr) (n c : Nat) (ps : List P3) (x y : Int) (w : World) (hn : n = ps.length) (hm : n ≤ maxLen) (hp : Pts w A ps) :
    Calls Tryz.prog 129 #[tv A n c, rv x y] w (RunsE w (if whereE ps x y = 0 then runsF (whereS x y) (prs ps) else []) (whereE ps x y)) := by
  by_cases h0 : whereE ps x y = 0
  · have ht : tabOk ps = true := by
      cases h : tabOk ps
      · unfold whereE at h0; rw [h] at h0; simp at h0
      · rfl
    have hr : vR x y = true := by
      cases h : vR x y
      · unfold whereE at h0; rw [if_pos ht, h] at h0; simp at h0
      · rfl
    have h1 := (tabOk_len ht).1
    obtain ⟨b, o, rfl, hb, hc⟩ := hp.block h1
    rw [if_pos h0, h0]
    exact (where_good b o n c ps (prs ps) x y w hn (by omega) hb ht hr (prs_pcs ht) hc).mono fun e w' h => runsE_of h
  · rw [if_neg h0]
    exact (where_bad A n c ps x y w hn hm hp h0).mono fun e w' h => runsE_nil h
end

section
open Go.RowKit

set_option maxRecDepth 100000 in
set_option maxHeartbeats 2000000 in
theorem hover_any (A : Option Addr) (n c : Nat) (ps : List P3) (x y : Int) (w : World) (hp : TabIn w A n ps) :
    Calls Tryz.prog 108 #[tv A n c, rv x y] w fun e w' => e = .returned (rv (overS ps x y).1 (overS ps x y).2.1) ∧ Below w.heap.size w w' := by
  have HE := Lib.hid (show Below w.heap.size w (((w.alloc (.cells #[.slice A n c] 26)).alloc (.cells #[.int .i64 x, .int .i64 y] 23)).alloc (.cells #[.int .i64 0, .int .i64 0] 23)) from below_a3 (Below.refl _ _))
  have HK := Lib.hid (boxes3' w 26 23 23 #[.slice A n c] #[.int .i64 x, .int .i64 y] #[.int .i64 0, .int .i64 0])
  have C : Hid (∀ W, Below w.heap.size w W → Calls Tryz.prog 157 #[tv A n c, rv x y] W fun e w' => e = .returned (rt (overS ps x y)) ∧ Below W.heap.size W w') := Lib.hid fun W hW => over_all A n c ps x y W hp.1 hp.2.1 (hp.2.2.below hW)
  clear hp
  generalize overS ps x y = r at *
  obtain ⟨a, b, e⟩ := r
  go_enter Tryz.func108, Tryz.ntmps108
  go_wp2_with fail
  obtain ⟨W0, hW0⟩ : ∃ W0, (((w.alloc (.cells #[.slice A n c] 26)).alloc (.cells #[.int .i64 x, .int .i64 y] 23)).alloc (.cells #[.int .i64 0, .int .i64 0] 23)) = W0 := ⟨_, rfl⟩
  rw [hW0] at HE HK ⊢
  clear hW0
  refine (C.out _ HE.out).mono ?_
  rintro e1 w1 ⟨rfl, hb⟩
  have HE1 := Lib.hid (below_then HE.out hb)
  have HE2 := Lib.hid (below_then HE1.out (below_alloc1 w1 (.cells #[.int .i64 a, .int .i64 b] 23)))
  have HKN := Lib.hid ((HK.out.on hb).new 23 #[.int .i64 a, .int .i64 b])
  have z := HKN.out _ (.tail _ (.head _))
  have z0 := z.cell 0
  have z1 := z.cell 1
  have f0 := z.frozen 0
  have f1 := z.frozen 1
  have l0 := (HK.out.on hb _ (.head _)).lt
  simp at z0 z1 f0 f1 l0
  have hl : w.heap.size + 1 + 1 ≠ w1.heap.size := by omega
  have hl2 : w1.heap.size ≠ w.heap.size + 1 + 1 := by omega
  clear hb HE C z l0 HE1
  go_wp2
  refine bodyPost_ret (v := rv a b) (by simp [results, Tryz.results108, go_sem, z0, z1, hl, hl2]) rfl ⟨rfl, ?_⟩
  repeat (first | exact HE2.out | refine Below.setCell ?_ (by simp <;> omega) _)
end

section
open Go.RowKit

theorem eqRange9 (a b c d : Int) (w : World) : (Op.equalIn 9999 23 (.agg #[.int .i64 a, .int .i64 b]) (.agg #[.int .i64 c, .int .i64 d])).run Tryz.prog w = .ok (a == c && b == d) w := by
  have u3 := Tryz.underlying3
  have hS : Tryz.prog.underlying 23 = some (.struct (Tryz.prog.fieldsOf 23)) := by kernel_rfl
  have hp : Tryz.prog.stoodInHeld 23 = false := by kernel_rfl
  rw [show (9999 : Nat) = 9998 + 1 from rfl, run_equalIn_agg w 9998 23 _ _ hS hp]
  simp only [Program.fieldsOf, Tryz.underlying23]
  go_simp
  by_cases h1 : a = c <;> by_cases h2 : b = d <;> simp [h1, h2]
section
attribute [local go_sem ↓] eqRange9
set_option maxRecDepth 100000 in
set_option maxHeartbeats 4000000 in
theorem eqFill (a b c d e f a' b' c' d' e' f' : Int) (w : World) : (Op.equalIn 10000 30 (.agg #[.int .i64 a, .int .i64 b, .int .i64 c, .int .i64 d, .int .i64 e, .int .i64 f]) (.agg #[.int .i64 a', .int .i64 b', .int .i64 c', .int .i64 d', .int .i64 e', .int .i64 f'])).run Tryz.prog w = .ok ((a == a' && b == b') && ((c == c' && d == d') && (e == e' && f == f'))) w := by
  have u3 := Tryz.underlying3
  have hS : Tryz.prog.underlying 30 = some (.struct (Tryz.prog.fieldsOf 30)) := by kernel_rfl
  have hp : Tryz.prog.stoodInHeld 30 = false := by kernel_rfl
  rw [show (10000 : Nat) = 9999 + 1 from rfl, run_equalIn_agg w 9999 30 _ _ hS hp]
  clear hS hp
  simp only [Program.fieldsOf, Tryz.underlying30]
  go_simp
  by_cases h1 : a = a' <;> by_cases h2 : b = b' <;> by_cases h3 : c = c' <;> by_cases h4 : d = d' <;> by_cases h5 : e = e' <;> by_cases h6 : f = f' <;> simp [h1, h2, h3, h4, h5, h6]
end
@[go_sem] theorem eqGuardFill (op : BinOp) (x y : Operand) (xs ys : Array Value) (w : World) : (eqGuard op 30 x y (.agg xs) (.agg ys)).run Tryz.prog w = .ok () w :=
  run_eqGuard_agg w op 30 x y xs ys (by kernel_rfl)
theorem eqlFill (a b c d e f a' b' c' d' e' f' : Int) (t : Bool) (h : ((a == a' && b == b') && ((c == c' && d == d') && (e == e' && f == f'))) = t) (w : World) : (binOp .eql 30 (.agg #[.int .i64 a, .int .i64 b, .int .i64 c, .int .i64 d, .int .i64 e, .int .i64 f]) (.agg #[.int .i64 a', .int .i64 b', .int .i64 c', .int .i64 d', .int .i64 e', .int .i64 f'])).run Tryz.prog w = .ok (.bool t) w := by
  rw [run_eql_struct, eqFill, h]; rfl

set_option maxRecDepth 100000 in
set_option maxHeartbeats 4000000 in
theorem nothing_to (id al ah t0 t1 u0 u1 v0 v1 h0 h1 : Int) (A B C : Option Addr) (n c mm d l ee : Nat) (fh st x0 x1 d0 d1 : Int) (w : World) :
    Calls Tryz.prog 194 #[.agg #[.int .i64 id, .int .i64 al, .int .i64 ah, .slice A n c, .slice B mm d, .slice C l ee, .int .i64 t0, .int .i64 t1, .int .i64 u0, .int .i64 u1, .int .i64 v0, .int .i64 v1, .int .i64 h0, .int .i64 h1], .agg #[.int .i64 fh, .int .i64 st, .int .i64 x0, .int .i64 x1, .int .i64 d0, .int .i64 d1]] w fun e w' => e = .returned (rv 0 0) ∧ Below w.heap.size w w' := by
  go_enter Tryz.func194, Tryz.ntmps194
  go_wp2
  refine bodyPost_ret (v := rv 0 0) (by simp [results, Tryz.results194, go_sem]) rfl ⟨rfl, ?_⟩
  repeat (first | exact Below.refl _ _ | refine Below.setCell ?_ (by simp) _ | refine Below.alloc ?_ (by simp <;> omega) _)

set_option maxRecDepth 100000 in
set_option maxHeartbeats 4000000 in
theorem meanTrim_to (id al ah t0 t1 u0 u1 v0 v1 h0 h1 : Int) (A B C : Option Addr) (n c mm d l ee : Nat) (fh st x0 x1 d0 d1 : Int) (w : World) :
    Calls Tryz.prog 151 #[.agg #[.int .i64 id, .int .i64 al, .int .i64 ah, .slice A n c, .slice B mm d, .slice C l ee, .int .i64 t0, .int .i64 t1, .int .i64 u0, .int .i64 u1, .int .i64 v0, .int .i64 v1, .int .i64 h0, .int .i64 h1], .agg #[.int .i64 fh, .int .i64 st, .int .i64 x0, .int .i64 x1, .int .i64 d0, .int .i64 d1]] w fun e w' => e = .returned (rv t0 t1) ∧ Below w.heap.size w w' := by
  go_enter Tryz.func151, Tryz.ntmps151
  go_wp2
  refine bodyPost_ret (v := rv t0 t1) (by simp [results, Tryz.results151, go_sem]) rfl ⟨rfl, ?_⟩
  repeat (first | exact Below.refl _ _ | refine Below.setCell ?_ (by simp) _ | refine Below.alloc ?_ (by simp <;> omega) _)

set_option maxRecDepth 100000 in
set_option maxHeartbeats 4000000 in
theorem meanUntr_to (id al ah t0 t1 u0 u1 v0 v1 h0 h1 : Int) (A B C : Option Addr) (n c mm d l ee : Nat) (fh st x0 x1 d0 d1 : Int) (w : World) :
    Calls Tryz.prog 152 #[.agg #[.int .i64 id, .int .i64 al, .int .i64 ah, .slice A n c, .slice B mm d, .slice C l ee, .int .i64 t0, .int .i64 t1, .int .i64 u0, .int .i64 u1, .int .i64 v0, .int .i64 v1, .int .i64 h0, .int .i64 h1], .agg #[.int .i64 fh, .int .i64 st, .int .i64 x0, .int .i64 x1, .int .i64 d0, .int .i64 d1]] w fun e w' => e = .returned (rv u0 u1) ∧ Below w.heap.size w w' := by
  go_enter Tryz.func152, Tryz.ntmps152
  go_wp2
  refine bodyPost_ret (v := rv u0 u1) (by simp [results, Tryz.results152, go_sem]) rfl ⟨rfl, ?_⟩
  repeat (first | exact Below.refl _ _ | refine Below.setCell ?_ (by simp) _ | refine Below.alloc ?_ (by simp <;> omega) _)

set_option maxRecDepth 100000 in
set_option maxHeartbeats 4000000 in
theorem filledVol_to (id al ah t0 t1 u0 u1 v0 v1 h0 h1 : Int) (A B C : Option Addr) (n c mm d l ee : Nat) (fh st x0 x1 d0 d1 : Int) (w : World) :
    Calls Tryz.prog 197 #[.agg #[.int .i64 id, .int .i64 al, .int .i64 ah, .slice A n c, .slice B mm d, .slice C l ee, .int .i64 t0, .int .i64 t1, .int .i64 u0, .int .i64 u1, .int .i64 v0, .int .i64 v1, .int .i64 h0, .int .i64 h1], .agg #[.int .i64 fh, .int .i64 st, .int .i64 x0, .int .i64 x1, .int .i64 d0, .int .i64 d1]] w fun e w' => e = .returned (rv v0 v1) ∧ Below w.heap.size w w' := by
  go_enter Tryz.func197, Tryz.ntmps197
  go_wp2
  refine bodyPost_ret (v := rv v0 v1) (by simp [results, Tryz.results197, go_sem]) rfl ⟨rfl, ?_⟩
  repeat (first | exact Below.refl _ _ | refine Below.setCell ?_ (by simp) _ | refine Below.alloc ?_ (by simp <;> omega) _)

set_option maxRecDepth 100000 in
set_option maxHeartbeats 4000000 in
theorem filledHei_to (id al ah t0 t1 u0 u1 v0 v1 h0 h1 : Int) (A B C : Option Addr) (n c mm d l ee : Nat) (fh st x0 x1 d0 d1 : Int) (w : World) :
    Calls Tryz.prog 198 #[.agg #[.int .i64 id, .int .i64 al, .int .i64 ah, .slice A n c, .slice B mm d, .slice C l ee, .int .i64 t0, .int .i64 t1, .int .i64 u0, .int .i64 u1, .int .i64 v0, .int .i64 v1, .int .i64 h0, .int .i64 h1], .agg #[.int .i64 fh, .int .i64 st, .int .i64 x0, .int .i64 x1, .int .i64 d0, .int .i64 d1]] w fun e w' => e = .returned (rv h0 h1) ∧ Below w.heap.size w w' := by
  go_enter Tryz.func198, Tryz.ntmps198
  go_wp2
  refine bodyPost_ret (v := rv h0 h1) (by simp [results, Tryz.results198, go_sem]) rfl ⟨rfl, ?_⟩
  repeat (first | exact Below.refl _ _ | refine Below.setCell ?_ (by simp) _ | refine Below.alloc ?_ (by simp <;> omega) _)

set_option maxRecDepth 100000 in
set_option maxHeartbeats 4000000 in
theorem partlySur_to (id al ah t0 t1 u0 u1 v0 v1 h0 h1 : Int) (A B C : Option Addr) (n c mm d l ee : Nat) (fh st x0 x1 d0 d1 : Int) (w : World) :
    Calls Tryz.prog 203 #[.agg #[.int .i64 id, .int .i64 al, .int .i64 ah, .slice A n c, .slice B mm d, .slice C l ee, .int .i64 t0, .int .i64 t1, .int .i64 u0, .int .i64 u1, .int .i64 v0, .int .i64 v1, .int .i64 h0, .int .i64 h1], .agg #[.int .i64 fh, .int .i64 st, .int .i64 x0, .int .i64 x1, .int .i64 d0, .int .i64 d1]] w fun e w' => e = .returned (rv x0 x1) ∧ Below w.heap.size w w' := by
  go_enter Tryz.func203, Tryz.ntmps203
  go_wp2
  refine bodyPost_ret (v := rv x0 x1) (by simp [results, Tryz.results203, go_sem]) rfl ⟨rfl, ?_⟩
  repeat (first | exact Below.refl _ _ | refine Below.setCell ?_ (by simp) _ | refine Below.alloc ?_ (by simp <;> omega) _)

set_option maxRecDepth 100000 in
set_option maxHeartbeats 4000000 in
theorem partlyVol_to (ps : List P3) (id al ah t0 t1 u0 u1 v0 v1 h0 h1 : Int) (A B C : Option Addr) (n c mm d l ee : Nat) (fh st x0 x1 d0 d1 : Int) (w : World) (hp : TabIn w A n ps) :
    Calls Tryz.prog 201 #[.agg #[.int .i64 id, .int .i64 al, .int .i64 ah, .slice A n c, .slice B mm d, .slice C l ee, .int .i64 t0, .int .i64 t1, .int .i64 u0, .int .i64 u1, .int .i64 v0, .int .i64 v1, .int .i64 h0, .int .i64 h1], .agg #[.int .i64 fh, .int .i64 st, .int .i64 x0, .int .i64 x1, .int .i64 d0, .int .i64 d1]] w fun e w' => e = .returned (rv (overS ps x0 x1).1 (overS ps x0 x1).2.1) ∧ Below w.heap.size w w' := by
  have HE := Lib.hid (show Below w.heap.size w (((w.alloc (.cells #[.int .i64 id, .int .i64 al, .int .i64 ah, .slice A n c, .slice B mm d, .slice C l ee, .int .i64 t0, .int .i64 t1, .int .i64 u0, .int .i64 u1, .int .i64 v0, .int .i64 v1, .int .i64 h0, .int .i64 h1] 28)).alloc (.cells #[.int .i64 fh, .int .i64 st, .int .i64 x0, .int .i64 x1, .int .i64 d0, .int .i64 d1] 30)).alloc (.cells #[.int .i64 0, .int .i64 0] 23)) from below_a3 (Below.refl _ _))
  have HK := Lib.hid (boxes3' w 28 30 23 #[.int .i64 id, .int .i64 al, .int .i64 ah, .slice A n c, .slice B mm d, .slice C l ee, .int .i64 t0, .int .i64 t1, .int .i64 u0, .int .i64 u1, .int .i64 v0, .int .i64 v1, .int .i64 h0, .int .i64 h1] #[.int .i64 fh, .int .i64 st, .int .i64 x0, .int .i64 x1, .int .i64 d0, .int .i64 d1] #[.int .i64 0, .int .i64 0])
  have CC : Hid (∀ W, Below w.heap.size w W → Calls Tryz.prog 108 #[tv A n c, rv x0 x1] W fun e w' => e = .returned (rv (overS ps x0 x1).1 (overS ps x0 x1).2.1) ∧ Below W.heap.size W w') := Lib.hid fun W hW => hover_any A n c ps x0 x1 W (hp.below hW)
  clear hp
  generalize overS ps x0 x1 = r at *
  obtain ⟨ra, rb, re⟩ := r
  go_enter Tryz.func201, Tryz.ntmps201
  go_wp2_with fail
  obtain ⟨W0, hW0⟩ : ∃ W0, (((w.alloc (.cells #[.int .i64 id, .int .i64 al, .int .i64 ah, .slice A n c, .slice B mm d, .slice C l ee, .int .i64 t0, .int .i64 t1, .int .i64 u0, .int .i64 u1, .int .i64 v0, .int .i64 v1, .int .i64 h0, .int .i64 h1] 28)).alloc (.cells #[.int .i64 fh, .int .i64 st, .int .i64 x0, .int .i64 x1, .int .i64 d0, .int .i64 d1] 30)).alloc (.cells #[.int .i64 0, .int .i64 0] 23)) = W0 := ⟨_, rfl⟩
  rw [hW0] at HE HK ⊢
  clear hW0
  obtain ⟨G, hG⟩ : ∃ G, w.heap.size = G := ⟨_, rfl⟩
  rw [hG] at HK ⊢
  have HG := Lib.hid hG; clear hG
  refine (CC.out _ HE.out).mono ?_
  rintro e1 w1 ⟨rfl, hb⟩
  have HE1 := Lib.hid (below_then HE.out hb); have HK1 := Lib.hid (HK.out.on hb)
  clear hb HE HK CC
  have z := HK1.out _ (.head _)
  have z0 := z.cell 0
  have zf0 := z.frozen 0
  have z1 := z.cell 1
  have zf1 := z.frozen 1
  have zl := z.lt
  simp at z0 zf0 z1 zf1
  clear z
  go_wp2
  refine bodyPost_ret (v := rv ra rb) (by simp [results, Tryz.results201, go_sem, z0, z1]) rfl ⟨rfl, ?_⟩
  have hg := HG.out
  repeat (first | exact HE1.out | refine Below.setCell ?_ (by simp <;> omega) _)

set_option maxRecDepth 100000 in
set_option maxHeartbeats 4000000 in
theorem partlyHei_to (ps : List P3) (id al ah t0 t1 u0 u1 v0 v1 h0 h1 : Int) (A B C : Option Addr) (n c mm d l ee : Nat) (fh st x0 x1 d0 d1 : Int) (w : World) (hp : TabIn w C l ps) :
    Calls Tryz.prog 202 #[.agg #[.int .i64 id, .int .i64 al, .int .i64 ah, .slice A n c, .slice B mm d, .slice C l ee, .int .i64 t0, .int .i64 t1, .int .i64 u0, .int .i64 u1, .int .i64 v0, .int .i64 v1, .int .i64 h0, .int .i64 h1], .agg #[.int .i64 fh, .int .i64 st, .int .i64 x0, .int .i64 x1, .int .i64 d0, .int .i64 d1]] w fun e w' => e = .returned (rv (overS ps x0 x1).1 (overS ps x0 x1).2.1) ∧ Below w.heap.size w w' := by
  have HE := Lib.hid (show Below w.heap.size w (((w.alloc (.cells #[.int .i64 id, .int .i64 al, .int .i64 ah, .slice A n c, .slice B mm d, .slice C l ee, .int .i64 t0, .int .i64 t1, .int .i64 u0, .int .i64 u1, .int .i64 v0, .int .i64 v1, .int .i64 h0, .int .i64 h1] 28)).alloc (.cells #[.int .i64 fh, .int .i64 st, .int .i64 x0, .int .i64 x1, .int .i64 d0, .int .i64 d1] 30)).alloc (.cells #[.int .i64 0, .int .i64 0] 23)) from below_a3 (Below.refl _ _))
  have HK := Lib.hid (boxes3' w 28 30 23 #[.int .i64 id, .int .i64 al, .int .i64 ah, .slice A n c, .slice B mm d, .slice C l ee, .int .i64 t0, .int .i64 t1, .int .i64 u0, .int .i64 u1, .int .i64 v0, .int .i64 v1, .int .i64 h0, .int .i64 h1] #[.int .i64 fh, .int .i64 st, .int .i64 x0, .int .i64 x1, .int .i64 d0, .int .i64 d1] #[.int .i64 0, .int .i64 0])
  have CC : Hid (∀ W, Below w.heap.size w W → Calls Tryz.prog 108 #[tv C l ee, rv x0 x1] W fun e w' => e = .returned (rv (overS ps x0 x1).1 (overS ps x0 x1).2.1) ∧ Below W.heap.size W w') := Lib.hid fun W hW => hover_any C l ee ps x0 x1 W (hp.below hW)
  clear hp
  generalize overS ps x0 x1 = r at *
  obtain ⟨ra, rb, re⟩ := r
  go_enter Tryz.func202, Tryz.ntmps202
  go_wp2_with fail
  obtain ⟨W0, hW0⟩ : ∃ W0, (((w.alloc (.cells #[.int .i64 id, .int .i64 al, .int .i64 ah, .slice A n c, .slice B mm d, .slice C l ee, .int .i64 t0, .int .i64 t1, .int .i64 u0, .int .i64 u1, .int .i64 v0, .int .i64 v1, .int .i64 h0, .int .i64 h1] 28)).alloc (.cells #[.int .i64 fh, .int .i64 st, .int .i64 x0, .int .i64 x1, .int .i64 d0, .int .i64 d1] 30)).alloc (.cells #[.int .i64 0, .int .i64 0] 23)) = W0 := ⟨_, rfl⟩
  rw [hW0] at HE HK ⊢
  clear hW0
  obtain ⟨G, hG⟩ : ∃ G, w.heap.size = G := ⟨_, rfl⟩
  rw [hG] at HK ⊢
  have HG := Lib.hid hG; clear hG
  refine (CC.out _ HE.out).mono ?_
  rintro e1 w1 ⟨rfl, hb⟩
  have HE1 := Lib.hid (below_then HE.out hb); have HK1 := Lib.hid (HK.out.on hb)
  clear hb HE HK CC
  have z := HK1.out _ (.head _)
  have z0 := z.cell 0
  have zf0 := z.frozen 0
  have z1 := z.cell 1
  have zf1 := z.frozen 1
  have zl := z.lt
  simp at z0 zf0 z1 zf1
  clear z
  go_wp2
  refine bodyPost_ret (v := rv ra rb) (by simp [results, Tryz.results202, go_sem, z0, z1]) rfl ⟨rfl, ?_⟩
  have hg := HG.out
  repeat (first | exact HE1.out | refine Below.setCell ?_ (by simp <;> omega) _)

set_option maxRecDepth 100000 in
set_option maxHeartbeats 4000000 in
theorem meanMom_to (ps : List P3) (id al ah t0 t1 u0 u1 v0 v1 h0 h1 : Int) (A B C : Option Addr) (n c mm d l ee : Nat) (fh st x0 x1 d0 d1 : Int) (w : World) (hp : TabIn w B mm ps) :
    Calls Tryz.prog 154 #[.agg #[.int .i64 id, .int .i64 al, .int .i64 ah, .slice A n c, .slice B mm d, .slice C l ee, .int .i64 t0, .int .i64 t1, .int .i64 u0, .int .i64 u1, .int .i64 v0, .int .i64 v1, .int .i64 h0, .int .i64 h1], .agg #[.int .i64 fh, .int .i64 st, .int .i64 x0, .int .i64 x1, .int .i64 d0, .int .i64 d1]] w fun e w' => e = .returned (rv (overS ps x0 x1).1 (overS ps x0 x1).2.1) ∧ Below w.heap.size w w' := by
  have HE := Lib.hid (show Below w.heap.size w (((w.alloc (.cells #[.int .i64 id, .int .i64 al, .int .i64 ah, .slice A n c, .slice B mm d, .slice C l ee, .int .i64 t0, .int .i64 t1, .int .i64 u0, .int .i64 u1, .int .i64 v0, .int .i64 v1, .int .i64 h0, .int .i64 h1] 28)).alloc (.cells #[.int .i64 fh, .int .i64 st, .int .i64 x0, .int .i64 x1, .int .i64 d0, .int .i64 d1] 30)).alloc (.cells #[.int .i64 0, .int .i64 0] 23)) from below_a3 (Below.refl _ _))
  have HK := Lib.hid (boxes3' w 28 30 23 #[.int .i64 id, .int .i64 al, .int .i64 ah, .slice A n c, .slice B mm d, .slice C l ee, .int .i64 t0, .int .i64 t1, .int .i64 u0, .int .i64 u1, .int .i64 v0, .int .i64 v1, .int .i64 h0, .int .i64 h1] #[.int .i64 fh, .int .i64 st, .int .i64 x0, .int .i64 x1, .int .i64 d0, .int .i64 d1] #[.int .i64 0, .int .i64 0])
  have CC : Hid (∀ W, Below w.heap.size w W → Calls Tryz.prog 108 #[tv B mm d, rv x0 x1] W fun e w' => e = .returned (rv (overS ps x0 x1).1 (overS ps x0 x1).2.1) ∧ Below W.heap.size W w') := Lib.hid fun W hW => hover_any B mm d ps x0 x1 W (hp.below hW)
  clear hp
  generalize overS ps x0 x1 = r at *
  obtain ⟨ra, rb, re⟩ := r
  go_enter Tryz.func154, Tryz.ntmps154
  go_wp2_with fail
  obtain ⟨W0, hW0⟩ : ∃ W0, (((w.alloc (.cells #[.int .i64 id, .int .i64 al, .int .i64 ah, .slice A n c, .slice B mm d, .slice C l ee, .int .i64 t0, .int .i64 t1, .int .i64 u0, .int .i64 u1, .int .i64 v0, .int .i64 v1, .int .i64 h0, .int .i64 h1] 28)).alloc (.cells #[.int .i64 fh, .int .i64 st, .int .i64 x0, .int .i64 x1, .int .i64 d0, .int .i64 d1] 30)).alloc (.cells #[.int .i64 0, .int .i64 0] 23)) = W0 := ⟨_, rfl⟩
  rw [hW0] at HE HK ⊢
  clear hW0
  obtain ⟨G, hG⟩ : ∃ G, w.heap.size = G := ⟨_, rfl⟩
  rw [hG] at HK ⊢
  have HG := Lib.hid hG; clear hG
  refine (CC.out _ HE.out).mono ?_
  rintro e1 w1 ⟨rfl, hb⟩
  have HE1 := Lib.hid (below_then HE.out hb); have HK1 := Lib.hid (HK.out.on hb)
  clear hb HE HK CC
  have z := HK1.out _ (.head _)
  have z0 := z.cell 0
  have zf0 := z.frozen 0
  have z1 := z.cell 1
  have zf1 := z.frozen 1
  have zl := z.lt
  simp at z0 zf0 z1 zf1
  clear z
  go_wp2
  refine bodyPost_ret (v := rv ra rb) (by simp [results, Tryz.results154, go_sem, z0, z1]) rfl ⟨rfl, ?_⟩
  have hg := HG.out
  repeat (first | exact HE1.out | refine Below.setCell ?_ (by simp <;> omega) _)
end

end Go.Proofs.YtmdilbmgopggaaaGreat
