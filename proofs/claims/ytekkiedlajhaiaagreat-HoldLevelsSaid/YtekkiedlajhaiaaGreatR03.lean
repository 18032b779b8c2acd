/- The contracts of the closures that Where and Above ask of a place (fix). Their conditions: what they captured lies in memory; the numbers are those of a valid table. -/
import Derived.Test.YtekkiedlajhaiaaGreatR02
import Derived.Test.YtekkiedlajhaiaaGreatR01
set_option linter.unusedVariables false
set_option linter.unusedSimpArgs false
set_option linter.constructorNameAsVariable false
namespace Go.Proofs.YtekkiedlajhaiaaGreat

section
open Go.RowKit

def stepG (s : Int × Int × Bool) (r : Int × Int) : Int × Int × Bool := if s.2.2 = true then (min s.1 r.1, max s.2.1 r.2, true) else (r.1, r.2, true)
theorem take_any (g : Nat) (s : Int × Int × Bool) (a b : Int) (w : World) (h : Blk w g 156 (growCells s.1 s.2.1 s.2.2)) :
    Calls Tryz.prog 132 #[.pointer (some ⟨g, 0, none⟩), rv a b] w fun e w' => e = .returned (.tuple #[]) ∧ Blk w' g 156 (growCells (stepG s (a, b)).1 (stepG s (a, b)).2.1 (stepG s (a, b)).2.2) ∧ Only g w w' := by
  obtain ⟨lo, hi, t⟩ := s
  cases t
  · exact take_first g lo hi a b w h
  · exact take_more g lo hi a b w h
def foldG (l : List (Int × Int)) : Int × Int × Bool := l.foldl stepG (0, 0, false)
theorem foldG_snoc (l : List (Int × Int)) (r : Int × Int) : foldG (l ++ [r]) = stepG (foldG l) r := by simp [foldG]

def PtsAt (w : World) (b o : Nat) (ps : List P3) : Prop := ∀ k p, ps[k]? = some p → w.cell? ⟨b, o + k * 3, none⟩ = some (.int .i64 p.1) ∧ w.cell? ⟨b, o + k * 3 + 1, none⟩ = some (.int .i64 p.2.1) ∧ w.cell? ⟨b, o + k * 3 + 2, none⟩ = some (.int .i64 p.2.2)
theorem PtsAt.keep {w w' : World} {b o : Nat} {ps : List P3} (h : PtsAt w b o ps) (hk : ∀ i, w'.cell? ⟨b, i, none⟩ = w.cell? ⟨b, i, none⟩) : PtsAt w' b o ps := fun k p hp => by
  rw [hk, hk, hk]; exact h k p hp
theorem PtsAt.only {w w' : World} {b o g : Nat} {ps : List P3} (h : PtsAt w b o ps) (ho : Only g w w') (hb : b < w.heap.size) (hne : b ≠ g) : PtsAt w' b o ps := h.keep fun i => ho.cells.1 b i hb hne
theorem PtsAt.below {w w' : World} {b o : Nat} {ps : List P3} (h : PtsAt w b o ps) (hB : Below w.heap.size w w') (hb : b < w.heap.size) : PtsAt w' b o ps := h.keep fun i => (bcell hB).1 b i hb

theorem PtsAt.drew {w : World} {b o : Nat} {ps : List P3} (h : PtsAt w b o ps) : PtsAt w.drew b o ps := h.keep fun _ => rfl

theorem at_memory (b o n c : Nat) (ps : List P3) (x : Int) (w : World) (hn : n = ps.length) (h2 : 1 ≤ n) (hb : b < w.heap.size) (ht : tabOk ps = true) (hx : 0 ≤ x) (hx' : x ≤ 1000000) (hc : PtsAt w b o ps) :
    Calls Tryz.prog 153 #[tv (some ⟨b, o, none⟩) n c, .int .i64 x] w fun e w' => e = .returned (rv (atS ps x).1 (atS ps x).2) ∧ Below w.heap.size w w' :=
  at_two b o n c ps x w hn h2 hb ht hx hx' hc

set_option maxRecDepth 100000 in
set_option maxHeartbeats 2000000 in
theorem visit_any (b o n c g pg cap : Nat) (ps : List P3) (L : List Int) (w : World) (hn : n = ps.length) (h2 : 1 ≤ n) (hb : b < w.heap.size) (hbg : b ≠ g) (hpg : pg < w.heap.size) (hpgg : pg ≠ g) (ht : tabOk ps = true) (hL : L.length ≤ 100) (hLx : ∀ x ∈ L, 0 ≤ x ∧ x ≤ 1000000)
  (hc : PtsAt w b o ps) (hp : ∀ j x, L[j]? = some x → w.cell? ⟨pg, j, none⟩ = some (.int .i64 x)) (hg : Blk w g 156 (growCells 0 0 false)) :
  Calls Tryz.prog 144 #[tv (some ⟨b, o, none⟩) n c, .slice (some ⟨pg, 0, none⟩) L.length cap, .func (.func 132) #[.pointer (some ⟨g, 0, none⟩)] #[]] w fun e w' =>
   e = .returned (.tuple #[]) ∧ Blk w' g 156 (growCells (foldG (L.map (atS ps))).1 (foldG (L.map (atS ps))).2.1 (foldG (L.map (atS ps))).2.2) ∧ Only g w w' := by
 have hgl := hg.lt
 have HN := Lib.hid hn; clear hn
 have HT := Lib.hid ht; clear ht
 have HC := Lib.hid (hc.below ((Below.refl _ _).alloc (Nat.le_refl _) (.cells #[.slice (some ⟨b, o, none⟩) n c] 48)) hb); clear hc
 have HP := Lib.hid hp; clear hp
 have HX := Lib.hid hLx; clear hLx
 have HG := Lib.hid (hg.alloc (.cells #[.slice (some ⟨b, o, none⟩) n c] 48)); clear hg
 have hbx := Blk.new w 48 #[.slice (some ⟨b, o, none⟩) n c]
 have HBX := Lib.hid hbx; clear hbx
 go_enter Tryz.func144, Tryz.ntmps144
 go_wp2_with fail
 go_loopw [10] (fun i wr => ∃ k : Nat, k ≤ L.length ∧ i = .int .i64 k ∧ Blk wr g 156 (growCells (foldG ((L.take k).map (atS ps))).1 (foldG ((L.take k).map (atS ps))).2.1 (foldG ((L.take k).map (atS ps))).2.2) ∧ Only g (w.alloc (.cells #[.slice (some ⟨b, o, none⟩) n c] 48)) wr) (fun i _ => L.length - (intOf i).toNat)
 case atStart => exact ⟨0, by omega, rfl, HG.out, Only.refl _ _⟩
 case round =>
  obtain ⟨k, hk, rfl, hB, hO⟩ := hrel
  by_cases hlt : k < L.length
  ·obtain ⟨x, hx⟩ : ∃ x, L[k]? = some x := ⟨_, List.getElem?_eq_getElem hlt⟩
   obtain ⟨x1, x2⟩ := HX.out x (List.mem_of_getElem? hx)
   have hcx := HP.out k x hx
   have hcell : wr.cell? ⟨pg, k, none⟩ = some (.int .i64 x) := by
    rw [hO.cells.1 pg k (by simp; omega) hpgg, World.cell?_alloc_lt _ _ _ hpg]; exact hcx
   have hbox : wr.cell? ⟨w.heap.size, 0, none⟩ = some (.slice (some ⟨b, o, none⟩) n c) := by
    rw [hO.cells.1 w.heap.size 0 (by simp) (by omega)]; exact HBX.out.cell 0
   have hpt := HC.out.only hO (by simp; omega) hbg
   have hbw : b < wr.heap.size := by have := hO.size; simp at this; omega
   have hf := foldG_snoc ((L.take k).map (atS ps)) (atS ps x)
   have hs : (L.take (k + 1)).map (atS ps) = (L.take k).map (atS ps) ++ [atS ps x] := by
    rw [List.take_succ_eq_append_getElem hlt]
    rw [List.getElem?_eq_getElem hlt] at hx
    injection hx with hx
    rw [List.map_append, hx]; rfl
   rw [← hs] at hf
   have HF := Lib.hid hf; clear hf hs hx hcx
   have HB := Lib.hid hB; clear hB
   have HPT := Lib.hid hpt; clear hpt
   have HO := Lib.hid hO; clear hO
   go_wp2_with fail
   refine (at_memory b o n c ps x _ HN.out h2 hbw HT.out x1 x2 HPT.out).mono ?_
   rintro e w1 ⟨rfl, hb1⟩
   go_wp2_with fail
   refine (take_any g _ _ _ _ (HB.out.below hb1 HB.out.lt)).mono ?_
   rintro e w2 ⟨rfl, hB2, ho2⟩
   have hO2 := HO.out.trans ((Only.of_below hb1).trans ho2)
   rw [← HF.out] at hB2
   have HB2 := Lib.hid hB2; clear hB2
   have HO2 := Lib.hid hO2; clear hO2 ho2
   go_wp2
   go_roundw
   case rel => exact ⟨k + 1, by omega, by go_num, HB2.out, HO2.out⟩
   case measure => simp [intOf]; omega
  ·have hkn : k = L.length := by omega
   have hB' : Blk wr g 156 (growCells (foldG (L.map (atS ps))).1 (foldG (L.map (atS ps))).2.1 (foldG (L.map (atS ps))).2.2) := by
    rw [hkn, List.take_length] at hB; exact hB
   have hO' : Only g w wr := (Only.of_below ((Below.refl _ _).alloc (Nat.le_refl _) _)).trans hO
   clear hkn hB hO
   have HB := Lib.hid hB'; clear hB'
   have HO := Lib.hid hO'; clear hO'
   go_wp2
   go_end0
   exact ⟨rfl, HB.out, HO.out⟩

theorem gives_form {w w' : World} {l : List Int} {e : Ending} (h : GivesInts w l e w') (hl : l ≠ []) :
    ∃ pg cap, e = .returned (.slice (some ⟨pg, 0, none⟩) l.length cap) ∧ w.heap.size ≤ pg ∧ pg < w'.heap.size ∧ (∀ (j : Nat) (x : Int), l[j]? = some x → w'.cell? ⟨pg, j, none⟩ = some (.int .i64 x)) ∧ Below w.heap.size w w' := by
  obtain ⟨v, rfl, ho, hb⟩ := h
  rcases ho.2 with ⟨_, h0⟩ | ⟨g, cap, cur, rfl, hbg, hg, hle, hm, hs, ht⟩
  · exfalso; apply hl; simpa using h0
  · refine ⟨g, cap, by simp, hbg, (Array.getElem?_eq_some_iff.1 hg).1, fun j x hx => ?_, hb⟩
    have h1 : w'.cell? ⟨g, j, none⟩ = cur[j]? := cell_of_row w' g j cur _ (0, 0) hg
    rw [h1]
    have hj : j < l.length := (List.getElem?_eq_some_iff.1 hx).1
    have h2 : (ints l)[j]? = some (.int .i64 x) := by rw [List.getElem?_map, hx]; rfl
    rw [← ht, List.getElem?_take_of_lt (by simp; omega)] at h2
    simpa using h2
theorem corners_ne (ps : List P3) (a b : Int) : cornersS ps a b ≠ [] := by unfold cornersS; simp
theorem corners_len (ps : List P3) (a b : Int) (h : ps.length ≤ 40) : (cornersS ps a b).length ≤ 100 := by
  unfold cornersS
  have h1 := List.length_filter_le (fun p : P3 => decide (a < p.1) && decide (p.1 < b)) ps
  by_cases hab : a < b
  · rw [if_pos hab]; simp; omega
  · rw [if_neg hab]; simp; omega
theorem corners_mem {ps : List P3} {a b x : Int} (h : x ∈ cornersS ps a b) : (a ≤ x ∧ x ≤ b) ∨ x = a := by
  unfold cornersS at h
  rw [List.cons_append, List.mem_cons] at h
  rcases h with rfl | h
  · exact .inr rfl
  · rcases List.mem_append.1 h with h | h
    · obtain ⟨p, hp, rfl⟩ := List.mem_map.1 h
      have := (List.mem_filter.1 hp).2
      simp at this
      exact .inl (by omega)
    · by_cases hab : a < b
      · rw [if_pos hab] at h; simp at h; subst h; exact .inl (by omega)
      · rw [if_neg hab] at h; cases h

theorem places_in {ps : List P3} (h : tabOk ps = true) : 0 ≤ firstX ps ∧ lastX ps ≤ 1000000 := by
  have hk := okp_of ps (-1) (tabOk_pts h) (by omega)
  have hl := (tabOk_len h).1
  have e0 : ps[0]? = some (ps[0]'(by omega)) := List.getElem?_eq_getElem (by omega)
  have em : ps[ps.length - 1]? = some (ps[ps.length - 1]'(by omega)) := List.getElem?_eq_getElem (by omega)
  have f0 : firstX ps = (ps[0]'(by omega)).1 := by unfold firstX; rw [List.head?_eq_getElem?, e0]; rfl
  have fm : lastX ps = (ps[ps.length - 1]'(by omega)).1 := by unfold lastX; rw [List.getLast?_eq_getElem?, em]; rfl
  rw [f0, fm]
  exact ⟨(hk _ (List.getElem_mem _)).1.1, (hk _ (List.getElem_mem _)).1.2.1⟩

def overGood (ps : List P3) (a b : Int) : Int × Int × Bool := foldG ((cornersS ps a b).map (atS ps))

theorem checkPlaces_to (A : Option Addr) (n c : Nat) (ps : List P3) (a b x : Int) (w : World) (hn : n = ps.length) (hm : n ≤ maxLen) (hp : Pts w A ps) (h : placesS ps a b = x) :
    Calls Tryz.prog 143 #[tv A n c, .int .i64 a, .int .i64 b] w fun e w' => e = .returned (.int .i64 x) ∧ Below w.heap.size w w' := by
  subst h; exact checkPlaces_any A n c ps a b w hn hm hp
theorem PtsAt.pts {w : World} {b o : Nat} {ps : List P3} (h : PtsAt w b o ps) (hb : b < w.heap.size) : Pts w (some ⟨b, o, none⟩) ps := .inr ⟨b, o, rfl, hb, h⟩

theorem keep3 {w0 w1 : World} {a b c : Value} {B : Nat} (hb : Below w0.heap.size w0 w1) (h : w0.cell? ⟨B, 0, none⟩ = some a ∧ w0.cell? ⟨B + 1, 0, none⟩ = some b ∧ w0.cell? ⟨B + 1, 1, none⟩ = some c) (h1 : B < w0.heap.size) (h2 : B + 1 < w0.heap.size) :
    w1.cell? ⟨B, 0, none⟩ = some a ∧ w1.cell? ⟨B + 1, 0, none⟩ = some b ∧ w1.cell? ⟨B + 1, 1, none⟩ = some c :=
  ⟨((bcell hb).1 _ _ h1).trans h.1, ((bcell hb).1 _ _ h2).trans h.2.1, ((bcell hb).1 _ _ h2).trans h.2.2⟩
theorem keep3o {w0 w1 : World} {a b c : Value} {B g : Nat} (hb : Only g w0 w1) (h : w0.cell? ⟨B, 0, none⟩ = some a ∧ w0.cell? ⟨B + 1, 0, none⟩ = some b ∧ w0.cell? ⟨B + 1, 1, none⟩ = some c) (h1 : B < w0.heap.size) (h2 : B + 1 < w0.heap.size) (g1 : B ≠ g) (g2 : B + 1 ≠ g) :
    w1.cell? ⟨B, 0, none⟩ = some a ∧ w1.cell? ⟨B + 1, 0, none⟩ = some b ∧ w1.cell? ⟨B + 1, 1, none⟩ = some c :=
  ⟨(hb.cells.1 _ _ h1 g1).trans h.1, (hb.cells.1 _ _ h2 g2).trans h.2.1, (hb.cells.1 _ _ h2 g2).trans h.2.2⟩
theorem over_cells {w w1 w2 w3 w4 : World} {a b c : Value} {x0 x1 : Value} {t1 t2 t3 : TypeId} (h1 : Below (((w.alloc (.cells #[a] t1)).alloc (.cells #[b, c] t2)).alloc (.cells #[x0, x1] t3)).heap.size (((w.alloc (.cells #[a] t1)).alloc (.cells #[b, c] t2)).alloc (.cells #[x0, x1] t3)) w1)
    (h2 : Below w1.heap.size w1 w2) (h3 : Below w2.heap.size w2 w3) (h4 : Below w3.heap.size w3 w4) :
    w4.cell? ⟨w.heap.size, 0, none⟩ = some a ∧ w4.cell? ⟨w.heap.size + 1, 0, none⟩ = some b ∧ w4.cell? ⟨w.heap.size + 1, 1, none⟩ = some c ∧
    w4.cell? ⟨w.heap.size + 1 + 1, 0, none⟩ = some x0 ∧ w4.cell? ⟨w.heap.size + 1 + 1, 1, none⟩ = some x1 ∧ w4.frozen? ⟨w.heap.size + 1 + 1, 0, none⟩ = false ∧ w4.frozen? ⟨w.heap.size + 1 + 1, 1, none⟩ = false := by
  have h := below_then (below_then (below_then h1 h2) h3) h4
  obtain ⟨p, q⟩ := bcell h
  refine ⟨?_, ?_, ?_, ?_, ?_, ?_, ?_⟩
  · rw [p _ _ (by simp; omega)]; simp [go_sem]
  · rw [p _ _ (by simp)]; simp [go_sem]
  · rw [p _ _ (by simp)]; simp [go_sem]
  · rw [p _ _ (by simp)]; simp [go_sem]
  · rw [p _ _ (by simp)]; simp [go_sem]
  · rw [q _ _ (by simp)]; simp [go_sem]
  · rw [q _ _ (by simp)]; simp [go_sem]

set_option maxRecDepth 100000 in
set_option maxHeartbeats 2000000 in
theorem over_good (b o n c : Nat) (ps : List P3) (x y : Int) (w : World) (hn : n = ps.length) (h2 : 1 ≤ n) (hb : b < w.heap.size) (ht : tabOk ps = true) (hr : vR x y = true) (hpl : placesS ps x y = 0) (hc : PtsAt w b o ps) :
  Calls Tryz.prog 97 #[tv (some ⟨b, o, none⟩) n c, rv x y] w fun e w' => e = .returned (rt ((overGood ps x y).1, (overGood ps x y).2.1, 0)) ∧ Below w.heap.size w w' := by
 have h40 := (tabOk_len ht).2
 have hml : n ≤ maxLen := by unfold maxLen; omega
 have hn40 : n ≤ 40 := by omega
 obtain ⟨pl1, pl2⟩ := places_in ht
 have hin : inB x y (firstX ps) (lastX ps) = true := by
  unfold placesS at hpl
  rw [if_pos ht] at hpl
  cases hi : inB x y (firstX ps) (lastX ps)
  ·rw [hi] at hpl; simp at hpl
  ·rfl
 simp only [inB, decide_eq_true_eq] at hin
 have hLx : ∀ z ∈ cornersS ps x y, 0 ≤ z ∧ z ≤ 1000000 := fun z hz => by
  rcases corners_mem hz with h | h <;> omega
 have HLX := Lib.hid hLx; clear hLx hin
 have HN := Lib.hid hn; clear hn
 have HT := Lib.hid ht; clear ht
 have HR := Lib.hid hr; clear hr
 have HPL := Lib.hid hpl; clear hpl
 have hB0 : Below w.heap.size w (((w.alloc (.cells #[.slice (some ⟨b, o, none⟩) n c] 48)).alloc (.cells #[.int .i64 x, .int .i64 y] 30)).alloc (.cells #[.int .i64 0, .int .i64 0] 30)) := below_a2 ((Below.refl _ _).alloc (Nat.le_refl _) _)
 have hc0 := hc.below hB0 hb
 have HC := Lib.hid hc0; clear hc0 hc
 have hb0 : b < (((w.alloc (.cells #[.slice (some ⟨b, o, none⟩) n c] 48)).alloc (.cells #[.int .i64 x, .int .i64 y] 30)).alloc (.cells #[.int .i64 0, .int .i64 0] 30)).heap.size := by simp; omega
 have HB0 := Lib.hid hB0; clear hB0
 have HB := Lib.hid hb0; clear hb0
 go_enter Tryz.func97, Tryz.ntmps97
 go_wp2_with fail
 refine (checkTable_to _ n c ps _ _ _ HN.out hml (HC.out.pts HB.out) HT.out rfl).mono ?_
 rintro e w1 ⟨rfl, hb1⟩
 obtain ⟨hc1, hf1⟩ := bcell hb1
 have hz1 : w.heap.size + 1 + 1 < w1.heap.size := by have := hb1.size; simp at this; omega
 go_wp2_with fail
 refine (checkRange_ok x y _ HR.out).mono ?_
 rintro e w2 ⟨rfl, hb2⟩
 obtain ⟨hc2, hf2⟩ := bcell hb2
 have hz2 : w.heap.size + 1 + 1 < w2.heap.size := by have := hb2.size; omega
 have hza : w.heap.size < w1.heap.size := by omega
 have hzb : w.heap.size + 1 < w1.heap.size := by omega
 have hzc : w.heap.size < w2.heap.size := by omega
 have hzd : w.heap.size + 1 < w2.heap.size := by omega
 have hze : w.heap.size < w.heap.size + 1 + 1 + 1 := by omega
 have hP2 := (HC.out.below hb1 HB.out).below hb2 (Nat.lt_of_lt_of_le HB.out hb1.size)
 have hB2 : b < w2.heap.size := by omega
 have HP2 := Lib.hid hP2; clear hP2
 go_wp2_with fail
 refine (checkPlaces_to _ n c ps x y _ _ HN.out hml (HP2.out.pts hB2) HPL.out).mono ?_
 rintro e w3 ⟨rfl, hb3⟩
 obtain ⟨hc3, hf3⟩ := bcell hb3
 have hz3 : w.heap.size + 1 + 1 < w3.heap.size := by have := hb3.size; omega
 have hB3 : b < w3.heap.size := by omega
 have HP3 := Lib.hid (HP2.out.below hb3 hB2)
 go_wp2_with fail
 have bG := Blk.new w3 156 (growCells 0 0 false)
 have hb4 : Below w3.heap.size w3 (w3.alloc (.cells (growCells 0 0 false) 156)) := (Below.refl _ _).alloc (Nat.le_refl _) _
 have P4 := HP3.out.below hb4 hB3
 have hB4 : Below w.heap.size w (w3.alloc (.cells (growCells 0 0 false) 156)) := below_then (below_then (below_then (below_then HB0.out hb1) hb2) hb3) hb4
 obtain ⟨q0, q1, q2, q3, q4, q5, q6⟩ := over_cells hb1 hb2 hb3 hb4
 have hs4 := hb4.size
 have hgl := bG.lt
 obtain ⟨W4, hW4⟩ : ∃ W4, w3.alloc (.cells (growCells 0 0 false) 156) = W4 := ⟨_, rfl⟩
 rw [hW4] at bG P4 hB4 q0 q1 q2 q3 q4 q5 q6 hs4 hgl ⊢
 clear hW4 hb4 hc1 hf1 hc2 hf2 hc3 hf3
 have hg1 : w.heap.size ≠ w3.heap.size := by omega
 have hg2 : w.heap.size + 1 ≠ w3.heap.size := by omega
 have hg3 : w.heap.size + 1 + 1 ≠ w3.heap.size := by omega
 have hB4' : b < W4.heap.size := by omega
 have HBG := Lib.hid bG; clear bG
 have HP4 := Lib.hid P4; clear P4
 have HB4 := Lib.hid hB4; clear hB4
 have r0 := Lib.hid q3; have r1 := Lib.hid q4; have r2 := Lib.hid q5; have r3 := Lib.hid q6
 clear q3 q4 q5 q6
 have hln := corners_len ps x y h40
 have hwd0 : w.heap.size < W4.drew.heap.size := by show _ < W4.heap.size; omega
 have hwd1 : w.heap.size + 1 < W4.drew.heap.size := by show _ < W4.heap.size; omega
 go_region_held3 (fun w' => w'.cell? ⟨w.heap.size, 0, none⟩ = some (.slice (some ⟨b, o, none⟩) n c) ∧ w'.cell? ⟨w.heap.size + 1, 0, none⟩ = some (.int .i64 x) ∧ w'.cell? ⟨w.heap.size + 1, 1, none⟩ = some (.int .i64 y))
  (first | (go_keep; done) | exact keep3 hbc ‹_› hwd0 hwd1 | exact keep3o hov ‹_› (Nat.lt_of_lt_of_le hwd0 hbc.size) (Nat.lt_of_lt_of_le hwd1 hbc.size) hg1 hg2)
  (first
   | (go_at_call 145; refine (corners_any b o n c ps x y W4.drew HN.out h2 hn40 hB4' (PtsAt.drew HP4.out)).mono ?_; intro e wc hgi; obtain ⟨pg, cap, rfl, hpg1, hpg2, hpc, hbc⟩ := gives_form hgi (corners_ne ps x y); have HPC := Lib.hid hpc; clear hpc hgi)
   | (go_at_call 144; refine (visit_any b o n c w3.heap.size pg cap ps (cornersS ps x y) wc HN.out h2 (Nat.lt_of_lt_of_le hB4' hbc.size) (by omega) hpg2 (Nat.ne_of_gt (Nat.lt_of_lt_of_le hgl hpg1)) HT.out hln HLX.out ((PtsAt.drew HP4.out).below hbc hB4') HPC.out ((Blk.drew HBG.out).below hbc hgl)).mono ?_; rintro e wv ⟨rfl, hBv, hov⟩; have HBV := Lib.hid hBv; clear hBv))
 all_goals
  have hw2 : w.heap.size + 1 + 1 < W4.drew.heap.size := by show _ < W4.heap.size; omega
  have hw3 : w.heap.size + 1 + 1 < wc.heap.size := Nat.lt_of_lt_of_le hw2 hbc.size
  have z0 := (hov.cells.1 _ 0 hw3 hg3).trans (((bcell hbc).1 _ 0 hw2).trans r0.out)
  have z1 := (hov.cells.1 _ 1 hw3 hg3).trans (((bcell hbc).1 _ 1 hw2).trans r1.out)
  have f0 := (hov.cells.2 _ 0 hw3 hg3).trans (((bcell hbc).2 _ 0 hw2).trans r2.out)
  have f1 := (hov.cells.2 _ 1 hw3 hg3).trans (((bcell hbc).2 _ 1 hw2).trans r3.out)
  have k0 := HBV.out.cell 0
  have k1 := HBV.out.cell 1
  simp at k0 k1
  have hBv : Below w.heap.size w wv := hov.below (below_then HB4.out (below_d hbc)) (by omega)
  have HBv := Lib.hid hBv
  clear hBv hov hbc
  go_wp2
  refine bodyPost_ret (v := rt ((overGood ps x y).1, (overGood ps x y).2.1, 0)) (by simp [results, Tryz.results97, go_sem, z0, z1, overGood]) rfl ⟨rfl, ?_⟩
  exact (HBv.out.setCell (p := ⟨w.heap.size + 1 + 1, 0, none⟩) (by simp; omega) _).setCell (p := ⟨w.heap.size + 1 + 1, 1, none⟩) (by simp; omega) _
end

section
open Go.RowKit

theorem at_to (b o n c : Nat) (ps : List P3) (x ra rb : Int) (w : World) (hn : n = ps.length) (h2 : 1 ≤ n) (hb : b < w.heap.size) (ht : tabOk ps = true) (hx : 0 ≤ x) (hx' : x ≤ 1000000) (hc : PtsAt w b o ps) (hr : atS ps x = (ra, rb)) :
    Calls Tryz.prog 153 #[tv (some ⟨b, o, none⟩) n c, .int .i64 x] w fun e w' => e = .returned (rv ra rb) ∧ Below w.heap.size w w' := by
  have h := at_memory b o n c ps x w hn h2 hb ht hx hx' hc
  rw [hr] at h; exact h
@[reducible] def addFn : Value := .func (.func 70) #[] #[]

def Joined (w : World) (Bw Bt Bu b o n c b' o' n' c' : Nat) (ps qs : List P3) : Prop :=
  Blk w Bw 118 #[addFn] ∧ Blk w Bt 48 #[.slice (some ⟨b, o, none⟩) n c] ∧ Blk w Bu 48 #[.slice (some ⟨b', o', none⟩) n' c'] ∧
  PtsAt w b o ps ∧ PtsAt w b' o' qs ∧ b < w.heap.size ∧ b' < w.heap.size
theorem Joined.below {w w' : World} {Bw Bt Bu b o n c b' o' n' c' : Nat} {ps qs : List P3} (h : Joined w Bw Bt Bu b o n c b' o' n' c' ps qs) (hB : Below w.heap.size w w') : Joined w' Bw Bt Bu b o n c b' o' n' c' ps qs := by
  obtain ⟨h1, h2, h3, h4, h5, h6, h7⟩ := h
  have := hB.size
  exact ⟨h1.below hB h1.lt, h2.below hB h2.lt, h3.below hB h3.lt, h4.below hB h6, h5.below hB h7, by omega, by omega⟩
end

section
open Go.RowKit
attribute [local go_sem ↓] eqlRange neqRange
@[go_sem] theorem fieldLo (a b : Int) (w : World) : (Instr.field 30 (.agg #[.int .i64 a, .int .i64 b]) 0).run Tryz.prog w = .ok (.int .i64 a) w := by kernel_rfl
@[go_sem] theorem fieldHi (a b : Int) (w : World) : (Instr.field 30 (.agg #[.int .i64 a, .int .i64 b]) 1).run Tryz.prog w = .ok (.int .i64 b) w := by kernel_rfl

abbrev pCells (p q : P3) : Array Value := #[.int .i64 p.1, .int .i64 p.2.1, .int .i64 p.2.2, .int .i64 q.1, .int .i64 q.2.1, .int .i64 q.2.2]
def SixTwo (Bp Br : Nat) (p q : P3) (lo hi : Int) (w : World) : Prop :=
  w.cell? ⟨Bp, 0, none⟩ = some (.int .i64 p.1) ∧ w.cell? ⟨Bp, 1, none⟩ = some (.int .i64 p.2.1) ∧ w.cell? ⟨Bp, 2, none⟩ = some (.int .i64 p.2.2) ∧ w.cell? ⟨Bp, 3, none⟩ = some (.int .i64 q.1) ∧ w.cell? ⟨Bp, 4, none⟩ = some (.int .i64 q.2.1) ∧ w.cell? ⟨Bp, 5, none⟩ = some (.int .i64 q.2.2) ∧
  w.cell? ⟨Br, 0, none⟩ = some (.int .i64 lo) ∧ w.cell? ⟨Br, 1, none⟩ = some (.int .i64 hi)
theorem SixTwo.of {Bp Br : Nat} {p q : P3} {lo hi : Int} {w : World} (h : Blk w Bp 138 (pCells p q)) (h' : Blk w Br 30 #[.int .i64 lo, .int .i64 hi]) : SixTwo Bp Br p q lo hi w :=
  ⟨h.cell 0, h.cell 1, h.cell 2, h.cell 3, h.cell 4, h.cell 5, h'.cell 0, h'.cell 1⟩
theorem SixTwo.below {Bp Br : Nat} {p q : P3} {lo hi : Int} {w w' : World} (h : SixTwo Bp Br p q lo hi w) (hB : Below w.heap.size w w') (h1 : Bp < w.heap.size) (h2 : Br < w.heap.size) : SixTwo Bp Br p q lo hi w' := by
  have k := (bcell hB).1
  obtain ⟨a0, a1, a2, a3, a4, a5, b0, b1⟩ := h
  exact ⟨(k _ _ h1).trans a0, (k _ _ h1).trans a1, (k _ _ h1).trans a2, (k _ _ h1).trans a3, (k _ _ h1).trans a4, (k _ _ h1).trans a5, (k _ _ h2).trans b0, (k _ _ h2).trans b1⟩

set_option maxRecDepth 100000 in
set_option maxHeartbeats 1000000 in
theorem lowAsk (Bp Br : Nat) (p q : P3) (lo hi x : Int) (w : World) (h : Blk w Bp 138 (pCells p q)) (h' : Blk w Br 30 #[.int .i64 lo, .int .i64 hi]) (hp : Okp p) (hq : Okp q) (hx : 0 ≤ x) (hx' : x ≤ 1000000) :
  Calls Tryz.prog 103 #[.int .i64 x, .pointer (some ⟨Bp, 0, none⟩), .pointer (some ⟨Br, 0, none⟩)] w fun e w' => e = .returned (.bool (decide ((pAt p q x).1 ≤ hi))) ∧ Below w.heap.size w w' := by
 have hS := SixTwo.of h h'
 have h1 := h.lt
 have h2 := h'.lt
 have hd1 : Bp < w.drew.heap.size := h1
 have hd2 : Br < w.drew.heap.size := h2
 have HS := Lib.hid hS
 obtain ⟨a0, a1, a2, a3, a4, a5, b0, b1⟩ := hS
 have HP := Lib.hid hp; have HQ := Lib.hid hq
 clear h h' hp hq
 go_enter Tryz.func103, Tryz.ntmps103
 go_wp2_with fail
 go_region_held3 (fun w' => w'.cell? ⟨Bp, 0, none⟩ = some (.int .i64 p.1) ∧ w'.cell? ⟨Bp, 1, none⟩ = some (.int .i64 p.2.1) ∧ w'.cell? ⟨Bp, 2, none⟩ = some (.int .i64 p.2.2) ∧ w'.cell? ⟨Bp, 3, none⟩ = some (.int .i64 q.1) ∧ w'.cell? ⟨Bp, 4, none⟩ = some (.int .i64 q.2.1) ∧ w'.cell? ⟨Bp, 5, none⟩ = some (.int .i64 q.2.2) ∧
 w'.cell? ⟨Br, 0, none⟩ = some (.int .i64 lo) ∧ w'.cell? ⟨Br, 1, none⟩ = some (.int .i64 hi))
  (first | (go_keep; done) | exact SixTwo.below ‹_› hb hd1 hd2)
  (first | (go_at_call 104; refine (pieceAt_any p q x _ HP.out HQ.out hx hx').mono ?_; rintro e w1 ⟨rfl, hb⟩))
 go_wp2
 go_ret
 exact ⟨rfl, below_d hb⟩

set_option maxRecDepth 100000 in
set_option maxHeartbeats 1000000 in
theorem highAsk (Bp Br : Nat) (p q : P3) (lo hi x : Int) (w : World) (h : Blk w Bp 138 (pCells p q)) (h' : Blk w Br 30 #[.int .i64 lo, .int .i64 hi]) (hp : Okp p) (hq : Okp q) (hx : 0 ≤ x) (hx' : x ≤ 1000000) :
  Calls Tryz.prog 105 #[.int .i64 x, .pointer (some ⟨Bp, 0, none⟩), .pointer (some ⟨Br, 0, none⟩)] w fun e w' => e = .returned (.bool (decide (lo ≤ (pAt p q x).2))) ∧ Below w.heap.size w w' := by
 have hS := SixTwo.of h h'
 have h1 := h.lt
 have h2 := h'.lt
 have hd1 : Bp < w.drew.heap.size := h1
 have hd2 : Br < w.drew.heap.size := h2
 have HS := Lib.hid hS
 obtain ⟨a0, a1, a2, a3, a4, a5, b0, b1⟩ := hS
 have HP := Lib.hid hp; have HQ := Lib.hid hq
 clear h h' hp hq
 go_enter Tryz.func105, Tryz.ntmps105
 go_wp2_with fail
 go_region_held3 (fun w' => w'.cell? ⟨Bp, 0, none⟩ = some (.int .i64 p.1) ∧ w'.cell? ⟨Bp, 1, none⟩ = some (.int .i64 p.2.1) ∧ w'.cell? ⟨Bp, 2, none⟩ = some (.int .i64 p.2.2) ∧ w'.cell? ⟨Bp, 3, none⟩ = some (.int .i64 q.1) ∧ w'.cell? ⟨Bp, 4, none⟩ = some (.int .i64 q.2.1) ∧ w'.cell? ⟨Bp, 5, none⟩ = some (.int .i64 q.2.2) ∧
 w'.cell? ⟨Br, 0, none⟩ = some (.int .i64 lo) ∧ w'.cell? ⟨Br, 1, none⟩ = some (.int .i64 hi))
  (first | (go_keep; done) | exact SixTwo.below ‹_› hb hd1 hd2)
  (first | (go_at_call 104; refine (pieceAt_any p q x _ HP.out HQ.out hx hx').mono ?_; rintro e w1 ⟨rfl, hb⟩))
 go_wp2
 go_ret
 exact ⟨rfl, below_d hb⟩
end

end Go.Proofs.YtekkiedlajhaiaaGreat
