/- The contract of Cut (the specification) on places of the domain. Its condition: the table's points lie in memory. The contract of Cut (the specification) where it gives an error, and Same of equal tables. Its condition: the points lie in memory. -/
import Derived.Test.YtmenlaefekkahaaM1
import Derived.Test.YtmenlaefekkahaaG7
set_option linter.unusedVariables false
set_option linter.unusedSimpArgs false
set_option linter.constructorNameAsVariable false
namespace Go.Proofs.Ytmenlaefekkahaa
open Go.RowKit

theorem rising_last {ps : List P3} (ht : tabOk ps = true) {p : P3} (hp : p ∈ ps) : p.1 ≤ lastX ps := by
  obtain ⟨k, hk⟩ := List.mem_iff_getElem?.1 hp
  have hl := (List.getElem?_eq_some_iff.1 hk).1
  have e : ps[ps.length - 1]? = some (ps[ps.length - 1]'(by omega)) := List.getElem?_eq_getElem (by omega)
  have := rising_le ht hk e (by omega)
  have f : lastX ps = (ps[ps.length - 1]'(by omega)).1 := by unfold lastX; rw [List.getLast?_eq_getElem?, e]; rfl
  omega
theorem atS_point {ps : List P3} (ht : tabOk ps = true) {p : P3} (hp : p ∈ ps) : atS ps p.1 = (p.2.1, p.2.2) := by
  obtain ⟨k, hk⟩ := List.mem_iff_getElem?.1 hp
  exact (ref_at ht hk (Int.le_refl _) (rising_last ht hp) (fun q hq => rising_at ht hk hq (by omega))).1 rfl

theorem own_onePt (w : World) (base : Nat) (x lo hi : Int) (hb : base ≤ w.heap.size) : OwnPts base (w.alloc (.cells #[.int .i64 x, .int .i64 lo, .int .i64 hi] 87)) (.slice (some ⟨w.heap.size, 0, none⟩) 1 1) [(x, lo, hi)] := by
  refine ⟨by simp [ptCells], .inr ⟨w.heap.size, 1, #[.int .i64 x, .int .i64 lo, .int .i64 hi], rfl, hb, heap_alloc_new w _, by simp, by simp [maxLen], by simp, ?_⟩⟩
  simp [ptCells]
theorem OwnPts.alloc {base : Nat} {w : World} {v : Value} {l : List P3} (h : OwnPts base w v l) (o : Obj) : OwnPts base (w.alloc o) v l := World.ownsRow.alloc h o
theorem OwnPts.below {base : Nat} {X Y : World} {v : Value} {L : List P3} (ho : OwnPts base X v L) (hb : Below X.heap.size X Y) : OwnPts base Y v L := ho.grown (below_grownNone hb) (fun _ e => by cases e)
theorem cell_pt (w : World) (x lo hi : Int) : ∀ (j : Nat) (u : Value), [Value.int .i64 x, .int .i64 lo, .int .i64 hi][j]? = some u → (w.alloc (.cells #[.int .i64 x, .int .i64 lo, .int .i64 hi] 87)).cell? ((⟨w.heap.size, 0, none⟩ : Addr).add j) = some u :=
  World.news_of_block (cs := #[.int .i64 x, .int .i64 lo, .int .i64 hi]) (t := 87) (fr := (0, 0)) (heap_alloc_new w _)

/-- What Cut has behind k points. -/
def cutFar (ps : List P3) (x y : Int) (k : Nat) : List P3 := (x, (atS ps x).1, (atS ps x).2) :: ((ps.take k).filter fun p => decide (x < p.1) && decide (p.1 < y))
theorem cutFar_succ {ps : List P3} {x y : Int} {k : Nat} {p : P3} (h : ps[k]? = some p) : cutFar ps x y (k + 1) = if x < p.1 ∧ p.1 < y then cutFar ps x y k ++ [p] else cutFar ps x y k := by
  unfold cutFar
  rw [take_snocP' h, List.filter_append]
  by_cases hc : x < p.1 ∧ p.1 < y
  · rw [if_pos hc]; simp [hc]
  · rw [if_neg hc]
    have : (decide (x < p.1) && decide (p.1 < y)) = false := by simpa using hc
    simp [List.filter_cons, this]
theorem cutFar_len (ps : List P3) (x y : Int) (k : Nat) : (cutFar ps x y k).length ≤ k + 1 := by
  unfold cutFar
  simp only [List.length_cons]
  have h1 := List.length_filter_le (fun p : P3 => decide (x < p.1) && decide (p.1 < y)) (ps.take k)
  have h2 := List.length_take_le k ps
  omega
theorem cutFar_all {ps : List P3} (ht : tabOk ps = true) (x y : Int) {k : Nat} (hk : ps.length ≤ k) : built (cutAt ps) (cornersS ps x y) = cutFar ps x y k ++ (if x < y then [(y, (atS ps y).1, (atS ps y).2)] else []) := by
  unfold built cornersS cutFar
  rw [List.take_of_length_le hk]
  have e : ∀ l : List P3, (∀ p ∈ l, p ∈ ps) → (l.map (·.1)).map (fun z => (z, (cutAt ps z).1, (cutAt ps z).2.1)) = l := by
    intro l
    induction l with
    | nil => intro _; rfl
    | cons p l ih =>
      intro h
      rw [List.map_cons, List.map_cons, ih (fun q hq => h q (List.mem_cons_of_mem _ hq))]
      have := atS_point ht (h p (by simp))
      obtain ⟨a, b, c⟩ := p
      simp only [cutAt]
      dsimp only at this
      rw [this]
  rw [List.map_append, List.map_cons, e _ (fun p hp => (List.mem_filter.1 hp).1)]
  congr 1
  split <;> rfl

set_option maxRecDepth 100000 in
set_option maxHeartbeats 4000000 in
theorem rCut_good (b o n c : Nat) (ps : List P3) (x y : Int) (w : World) (hn : n = ps.length) (hb : b < w.heap.size) (hpl : placesS ps x y = 0) (hc : PtsAt w b o ps) :
    Calls Try.prog 38 #[tv (some ⟨b, o, none⟩) n c, .int .i64 x, .int .i64 y] w (GivesTab0 w (built (cutAt ps) (cornersS ps x y))) := by
  obtain ⟨ht, hxy, hf, hl⟩ := places_ok hpl
  have h1 := (tabOk_len ht).1
  have h40 := (tabOk_len ht).2
  have hn40 : n ≤ 40 := by omega
  have hn1 : 1 ≤ n := by omega
  obtain ⟨i0, hi, hz0, hz1, hz2⟩ := info_parts Try.infoP
  have hAll := cutFar_all ht x y (k := n) (by omega)
  obtain ⟨⟨ra, rb⟩, hra⟩ : ∃ r, atS ps x = r := ⟨_, rfl⟩
  obtain ⟨⟨rc, rd⟩, hrc⟩ : ∃ r, atS ps y = r := ⟨_, rfl⟩
  have hSt : cutFar ps x y 0 = [(x, ra, rb)] := by unfold cutFar; rw [hra]; rfl
  rw [hrc] at hAll
  have CV : Hid (∀ W, Below w.heap.size w W → Calls Try.prog 63 #[tv (some ⟨b, o, none⟩) n c] W fun e w' => e = .returned (.bool true) ∧ Below W.heap.size W w') := Lib.hid fun W hW => by
    have h := validTable_any _ n c ps W hn (by unfold maxLen; omega) ((hc.below hW hb).pts (Nat.lt_of_lt_of_le hb hW.size))
    rw [ht] at h; exact h
  have CX : Hid (∀ W, Below w.heap.size w W → Calls Try.prog 92 #[tv (some ⟨b, o, none⟩) n c, .int .i64 x] W fun e w' => e = .returned (.bool true) ∧ Below W.heap.size W w') := Lib.hid fun W hW => by
    have h := inside_any b o n c ps x W hn hn1 hn40 (Nat.lt_of_lt_of_le hb hW.size) (hc.below hW hb)
    rw [show insideS ps x = true by simp [insideS]; omega] at h; exact h
  have CY : Hid (∀ W, Below w.heap.size w W → Calls Try.prog 92 #[tv (some ⟨b, o, none⟩) n c, .int .i64 y] W fun e w' => e = .returned (.bool true) ∧ Below W.heap.size W w') := Lib.hid fun W hW => by
    have h := inside_any b o n c ps y W hn hn1 hn40 (Nat.lt_of_lt_of_le hb hW.size) (hc.below hW hb)
    rw [show insideS ps y = true by simp [insideS]; omega] at h; exact h
  have AX : Hid (∀ W, Below w.heap.size w W → Calls Try.prog 93 #[tv (some ⟨b, o, none⟩) n c, .int .i64 x] W fun e w' => e = .returned (rv ra rb) ∧ Below W.heap.size W w') := Lib.hid fun W hW =>
    rAt_to b o n c ps x ra rb W hn (Nat.lt_of_lt_of_le hb hW.size) ht hf (by omega) (hc.below hW hb) hra
  have AY : Hid (∀ W, Below w.heap.size w W → Calls Try.prog 93 #[tv (some ⟨b, o, none⟩) n c, .int .i64 y] W fun e w' => e = .returned (rv rc rd) ∧ Below W.heap.size W w') := Lib.hid fun W hW =>
    rAt_to b o n c ps y rc rd W hn (Nat.lt_of_lt_of_le hb hW.size) ht (by omega) hl (hc.below hW hb) hrc
  have hE : Below w.heap.size w ((w.alloc (.cells #[.slice (some ⟨b, o, none⟩) n c] 43)).alloc (.cells #[.slice none 0 0] 43)) := below_a2 (Below.refl _ _)
  have hJ : Blk ((w.alloc (.cells #[.slice (some ⟨b, o, none⟩) n c] 43)).alloc (.cells #[.slice none 0 0] 43)) w.heap.size 43 #[.slice (some ⟨b, o, none⟩) n c] := (Blk.new w 43 _).alloc _
  have hT := Blk.new (w.alloc (.cells #[.slice (some ⟨b, o, none⟩) n c] 43)) 43 #[.slice none 0 0]
  simp only [World.size_alloc] at hT
  have HN := Lib.hid hn; have HC := Lib.hid hc; have HE := Lib.hid hE; have HJ := Lib.hid hJ; have HT := Lib.hid hT; have HA := Lib.hid hAll; have HS := Lib.hid hSt
  have k1 : decide (y < x) = false := decide_eq_false (by omega)
  have k2 : ¬ y < x := by omega
  clear hn hc hE hJ hT hAll hSt hra hrc hf hl ht hpl h1 h40
  go_enter Try.func38, Try.ntmps38
  go_wp2_with fail
  obtain ⟨W0, hW0⟩ : ∃ W0, (w.alloc (.cells #[.slice (some ⟨b, o, none⟩) n c] 43)).alloc (.cells #[.slice none 0 0] 43) = W0 := ⟨_, rfl⟩
  rw [hW0] at HE HJ HT ⊢
  clear hW0
  refine (CV.out _ HE.out).mono ?_
  rintro e w1 ⟨rfl, hb1⟩
  have HE1 := Lib.hid (below_then HE.out hb1); have HJ1 := Lib.hid (blkOn HJ.out hb1); have HT1 := Lib.hid (blkOn HT.out hb1)
  clear hb1
  have c0 := HJ1.out.cell 0
  simp at c0
  go_wp2_with fail
  refine (CX.out _ HE1.out).mono ?_
  rintro e w2 ⟨rfl, hb2⟩
  have HE2 := Lib.hid (below_then HE1.out hb2); have HJ2 := Lib.hid (blkOn HJ1.out hb2); have HT2 := Lib.hid (blkOn HT1.out hb2)
  clear hb2 c0
  have c0 := HJ2.out.cell 0
  simp at c0
  go_wp2_with fail
  refine (CY.out _ HE2.out).mono ?_
  rintro e w3 ⟨rfl, hb3⟩
  have HE3 := Lib.hid (below_then HE2.out hb3); have HJ3 := Lib.hid (blkOn HJ2.out hb3); have HT3 := Lib.hid (blkOn HT2.out hb3)
  clear hb3 c0
  have c0 := HJ3.out.cell 0
  simp at c0
  go_wp2_with fail
  refine (AX.out _ HE3.out).mono ?_
  rintro e w4 ⟨rfl, hb4⟩
  have hE4 := below_then HE3.out hb4
  have hJ4 := blkOn HJ3.out hb4
  have hT4 := blkOn HT3.out hb4
  have HE5 := Lib.hid (hE4.alloc hE4.size (.cells #[.int .i64 ra, .int .i64 rb] 23)); have HJ5 := Lib.hid (hJ4.alloc (.cells #[.int .i64 ra, .int .i64 rb] 23)); have HT5 := Lib.hid (hT4.alloc (.cells #[.int .i64 ra, .int .i64 rb] 23))
  have HF5 := Lib.hid (Blk.new w4 23 #[.int .i64 ra, .int .i64 rb])
  clear hb4 c0 hE4 hT4
  have c0 := hJ4.cell 0
  simp at c0
  have lJ4 := hJ4.lt
  clear hJ4
  go_wp2_with fail
  obtain ⟨W5, hW5⟩ : ∃ W5, w4.alloc (.cells #[.int .i64 ra, .int .i64 rb] 23) = W5 := ⟨_, rfl⟩
  rw [hW5] at HE5 HJ5 HT5 HF5 ⊢
  clear hW5 c0 lJ4
  refine (AY.out _ HE5.out).mono ?_
  rintro e w6 ⟨rfl, hb6⟩
  have hE6 := below_then HE5.out hb6
  have hJ6 := blkOn HJ5.out hb6
  have hT6 := blkOn HT5.out hb6
  have hF6 := blkOn HF5.out hb6
  have f0 := hF6.cell 0
  have f1 := hF6.cell 1
  simp at f0 f1
  have lF := hF6.lt
  have c0 := hJ6.cell 0
  simp at c0
  have lJ := hJ6.lt
  have HE7 := Lib.hid ((hE6.alloc hE6.size (.cells #[.int .i64 rc, .int .i64 rd] 23)).alloc (by have := hE6.size; simp; omega) (.cells #[.int .i64 x, .int .i64 ra, .int .i64 rb] 87))
  have HT7 := Lib.hid ((hT6.alloc (.cells #[.int .i64 rc, .int .i64 rd] 23)).alloc (.cells #[.int .i64 x, .int .i64 ra, .int .i64 rb] 87))
  have HL7 := Lib.hid ((Blk.new w6 23 #[.int .i64 rc, .int .i64 rd]).alloc (.cells #[.int .i64 x, .int .i64 ra, .int .i64 rb] 87))
  have ho := own_onePt (w6.alloc (.cells #[.int .i64 rc, .int .i64 rd] 23)) (w6.heap.size + 1) x ra rb (by simp)
  rw [World.size_alloc] at ho
  have HO7 := Lib.hid ho
  have HLT := Lib.hid (And.intro hT6.lt (And.intro hJ6.lt (Nat.lt_of_lt_of_le hb hE6.size)))
  clear hb6 hE6 hJ6 hT6 hF6 ho
  go_wp2_with fail
  obtain ⟨W7, hW7⟩ : ∃ W7, (w6.alloc (.cells #[.int .i64 rc, .int .i64 rd] 23)).alloc (.cells #[.int .i64 x, .int .i64 ra, .int .i64 rb] 87) = W7 := ⟨_, rfl⟩
  rw [hW7] at HE7 HT7 HL7 HO7 ⊢
  clear hW7 f0 f1 lF c0 lJ
  obtain ⟨G, hG⟩ : ∃ G, w6.heap.size = G := ⟨_, rfl⟩
  rw [hG] at HL7 HO7 HLT ⊢
  clear hG
  have hlt := HLT.out
  clear HF5 HE3 HJ3 HT3 HE2 HJ2 HT2 HE1 HJ1 HT1 HE HJ HT HE5 HJ5 HT5
  have hS0 : [(x, ra, rb)] = cutFar ps x y 0 := HS.out.symm
  rw [hS0] at HO7
  clear hS0
  go_loopw [10, 49] (fun v i wr => ∃ k : Nat, k ≤ n ∧ i = .int .i64 k ∧ OwnPts (G + 1) wr v (cutFar ps x y k) ∧ Blk wr (w.heap.size + 1) 43 #[.slice none 0 0] ∧ Blk wr G 23 #[.int .i64 rc, .int .i64 rd] ∧ Below w.heap.size w wr) (fun _ i _ => n - (intOf i).toNat)
  case atStart => exact ⟨0, by omega, rfl, HO7.out, HT7.out, HL7.out, HE7.out⟩
  case round =>
    obtain ⟨k, hk, rfl, hown, hT, hL, hB⟩ := hrel
    by_cases hkn : k < n
    · obtain ⟨p, hp⟩ : ∃ p, ps[k]? = some p := ⟨_, List.getElem?_eq_getElem (show k < ps.length by rw [← HN.out]; exact hkn)⟩
      obtain ⟨c0, c1, c2⟩ := HC.out k p hp
      rw [← hB.cell (p := ⟨b, o + k * 3, none⟩) hb] at c0
      rw [← hB.cell (p := ⟨b, o + k * 3 + 1, none⟩) hb] at c1
      rw [← hB.cell (p := ⟨b, o + k * 3 + 2, none⟩) hb] at c2
      have HSS := Lib.hid (cutFar_succ (x := x) (y := y) hp); clear hp
      have hsl := cutFar_len ps x y k
      obtain ⟨px, lo, hi'⟩ := p
      dsimp only at c0 c1 c2
      by_cases hx : x < px ∧ px < y
      · obtain ⟨hx1, hx2⟩ := hx
        have HO2 := Lib.hid ((hown.alloc (.cells #[.int .i64 px, .int .i64 lo, .int .i64 hi'] 87)).alloc (.cells #[.int .i64 px, .int .i64 lo, .int .i64 hi'] 87))
        have hcell := cell_pt (wr.alloc (.cells #[.int .i64 px, .int .i64 lo, .int .i64 hi'] 87)) px lo hi'
        rw [World.size_alloc] at hcell
        have HCE := Lib.hid hcell; clear hcell
        have HTT := Lib.hid ((hT.alloc (.cells #[.int .i64 px, .int .i64 lo, .int .i64 hi'] 87)).alloc (.cells #[.int .i64 px, .int .i64 lo, .int .i64 hi'] 87))
        have HLL := Lib.hid ((hL.alloc (.cells #[.int .i64 px, .int .i64 lo, .int .i64 hi'] 87)).alloc (.cells #[.int .i64 px, .int .i64 lo, .int .i64 hi'] 87))
        have HBB := Lib.hid ((hB.alloc hB.size (.cells #[.int .i64 px, .int .i64 lo, .int .i64 hi'] 87)).alloc (by have := hB.size; simp; omega) (.cells #[.int .i64 px, .int .i64 lo, .int .i64 hi'] 87))
        have hLl := hL.lt
        have HLEN := Lib.hid hsl
        clear hown hT hL hB hsl
        go_wp2_with (at_builtin; refine wpList_append_own _ rfl (.tmp 63) (.tmp 65) 41 rfl (G + 1) 87 i0 (.agg #[.int .i64 0, .int .i64 0, .int .i64 0]) 3 24 Try.underlying41 hi hz0 hz1 hz2 rfl (by decide) _ _ _ rfl HO2.out ⟨wr.heap.size + 1, 0, none⟩ 1 1 [.int .i64 px, .int .i64 lo, .int .i64 hi'] rfl rfl HCE.out ?c2 ?c3 ?c4 ?c5 ?_)
        case c2 => simp [Value.oneCell']
        case c3 => simp only [maxLen]; have := HLEN.out; omega
        case c4 => have := HLEN.out; omega
        case c5 => first | omega | (simp; omega)
        intro v' w5 hown1 hgrow _
        have hrow : ∀ j, Value.ownBlock u10 = some j → G + 1 ≤ j := fun j e => (World.ownsRow.lt (show World.ownsRow _ (G + 1) 87 3 u10 _ _ from HO2.out) j e).1
        have hB5 : Below w.heap.size w w5 := HBB.out.grown hgrow (HBB.out.size) (fun j e => by have := hrow j e; omega)
        have hT5 := HTT.out.grown hgrow (fun e => absurd (hrow _ e.symm) (by omega))
        have hL5 := HLL.out.grown hgrow (fun e => absurd (hrow _ e.symm) (by omega))
        have hown2 : OwnPts (G + 1) w5 v' (cutFar ps x y (k + 1)) := by
          unfold OwnPts
          rw [HSS.out, if_pos ⟨hx1, hx2⟩, List.length_append, ptCells_snoc]
          exact hown1
        clear hown1 hgrow
        go_wp2
        go_roundw
        case rel => exact ⟨k + 1, by omega, by go_num, hown2, hT5, hL5, hB5⟩
        case measure => simp [intOf]; omega
      · have hown2 : OwnPts (G + 1) (wr.alloc (.cells #[.int .i64 px, .int .i64 lo, .int .i64 hi'] 87)) u10 (cutFar ps x y (k + 1)) := by
          rw [HSS.out, if_neg hx]; exact hown.alloc _
        have HO2 := Lib.hid hown2
        have HTT := Lib.hid (hT.alloc (.cells #[.int .i64 px, .int .i64 lo, .int .i64 hi'] 87))
        have HLL := Lib.hid (hL.alloc (.cells #[.int .i64 px, .int .i64 lo, .int .i64 hi'] 87))
        have HBB := Lib.hid (hB.alloc hB.size (.cells #[.int .i64 px, .int .i64 lo, .int .i64 hi'] 87))
        have hx' : ¬ x < px ∨ (x < px ∧ ¬ px < y) := by omega
        clear hown2 hown hT hL hB hsl hx
        rcases hx' with hx1 | ⟨hx1, hx2⟩
        all_goals
          go_wp2
          go_roundw
          case rel => exact ⟨k + 1, by omega, by go_num, HO2.out, HTT.out, HLL.out, HBB.out⟩
          case measure => simp [intOf]; omega
    · have hkn' : k = n := by omega
      subst hkn'
      have hsl := cutFar_len ps x y k
      by_cases hab : x < y
      · have HF : Hid (built (cutAt ps) (cornersS ps x y) = cutFar ps x y k ++ [(y, rc, rd)]) := Lib.hid (by rw [HA.out, if_pos hab])
        have HO2 := Lib.hid (hown.alloc (.cells #[.int .i64 y, .int .i64 rc, .int .i64 rd] 87))
        have HCE := Lib.hid (cell_pt wr y rc rd)
        have f0 := hL.cell 0
        have f1 := hL.cell 1
        simp at f0 f1
        have HTT := Lib.hid (hT.alloc (.cells #[.int .i64 y, .int .i64 rc, .int .i64 rd] 87))
        have HBB := Lib.hid (hB.alloc hB.size (.cells #[.int .i64 y, .int .i64 rc, .int .i64 rd] 87))
        have hLl := hL.lt
        have HLEN := Lib.hid hsl
        clear hown hT hL hB hsl
        go_wp2_with (at_builtin; refine wpList_append_own _ rfl (.tmp 71) (.tmp 78) 41 rfl (G + 1) 87 i0 (.agg #[.int .i64 0, .int .i64 0, .int .i64 0]) 3 24 Try.underlying41 hi hz0 hz1 hz2 rfl (by decide) _ _ _ rfl HO2.out ⟨wr.heap.size, 0, none⟩ 1 1 [.int .i64 y, .int .i64 rc, .int .i64 rd] rfl rfl HCE.out ?d2 ?d3 ?d4 ?d5 ?_)
        case d2 => simp [Value.oneCell']
        case d3 => simp only [maxLen]; have := HLEN.out; omega
        case d4 => have := HLEN.out; omega
        case d5 => first | omega | (simp; omega)
        intro v' w5 hown1 hgrow _
        have hrow : ∀ j, Value.ownBlock u10 = some j → G + 1 ≤ j := fun j e => (World.ownsRow.lt (show World.ownsRow _ (G + 1) 87 3 u10 _ _ from HO2.out) j e).1
        have hB5 : Below w.heap.size w w5 := HBB.out.grown hgrow (HBB.out.size) (fun j e => by have := hrow j e; omega)
        have hT5 := HTT.out.grown hgrow (fun e => absurd (hrow _ e.symm) (by omega))
        have hown2 : OwnPts (G + 1) w5 v' (built (cutAt ps) (cornersS ps x y)) := by
          unfold OwnPts
          rw [HF.out, List.length_append, ptCells_snoc]
          exact hown1
        obtain ⟨sp, sn, sc, rfl⟩ := hown2.slice
        have r0 := hT5.cell 0
        have g0 := hT5.frozen 0
        have lT := hT5.lt
        simp at r0
        have HO := Lib.hid hown2; have HB5 := Lib.hid hB5
        clear hown1 hgrow hT5 hown2 hB5
        go_wp2
        have hB6 := HB5.out.setCell (p := ⟨w.heap.size + 1, 0, none⟩) (by show w.heap.size ≤ w.heap.size + 1; omega) (.slice sp sn sc)
        refine bodyPost_ret (v := .tuple #[.agg #[.slice sp sn sc], .int .i64 0]) (by simp [results, Try.results38, go_sem, r0, lT]) rfl ⟨_, rfl, ?_, hB6⟩
        refine World.ownsRow.kept (World.ownsRow.mono (show w5.ownsRow _ 87 3 _ _ _ from HO.out) (by omega)) (grownBy_setCell' w5 _ _) (.inr ?_)
        intro e
        have := (World.ownsRow.lt (show w5.ownsRow _ 87 3 _ _ _ from HO.out) _ e).1
        omega
      · have hfin : built (cutAt ps) (cornersS ps x y) = cutFar ps x y k := by rw [HA.out, if_neg hab, List.append_nil]
        rw [← hfin] at hown
        obtain ⟨sp, sn, sc, rfl⟩ := hown.slice
        have r0 := hT.cell 0
        have g0 := hT.frozen 0
        have lT := hT.lt
        simp at r0
        have HO := Lib.hid hown; have HB5 := Lib.hid hB
        clear hown hT hL hB hsl hfin
        go_wp2
        have hB6 := HB5.out.setCell (p := ⟨w.heap.size + 1, 0, none⟩) (by show w.heap.size ≤ w.heap.size + 1; omega) (.slice sp sn sc)
        refine bodyPost_ret (v := .tuple #[.agg #[.slice sp sn sc], .int .i64 0]) (by simp [results, Try.results38, go_sem, r0, lT]) rfl ⟨_, rfl, ?_, hB6⟩
        refine World.ownsRow.kept (World.ownsRow.mono (show wr.ownsRow _ 87 3 _ _ _ from HO.out) (by omega)) (grownBy_setCell' wr _ _) (.inr ?_)
        intro e
        have := (World.ownsRow.lt (show wr.ownsRow _ 87 3 _ _ _ from HO.out) _ e).1
        omega
end Go.Proofs.Ytmenlaefekkahaa
namespace Go.Proofs.Ytmenlaefekkahaa
open Go.RowKit
attribute [local go_sem ↓] neqPoint

set_option maxRecDepth 100000 in
set_option maxHeartbeats 2000000 in
theorem rCut_bad (A : Option Addr) (n c : Nat) (ps : List P3) (x y E : Int) (w : World) (hn : n = ps.length) (hm : n ≤ maxLen) (hp : Pts w A ps) (hpl : placesS ps x y = E) (h0 : E ≠ 0) :
    Calls Try.prog 38 #[tv A n c, .int .i64 x, .int .i64 y] w fun e w' => e = .returned (.tuple #[.agg #[.slice none 0 0], .int .i64 E]) ∧ Below w.heap.size w w' := by
  have hE : Below w.heap.size w ((w.alloc (.cells #[.slice A n c] 43)).alloc (.cells #[.slice none 0 0] 43)) := below_a2 (Below.refl _ _)
  have hJ : Blk ((w.alloc (.cells #[.slice A n c] 43)).alloc (.cells #[.slice none 0 0] 43)) w.heap.size 43 #[.slice A n c] := (Blk.new w 43 _).alloc _
  have hT := Blk.new (w.alloc (.cells #[.slice A n c] 43)) 43 #[.slice none 0 0]
  simp only [World.size_alloc] at hT
  by_cases ht : tabOk ps = true
  · have h1 := (tabOk_len ht).1
    have h40 := (tabOk_len ht).2
    have hn40 : n ≤ 40 := by omega
    have hn1 : 1 ≤ n := by omega
    obtain ⟨b, o, rfl, hb, hc⟩ := hp.block h1
    have hE4 : E = 4 := by
      unfold placesS at hpl
      rw [if_pos ht] at hpl
      split at hpl <;> omega
    subst hE4
    have CV : Hid (∀ W, Below w.heap.size w W → Calls Try.prog 63 #[tv (some ⟨b, o, none⟩) n c] W fun e w' => e = .returned (.bool true) ∧ Below W.heap.size W w') := Lib.hid fun W hW => by
      have h := validTable_any _ n c ps W hn (by unfold maxLen; omega) ((hc.below hW hb).pts (Nat.lt_of_lt_of_le hb hW.size))
      rw [ht] at h; exact h
    have CI : ∀ z t, insideS ps z = t → ∀ W, Below w.heap.size w W → Calls Try.prog 92 #[tv (some ⟨b, o, none⟩) n c, .int .i64 z] W fun e w' => e = .returned (.bool t) ∧ Below W.heap.size W w' := fun z t hz W hW => by
      have h := inside_any b o n c ps z W hn hn1 hn40 (Nat.lt_of_lt_of_le hb hW.size) (hc.below hW hb)
      rw [hz] at h; exact h
    have hcase : y < x ∨ (¬ y < x ∧ insideS ps x = false) ∨ (¬ y < x ∧ insideS ps x = true ∧ insideS ps y = false) := by
      by_cases c1 : y < x
      · exact .inl c1
      · cases c2 : insideS ps x with
        | false => exact .inr (.inl ⟨c1, rfl⟩)
        | true =>
          cases c3 : insideS ps y with
          | false => exact .inr (.inr ⟨c1, rfl, rfl⟩)
          | true =>
            exfalso
            simp [insideS] at c2 c3
            have : placesS ps x y = 0 := by
              unfold placesS
              rw [if_pos ht, if_pos (inB_yes (by omega) (by omega) (by omega))]
            omega
    have HE := Lib.hid hE; have HJ := Lib.hid hJ; have HT := Lib.hid hT
    clear hE hJ hT hn hpl hc h1 h40 ht hp h0
    rcases hcase with c1 | ⟨c1, c2⟩ | ⟨c1, c2, c3⟩
    · clear CI
      have k1 : decide (y < x) = true := decide_eq_true c1
      go_enter Try.func38, Try.ntmps38
      go_wp2_with fail
      refine (CV.out _ HE.out).mono ?_
      rintro e w1 ⟨rfl, hb1⟩
      have HE1 := Lib.hid (below_then HE.out hb1)
      have hT1 := blkOn HT.out hb1
      have r0 := hT1.cell 0
      have f0 := hT1.frozen 0
      have lT := hT1.lt
      have c0 := (blkOn HJ.out hb1).cell 0
      simp at r0 c0
      clear hb1 hT1
      go_wp2
      refine bodyPost_ret (v := .tuple #[.agg #[.slice none 0 0], .int .i64 4]) (by simp [results, Try.results38, go_sem, r0, lT]) rfl ⟨rfl, ?_⟩
      exact HE1.out.setCell (p := ⟨w.heap.size + 1, 0, none⟩) (by show w.heap.size ≤ w.heap.size + 1; omega) _
    · have CX := Lib.hid (CI x false c2)
      have k1 : decide (y < x) = false := decide_eq_false c1
      clear CI c2
      go_enter Try.func38, Try.ntmps38
      go_wp2_with fail
      refine (CV.out _ HE.out).mono ?_
      rintro e w1 ⟨rfl, hb1⟩
      have HE1 := Lib.hid (below_then HE.out hb1); have HJ1 := Lib.hid (blkOn HJ.out hb1); have HT1 := Lib.hid (blkOn HT.out hb1)
      have c0 := HJ1.out.cell 0
      simp at c0
      clear hb1
      go_wp2_with fail
      refine (CX.out _ HE1.out).mono ?_
      rintro e w2 ⟨rfl, hb2⟩
      have HE2 := Lib.hid (below_then HE1.out hb2)
      have hT1 := blkOn HT1.out hb2
      have r0 := hT1.cell 0
      have f0 := hT1.frozen 0
      have lT := hT1.lt
      simp at r0
      clear hb2 hT1 c0
      have c0 : True := trivial
      go_wp2
      refine bodyPost_ret (v := .tuple #[.agg #[.slice none 0 0], .int .i64 4]) (by simp [results, Try.results38, go_sem, r0, lT]) rfl ⟨rfl, ?_⟩
      exact HE2.out.setCell (p := ⟨w.heap.size + 1, 0, none⟩) (by show w.heap.size ≤ w.heap.size + 1; omega) _
    · have CX := Lib.hid (CI x true c2)
      have CY := Lib.hid (CI y false c3)
      have k1 : decide (y < x) = false := decide_eq_false c1
      clear CI c2 c3
      go_enter Try.func38, Try.ntmps38
      go_wp2_with fail
      refine (CV.out _ HE.out).mono ?_
      rintro e w1 ⟨rfl, hb1⟩
      have HE1 := Lib.hid (below_then HE.out hb1); have HJ1 := Lib.hid (blkOn HJ.out hb1); have HT1 := Lib.hid (blkOn HT.out hb1)
      have c0 := HJ1.out.cell 0
      simp at c0
      clear hb1
      go_wp2_with fail
      refine (CX.out _ HE1.out).mono ?_
      rintro e w2 ⟨rfl, hb2⟩
      have HE2 := Lib.hid (below_then HE1.out hb2); have HJ2 := Lib.hid (blkOn HJ1.out hb2); have HT2 := Lib.hid (blkOn HT1.out hb2)
      clear hb2 c0
      have c0 := HJ2.out.cell 0
      simp at c0
      go_wp2_with fail
      refine (CY.out _ HE2.out).mono ?_
      rintro e w3 ⟨rfl, hb3⟩
      have HE3 := Lib.hid (below_then HE2.out hb3)
      have hT1 := blkOn HT2.out hb3
      have r0 := hT1.cell 0
      have f0 := hT1.frozen 0
      have lT := hT1.lt
      simp at r0
      clear hb3 hT1 c0
      go_wp2
      refine bodyPost_ret (v := .tuple #[.agg #[.slice none 0 0], .int .i64 4]) (by simp [results, Try.results38, go_sem, r0, lT]) rfl ⟨rfl, ?_⟩
      exact HE3.out.setCell (p := ⟨w.heap.size + 1, 0, none⟩) (by show w.heap.size ≤ w.heap.size + 1; omega) _
  · have hf : tabOk ps = false := by simpa using ht
    have hE11 : E = 11 := by
      unfold placesS at hpl
      rw [if_neg ht] at hpl; omega
    subst hE11
    have CV : Hid (∀ W, Pts W A ps → Calls Try.prog 63 #[tv A n c] W fun e w' => e = .returned (.bool false) ∧ Below W.heap.size W w') := Lib.hid fun W hW => by
      have h := validTable_any _ n c ps W hn hm hW
      rw [hf] at h; exact h
    have HP := Lib.hid (hp.below hE); have HE := Lib.hid hE; have HT := Lib.hid hT
    clear hE hJ hT hn hpl ht hp h0 hf
    go_enter Try.func38, Try.ntmps38
    go_wp2_with fail
    refine (CV.out _ HP.out).mono ?_
    rintro e w1 ⟨rfl, hb1⟩
    have HE1 := Lib.hid (below_then HE.out hb1)
    have hT1 := blkOn HT.out hb1
    have r0 := hT1.cell 0
    have f0 := hT1.frozen 0
    have lT := hT1.lt
    simp at r0
    clear hb1 hT1
    go_wp2
    refine bodyPost_ret (v := .tuple #[.agg #[.slice none 0 0], .int .i64 11]) (by simp [results, Try.results38, go_sem, r0, lT]) rfl ⟨rfl, ?_⟩
    exact HE1.out.setCell (p := ⟨w.heap.size + 1, 0, none⟩) (by show w.heap.size ≤ w.heap.size + 1; omega) _

set_option maxRecDepth 100000 in
set_option maxHeartbeats 1000000 in
theorem same_empty (A A' : Option Addr) (c c' : Nat) (w : World) :
    Calls Try.prog 39 #[tv A 0 c, tv A' 0 c'] w fun e w' => e = .returned (.bool true) ∧ Below w.heap.size w w' := by
  go_enter Try.func39, Try.ntmps39
  go_wp2_with fail
  go_loopw [16] (fun i wr => i = .int .i64 0 ∧ Below w.heap.size w wr) (fun i _ => 0)
  case atStart => exact ⟨rfl, below_a2 (Below.refl _ _)⟩
  case round =>
    obtain ⟨rfl, hB⟩ := hrel
    have HB := Lib.hid hB; clear hB
    go_wp2
    go_ret
    exact ⟨rfl, HB.out⟩
end Go.Proofs.Ytmenlaefekkahaa
