/- The contracts of Mul, Over, Plus, Area and Where at the chapter's examples. Their conditions: the tables lie in memory. The contract of sane (the law package): the chapter's examples are so. No conditions. -/
import Derived.Deep.AppendLies
import Derived.Deep.Onto
import Derived.Test.YtmglhhbfkohkcaaGreatDoorR02
import Derived.Test.YtmglhhbfkohkcaaGreatDoorR01
import Derived.Lib.SlicesCompact
import Derived.Test.YtmglhhbfkohkcaaGreatDoorS1
import Derived.Sort.OwnSortedInts
import Derived.Deep.DeepCutAuto
import Derived.Deep.RegionHeld3
import Derived.Test.YtmglhhbfkohkcaaGreatDoorR00
set_option linter.unusedVariables false
set_option linter.unusedSimpArgs false
set_option linter.constructorNameAsVariable false
namespace Go.Proofs.YtmglhhbfkohkcaaGreatDoor

section
open Go.RowKit

theorem Tryz.infoP : (Tryz.prog.info? 39).map (fun i => (i.zero, i.size, i.bytes)) = some (some (.agg #[.int .i64 0, .int .i64 0, .int .i64 0]), 3, 24) := by kernel_rfl
def ptCells (l : List P3) : List Value := l.flatMap fun r => [.int .i64 r.1, .int .i64 r.2.1, .int .i64 r.2.2]
theorem ptCells_snoc (l : List P3) (r : P3) : ptCells (l ++ [r]) = ptCells l ++ [.int .i64 r.1, .int .i64 r.2.1, .int .i64 r.2.2] := by simp [ptCells]
def OwnPts (base : Nat) (w : World) (v : Value) (l : List P3) : Prop := w.ownsRow base 39 3 v l.length (ptCells l)
theorem OwnPts.grown {base : Nat} {X Y : World} {row : Option Nat} {v : Value} {L : List P3} (ho : OwnPts base X v L) (hg : X.grownBy Y row) (hr : ∀ r, row = some r → ∃ o : Obj, X.heap[r]? = some o ∧ o.isCells = false) : OwnPts base Y v L := by
  have ho' : X.ownsRow base 39 3 v L.length (ptCells L) := ho
  refine World.ownsRow.kept ho' hg ?_
  rcases ho'.2 with ⟨h1, _⟩ | ⟨g3, cap3, cur3, h1, _, h2, _⟩
  · left; rw [h1]; rfl
  · right
    rw [h1]
    intro e
    obtain ⟨o, ho2, hc⟩ := hr g3 (by rw [← e]; rfl)
    rw [h2] at ho2
    cases ho2; cases hc
theorem take_snocP' {α : Type} {xs : List α} {k : Nat} {x : α} (h : xs[k]? = some x) : xs.take (k + 1) = xs.take k ++ [x] := take_snocP h
theorem keepR {w0 w1 : World} {a b : Value} {A : Nat} (hb : Below w0.heap.size w0 w1) (h : w0.cell? ⟨A, 0, none⟩ = some a ∧ w0.cell? ⟨A, 1, none⟩ = some b) (h1 : A < w0.heap.size) :
    w1.cell? ⟨A, 0, none⟩ = some a ∧ w1.cell? ⟨A, 1, none⟩ = some b := ⟨((bcell hb).1 _ _ h1).trans h.1, ((bcell hb).1 _ _ h1).trans h.2⟩
theorem OwnPts.slice {base : Nat} {X : World} {v : Value} {L : List P3} (ho : OwnPts base X v L) : ∃ p n c, v = .slice p n c := by
  rcases (show X.ownsRow base 39 3 v L.length (ptCells L) from ho).2 with ⟨h, _⟩ | ⟨g, c, _, h, _⟩
  · exact ⟨_, _, _, h⟩
  · exact ⟨_, _, _, h⟩
def IntsMem (w : World) (b o : Nat) (L : List Int) : Prop := ∀ k x, L[k]? = some x → w.cell? ⟨b, o + k, none⟩ = some (.int .i64 x)
def built (f : Int → Int × Int × Int) (L : List Int) : List P3 := L.map fun x => (x, (f x).1, (f x).2.1)

set_option maxRecDepth 100000 in
set_option maxHeartbeats 1000000 in
theorem build_good (b o n c Bw Bt Bu : Nat) (L : List Int) (f : Int → Int × Int × Int) (w : World) (hn : n = L.length) (h40 : n ≤ 40) (hb : b < w.heap.size) (hc : IntsMem w b o L)
  (hask : ∀ x ∈ L, ∀ W, Below w.heap.size w W → Calls Tryz.prog 69 #[.int .i64 x, .pointer (some ⟨Bw, 0, none⟩), .pointer (some ⟨Bt, 0, none⟩), .pointer (some ⟨Bu, 0, none⟩)] W fun e w' => e = .returned (rt (f x)) ∧ Below W.heap.size W w')
  (hok : ∀ x ∈ L, (f x).2.2 = 0 ∧ inB (f x).1 (f x).2.1 (-1000000000) 1000000000 = true) :
  Calls Tryz.prog 67 #[.slice (some ⟨b, o, none⟩) n c, .func (.func 69) #[] #[.pointer (some ⟨Bw, 0, none⟩), .pointer (some ⟨Bt, 0, none⟩), .pointer (some ⟨Bu, 0, none⟩)]] w fun e w' =>
   ∃ v, e = .returned (.tuple #[.agg #[v], .int .i64 0]) ∧ OwnPts w.heap.size w' v (built f L) ∧ Below w.heap.size w w' := by
 obtain ⟨i0, hi, hz0, hz1, hz2⟩ := info_parts Tryz.infoP
 have HN := Lib.hid hn; have HC := Lib.hid hc; have HA := Lib.hid hask; have HO := Lib.hid hok
 clear hn hc hask hok
 have t1 : ¬ (40 : Int) < (n : Int) := by omega
 go_enter Tryz.func67, Tryz.ntmps67
 go_wp2_with fail
 go_loopw [6, 17] (fun v i wr => ∃ k : Nat, k ≤ n ∧ i = .int .i64 k ∧ OwnPts (w.heap.size + 1) wr v (built f (L.take k)) ∧ Blk wr w.heap.size 24 #[.slice none 0 0] ∧ Below w.heap.size w wr) (fun _ i _ => n - (intOf i).toNat)
 case atStart => exact ⟨0, by omega, rfl, World.ownsRow_nil _ _ _ _, Blk.new w 24 _, (Below.refl _ _).alloc (Nat.le_refl _) _⟩
 case round =>
  obtain ⟨k, hk, rfl, hown, hT, hB⟩ := hrel
  by_cases hlt : k < n
  ·have hp : ∃ p, L[k]? = some p := ⟨_, List.getElem?_eq_getElem (show k < L.length by rw [← HN.out]; exact hlt)⟩
   obtain ⟨x, hp⟩ := hp
   have hxm : x ∈ L := List.mem_of_getElem? hp
   have c0 := HC.out k x hp
   rw [← hB.cell (p := ⟨b, o + k, none⟩) hb] at c0
   obtain ⟨ho1, ho2⟩ := HO.out x hxm
   have hA := HA.out x hxm
   have hS : built f (L.take (k + 1)) = built f (L.take k) ++ [(x, (f x).1, (f x).2.1)] := by unfold built; rw [take_snocP' hp, List.map_append]; rfl
   have hlen : (built f (L.take k)).length = k := by unfold built; rw [List.length_map, List.length_take]; have := HN.out; omega
   generalize f x = r at *
   obtain ⟨lo, hi', er⟩ := r
   dsimp only at ho1 ho2 hS
   subst ho1
   have HS := Lib.hid hS; have HAx := Lib.hid hA; have HL := Lib.hid hlen; have HW := Lib.hid hown; have HIN := Lib.hid ho2; have HB := Lib.hid hB; have HT := Lib.hid hT
   clear hS hA hlen hown hp ho2 hB hT
   go_wp2_with fail
   refine (HAx.out wr HB.out).mono ?_
   rintro e w1 ⟨rfl, hb1⟩
   have hB1 : Below w.heap.size w w1 := below_then HB.out hb1
   have hw1 := HW.out.grown (below_grownNone hb1) (fun _ e => by cases e)
   have bR := Blk.new w1 57 #[.int .i64 lo, .int .i64 hi']
   have hB2 : Below w.heap.size w (w1.alloc (.cells #[.int .i64 lo, .int .i64 hi'] 57)) := hB1.alloc hB1.size _
   have hw2 := hw1.grown (World.grownBy_alloc w1 (.cells #[.int .i64 lo, .int .i64 hi'] 57) none) (fun _ e => by cases e)
   have hT2 := (HT.out.below hb1 HT.out.lt).alloc (.cells #[.int .i64 lo, .int .i64 hi'] 57)
   have HT2 := Lib.hid hT2; clear hT2
   have HB2 := Lib.hid hB2; have HW2 := Lib.hid hw2; have HR := Lib.hid bR
   clear hB1 hw1 bR hB2 hw2 hb1
   go_wp2_with fail
   obtain ⟨W2, hW2⟩ : ∃ W2, w1.alloc (.cells #[.int .i64 lo, .int .i64 hi'] 57) = W2 := ⟨_, rfl⟩
   rw [hW2] at HB2 HW2 HR HT2 ⊢
   clear hW2
   have z0 := HR.out.cell 0
   have z1 := HR.out.cell 1
   simp at z0 z1
   have lR : w1.heap.size < W2.drew.heap.size := HR.out.lt
   go_region_held3 (fun w' => w'.cell? ⟨w1.heap.size, 0, none⟩ = some (.int .i64 lo) ∧ w'.cell? ⟨w1.heap.size, 1, none⟩ = some (.int .i64 hi'))
    (first | (go_keep; done) | exact keepR hb4 ‹_› (Nat.lt_of_lt_of_le lR hb3.size) | exact keepR hb3 ‹_› lR)
    (first
     | (go_at_call 31; refine (around_any 1000000000 W2.drew (by omega) (by omega)).mono ?_; rintro e w3 ⟨rfl, hb3⟩)
     | (go_at_call 29; refine (within_to lo hi' (-1000000000) 1000000000 true w3 HIN.out).mono ?_; rintro e w4 ⟨rfl, hb4⟩))
   all_goals
    have hB4 : Below w.heap.size w w4 := below_then (below_then HB2.out (below_d hb3)) hb4
    have hw4 := (HW2.out.grown (below_grownNone (below_d hb3)) (fun _ e => by cases e)).grown (below_grownNone hb4) (fun _ e => by cases e)
    have hT4 := (HT2.out.drew.below hb3 (show w.heap.size < W2.drew.heap.size from HT2.out.lt)).below hb4 (Nat.lt_of_lt_of_le (show w.heap.size < W2.drew.heap.size from HT2.out.lt) hb3.size)
    have HT4 := Lib.hid (hT4.alloc (.cells #[.int .i64 x, .int .i64 lo, .int .i64 hi'] 39))
    have ltT := hT4.lt
    have hR4 := (HR.out.drew.below hb3 lR).below hb4 (Nat.lt_of_lt_of_le lR hb3.size)
    have y0 := hR4.cell 0
    have y1 := hR4.cell 1
    simp at y0 y1
    have HO2 := Lib.hid (World.ownsRow.alloc (o := .cells #[.int .i64 x, .int .i64 lo, .int .i64 hi'] 39) (show w4.ownsRow (w.heap.size + 1) 39 3 _ _ _ from hw4))
    have HB4 := Lib.hid hB4
    have hcell : ∀ (j : Nat) (u : Value), [Value.int .i64 x, .int .i64 lo, .int .i64 hi'][j]? = some u → (w4.alloc (.cells #[.int .i64 x, .int .i64 lo, .int .i64 hi'] 39)).cell? ((⟨w4.heap.size, 0, none⟩ : Addr).add j) = some u :=
     World.news_of_block (cs := #[.int .i64 x, .int .i64 lo, .int .i64 hi']) (t := 39) (fr := (0, 0)) (heap_alloc_new w4 _)
    have HCE := Lib.hid hcell
    have lR4 : w1.heap.size < w4.heap.size := Nat.lt_of_lt_of_le (Nat.lt_of_lt_of_le lR hb3.size) hb4.size
    clear hB4 hw4 hR4 hT4 hcell hb3 hb4 lR z0 z1
    go_wp2_with (at_builtin; refine wpList_append_own _ rfl (.tmp 36) (.tmp 43) 22 rfl (w.heap.size + 1) 39 i0 (.agg #[.int .i64 0, .int .i64 0, .int .i64 0]) 3 24 Tryz.underlying22 hi hz0 hz1 hz2 rfl (by decide) _ _ _ rfl HO2.out ⟨w4.heap.size, 0, none⟩ 1 1 [.int .i64 x, .int .i64 lo, .int .i64 hi'] rfl rfl HCE.out ?c2 ?c3 ?c4 ?c5 ?_)
    case c2 => simp [Value.oneCell']
    case c3 => simp only [maxLen]; rw [HL.out]; omega
    case c4 => rw [HL.out]; omega
    case c5 => simp; omega
    intro v' w5 hown1 hgrow _
    have hrow : ∀ j, Value.ownBlock u6 = some j → w.heap.size + 1 ≤ j := fun j e => (HO2.out.lt j e).1
    have hB5 : Below w.heap.size w w5 := (HB4.out.alloc HB4.out.size _).grown hgrow (by have := HB4.out.size; simp; omega) (fun j e => Nat.le_trans (Nat.le_succ _) (hrow j e))
    have hT5 := HT4.out.grown hgrow (fun e => absurd (hrow _ e.symm) (by omega))
    have hown2 : OwnPts (w.heap.size + 1) w5 v' (built f (L.take (k + 1))) := by
     unfold OwnPts
     rw [HS.out, List.length_append, ptCells_snoc]
     exact hown1
    clear hown1 hgrow
    go_wp2
    go_roundw
    case rel => exact ⟨k + 1, by omega, by go_num, hown2, hT5, hB5⟩
    case measure => simp [intOf]; omega
  ·have hkn : built f (L.take k) = built f L := by rw [List.take_of_length_le (by have := HN.out; omega)]
   rw [hkn] at hown
   obtain ⟨sp, sn, sc, rfl⟩ := hown.slice
   have HW := Lib.hid hown
   have r0 := hT.cell 0
   have f0 := hT.frozen 0
   have lT := hT.lt
   simp at r0
   have HT := Lib.hid hT
   clear hown hT hkn
   go_wp2
   have hown2 : OwnPts (w.heap.size + 1) (wr.setCell ⟨w.heap.size, 0, none⟩ (.slice sp sn sc)) (.slice sp sn sc) (built f L) := by
    refine World.ownsRow.kept (show wr.ownsRow (w.heap.size + 1) 39 3 _ _ _ from HW.out) (grownBy_setCell' wr w.heap.size _) (.inr ?_)
    intro e
    have := (World.ownsRow.lt (show wr.ownsRow (w.heap.size + 1) 39 3 _ _ _ from HW.out) _ e).1
    omega
   have hB5 : Below w.heap.size w (wr.setCell ⟨w.heap.size, 0, none⟩ (.slice sp sn sc)) := hB.setCell (p := ⟨w.heap.size, 0, none⟩) (by simp) _
   refine bodyPost_ret (v := .tuple #[.agg #[.slice sp sn sc], .int .i64 0]) (by simp [results, Tryz.results67, go_sem, r0, lT]) rfl ⟨_, rfl, World.ownsRow.mono hown2 (by omega), hB5⟩
end

section
open Go.Lib

theorem rising_ext : ∀ (a b : List Int), a.Pairwise (· < ·) → b.Pairwise (· < ·) → (∀ x, x ∈ a ↔ x ∈ b) → a = b
  | [], [], _, _, _ => rfl
  | [], y :: b, _, _, h => by have := (h y).2 (by simp); simp at this
  | x :: a, [], _, _, h => by have := (h x).1 (by simp); simp at this
  | x :: a, y :: b, ha, hb, h => by
    rw [List.pairwise_cons] at ha hb
    have e : x = y := by
      have h1 := (h x).1 (by simp)
      have h2 := (h y).2 (by simp)
      rw [List.mem_cons] at h1 h2
      rcases h1 with h1 | h1
      · exact h1
      · rcases h2 with h2 | h2
        · exact h2.symm
        · have := hb.1 x h1; have := ha.1 y h2; omega
    subst e
    congr 1
    refine rising_ext a b ha.2 hb.2 fun z => ⟨fun hz => ?_, fun hz => ?_⟩
    · have h1 := (h z).1 (List.mem_cons_of_mem _ hz)
      rw [List.mem_cons] at h1
      rcases h1 with h1 | h1
      · have := ha.1 z hz; omega
      · exact h1
    · have h1 := (h z).2 (List.mem_cons_of_mem _ hz)
      rw [List.mem_cons] at h1
      rcases h1 with h1 | h1
      · have := hb.1 z hz; omega
      · exact h1

theorem compactUpTo_rises (d : Array Int) (hs : ∀ i j, i ≤ j → j < d.size → d[i]! ≤ d[j]!) : ∀ m, m ≤ d.size →
    (compactUpTo d m).Pairwise (· < ·) ∧ (∀ x, x ∈ compactUpTo d m ↔ ∃ j, j < m ∧ d[j]! = x)
  | 0, _ => by simp [compactUpTo]
  | m + 1, hm => by
    obtain ⟨h1, h2⟩ := compactUpTo_rises d hs m (by omega)
    rw [compactUpTo_succ]
    by_cases hk : keeps d m = true
    · rw [if_pos hk]
      have hlt : ∀ x, x ∈ compactUpTo d m → x < d[m]! := by
        intro x hx
        obtain ⟨j, hj, rfl⟩ := (h2 x).1 hx
        have e1 := hs j (m - 1) (by omega) (by omega)
        have e2 := hs (m - 1) m (by omega) (by omega)
        have e3 : m = 0 ∨ d[m]! ≠ d[m - 1]! := by simpa [keeps] using hk
        rcases e3 with e3 | e3 <;> omega
      refine ⟨List.pairwise_append.2 ⟨h1, by simp, fun a ha b hb => ?_⟩, fun x => ?_⟩
      · have : b = d[m]! := by simpa using hb
        subst this; exact hlt a ha
      · rw [List.mem_append, h2]
        constructor
        · rintro (⟨j, hj, rfl⟩ | hx)
          · exact ⟨j, by omega, rfl⟩
          · exact ⟨m, by omega, (by simpa using hx : x = d[m]!).symm⟩
        · rintro ⟨j, hj, rfl⟩
          rcases Nat.lt_or_ge j m with c | c
          · exact .inl ⟨j, c, rfl⟩
          · have : j = m := by omega
            subst this; exact .inr (by simp)
    · have e3 : ¬ (m = 0 ∨ d[m]! ≠ d[m - 1]!) := by simpa [keeps] using hk
      have e4 : m ≠ 0 := fun h => e3 (.inl h)
      have e5 : d[m]! = d[m - 1]! := Classical.byContradiction fun h => e3 (.inr h)
      rw [if_neg hk, List.append_nil]
      refine ⟨h1, fun x => ?_⟩
      rw [h2]
      constructor
      · rintro ⟨j, hj, rfl⟩; exact ⟨j, by omega, rfl⟩
      · rintro ⟨j, hj, rfl⟩
        rcases Nat.lt_or_ge j m with c | c
        · exact ⟨j, c, rfl⟩
        · have : j = m := by omega
          subst this; exact ⟨j - 1, by omega, e5.symm⟩

theorem compact_sorted (L L' : List Int) (hr : L'.Pairwise (· < ·)) (hm : ∀ x, x ∈ L' ↔ x ∈ L) : compact (L.mergeSort fun x y => decide (x ≤ y)) = L' := by
  have hsort : (L.mergeSort fun x y => decide (x ≤ y)).Pairwise (fun x y => decide (x ≤ y) = true) :=
    List.pairwise_mergeSort (fun a b c h1 h2 => by simp at *; omega) (fun a b => by simp; omega) L
  have hperm := List.mergeSort_perm L fun x y => decide (x ≤ y)
  generalize (L.mergeSort fun x y => decide (x ≤ y)) = S at *
  have hs : ∀ i j, i ≤ j → j < S.toArray.size → S.toArray[i]! ≤ S.toArray[j]! := by
    intro i j hij hj
    have hj' : j < S.length := by simpa using hj
    rcases Nat.lt_or_ge i j with c | c
    · have := List.pairwise_iff_getElem.1 hsort i j (by omega) hj' c
      simp at this
      simpa [getElem!_pos, hj', show i < S.length by omega] using this
    · have : i = j := by omega
      subst this; exact Int.le_refl _
  obtain ⟨h1, h2⟩ := compactUpTo_rises S.toArray hs S.length (by simp)
  refine rising_ext _ _ h1 hr fun x => ?_
  show x ∈ compactUpTo S.toArray S.length ↔ _
  rw [h2, hm, ← hperm.mem_iff]
  constructor
  · rintro ⟨j, hj, rfl⟩
    simp [getElem!_pos, hj]
  · intro hx
    obtain ⟨j, hj, rfl⟩ := List.getElem_of_mem hx
    exact ⟨j, hj, by simp [getElem!_pos, hj]⟩
end

section
open Go.RowKit Go.Sort

theorem grow_none (w : World) : grow w #[] = w := by simp [grow]

theorem sort_own (base : Nat) (v : Value) (L : List Int) (w : World) (ho : OwnInts base w v L) (hne : L ≠ []) (hm : L.length ≤ 1000) :
    Calls Tryz.prog 66 #[v] w fun e w' => e = .returned (.tuple #[]) ∧ OwnInts base w' v (L.mergeSort fun x y => decide (x ≤ y)) ∧ w.grownBy w' v.ownBlock := by
  rcases ho.2 with ⟨_, h0⟩ | ⟨g, cap, cur, rfl, hbase, hb, h1, h2, h3, h4⟩
  · exact absurd (by simpa using h0) hne
  · simp only [List.length_map] at h1 h4 ⊢
    have h63 : L.length < 4611686018427387904 := by omega
    refine (Tryz.slices_Sort_int g 0 cap L w (holds_of_blockI hb (by simpa using h4)) (Array.getElem?_eq_some_iff.1 hb).1 h63).mono ?_
    rintro e w' ⟨rfl, n, os, rfl⟩
    refine ⟨rfl, ?_, grownBy_sortedI _⟩
    have h := ownsRow_sortedI (w := w) (n := n) (os := os) (ss := L) (ts := L.mergeSort fun x y => decide (x ≤ y)) (by simp) hbase hb h1 h2 h3
    unfold OwnInts
    simp only [List.length_map, List.length_mergeSort]
    exact h

theorem take_putCellsA (cur : Array Value) (ts zs : List Int) (h : ts.length + zs.length ≤ cur.size) : (putCells (Value.int .i64) 0 (ts ++ zs).toArray cur).toList.take ts.length = ts.map (Value.int .i64) := by
  have h1 := take_putCellsI cur (ts ++ zs) (by simp; omega)
  have h2 := congrArg (List.take ts.length) h1
  rw [List.take_take, Nat.min_eq_left (by simp)] at h2
  rw [h2, List.map_append, List.take_append_of_le_length (by simp), List.take_of_length_le (by simp)]
theorem compact_len_le (L : List Int) : (Lib.compact L).length ≤ L.length := by
  unfold Lib.compact Lib.compactUpTo
  rw [List.length_map]
  exact Nat.le_trans (List.length_filter_le _ _) (by simp)

theorem compact_own (base : Nat) (v : Value) (L : List Int) (w : World) (ho : OwnInts base w v L) (hne : L ≠ []) :
    Calls Tryz.prog 68 #[v] w fun e w' => ∃ v', e = .returned v' ∧ OwnInts base w' v' (Lib.compact L) ∧ v'.ownBlock = v.ownBlock ∧ w.grownBy w' v.ownBlock := by
  rcases ho.2 with ⟨_, h0⟩ | ⟨g, cap, cur, rfl, hbase, hb, h1, h2, h3, h4⟩
  · exact absurd (by simpa using h0) hne
  · simp only [List.length_map] at h1 h4 ⊢
    have h63 : L.length ≤ 9223372036854775807 := by unfold maxLen at h2; omega
    refine (Tryz.slices_Compact_int g 0 cap L w (holds_of_blockI hb (by simpa using h4)) h63 h1).mono ?_
    rintro e w' ⟨rfl, n, rfl⟩
    have hl := compact_len_le L
    refine ⟨_, rfl, ?_, rfl, ?_⟩
    · unfold OwnInts
      refine ⟨by simp, .inr ⟨g, cap, putCells (Value.int .i64) 0 (Lib.compact L ++ List.replicate (L.length - (Lib.compact L).length) 0).toArray cur, by simp, hbase, ?_, by simp; omega, h2, ?_, ?_⟩⟩
      · have h := heap_sortedI (n := n) (os := #[]) (Lib.compact L ++ List.replicate (L.length - (Lib.compact L).length) 0).toArray hb
        rw [grow_none] at h
        exact h
      · simp [putCells, h3]
      · rw [List.length_map, Nat.mul_one]
        exact take_putCellsA cur _ _ (by simp; omega)
    · have h := grownBy_sortedI (w := w) (g := g) (n := n) (os := #[]) (Lib.compact L ++ List.replicate (L.length - (Lib.compact L).length) 0).toArray
      rw [grow_none] at h
      exact h

theorem OwnInts.cells {base : Nat} {w : World} {v : Value} {L : List Int} (ho : OwnInts base w v L) (hne : L ≠ []) :
    ∃ g cap, v = .slice (some ⟨g, 0, none⟩) L.length cap ∧ base ≤ g ∧ g < w.heap.size ∧ (∀ (j : Nat) (x : Int), L[j]? = some x → w.cell? ⟨g, 0 + j, none⟩ = some (.int .i64 x)) := by
  rcases ho.2 with ⟨_, h0⟩ | ⟨g, cap, cur, rfl, hbg, hg, hle, hm, hs, ht⟩
  · exact absurd (by simpa using h0) hne
  · refine ⟨g, cap, by simp, hbg, (Array.getElem?_eq_some_iff.1 hg).1, fun j x hx => ?_⟩
    have h1 : w.cell? ⟨g, 0 + j, none⟩ = cur[0 + j]? := cell_of_row w g (0 + j) cur _ (0, 0) hg
    rw [h1, Nat.zero_add]
    have hj : j < L.length := (List.getElem?_eq_some_iff.1 hx).1
    have h2 : (ints L)[j]? = some (.int .i64 x) := by rw [List.getElem?_map, hx]; rfl
    rw [← ht, List.getElem?_take_of_lt (by simp; omega)] at h2
    simpa using h2
end

section
open Go.RowKit

theorem at_to (b o n c : Nat) (ps : List P3) (x ra rb : Int) (w : World) (hn : n = ps.length) (h2 : 1 ≤ n) (hb : b < w.heap.size) (ht : tabOk ps = true) (hx : 0 ≤ x) (hx' : x ≤ 1000000) (hc : PtsAt w b o ps) (hr : atS ps x = (ra, rb)) :
    Calls Tryz.prog 65 #[tv (some ⟨b, o, none⟩) n c, .int .i64 x] w fun e w' => e = .returned (rv ra rb) ∧ Below w.heap.size w w' := by
  have h := at_memory b o n c ps x w hn h2 hb ht hx hx' hc
  rw [hr] at h; exact h
theorem keepJ {w0 w1 : World} {a b c : Value} {A B C : Nat} (hb : Below w0.heap.size w0 w1) (h : w0.cell? ⟨A, 0, none⟩ = some a ∧ w0.cell? ⟨B, 0, none⟩ = some b ∧ w0.cell? ⟨C, 0, none⟩ = some c) (h1 : A < w0.heap.size) (h2 : B < w0.heap.size) (h3 : C < w0.heap.size) :
    w1.cell? ⟨A, 0, none⟩ = some a ∧ w1.cell? ⟨B, 0, none⟩ = some b ∧ w1.cell? ⟨C, 0, none⟩ = some c :=
  ⟨((bcell hb).1 _ _ h1).trans h.1, ((bcell hb).1 _ _ h2).trans h.2.1, ((bcell hb).1 _ _ h3).trans h.2.2⟩

def plusAt (ps qs : List P3) (x : Int) : Int × Int × Int := addS (atS ps x).1 (atS ps x).2 (atS qs x).1 (atS qs x).2
@[reducible] def addFn : Value := .func (.func 47) #[] #[]

def Joined (w : World) (Bw Bt Bu b o n c b' o' n' c' : Nat) (ps qs : List P3) : Prop :=
  Blk w Bw 59 #[addFn] ∧ Blk w Bt 24 #[.slice (some ⟨b, o, none⟩) n c] ∧ Blk w Bu 24 #[.slice (some ⟨b', o', none⟩) n' c'] ∧
  PtsAt w b o ps ∧ PtsAt w b' o' qs ∧ b < w.heap.size ∧ b' < w.heap.size
theorem Joined.below {w w' : World} {Bw Bt Bu b o n c b' o' n' c' : Nat} {ps qs : List P3} (h : Joined w Bw Bt Bu b o n c b' o' n' c' ps qs) (hB : Below w.heap.size w w') : Joined w' Bw Bt Bu b o n c b' o' n' c' ps qs := by
  obtain ⟨h1, h2, h3, h4, h5, h6, h7⟩ := h
  have := hB.size
  exact ⟨h1.below hB h1.lt, h2.below hB h2.lt, h3.below hB h3.lt, h4.below hB h6, h5.below hB h7, by omega, by omega⟩

set_option maxRecDepth 100000 in
set_option maxHeartbeats 6000000 in
theorem plusAsk (Bw Bt Bu b o n c b' o' n' c' : Nat) (ps qs : List P3) (x : Int) (w : World) (h : Joined w Bw Bt Bu b o n c b' o' n' c' ps qs)
  (hn : n = ps.length) (h2 : 1 ≤ n) (ht : tabOk ps = true) (hn' : n' = qs.length) (h2' : 1 ≤ n') (ht' : tabOk qs = true) (hx : 0 ≤ x) (hx' : x ≤ 1000000) :
  Calls Tryz.prog 69 #[.int .i64 x, .pointer (some ⟨Bw, 0, none⟩), .pointer (some ⟨Bt, 0, none⟩), .pointer (some ⟨Bu, 0, none⟩)] w fun e w' => e = .returned (rt (plusAt ps qs x)) ∧ Below w.heap.size w w' := by
 obtain ⟨⟨ra, rb⟩, hr⟩ : ∃ r, atS ps x = r := ⟨_, rfl⟩
 obtain ⟨⟨sa, sb⟩, hs⟩ : ∃ r, atS qs x = r := ⟨_, rfl⟩
 have hv : plusAt ps qs x = addS ra rb sa sb := by unfold plusAt; rw [hr, hs]
 have HR := Lib.hid hr; have HS := Lib.hid hs; have HV := Lib.hid hv
 clear hr hs hv
 have n0 : Bw ≠ w.heap.size := by have := h.1.lt; omega
 have n1 : Bt ≠ w.heap.size := by have := h.2.1.lt; omega
 have n2 : Bu ≠ w.heap.size := by have := h.2.2.1.lt; omega
 have m0 := n0.symm
 have m1 := n1.symm
 have m2 := n2.symm
 have bR := Blk.new w 57 #[.int .i64 0, .int .i64 0]
 have hE : Below w.heap.size w (w.alloc (.cells #[.int .i64 0, .int .i64 0] 57)) := (Below.refl _ _).alloc (Nat.le_refl _) _
 have HJ := Lib.hid (h.below hE); have HE := Lib.hid hE; have HBR := Lib.hid bR; clear h hE bR
 have HN := Lib.hid (And.intro hn (And.intro ht (And.intro hn' ht'))); clear hn ht hn' ht'
 go_enter Tryz.func69, Tryz.ntmps69
 go_wp2_with fail
 obtain ⟨W1, hW1⟩ : ∃ W1, w.alloc (.cells #[.int .i64 0, .int .i64 0] 57) = W1 := ⟨_, rfl⟩
 rw [hW1] at HJ HE HBR ⊢
 clear hW1
 have z0 := HJ.out.1.cell 0
 have z1 := HJ.out.2.1.cell 0
 have z2 := HJ.out.2.2.1.cell 0
 simp at z0 z1 z2
 have l0 : Bw < W1.drew.heap.size := HJ.out.1.lt
 have l1 : Bt < W1.drew.heap.size := HJ.out.2.1.lt
 have l2 : Bu < W1.drew.heap.size := HJ.out.2.2.1.lt
 have lR : w.heap.size < W1.drew.heap.size := HBR.out.lt
 have f0 := HBR.out.drew.frozen 0
 have f1 := HBR.out.drew.frozen 1
 have HD := Lib.hid (HJ.out.below (below_d (Below.refl _ W1.drew)))
 have c0 : W1.drew.cell? ⟨w.heap.size, 0, none⟩ = some (.int .i64 0) := HBR.out.drew.cell 0
 have c1 : W1.drew.cell? ⟨w.heap.size, 1, none⟩ = some (.int .i64 0) := HBR.out.drew.cell 1
 have HC0 := Lib.hid c0; have HC1 := Lib.hid c1; clear c0 c1
 have C1 := Lib.hid (at_to b o n c ps x ra rb W1.drew HN.out.1 h2 HD.out.2.2.2.2.2.1 HN.out.2.1 hx hx' HD.out.2.2.2.1 HR.out)
 go_region_held3 (fun w' => w'.cell? ⟨Bw, 0, none⟩ = some addFn ∧ w'.cell? ⟨Bt, 0, none⟩ = some (.slice (some ⟨b, o, none⟩) n c) ∧ w'.cell? ⟨Bu, 0, none⟩ = some (.slice (some ⟨b', o', none⟩) n' c'))
  (first | (go_keep; done) | (clear HD HJ HE HBR HN HR HS HV; first | exact keepJ hb3 (by assumption) (Nat.lt_of_lt_of_le l0 (Nat.le_trans hb1.size hb2.size)) (Nat.lt_of_lt_of_le l1 (Nat.le_trans hb1.size hb2.size)) (Nat.lt_of_lt_of_le l2 (Nat.le_trans hb1.size hb2.size)) | exact keepJ hb2 (by assumption) (Nat.lt_of_lt_of_le l0 hb1.size) (Nat.lt_of_lt_of_le l1 hb1.size) (Nat.lt_of_lt_of_le l2 hb1.size) | exact keepJ hb1 (by assumption) l0 l1 l2))
  (first
   | (go_at_call 65; with_reducible refine (C1.out).mono ?_; rintro e w1 ⟨rfl, hb1⟩)
   | (go_at_call 65; have C2 := (at_to b' o' n' c' qs x sa sb w1 HN.out.2.2.1 h2' (Nat.lt_of_lt_of_le HD.out.2.2.2.2.2.2 hb1.size) HN.out.2.2.2 hx hx' (HD.out.2.2.2.2.1.below hb1 HD.out.2.2.2.2.2.2) HS.out); with_reducible refine C2.mono ?_; rintro e w2 ⟨rfl, hb2⟩)
   | (go_at_call 47; have C3 := add_any ra rb sa sb w2; with_reducible refine C3.mono ?_; rintro e w3 ⟨rfl, hb3⟩; have lR1 := Nat.lt_of_lt_of_le lR hb1.size; have lR2 := Nat.lt_of_lt_of_le lR1 hb2.size; have F0 : w3.frozen? ⟨w.heap.size, 0, none⟩ = false := ((bcell hb3).2 w.heap.size 0 lR2).trans (((bcell hb2).2 w.heap.size 0 lR1).trans (((bcell hb1).2 w.heap.size 0 lR).trans f0)); have F1 : w3.frozen? ⟨w.heap.size, 1, none⟩ = false := ((bcell hb3).2 w.heap.size 1 lR2).trans (((bcell hb2).2 w.heap.size 1 lR1).trans (((bcell hb1).2 w.heap.size 1 lR).trans f1)); have lR3 := Nat.lt_of_lt_of_le lR2 hb3.size; have D0 : w3.cell? ⟨w.heap.size, 0, none⟩ = some (.int .i64 0) := ((bcell hb3).1 w.heap.size 0 lR2).trans (((bcell hb2).1 w.heap.size 0 lR1).trans (((bcell hb1).1 w.heap.size 0 lR).trans HC0.out)); have D1 : w3.cell? ⟨w.heap.size, 1, none⟩ = some (.int .i64 0) := ((bcell hb3).1 w.heap.size 1 lR2).trans (((bcell hb2).1 w.heap.size 1 lR1).trans (((bcell hb1).1 w.heap.size 1 lR).trans HC1.out))))
 all_goals
  go_wp2
  refine bodyPost_ret (v := rt (addS ra rb sa sb)) (by simp [results, Tryz.results69, go_sem, D0, D1]) rfl ⟨by rw [HV.out], ?_⟩
  have hB3 := below_then (below_then (below_then HE.out (below_d hb1)) hb2) hb3
  exact ((hB3.setCell (p := ⟨w.heap.size, 0, none⟩) (by simp) _).setCell (p := ⟨w.heap.size, 1, none⟩) (by simp) _)
end

section
open Go.RowKit

def GivesTab0 (w : World) (L : List P3) (e : Ending) (w' : World) : Prop := ∃ v, e = .returned (.tuple #[.agg #[v], .int .i64 0]) ∧ OwnPts w.heap.size w' v L ∧ Below w.heap.size w w'

theorem below_alloc1 (w : World) (o : Obj) : Below w.heap.size w (w.alloc o) := (Below.refl _ _).alloc (Nat.le_refl _) _
theorem keepC {W2 w0 w1 : World} {a b : Value} {A B : Nat} (hb : Below w0.heap.size w0 w1) (h : w0.cell? ⟨A, 0, none⟩ = some a ∧ w0.cell? ⟨B, 0, none⟩ = some b ∧ Below W2.heap.size W2 w0) (h1 : A < W2.heap.size) (h2 : B < W2.heap.size) :
    w1.cell? ⟨A, 0, none⟩ = some a ∧ w1.cell? ⟨B, 0, none⟩ = some b ∧ Below W2.heap.size W2 w1 :=
  ⟨((bcell hb).1 _ _ (Nat.lt_of_lt_of_le h1 h.2.2.size)).trans h.1, ((bcell hb).1 _ _ (Nat.lt_of_lt_of_le h2 h.2.2.size)).trans h.2.1, below_then h.2.2 hb⟩
theorem keepCa {W2 w0 : World} {o : Obj} {a b : Value} {A B : Nat} (h : w0.cell? ⟨A, 0, none⟩ = some a ∧ w0.cell? ⟨B, 0, none⟩ = some b ∧ Below W2.heap.size W2 w0) (h1 : A < W2.heap.size) (h2 : B < W2.heap.size) :
    (w0.alloc o).cell? ⟨A, 0, none⟩ = some a ∧ (w0.alloc o).cell? ⟨B, 0, none⟩ = some b ∧ Below W2.heap.size W2 (w0.alloc o) :=
  keepC ((Below.refl _ _).alloc (Nat.le_refl _) _) h h1 h2
theorem keepCs {W2 w0 : World} {x y : Value} {a b : Value} {A B g : Nat} (h : w0.cell? ⟨A, 0, none⟩ = some a ∧ w0.cell? ⟨B, 0, none⟩ = some b ∧ Below W2.heap.size W2 w0) (h1 : A < W2.heap.size) (h2 : B < W2.heap.size) (hg : W2.heap.size ≤ g) :
    ((w0.setCell ⟨g, 0, none⟩ x).setCell ⟨g, 1, none⟩ y).cell? ⟨A, 0, none⟩ = some a ∧ ((w0.setCell ⟨g, 0, none⟩ x).setCell ⟨g, 1, none⟩ y).cell? ⟨B, 0, none⟩ = some b ∧ Below W2.heap.size W2 ((w0.setCell ⟨g, 0, none⟩ x).setCell ⟨g, 1, none⟩ y) := by
  have hB := (h.2.2.setCell (p := ⟨g, 0, none⟩) hg x).setCell (p := ⟨g, 1, none⟩) hg y
  obtain ⟨q, _⟩ := bcell h.2.2
  obtain ⟨r, _⟩ := bcell hB
  exact ⟨((r _ _ h1).trans (q _ _ h1).symm).trans h.1, ((r _ _ h2).trans (q _ _ h2).symm).trans h.2.1, hB⟩
theorem belowOf {W2 w0 : World} {a b : Value} {A B : Nat} (h : w0.cell? ⟨A, 0, none⟩ = some a ∧ w0.cell? ⟨B, 0, none⟩ = some b ∧ Below W2.heap.size W2 w0) : Below W2.heap.size W2 w0 := h.2.2
theorem blkNew {X w1 : World} {t : TypeId} {cs : Array Value} (h : Below (X.alloc (.cells cs t)).heap.size (X.alloc (.cells cs t)) w1) : Blk w1 X.heap.size t cs := (Blk.new X t cs).below h (Blk.new X t cs).lt
theorem blkNewD {X w1 : World} {t : TypeId} {cs : Array Value} (h : Below (X.alloc (.cells cs t)).drew.heap.size (X.alloc (.cells cs t)).drew w1) : Blk w1 X.heap.size t cs := (Blk.new X t cs).drew.below h (Blk.new X t cs).lt
theorem blkOn {w w1 : World} {g : Nat} {t : TypeId} {cs : Array Value} (h : Blk w g t cs) (hb : Below w.heap.size w w1) : Blk w1 g t cs := h.below hb h.lt

theorem mkE {W2 w1 : World} {a b c d : Value} {A B C : Nat} (hb : Below W2.heap.size W2 w1) (h : W2.cell? ⟨A, 0, none⟩ = some a ∧ W2.cell? ⟨B, 0, none⟩ = some b ∧ W2.cell? ⟨C, 0, none⟩ = some c ∧ W2.cell? ⟨C, 1, none⟩ = some d) (h1 : A < W2.heap.size) (h2 : B < W2.heap.size) (h3 : C < W2.heap.size) :
    w1.cell? ⟨A, 0, none⟩ = some a ∧ w1.cell? ⟨B, 0, none⟩ = some b ∧ w1.cell? ⟨C, 0, none⟩ = some c ∧ w1.cell? ⟨C, 1, none⟩ = some d ∧ Below W2.heap.size W2 w1 :=
  ⟨((bcell hb).1 _ _ h1).trans h.1, ((bcell hb).1 _ _ h2).trans h.2.1, ((bcell hb).1 _ _ h3).trans h.2.2.1, ((bcell hb).1 _ _ h3).trans h.2.2.2, hb⟩
theorem belowE {W2 w0 : World} {a b c d : Value} {A B C : Nat} (h : w0.cell? ⟨A, 0, none⟩ = some a ∧ w0.cell? ⟨B, 0, none⟩ = some b ∧ w0.cell? ⟨C, 0, none⟩ = some c ∧ w0.cell? ⟨C, 1, none⟩ = some d ∧ Below W2.heap.size W2 w0) : Below W2.heap.size W2 w0 := h.2.2.2.2
theorem OwnInts.below {base : Nat} {X Y : World} {v : Value} {L : List Int} (ho : OwnInts base X v L) (hb : Below X.heap.size X Y) : OwnInts base Y v L :=
  World.ownsRow.kept (show X.ownsRow base 3 1 v _ _ from ho) (below_grownNone hb) (by
    rcases (show X.ownsRow base 3 1 v _ _ from ho).2 with ⟨h1, _⟩ | ⟨g3, cap3, cur3, h1, _⟩
    · left; rw [h1]; rfl
    · right; rw [h1]; simp [Value.ownBlock])
theorem newsInts {w : World} {g : Nat} {L : List Int} (h : ∀ (j : Nat) (x : Int), L[j]? = some x → w.cell? ⟨g, 0 + j, none⟩ = some (.int .i64 x)) : ∀ (j : Nat) (u : Value), (ints L)[j]? = some u → w.cell? ((⟨g, 0, none⟩ : Addr).add j) = some u := by
  intro j u hu
  rw [List.getElem?_map] at hu
  cases hx : L[j]? with
  | none => rw [hx] at hu; cases hu
  | some x =>
    rw [hx] at hu; injection hu with hu; subst hu
    have h0 := h j x hx
    cases j with
    | zero => simpa [Addr.add] using h0
    | succ j => simpa [Addr.add] using h0
theorem ints_one (L : List Int) : ∀ u ∈ ints L, u.oneCell' = true := by
  intro u hu
  obtain ⟨x, _, rfl⟩ := List.mem_map.1 hu
  rfl

set_option maxRecDepth 100000 in
set_option maxHeartbeats 4000000 in
theorem combine_plus (b o n c b' o' n' c' : Nat) (ps qs : List P3) (LO HI : Int) (L : List Int) (w : World)
  (hn : n = ps.length) (h2 : 1 ≤ n) (ht : tabOk ps = true) (hn' : n' = qs.length) (h2' : 1 ≤ n') (ht' : tabOk qs = true)
  (hb : b < w.heap.size) (hb' : b' < w.heap.size) (hc : PtsAt w b o ps) (hc' : PtsAt w b' o' qs)
  (hLO : max (firstX ps) (firstX qs) = LO) (hHI : min (lastX ps) (lastX qs) = HI) (hov : LO ≤ HI)
  (hL : L.Pairwise (· < ·)) (hm : ∀ x, x ∈ L ↔ x ∈ cornersS ps LO HI ++ cornersS qs LO HI) (h40 : L.length ≤ 40)
  (hok : ∀ x ∈ L, (plusAt ps qs x).2.2 = 0 ∧ inB (plusAt ps qs x).1 (plusAt ps qs x).2.1 (-1000000000) 1000000000 = true) :
  Calls Tryz.prog 46 #[tv (some ⟨b, o, none⟩) n c, tv (some ⟨b', o', none⟩) n' c', addFn] w (GivesTab0 w (built (plusAt ps qs) L)) := by
 obtain ⟨i0, hi, hz0, hz1, hz2⟩ := info_parts Tryz.info3
 have hp40 := (tabOk_len ht).2
 have hq40 := (tabOk_len ht').2
 have hml : n ≤ maxLen := by unfold maxLen; omega
 have hml' : n' ≤ maxLen := by unfold maxLen; omega
 have hn40 : n ≤ 40 := by omega
 have hn40' : n' ≤ 40 := by omega
 obtain ⟨pl1, pl2⟩ := places_in ht
 obtain ⟨ql1, ql2⟩ := places_in ht'
 have hLx : ∀ x ∈ L, 0 ≤ x ∧ x ≤ 1000000 := fun x hx => by
  rcases List.mem_append.1 ((hm x).1 hx) with h | h <;> rcases corners_mem h with h | h <;> omega
 have hlen1 := corners_len ps LO HI hp40
 have hlen2 := corners_len qs LO HI hq40
 have tle : ¬ HI < LO := by omega
 have HN := Lib.hid (And.intro hn (And.intro ht (And.intro hn' ht'))); clear hn ht hn' ht'
 have HL := Lib.hid (And.intro hL (And.intro hm (And.intro hok hLx))); clear hL hm hok hLx
 have HD := Lib.hid (And.intro hLO hHI); clear hLO hHI pl1 pl2 ql1 ql2 hov
 have hJ : Joined ((((w.alloc (.cells #[.slice (some ⟨b, o, none⟩) n c] 24)).alloc (.cells #[.slice (some ⟨b', o', none⟩) n' c'] 24)).alloc (.cells #[addFn] 59)).alloc (.cells #[.slice none 0 0] 24)) (w.heap.size + 1 + 1) w.heap.size (w.heap.size + 1) b o n c b' o' n' c' ps qs := by
  have hE : Below w.heap.size w ((((w.alloc (.cells #[.slice (some ⟨b, o, none⟩) n c] 24)).alloc (.cells #[.slice (some ⟨b', o', none⟩) n' c'] 24)).alloc (.cells #[addFn] 59)).alloc (.cells #[.slice none 0 0] 24)) := below_a2 (below_a2 (Below.refl _ _))
  refine ⟨?_, ?_, ?_, hc.below hE hb, hc'.below hE hb', Nat.lt_of_lt_of_le hb hE.size, Nat.lt_of_lt_of_le hb' hE.size⟩
  ·have h := (Blk.new ((w.alloc (.cells #[.slice (some ⟨b, o, none⟩) n c] 24)).alloc (.cells #[.slice (some ⟨b', o', none⟩) n' c'] 24)) 59 #[addFn]).alloc (.cells #[.slice none 0 0] 24)
   simpa only [World.size_alloc] using h
  ·exact (((Blk.new w 24 #[.slice (some ⟨b, o, none⟩) n c]).alloc _).alloc _).alloc _
  ·have h := ((Blk.new (w.alloc (.cells #[.slice (some ⟨b, o, none⟩) n c] 24)) 24 #[.slice (some ⟨b', o', none⟩) n' c']).alloc (.cells #[addFn] 59)).alloc (.cells #[.slice none 0 0] 24)
   simpa only [World.size_alloc] using h
 have hT := Blk.new (((w.alloc (.cells #[.slice (some ⟨b, o, none⟩) n c] 24)).alloc (.cells #[.slice (some ⟨b', o', none⟩) n' c'] 24)).alloc (.cells #[addFn] 59)) 24 #[.slice none 0 0]
 simp only [World.size_alloc] at hT
 have hE : Below w.heap.size w ((((w.alloc (.cells #[.slice (some ⟨b, o, none⟩) n c] 24)).alloc (.cells #[.slice (some ⟨b', o', none⟩) n' c'] 24)).alloc (.cells #[addFn] 59)).alloc (.cells #[.slice none 0 0] 24)) := below_a2 (below_a2 (Below.refl _ _))
 have HJ := Lib.hid hJ; have HT := Lib.hid hT; have HE := Lib.hid hE
 clear hJ hT hE hc hc'
 go_enter Tryz.func46, Tryz.ntmps46
 go_wp2_with fail
 obtain ⟨W0, hW0⟩ : ∃ W0, ((((w.alloc (.cells #[.slice (some ⟨b, o, none⟩) n c] 24)).alloc (.cells #[.slice (some ⟨b', o', none⟩) n' c'] 24)).alloc (.cells #[addFn] 59)).alloc (.cells #[.slice none 0 0] 24)) = W0 := ⟨_, rfl⟩
 rw [hW0] at HJ HT HE ⊢
 clear hW0
 refine (checkTable_to _ n c ps _ _ _ HN.out.1 hml (HJ.out.2.2.2.1.pts HJ.out.2.2.2.2.2.1) HN.out.2.1 rfl).mono ?_
 rintro e w1 ⟨rfl, hb1⟩
 have HJ1 := Lib.hid (HJ.out.below hb1); have HT1 := Lib.hid (blkOn HT.out hb1); have HE1 := Lib.hid (below_then HE.out hb1)
 clear hb1
 have c1 := HJ1.out.2.2.1.cell 0
 simp at c1
 go_wp2_with fail
 refine (checkTable_to _ n' c' qs _ _ _ HN.out.2.2.1 hml' (HJ1.out.2.2.2.2.1.pts HJ1.out.2.2.2.2.2.2) HN.out.2.2.2 rfl).mono ?_
 rintro e w2 ⟨rfl, hb2⟩
 have HJ2 := Lib.hid (HJ1.out.below hb2); have HT2 := Lib.hid (blkOn HT1.out hb2); have HE2 := Lib.hid (below_then HE1.out hb2)
 clear hb2 c1
 have l0 : w.heap.size < w2.heap.size := HJ2.out.2.1.lt
 have l1 : w.heap.size + 1 < w2.heap.size := HJ2.out.2.2.1.lt
 have c0 := HJ2.out.2.1.cell 0
 have c1 := HJ2.out.2.2.1.cell 0
 simp at c0 c1
 have HD1 : Hid (∀ W, Below w2.heap.size w2 W → Calls Tryz.prog 64 #[tv (some ⟨b, o, none⟩) n c] W fun e w' => e = .returned (rv (firstX ps) (lastX ps)) ∧ Below W.heap.size W w') :=
  Lib.hid fun W hW => domain_tab _ n c ps W HN.out.1 ((HJ2.out.below hW).2.2.2.1.pts (HJ2.out.below hW).2.2.2.2.2.1) HN.out.2.1
 have HD2 : Hid (∀ W, Below w2.heap.size w2 W → Calls Tryz.prog 64 #[tv (some ⟨b', o', none⟩) n' c'] W fun e w' => e = .returned (rv (firstX qs) (lastX qs)) ∧ Below W.heap.size W w') :=
  Lib.hid fun W hW => domain_tab _ n' c' qs W HN.out.2.2.1 ((HJ2.out.below hW).2.2.2.2.1.pts (HJ2.out.below hW).2.2.2.2.2.2) HN.out.2.2.2
 go_upto_region 3 with fail
 go_cut [8] (fun s8 wx => ∃ B, s8 = .pointer (some ⟨B, 0, none⟩) ∧ Blk wx B 57 #[.int .i64 LO, .int .i64 HI] ∧ w2.heap.size ≤ B ∧ Below w2.heap.size w2 wx)
 case first =>
  go_region_held3 (fun w' => w'.cell? ⟨w.heap.size, 0, none⟩ = some (.slice (some ⟨b, o, none⟩) n c) ∧ w'.cell? ⟨w.heap.size + 1, 0, none⟩ = some (.slice (some ⟨b', o', none⟩) n' c') ∧ Below w2.heap.size w2 w')
   (first | exact ⟨c0, c1, (Below.refl _ _).drew⟩ | exact keepC (by assumption) (by assumption) l0 l1 | exact keepCa (by assumption) l0 l1 | exact keepCs (by assumption) l0 l1 (by first | exact Nat.le_refl _ | assumption))
   (first
    | (go_at_call 64; (with_reducible refine (HD1.out _ (belowOf (by assumption))).mono ?_); rintro e w3 ⟨rfl, hb3⟩; have s3 := (below_then (belowOf (W2 := w2) (A := w.heap.size) (B := w.heap.size + 1) (by assumption)) hb3).size; (try have N1 : Blk w3 w2.heap.size 57 #[.int .i64 0, .int .i64 0] := blkNewD hb3))
    | (go_at_call 64; (with_reducible refine (HD2.out _ (belowOf (by assumption))).mono ?_); rintro e w4 ⟨rfl, hb4⟩; have s4 := (below_then (belowOf (W2 := w2) (A := w.heap.size) (B := w.heap.size + 1) (by assumption)) hb4).size; (first | with_reducible have N2 := blkNew hb4 | have N2 := blkOn N1 hb4 | skip))
    | (go_at_call 57; refine (common_to _ _ _ _ LO HI _ HD.out.1 HD.out.2).mono ?_; rintro e w5 ⟨rfl, hb5⟩; have T5 := keepC (W2 := w2) (A := w.heap.size) (B := w.heap.size + 1) hb5 (by assumption) l0 l1; (first | (with_reducible have N3 := blkNew hb5; have d0 := N3.cell 0; have d1 := N3.cell 1; have d2 := N3.frozen 0; have d3 := N3.frozen 1; simp at d0 d1) | (have N3 := blkOn N2 hb5; have d0 := N3.cell 0; have d1 := N3.cell 1; have d2 := N3.frozen 0; have d3 := N3.frozen 1; simp at d0 d1) | skip)))
  all_goals go_wp2_with fail
  all_goals go_meet
  all_goals (first
   | exact ⟨_, rfl, Blk.new _ _ _, T5.2.2.size, T5.2.2.alloc T5.2.2.size _⟩
   | exact ⟨_, rfl, blk2 N3 LO HI, s4, (T5.2.2.setCell (p := ⟨_, 0, none⟩) s4 _).setCell (p := ⟨_, 1, none⟩) s4 _⟩
   | exact ⟨_, rfl, blk2 N3 LO HI, s3, (T5.2.2.setCell (p := ⟨_, 0, none⟩) s3 _).setCell (p := ⟨_, 1, none⟩) s3 _⟩
   | exact ⟨_, rfl, blk2 N3 LO HI, Nat.le_refl _, (T5.2.2.setCell (p := ⟨_, 0, none⟩) (Nat.le_refl _) _).setCell (p := ⟨_, 1, none⟩) (Nat.le_refl _) _⟩)
 case rest =>
  obtain ⟨B, rfl, hBk, hB2, hbc⟩ := hcut
  have HJc := Lib.hid (HJ2.out.below hbc); have HTc := Lib.hid (blkOn HT2.out hbc); have HEc := Lib.hid (below_then HE2.out hbc)
  have z0 := hBk.cell 0
  have z1 := hBk.cell 1
  have lB := hBk.lt
  simp at z0 z1
  have HBk := Lib.hid hBk
  clear hBk hbc c0 c1 HD1 HD2
  obtain ⟨L1, hL1⟩ : ∃ L1, cornersS ps LO HI = L1 := ⟨_, rfl⟩
  obtain ⟨L2, hL2⟩ : ∃ L2, cornersS qs LO HI = L2 := ⟨_, rfl⟩
  have hne1 := corners_ne ps LO HI
  have hne2 := corners_ne qs LO HI
  rw [hL1] at hlen1 hne1
  rw [hL2] at hlen2 hne2
  have hpos2 : 0 < L2.length := List.length_pos_iff.2 hne2
  have K1 : Hid (∀ W, Below wc.heap.size wc W → Calls Tryz.prog 45 #[tv (some ⟨b, o, none⟩) n c, .int .i64 LO, .int .i64 HI] W (GivesInts W L1)) :=
   Lib.hid fun W hW => by
    rw [← hL1]
    exact corners_any b o n c ps LO HI W HN.out.1 (by omega) hn40 (HJc.out.below hW).2.2.2.2.2.1 (HJc.out.below hW).2.2.2.1
  have K2 : Hid (∀ W, Below wc.heap.size wc W → Calls Tryz.prog 45 #[tv (some ⟨b', o', none⟩) n' c', .int .i64 LO, .int .i64 HI] W (GivesInts W L2)) :=
   Lib.hid fun W hW => by
    rw [← hL2]
    exact corners_any b' o' n' c' qs LO HI W HN.out.2.2.1 (by omega) hn40' (HJc.out.below hW).2.2.2.2.2.2 (HJc.out.below hW).2.2.2.2.1
  have HC := Lib.hid (And.intro hL1 (And.intro hL2 (And.intro hne1 hne2))); clear hL1 hL2 hne1 hne2
  have l0 : w.heap.size < wc.heap.size := HJc.out.2.1.lt
  have l1 : w.heap.size + 1 < wc.heap.size := HJc.out.2.2.1.lt
  have c0 := HJc.out.2.1.cell 0
  have c1 := HJc.out.2.2.1.cell 0
  simp at c0 c1
  go_wp2_with fail
  go_region_held3 (fun w' => w'.cell? ⟨w.heap.size, 0, none⟩ = some (.slice (some ⟨b, o, none⟩) n c) ∧ w'.cell? ⟨w.heap.size + 1, 0, none⟩ = some (.slice (some ⟨b', o', none⟩) n' c') ∧ w'.cell? ⟨B, 0, none⟩ = some (.int .i64 LO) ∧ w'.cell? ⟨B, 1, none⟩ = some (.int .i64 HI) ∧ Below wc.heap.size wc w')
   (first | assumption | exact mkE (Below.refl _ _).drew ⟨c0, c1, z0, z1⟩ l0 l1 lB | exact mkE (below_then (belowE (by assumption)) (by assumption)) ⟨c0, c1, z0, z1⟩ l0 l1 lB | exact mkE E8 ⟨c0, c1, z0, z1⟩ l0 l1 lB)
   (first
    | (go_at_call 45; (with_reducible refine (K1.out _ (belowE (by assumption))).mono ?_); rintro e w6 ⟨v1, rfl, ho1, hb6⟩; have E6 := below_then (belowE (W2 := wc) (A := w.heap.size) (B := w.heap.size + 1) (C := B) (by assumption)) hb6)
    | (go_at_call 45; (with_reducible refine (K2.out _ (belowE (by assumption))).mono ?_); rintro e w7 ⟨v2, rfl, ho2, hb7⟩; have E7 := below_then E6 hb7; obtain ⟨pg, cap2, rfl, hpg, hpl, hcell⟩ := OwnInts.cells ho2 HC.out.2.2.2; have HO1 := Lib.hid (World.ownsRow.mono (ho1.below hb7) (show wc.heap.size ≤ _ from Nat.le_refl _)); have HN2 := Lib.hid (newsInts hcell); have HB7 := Lib.hid E7; clear ho2 hcell ho1)
    | (refine step_append_lies _ (by rfl) _ _ _ (by rfl) wc.heap.size 3 i0 _ 1 8 Tryz.underlying88 hi hz0 hz1 hz2 rfl (by omega) v1 (ints L1).length (ints L1) (by rfl) (by exact HO1.out) ⟨pg, 0, none⟩ L2.length cap2 (ints L2) (by rfl) (by simp) HN2.out (ints_one L2) (by omega) (by simp [maxLen]; omega) (by simp; omega) HB7.out.size _ rfl ?_; intro gg cap3 w8 hown8 hgrow hat hlt; have E8 : Below wc.heap.size wc w8 := HB7.out.grown hgrow HB7.out.size (fun k hk => (World.ownsRow.lt HO1.out k hk).1))
    | fail)
  have HO8 : Hid (OwnInts wc.heap.size w8 (.slice (some ⟨gg, 0, none⟩) (L1.length + L2.length) cap3) (L1 ++ L2)) := Lib.hid (by unfold OwnInts; simpa using hown8)
  have HE8 := Lib.hid E8
  clear hown8 hgrow hat hlt E8 E6 E7 HO1 HN2 HB7 hb6 hb7 K1 K2 z0 z1 c0 c1
  have hne : L1 ++ L2 ≠ [] := by simp [HC.out.2.2.1]
  have HNE := Lib.hid hne; clear hne
  go_wp2_with fail
  refine (sort_own wc.heap.size _ (L1 ++ L2) w8 HO8.out HNE.out (by simp; omega)).mono ?_
  rintro e w9 ⟨rfl, ho9, hg9⟩
  have E9 := HE8.out.grown hg9 HE8.out.size (fun k hk => (World.ownsRow.lt HO8.out k hk).1)
  have HO9 := Lib.hid ho9; have HE9 := Lib.hid E9
  clear ho9 hg9 E9
  go_wp2_with fail
  refine (compact_own wc.heap.size _ _ w9 HO9.out (fun h => HNE.out (by have h1 := congrArg List.length h; rw [List.length_mergeSort] at h1; exact List.eq_nil_of_length_eq_zero h1))).mono ?_
  rintro e w10 ⟨v', rfl, ho10, hob, hg10⟩
  have E10 := HE9.out.grown hg10 HE9.out.size (fun k hk => (World.ownsRow.lt HO9.out k hk).1)
  have hmem : ∀ x, x ∈ L ↔ x ∈ L1 ++ L2 := by rw [← HC.out.1, ← HC.out.2.1]; exact HL.out.2.1
  rw [compact_sorted (L1 ++ L2) L HL.out.1 hmem] at ho10
  have hneL : L ≠ [] := by
   intro h
   obtain ⟨x, hx⟩ := List.exists_mem_of_ne_nil _ HNE.out
   have := (hmem x).2 hx
   rw [h] at this; cases this
  obtain ⟨pg2, cap4, rfl, hpg2, hpl2, hcell2⟩ := ho10.cells hneL
  have HCE := Lib.hid hcell2; have HJ10 := Lib.hid (HJc.out.below E10); have HT10 := Lib.hid (blkOn HTc.out E10); have HE10 := Lib.hid (below_then HEc.out E10)
  clear ho10 hob hg10 E10 hmem hneL hcell2
  go_wp2_with fail
  refine (build_good pg2 0 L.length cap4 (w.heap.size + 1 + 1) w.heap.size (w.heap.size + 1) L (plusAt ps qs) w10 rfl h40 hpl2 (fun k x hx => HCE.out k x hx)
   (fun x hx W hW => plusAsk _ _ _ b o n c b' o' n' c' ps qs x W (HJ10.out.below hW) HN.out.1 h2 HN.out.2.1 HN.out.2.2.1 h2' HN.out.2.2.2 (HL.out.2.2.2 x hx).1 (HL.out.2.2.2 x hx).2)
   HL.out.2.2.1).mono ?_
  rintro e w11 ⟨v, rfl, ho11, hb11⟩
  obtain ⟨sp, sn, sc, rfl⟩ := ho11.slice
  have hT := blkOn HT10.out hb11
  have r0 := hT.cell 0
  have f0 := hT.frozen 0
  have lT := hT.lt
  simp at r0
  have HO := Lib.hid ho11; have HE11 := Lib.hid (below_then HE10.out hb11)
  have HLe := Lib.hid (Nat.le_trans HE10.out.size (Nat.le_refl _))
  clear ho11 hb11 hT
  go_wp2
  have hB5 := HE11.out.setCell (p := ⟨w.heap.size + 1 + 1 + 1, 0, none⟩) (by show w.heap.size ≤ w.heap.size + 1 + 1 + 1; omega) (.slice sp sn sc)
  have lT10 : w.heap.size + 1 + 1 + 1 < w10.heap.size := HT10.out.lt
  refine bodyPost_ret (v := .tuple #[.agg #[.slice sp sn sc], .int .i64 0]) (by simp [results, Tryz.results46, go_sem, r0, lT]) rfl ⟨_, rfl, ?_, hB5⟩
  refine World.ownsRow.kept (World.ownsRow.mono (show w11.ownsRow w10.heap.size 39 3 _ _ _ from HO.out) HLe.out) (grownBy_setCell' w11 _ _) (.inr ?_)
  intro e
  have := (World.ownsRow.lt (show w11.ownsRow w10.heap.size 39 3 _ _ _ from HO.out) _ e).1
  omega
end

section
open Go.RowKit

set_option maxRecDepth 100000 in
set_option maxHeartbeats 2000000 in
theorem plus_good (b o n c b' o' n' c' : Nat) (ps qs : List P3) (LO HI : Int) (L : List Int) (w : World)
  (hn : n = ps.length) (h2 : 1 ≤ n) (ht : tabOk ps = true) (hn' : n' = qs.length) (h2' : 1 ≤ n') (ht' : tabOk qs = true)
  (hb : b < w.heap.size) (hb' : b' < w.heap.size) (hc : PtsAt w b o ps) (hc' : PtsAt w b' o' qs)
  (hLO : max (firstX ps) (firstX qs) = LO) (hHI : min (lastX ps) (lastX qs) = HI) (hov : LO ≤ HI)
  (hL : L.Pairwise (· < ·)) (hm : ∀ x, x ∈ L ↔ x ∈ cornersS ps LO HI ++ cornersS qs LO HI) (h40 : L.length ≤ 40)
  (hok : ∀ x ∈ L, (plusAt ps qs x).2.2 = 0 ∧ inB (plusAt ps qs x).1 (plusAt ps qs x).2.1 (-1000000000) 1000000000 = true) :
  Calls Tryz.prog 24 #[tv (some ⟨b, o, none⟩) n c, tv (some ⟨b', o', none⟩) n' c'] w (GivesTab0 w (built (plusAt ps qs) L)) := by
 have hE : Below w.heap.size w (((w.alloc (.cells #[.slice (some ⟨b, o, none⟩) n c] 24)).alloc (.cells #[.slice (some ⟨b', o', none⟩) n' c'] 24)).alloc (.cells #[.slice none 0 0] 24)) := below_a3 (Below.refl _ _)
 have hT := Blk.new ((w.alloc (.cells #[.slice (some ⟨b, o, none⟩) n c] 24)).alloc (.cells #[.slice (some ⟨b', o', none⟩) n' c'] 24)) 24 #[.slice none 0 0]
 simp only [World.size_alloc] at hT
 have hC : Hid (∀ W, Below w.heap.size w W → Calls Tryz.prog 46 #[tv (some ⟨b, o, none⟩) n c, tv (some ⟨b', o', none⟩) n' c', addFn] W (GivesTab0 W (built (plusAt ps qs) L))) :=
  Lib.hid fun W hW => combine_plus b o n c b' o' n' c' ps qs LO HI L W hn h2 ht hn' h2' ht' (Nat.lt_of_lt_of_le hb hW.size) (Nat.lt_of_lt_of_le hb' hW.size) (hc.below hW hb) (hc'.below hW hb') hLO hHI hov hL hm h40 hok
 have HT := Lib.hid hT; have HE := Lib.hid hE
 clear hn hn' ht ht' hc hc' hLO hHI hov hL hm h40 hok hT hE
 go_enter Tryz.func24, Tryz.ntmps24
 go_wp2_with fail
 refine (hC.out _ HE.out).mono ?_
 rintro e w1 ⟨v, rfl, ho, hb1⟩
 obtain ⟨sp, sn, sc, rfl⟩ := ho.slice
 have hT1 := blkOn HT.out hb1
 have r0 := hT1.cell 0
 have f0 := hT1.frozen 0
 have lT := hT1.lt
 simp at r0
 have HO := Lib.hid ho; have HE1 := Lib.hid (below_then HE.out hb1)
 have HLe := Lib.hid HE.out.size
 have lT0 := HT.out.lt
 clear ho hb1 hT1
 go_wp2
 have hB5 := HE1.out.setCell (p := ⟨w.heap.size + 1 + 1, 0, none⟩) (by show w.heap.size ≤ w.heap.size + 1 + 1; omega) (.slice sp sn sc)
 refine bodyPost_ret (v := .tuple #[.agg #[.slice sp sn sc], .int .i64 0]) (by simp [results, Tryz.results24, go_sem, r0, lT]) rfl ⟨_, rfl, ?_, hB5⟩
 refine World.ownsRow.kept (World.ownsRow.mono (show w1.ownsRow _ 39 3 _ _ _ from HO.out) HLe.out) (grownBy_setCell' w1 _ _) (.inr ?_)
 intro e
 have := (World.ownsRow.lt (show w1.ownsRow _ 39 3 _ _ _ from HO.out) _ e).1
 omega
end

section
open Go.RowKit

def Boxes (W : World) (L : List (Nat × TypeId × Array Value)) : Prop := ∀ p ∈ L, Blk W p.1 p.2.1 p.2.2
theorem Boxes.on {W W' : World} {L : List (Nat × TypeId × Array Value)} (h : Boxes W L) (hb : Below W.heap.size W W') : Boxes W' L := fun p hp => blkOn (h p hp) hb
theorem Boxes.new {W : World} {L : List (Nat × TypeId × Array Value)} (h : Boxes W L) (t : TypeId) (cs : Array Value) : Boxes (W.alloc (.cells cs t)) ((W.heap.size, t, cs) :: L) := fun p hp => by
  rcases List.mem_cons.1 hp with rfl | hp
  · exact Blk.new W t cs
  · exact (h p hp).alloc _
theorem int_to {P : Program} {f : FuncId} {args : Array Value} {w : World} {r x : Int} (h : Calls P f args w fun e w' => e = .returned (.int .i64 r) ∧ Below w.heap.size w w') (hr : r = x) :
    Calls P f args w fun e w' => e = .returned (.int .i64 x) ∧ Below w.heap.size w w' := by
  subst hr; exact h
theorem bool_to {P : Program} {f : FuncId} {args : Array Value} {w : World} {r x : Bool} (h : Calls P f args w fun e w' => e = .returned (.bool r) ∧ Below w.heap.size w w') (hr : r = x) :
    Calls P f args w fun e w' => e = .returned (.bool x) ∧ Below w.heap.size w w' := by
  subst hr; exact h
def IntsP (w : World) (A : Option Addr) (cs : List Int) : Prop := cs = [] ∨ ∃ b o, A = some ⟨b, o, none⟩ ∧ b < w.heap.size ∧ IntsMem w b o cs
theorem IntsMem.below {w w' : World} {b o : Nat} {L : List Int} (h : IntsMem w b o L) (hB : Below w.heap.size w w') (hb : b < w.heap.size) : IntsMem w' b o L := fun k x hx => ((bcell hB).1 b _ hb).trans (h k x hx)
theorem IntsP.below {w w' : World} {A : Option Addr} {L : List Int} (h : IntsP w A L) (hB : Below w.heap.size w w') : IntsP w' A L := by
  rcases h with h | ⟨b, o, h1, h2, h3⟩
  · exact .inl h
  · exact .inr ⟨b, o, h1, Nat.lt_of_lt_of_le h2 hB.size, h3.below hB h2⟩
end

section
open Go.RowKit Go.Shelf
attribute [local go_sem] Oper.semAt_some
def runStep (f : P3 → P3 → Int × Int) (L : List (Int × Int)) (y : Pr) : List (Int × Int) := if (f y.1.1 y.1.2).1 ≤ (f y.1.1 y.1.2).2 then addRun L (f y.1.1 y.1.2) else L
def runsF (f : P3 → P3 → Int × Int) (pre : List Pr) : List (Int × Int) := pre.foldl (runStep f) []
theorem runsF_snoc (f : P3 → P3 → Int × Int) (pre : List Pr) (y : Pr) : runsF f (pre ++ [y]) = runStep f (runsF f pre) y := by simp [runsF]
theorem runStep_len (f : P3 → P3 → Int × Int) (L : List (Int × Int)) (y : Pr) : (runStep f L y).length ≤ L.length + 1 := by
  unfold runStep; split
  · exact addRun_len _ _
  · omega
theorem foldl_runStep_len (f : P3 → P3 → Int × Int) : ∀ (pre : List Pr) (L : List (Int × Int)), (pre.foldl (runStep f) L).length ≤ L.length + pre.length
  | [], L => by simp
  | y :: pre, L => by
    have h1 := foldl_runStep_len f pre (runStep f L y)
    have h2 := runStep_len f L y
    simp only [List.foldl_cons, List.length_cons]; omega
theorem runsF_len (f : P3 → P3 → Int × Int) (pre : List Pr) : (runsF f pre).length ≤ pre.length := by
  have := foldl_runStep_len f pre []; simpa [runsF] using this

theorem OwnRuns.grown {base : Nat} {X Y : World} {row : Option Nat} {v : Value} {L : List (Int × Int)} (ho : OwnRuns base X v L) (hg : X.grownBy Y row) (hr : ∀ r, row = some r → ∃ o : Obj, X.heap[r]? = some o ∧ o.isCells = false) : OwnRuns base Y v L := by
  have ho' : X.ownsRow base 57 2 v L.length (runCells L) := ho
  refine World.ownsRow.kept ho' hg ?_
  rcases ho'.2 with ⟨h1, _⟩ | ⟨g3, cap3, cur3, h1, _, h2, _⟩
  · left; rw [h1]; rfl
  · right
    rw [h1]
    intro e
    obtain ⟨o, ho2, hc⟩ := hr g3 (by rw [← e]; rfl)
    rw [h2] at ho2
    cases ho2; cases hc
theorem OwnRuns.mono {base base' : Nat} {X : World} {v : Value} {L : List (Int × Int)} (ho : OwnRuns base X v L) (hb : base' ≤ base) : OwnRuns base' X v L := World.ownsRow.mono ho hb
theorem RunsN.grown {g base : Nat} {X Y : World} {row : Option Nat} {L : List (Int × Int)} (h : RunsN g base X L) (hg : X.grownBy Y row) (hr : ∀ r, row = some r → ∃ o : Obj, X.heap[r]? = some o ∧ o.isCells = false) : RunsN g base Y L := by
  have hcell : ∀ (cs : Array Value), Blk X g 128 cs → Blk Y g 128 cs := fun cs hb =>
    hb.grown hg (fun e' => by obtain ⟨o, ho, hc⟩ := hr g e'.symm; rw [show X.heap[g]? = _ from hb] at ho; cases ho; cases hc)
  rcases h with ⟨rfl, h⟩ | ⟨hne, v, hb, ho⟩
  · exact .inl ⟨rfl, hcell _ h⟩
  · exact .inr ⟨hne, v, hcell _ hb, ho.grown hg hr⟩
theorem RunsN.alloc {g base : Nat} {X : World} {L : List (Int × Int)} (h : RunsN g base X L) (o : Obj) : RunsN g base (X.alloc o) L := h.grown (World.grownBy_alloc X o none) (fun _ e => by cases e)
theorem RunsN.below {g base : Nat} {X Y : World} {L : List (Int × Int)} (h : RunsN g base X L) (hb : Below X.heap.size X Y) : RunsN g base Y L := h.grown (below_grownNone hb) (fun _ e => by cases e)
theorem Most.below {base g n : Nat} {w w' : World} (h : Most base g w w') (h1 : n ≤ base) (h2 : n ≤ g) : Below n w w' := ⟨h.1, h.2.1, h.2.2.1, h.2.2.2.1, fun k hk => h.2.2.2.2 k (by omega) (by omega)⟩
theorem Blk.most {base g j : Nat} {w w' : World} {t : TypeId} {cs : Array Value} (hb : Blk w j t cs) (h : Most base g w w') (h1 : j < base) (h2 : j ≠ g) : Blk w' j t cs := by
  unfold Blk at hb ⊢
  rw [h.2.2.2.2 j h1 h2]; exact hb
theorem below_then' {n : Nat} {X Y Z : World} (h : Below n X Y) (hb : Below Y.heap.size Y Z) (a b : Int) (hn : n ≤ Y.heap.size) : Below n X (Z.alloc (.cells #[.int .i64 a, .int .i64 b] 57)) :=
  (h.trans (hb.mono hn)).alloc (Nat.le_trans hn hb.size) _
def GivesRuns (w : World) (L : List (Int × Int)) (e : Ending) (w' : World) : Prop := ∃ v, e = .returned v ∧ OwnRuns w.heap.size w' v L ∧ Below w.heap.size w w'
@[reducible] def whereFn (Br : Nat) : Value := .func (.func 52) #[] #[.pointer (some ⟨Br, 0, none⟩)]

set_option maxRecDepth 100000 in
set_option maxHeartbeats 4000000 in
theorem collect_where (b0 o n c Br : Nat) (ps : List P3) (xs : List Pr) (lo hi : Int) (w : World) (hn : n = ps.length) (h2 : 1 ≤ n) (hb : b0 < w.heap.size) (ht : tabOk ps = true) (hxs : xs.map (·.1) = pcs ps) (hc : PtsAt w b0 o ps)
    (hr : Blk w Br 57 #[.int .i64 lo, .int .i64 hi]) :
    Calls Tryz.prog 51 #[tv (some ⟨b0, o, none⟩) n c, whereFn Br] w fun e w' => GivesRuns w (runsF (whereS lo hi) xs) e w' := by
  have h40 := (tabOk_len ht).2
  have hml : n ≤ maxLen := by unfold maxLen; omega
  have hn40 : n ≤ 40 := by omega
  have hbr := hr.lt
  have HN := Lib.hid hn; clear hn
  have HT := Lib.hid ht; clear ht
  have HX := Lib.hid hxs; clear hxs
  refine (callsIn_wide (n := 6)).1 ?_
  refine callsIn_of_wp_marks Tryz.func51 rfl trivial ?_ rfl
  simp only [Tryz.ntmps51, List.size_toArray, List.length_cons, List.length_nil, Nat.reduceAdd, Nat.reduceSub, Array.replicate_succ, Array.replicate_zero, List.push_toArray, List.append_toArray, List.nil_append, List.cons_append]
  gi_wp2_with (refine ⟨trivial, ?_⟩; gi_at_call 48; refine (callsIn_wide.2 (pieces_any _ _ _ _)).mono ?_; rintro e w' ⟨rfl, rfl⟩)
  have bF := (((Blk.new (w.alloc (.cells #[.slice (some ⟨b0, o, none⟩) n c] 24)) 107 #[whereFn Br]).alloc (.cells #[.slice none 0 0] 128)).alloc (.cells #[.pointer (some ⟨w.heap.size + 1 + 1, 0, none⟩)] 126)).alloc (.cells #[.slice (some ⟨b0, o, none⟩) n c] 24)
  have bG := ((Blk.new ((w.alloc (.cells #[.slice (some ⟨b0, o, none⟩) n c] 24)).alloc (.cells #[whereFn Br] 107)) 128 #[.slice none 0 0]).alloc (.cells #[.pointer (some ⟨w.heap.size + 1 + 1, 0, none⟩)] 126)).alloc (.cells #[.slice (some ⟨b0, o, none⟩) n c] 24)
  have bL := (Blk.new (((w.alloc (.cells #[.slice (some ⟨b0, o, none⟩) n c] 24)).alloc (.cells #[whereFn Br] 107)).alloc (.cells #[.slice none 0 0] 128)) 126 #[.pointer (some ⟨w.heap.size + 1 + 1, 0, none⟩)]).alloc (.cells #[.slice (some ⟨b0, o, none⟩) n c] 24)
  have bT := Blk.new ((((w.alloc (.cells #[.slice (some ⟨b0, o, none⟩) n c] 24)).alloc (.cells #[whereFn Br] 107)).alloc (.cells #[.slice none 0 0] 128)).alloc (.cells #[.pointer (some ⟨w.heap.size + 1 + 1, 0, none⟩)] 126)) 24 #[.slice (some ⟨b0, o, none⟩) n c]
  simp only [World.size_alloc] at bF bG bL bT
  have hE : Below w.heap.size w (((((w.alloc (.cells #[.slice (some ⟨b0, o, none⟩) n c] 24)).alloc (.cells #[whereFn Br] 107)).alloc (.cells #[.slice none 0 0] 128)).alloc (.cells #[.pointer (some ⟨w.heap.size + 1 + 1, 0, none⟩)] 126)).alloc (.cells #[.slice (some ⟨b0, o, none⟩) n c] 24)) := below_a3 (below_a2 (Below.refl _ _))
  have hsz : (((((w.alloc (.cells #[.slice (some ⟨b0, o, none⟩) n c] 24)).alloc (.cells #[whereFn Br] 107)).alloc (.cells #[.slice none 0 0] 128)).alloc (.cells #[.pointer (some ⟨w.heap.size + 1 + 1, 0, none⟩)] 126)).alloc (.cells #[.slice (some ⟨b0, o, none⟩) n c] 24)).heap.size = w.heap.size + 5 := by simp
  obtain ⟨W0, hW0⟩ : ∃ W0, (((((w.alloc (.cells #[.slice (some ⟨b0, o, none⟩) n c] 24)).alloc (.cells #[whereFn Br] 107)).alloc (.cells #[.slice none 0 0] 128)).alloc (.cells #[.pointer (some ⟨w.heap.size + 1 + 1, 0, none⟩)] 126)).alloc (.cells #[.slice (some ⟨b0, o, none⟩) n c] 24)) = W0 := ⟨_, rfl⟩
  rw [hW0] at bF bG bL bT hE hsz ⊢
  clear hW0
  have hc0 := hc.below hE hb
  have hr0 := hr.below hE hbr
  have HE := Lib.hid hE
  clear hE hc hr
  refine wpIn_rangeFunc_ownH rfl (by omega) (gf := 70) (lb := #[.pointer (some ⟨w.heap.size + 1 + 1 + 1 + 1, 0, none⟩)]) rfl trivial (enters_of Tryz.func70 (by kernel_rfl) rfl)
    (rise_stops xs (6 - 1) (by omega) (w.heap.size + 1 + 1 + 1 + 1) w.heap.size b0 o n c ps HN.out h2 hn40 HX.out hb W0 (by omega) (by omega) (bT.cell 0) hc0) belowK_t (belowK_b (by omega)) (Below.refl _ _) (fun _ => rfl)
    (fun pre W => (Blk W (w.heap.size + 1) 107 #[whereFn Br] ∧ Blk W (w.heap.size + 1 + 1 + 1) 126 #[.pointer (some ⟨w.heap.size + 1 + 1, 0, none⟩)] ∧ Blk W Br 57 #[.int .i64 lo, .int .i64 hi] ∧ RunsN (w.heap.size + 1 + 1) W0.heap.size W (runsF (whereS lo hi) pre)) ∧ Below w.heap.size W0 W)
    (fun _ _ _ => False)
    (OwnFrom.and (Own.from (fun s X Y row hs hg hr => ⟨blk_own (β := Unit) _ _ (fun _ => _) () X Y row hs.1 hg hr, blk_own (β := Unit) _ _ (fun _ => _) () X Y row hs.2.1 hg hr, blk_own (β := Unit) _ _ (fun _ => _) () X Y row hs.2.2.1 hg hr, hs.2.2.2.grown hg hr⟩) _) (ownFrom_below (by omega) (by omega)))
    (fun _ _ _ _ _ hs _ _ => hs)
    ⟨⟨bF, bL, hr0, .inl ⟨rfl, bG⟩⟩, Below.refl _ _⟩
    (fun y a' W => ∃ Bx, w.heap.size + 1 + 1 + 1 < Bx ∧ Blk W Bx 98 #[.int .i64 y.1.1.1, .int .i64 y.1.1.2.1, .int .i64 y.1.1.2.2, .int .i64 y.1.2.1, .int .i64 y.1.2.2.1, .int .i64 y.1.2.2.2] ∧ a' = { tmps := #[tv (some ⟨b0, o, none⟩) n c, whereFn Br, .pointer (some ⟨w.heap.size, 0, none⟩), .pointer (some ⟨w.heap.size + 1, 0, none⟩), .slice none 0 0, .pointer (some ⟨w.heap.size + 1 + 1 + 1, 0, none⟩), .pointer (some ⟨Bx, 0, none⟩), undef, .agg #[.slice none 0 0], .pointer (some ⟨w.heap.size + 1 + 1, 0, none⟩), .agg #[.slice (some ⟨b0, o, none⟩) n c], .func (.func 70) #[] #[.pointer (some ⟨w.heap.size + 1 + 1 + 1 + 1, 0, none⟩)], pv y.1.1 y.1.2, undef, undef, undef, undef, undef, undef, undef, undef, undef, undef, undef, undef, undef, undef, undef], defers := [] })
    (fun y a' _ X Y row hs hg hr => by
      obtain ⟨Bx, h1, h2, h3⟩ := hs
      exact ⟨Bx, h1, blk_own (β := Unit) _ _ (fun _ => _) () X Y row h2 hg (fun r e => (hr r e).2), h3⟩)
    ?assign ?body ?done ?stop
  case assign =>
    rintro l pre y W K ⟨⟨i1, i2, i3, i4⟩, hB1⟩ hK
    gi_wp2
    have hBs := hB1.size
    exact hK _ _ ((KeepsOthers.alloc _ _).from _) ((Below.refl _ W).alloc (by omega) _) ⟨⟨i1.alloc _, i2.alloc _, i3.alloc _, i4.alloc _⟩, hB1.alloc (by omega) _⟩ ⟨W.heap.size, by omega, Blk.new W 98 _, rfl⟩
  case body =>
    rintro l pre y a' W hl ⟨r, hr⟩ ⟨⟨i1, i2, i3, i4⟩, hB1⟩ ⟨Bx, hBx, bP, rfl⟩ hlt
    have x1 := i1.cell 0
    have x2 := i2.cell 0
    have p0 := bP.cell 0
    have p1 := bP.cell 1
    have p2 := bP.cell 2
    have p3 := bP.cell 3
    have p4 := bP.cell 4
    have p5 := bP.cell 5
    simp at x1 x2 p0 p1 p2 p3 p4 p5
    have hBs := hB1.size
    have J1 := Lib.hid i1; have J2 := Lib.hid i2; have J3 := Lib.hid i3; have J4 := Lib.hid i4; have JB := Lib.hid hB1
    clear i1 i2 i3 i4 hB1 bP
    have hy3 := y.2.2.2
    gi_wp2_with fail
    refine ⟨trivial, ?_⟩
    refine (CallsIn.inRound l (callsIn_wide.2 (whereAsk Br y.1.1 y.1.2 lo hi W J3.out y.2.1 y.2.2.1 (by omega)))).mono ?_
    rintro e W2 ⟨rfl, hb2⟩
    have hs2 := hb2.size
    generalize hR : whereS lo hi y.1.1 y.1.2 = R
    obtain ⟨ra, rb⟩ := R
    dsimp only
    have HR := Lib.hid hR; clear hR
    have hOb : Below W.heap.size W (W2.alloc (.cells #[.int .i64 ra, .int .i64 rb] 57)) := below_then hb2 ((Below.refl _ _).alloc (Nat.le_refl _) _)
    have k1 := (J1.out.below hb2 J1.out.lt).alloc (.cells #[.int .i64 ra, .int .i64 rb] 57)
    have k2 := (J2.out.below hb2 J2.out.lt).alloc (.cells #[.int .i64 ra, .int .i64 rb] 57)
    have k3 := (J3.out.below hb2 J3.out.lt).alloc (.cells #[.int .i64 ra, .int .i64 rb] 57)
    have k4 := (J4.out.below hb2).alloc (.cells #[.int .i64 ra, .int .i64 rb] 57)
    have kR := Blk.new W2 57 #[.int .i64 ra, .int .i64 rb]
    have kB := below_then' JB.out hb2 ra rb (by omega)
    have kK := keeps_below W0.heap.size hOb
    have kN := hOb.mono (show w.heap.size ≤ W.heap.size by omega)
    have z1 := (J2.out.below hb2 J2.out.lt).cell 0
    simp at z1
    have L1 := Lib.hid k1; have L2 := Lib.hid k2; have L3 := Lib.hid k3; have L4 := Lib.hid k4; have LR := Lib.hid kR; have LB := Lib.hid kB; have LK := Lib.hid kK; have LN := Lib.hid kN
    clear x1 x2 p0 p1 p2 p3 p4 p5 k1 k2 k3 k4 kR kB kK kN hb2 hOb
    have hza : w.heap.size + 1 + 1 + 1 < W2.heap.size := by omega
    by_cases hle : ra ≤ rb
    · gi_wp2_with fail
      refine ⟨trivial, ?_⟩
      have hpl : pre.length ≤ 1000000 := by have h1 := HN.out; have h2' := congrArg List.length HX.out; have h3' := pcs_len ps; simp at h2'; omega
      refine (CallsIn.inRound l (callsIn_wide.2 (runsAdd_any (w.heap.size + 1 + 1) W0.heap.size (runsF (whereS lo hi) pre) ra rb (W2.alloc (.cells #[.int .i64 ra, .int .i64 rb] 57)) L4.out (by simp; omega) (Nat.le_trans (runsF_len _ _) hpl)))).mono ?_
      rintro e W3 ⟨rfl, hA3, hM3, hK3⟩
      have m1 := L1.out.most hM3 (by omega) (by omega)
      have m2 := L2.out.most hM3 (by omega) (by omega)
      have m3 := L3.out.most hM3 (by omega) (by omega)
      have mN := hM3.below (n := w.heap.size) (by omega) (by omega)
      have H3 := Lib.hid hA3; have HK3 := Lib.hid hK3; have M1 := Lib.hid m1; have M2 := Lib.hid m2; have M3 := Lib.hid m3; have MN := Lib.hid mN
      clear hA3 hM3 hK3 m1 m2 m3 mN
      gi_wp2
      have q1 : KeepsFrom W0.heap.size W W3 := LK.out.trans (HK3.out.from _)
      have q2 : Below w.heap.size W W3 := LN.out.trans MN.out
      have q3 : Below w.heap.size W0 W3 := LB.out.trans MN.out
      refine ⟨q1, q2, ⟨M1.out, M2.out, M3.out, ?_⟩, q3⟩
      rw [runsF_snoc]; unfold runStep; rw [HR.out, if_pos hle]; exact .inr ⟨addRun_ne _ _, H3.out⟩
    · gi_wp2
      rw [← hsz]
      refine ⟨LK.out, LN.out, ⟨L1.out, L2.out, L3.out, ?_⟩, LB.out⟩
      rw [runsF_snoc]; unfold runStep; rw [HR.out, if_neg (show ¬ ra ≤ rb by omega)]; exact L4.out
  case done =>
    rintro D ys W hD rfl ⟨⟨i1, i2, i3, i4⟩, hB1⟩ hK
    have x2 := i2.cell 0
    simp at x2
    have hBs := hB1.size
    obtain ⟨v, hbv, hov⟩ : ∃ v, Blk W (w.heap.size + 1 + 1) 128 #[v] ∧ OwnRuns W0.heap.size W v (runsF (whereS lo hi) ys) := by
      rcases i4 with ⟨h1, h2⟩ | ⟨_, v, h1, h2⟩
      · exact ⟨_, h2, by rw [h1]; exact World.ownsRow_nil _ _ _ _⟩
      · exact ⟨v, h1, h2⟩
    have x3 := hbv.cell 0
    simp at x3
    have JB := Lib.hid hB1; have JV := Lib.hid hov
    clear i1 i2 i3 i4 hB1 hov
    gi_wp2
    refine ⟨by simp, .inl ⟨_, _, rfl, run_takeDeferred hK, ?_⟩⟩
    refine ⟨v, ?_, v, rfl, (JV.out.grown (grownBy_putObj' W D (.deferred none)) (fun r e => by injection e with e; subst e; exact ⟨_, hK, rfl⟩)).mono (by omega), ?_⟩
    · simp [results, Tryz.f51, go_sem]
    · exact (HE.out.trans JB.out).trans (belowK_b (w := W0) (by omega) _ D _ _ (by omega) hK rfl rfl)
  case stop =>
    rintro D cd pre W _ _ h _
    exact h.elim
end

section
open Go.RowKit Go.Shelf

def GivesRunsOk (w : World) (L : List (Int × Int)) (e : Ending) (w' : World) : Prop := ∃ v, e = .returned (.tuple #[v, .int .i64 0]) ∧ OwnRuns w.heap.size w' v L ∧ Below w.heap.size w w'

set_option maxRecDepth 100000 in
set_option maxHeartbeats 2000000 in
theorem where_good (b0 o n c : Nat) (ps : List P3) (xs : List Pr) (lo hi : Int) (w : World) (hn : n = ps.length) (h2 : 1 ≤ n) (hb : b0 < w.heap.size) (ht : tabOk ps = true) (hr : vR lo hi = true) (hxs : xs.map (·.1) = pcs ps) (hc : PtsAt w b0 o ps) :
  Calls Tryz.prog 27 #[tv (some ⟨b0, o, none⟩) n c, rv lo hi] w (GivesRunsOk w (runsF (whereS lo hi) xs)) := by
 have h40 := (tabOk_len ht).2
 have hml : n ≤ maxLen := by unfold maxLen; omega
 have HN := Lib.hid hn; clear hn
 have HT := Lib.hid ht; clear ht
 have HR := Lib.hid hr; clear hr
 have HX := Lib.hid hxs; clear hxs
 have hB0 : Below w.heap.size w ((w.alloc (.cells #[.slice (some ⟨b0, o, none⟩) n c] 24)).alloc (.cells #[.int .i64 lo, .int .i64 hi] 57)) := below_a2 (Below.refl _ _)
 have HC := Lib.hid (hc.below hB0 hb); clear hc
 have hb0 : b0 < ((w.alloc (.cells #[.slice (some ⟨b0, o, none⟩) n c] 24)).alloc (.cells #[.int .i64 lo, .int .i64 hi] 57)).heap.size := by simp; omega
 have bT := (Blk.new w 24 #[.slice (some ⟨b0, o, none⟩) n c]).alloc (.cells #[.int .i64 lo, .int .i64 hi] 57)
 have bR := Blk.new (w.alloc (.cells #[.slice (some ⟨b0, o, none⟩) n c] 24)) 57 #[.int .i64 lo, .int .i64 hi]
 simp only [World.size_alloc] at bR
 have HB := Lib.hid hb0; have HBT := Lib.hid bT; have HBR := Lib.hid bR; have HB0 := Lib.hid hB0
 clear hb0 bT bR hB0
 go_enter Tryz.func27, Tryz.ntmps27
 go_wp2_with fail
 refine (checkTable_to _ n c ps _ _ _ HN.out hml (HC.out.pts HB.out) HT.out rfl).mono ?_
 rintro e w1 ⟨rfl, hb1⟩
 have bT1 := HBT.out.below hb1 HBT.out.lt
 have bR1 := HBR.out.below hb1 HBR.out.lt
 have P1 := HC.out.below hb1 HB.out
 have hB1 := below_then HB0.out hb1
 have hz1 : w.heap.size + 1 < w1.heap.size := by have := hb1.size; simp at this; omega
 have r0 := bR1.cell 0
 have r1 := bR1.cell 1
 simp at r0 r1
 have HBT1 := Lib.hid bT1; have HBR1 := Lib.hid bR1; have HP1 := Lib.hid P1; have HB1 := Lib.hid hB1
 clear bT1 bR1 P1 hB1 hb1
 have hza : w.heap.size < w1.heap.size := by omega
 go_wp2_with fail
 refine (checkRange_ok lo hi _ HR.out).mono ?_
 rintro e w2 ⟨rfl, hb2⟩
 have bT2 := HBT1.out.below hb2 HBT1.out.lt
 have bR2 := HBR1.out.below hb2 HBR1.out.lt
 have P2 := HP1.out.below hb2 (by omega)
 have hB2 := below_then HB1.out hb2
 have hz2 : w.heap.size + 1 < w2.heap.size := by have := hb2.size; omega
 have t0 := bT2.cell 0
 simp at t0
 have hzc : w.heap.size < w2.heap.size := by omega
 have HBR2 := Lib.hid bR2; have HP2 := Lib.hid P2; have HB2 := Lib.hid hB2
 clear bT2 bR2 P2 hB2 hb2 r0 r1
 go_wp2_with fail
 refine (collect_where b0 o n c (w.heap.size + 1) ps xs lo hi w2 HN.out h2 (by omega) HT.out HX.out HP2.out HBR2.out).mono ?_
 rintro e w3 ⟨v, rfl, ho, hb3⟩
 have hB3 := below_then HB2.out hb3
 have HO := Lib.hid ho; have HB3 := Lib.hid hB3
 clear ho hB3 hb3
 go_wp2
 refine bodyPost_ret (v := .tuple #[v, .int .i64 0]) (by simp [results, Tryz.results27, go_sem]) rfl ⟨v, rfl, HO.out.mono (by omega), HB3.out⟩
end

section
open Go.RowKit

theorem mul_ex (w : World) : Calls Tryz.prog 22 #[rv (-2) 3, rv 4 5] w fun e w' => e = .returned (.tuple #[rv (-10) 15, .int .i64 0]) ∧ Below w.heap.size w w' := by
  have h := mul_any (-2) 3 4 5 w
  rwa [show mulS (-2) 3 4 5 = (-10, 15, 0) by decide] at h
theorem tabOk_tab : tabOk tabS = true := by decide
theorem tabOk_other : tabOk otherS = true := by decide
theorem over_ex (b c : Nat) (w : World) (hb : b < w.heap.size) (hc : PtsAt w b 0 tabS) : Calls Tryz.prog 23 #[tv (some ⟨b, 0, none⟩) 3 c, rv 5 12] w fun e w' => e = .returned (.tuple #[rv 2 9, .int .i64 0]) ∧ Below w.heap.size w w' := by
  have h := over_good b 0 3 c tabS 5 12 w rfl (by decide) hb tabOk_tab (by decide) (by decide) hc
  rwa [show overGood tabS 5 12 = (2, 9, true) by decide] at h

def sumS : List P3 := [(5, 3, 6), (10, 6, 11), (20, 11, 16)]
theorem sum_built : built (plusAt tabS otherS) [5, 10, 20] = sumS := by decide
theorem OwnPts.pts {base : Nat} {w : World} {v : Value} {L : List P3} (ho : OwnPts base w v L) (hne : 0 < L.length) :
    ∃ g cap, v = .slice (some ⟨g, 0, none⟩) L.length cap ∧ base ≤ g ∧ g < w.heap.size ∧ PtsAt w g 0 L := by
  have ho' : w.ownsRow base 39 3 v L.length (ptCells L) := ho
  obtain ⟨g, cap, rfl, h1, h2⟩ := ho'.form hne
  refine ⟨g, cap, rfl, h1, h2, fun k p hp => ?_⟩
  have hk : k < L.length := (List.getElem?_eq_some_iff.1 hp).1
  have hcell : ∀ i, i < 3 → (ptCells L)[k * 3 + i]? = [Value.int .i64 p.1, .int .i64 p.2.1, .int .i64 p.2.2][i]? := by
    intro i hi
    clear ho ho' h1 h2 hne
    induction L generalizing k with
    | nil => cases hp
    | cons q L ih =>
      cases k with
      | zero =>
        simp at hp; subst hp
        have : i = 0 ∨ i = 1 ∨ i = 2 := by omega
        rcases this with rfl | rfl | rfl <;> simp [ptCells]
      | succ k =>
        have e : ptCells (q :: L) = [Value.int .i64 q.1, .int .i64 q.2.1, .int .i64 q.2.2] ++ ptCells L := by simp [ptCells]
        rw [e, List.getElem?_append_right (by simp; omega)]
        have := ih k (by simpa using hp) (by simpa using hk)
        rw [← this]
        congr 1
        simp; omega
  have c := fun i (hi : i < 3) => (ho'.cellAt (k * 3 + i) (by omega)).trans (hcell i hi)
  refine ⟨?_, ?_, ?_⟩
  · rw [Nat.zero_add]; exact c 0 (by omega)
  · rw [Nat.zero_add]; exact c 1 (by omega)
  · rw [Nat.zero_add]; exact c 2 (by omega)
theorem plus_ex (b c b' c' : Nat) (w : World) (hb : b < w.heap.size) (hb' : b' < w.heap.size) (hc : PtsAt w b 0 tabS) (hc' : PtsAt w b' 0 otherS) :
    Calls Tryz.prog 24 #[tv (some ⟨b, 0, none⟩) 3 c, tv (some ⟨b', 0, none⟩) 2 c'] w fun e w' =>
      ∃ g cap, e = .returned (.tuple #[tv (some ⟨g, 0, none⟩) 3 cap, .int .i64 0]) ∧ w.heap.size ≤ g ∧ g < w'.heap.size ∧ PtsAt w' g 0 sumS ∧ Below w.heap.size w w' := by
  refine (plus_good b 0 3 c b' 0 2 c' tabS otherS 5 20 [5, 10, 20] w rfl (by decide) tabOk_tab rfl (by decide) tabOk_other hb hb' hc hc' (by decide) (by decide) (by decide) (by decide) ?_ (by decide) (by decide)).mono ?_
  · intro x
    rw [show cornersS tabS 5 20 ++ cornersS otherS 5 20 = [5, 10, 20, 5, 20] by decide]
    simp only [List.mem_cons, List.not_mem_nil, or_false]
    omega
  · rintro e w' ⟨v, rfl, ho, hB⟩
    rw [sum_built] at ho
    obtain ⟨g, cap, rfl, h1, h2, h3⟩ := ho.pts (by decide)
    exact ⟨g, cap, rfl, h1, h2, h3, hB⟩

def piecesEx : List Pc := [⟨((0, 0, 0), (10, 5, 8)), by unfold Okp; decide⟩, ⟨((10, 5, 8), (40, 20, 20)), by unfold Okp; decide⟩]
def piecesRise : List Pr := [⟨((0, 0, 0), (10, 5, 8)), by unfold Okp; decide⟩, ⟨((10, 5, 8), (40, 20, 20)), by unfold Okp; decide⟩]
theorem area_ex (b c : Nat) (w : World) (hb : b < w.heap.size) (hc : PtsAt w b 0 tabS) : Calls Tryz.prog 26 #[tv (some ⟨b, 0, none⟩) 3 c, .int .i64 5, .int .i64 11] w fun e w' => e = .returned (.tuple #[.int .i64 48, .int .i64 77, .int .i64 0]) ∧ Below w.heap.size w w' := by
  have h := area_good b 0 3 c tabS piecesEx 5 11 w rfl (by decide) hb tabOk_tab rfl (by decide) hc (by decide +kernel) (by decide +kernel) (by decide +kernel) (by decide +kernel) (by decide +kernel) (by decide +kernel)
  rwa [show downS (lowF 5 11 piecesEx) = 48 by decide +kernel, show wrap64 (-(downS (highF 5 11 piecesEx))) = 77 by decide +kernel] at h
theorem OwnRuns.mem {base : Nat} {w : World} {v : Value} {r : Int × Int} (ho : OwnRuns base w v [r]) :
    ∃ g cap, v = .slice (some ⟨g, 0, none⟩) 1 cap ∧ g < w.heap.size ∧ RunsMem w g 0 [r] := by
  have ho' : w.ownsRow base 57 2 v 1 (runCells [r]) := ho
  obtain ⟨g, cap, rfl, _, h2⟩ := ho'.form (by omega)
  refine ⟨g, cap, rfl, h2, fun k p hp => ?_⟩
  have c0 := ho'.cellAt 0 (by omega)
  have c1 := ho'.cellAt 1 (by omega)
  cases k with
  | zero => simp at hp; subst hp; exact ⟨c0, c1⟩
  | succ k => simp at hp
theorem where_ex (b c : Nat) (w : World) (hb : b < w.heap.size) (hc : PtsAt w b 0 tabS) : Calls Tryz.prog 27 #[tv (some ⟨b, 0, none⟩) 3 c, rv 6 6] w fun e w' =>
    ∃ g cap, e = .returned (.tuple #[.slice (some ⟨g, 0, none⟩) 1 cap, .int .i64 0]) ∧ g < w'.heap.size ∧ RunsMem w' g 0 [(7, 13)] ∧ Below w.heap.size w w' := by
  refine (where_good b 0 3 c tabS piecesRise 6 6 w rfl (by decide) hb tabOk_tab (by decide) rfl hc).mono ?_
  rintro e w' ⟨v, rfl, ho, hB⟩
  rw [show runsF (whereS 6 6) piecesRise = [(7, 13)] by decide +kernel] at ho
  obtain ⟨g, cap, rfl, h2, h3⟩ := ho.mem
  exact ⟨g, cap, rfl, h2, h3, hB⟩
end

section
open Go.RowKit
attribute [local go_sem ↓] eqlRange neqRange
theorem table_ex (w : World) : Calls Tryz.prog 21 #[] w fun e w' => ∃ g, e = .returned (tv (some ⟨g, 0, none⟩) 3 3) ∧ g < w'.heap.size ∧ PtsAt w' g 0 tabS ∧ Below w.heap.size w w' :=
  (table_any w).mono (by rintro e w' ⟨g, rfl, _, h⟩; exact ⟨g, rfl, h⟩)
theorem other_ex (w : World) : Calls Tryz.prog 25 #[] w fun e w' => ∃ g, e = .returned (tv (some ⟨g, 0, none⟩) 2 2) ∧ g < w'.heap.size ∧ PtsAt w' g 0 otherS ∧ Below w.heap.size w w' :=
  (other_any w).mono (by rintro e w' ⟨g, rfl, _, h⟩; exact ⟨g, rfl, h⟩)
theorem keepF {W2 w0 w1 : World} {a : Value} {A : Nat} (hb : Below w0.heap.size w0 w1) (h : w0.cell? ⟨A, 0, none⟩ = some a ∧ Below W2.heap.size W2 w0) (h1 : A < W2.heap.size) :
    w1.cell? ⟨A, 0, none⟩ = some a ∧ Below W2.heap.size W2 w1 := ⟨((bcell hb).1 _ _ (Nat.lt_of_lt_of_le h1 h.2.size)).trans h.1, below_then h.2 hb⟩
theorem keepFa {W2 w0 : World} {o : Obj} {a : Value} {A : Nat} (h : w0.cell? ⟨A, 0, none⟩ = some a ∧ Below W2.heap.size W2 w0) (h1 : A < W2.heap.size) :
    (w0.alloc o).cell? ⟨A, 0, none⟩ = some a ∧ Below W2.heap.size W2 (w0.alloc o) := keepF (below_alloc1 _ _) h h1
theorem keepFs {W2 w0 : World} {a x : Value} {A g : Nat} (h : w0.cell? ⟨A, 0, none⟩ = some a ∧ Below W2.heap.size W2 w0) (h1 : A < W2.heap.size) (hg : W2.heap.size ≤ g) :
    (w0.setCell ⟨g, 0, none⟩ x).cell? ⟨A, 0, none⟩ = some a ∧ Below W2.heap.size W2 (w0.setCell ⟨g, 0, none⟩ x) := by
  have hB := h.2.setCell (p := ⟨g, 0, none⟩) hg x
  exact ⟨((bcell hB).1 _ _ h1).trans (((bcell h.2).1 _ _ h1).symm.trans h.1), hB⟩
theorem belowF {W2 w0 : World} {a : Value} {A : Nat} (h : w0.cell? ⟨A, 0, none⟩ = some a ∧ Below W2.heap.size W2 w0) : Below W2.heap.size W2 w0 := h.2

set_option maxRecDepth 100000 in
set_option maxHeartbeats 4000000 in
theorem sane_any (w : World) : Calls Tryz.prog 9 #[] w fun e w' => e = .returned (.bool true) ∧ Below w.heap.size w w' := by
  go_enter Tryz.func9, Tryz.ntmps9
  go_wp2_with fail
  refine (table_ex w).mono ?_
  rintro e w1 ⟨g, rfl, hg, hP, hb1⟩
  have bT := Blk.new w1 24 #[.slice (some ⟨g, 0, none⟩) 3 3]
  have eW := below_alloc1 w1 (.cells #[.slice (some ⟨g, 0, none⟩) 3 3] 24)
  have P := hP.below eW hg
  have E := below_then hb1 eW
  have hg' := Nat.lt_of_lt_of_le hg eW.size
  have HP := Lib.hid (And.intro bT (And.intro P (And.intro E hg')))
  clear hP bT eW P E hg' hb1 hg
  go_wp2_with fail
  obtain ⟨A, hA⟩ : ∃ A, w1.heap.size = A := ⟨_, rfl⟩
  obtain ⟨W1, hW1⟩ : ∃ W1, w1.alloc (.cells #[.slice (some ⟨g, 0, none⟩) 3 3] 24) = W1 := ⟨_, rfl⟩
  rw [hW1] at HP ⊢
  rw [hA] at HP ⊢
  clear hW1 hA w1
  -- Mul
  refine (mul_ex W1).mono ?_
  rintro e w2 ⟨rfl, hb2⟩
  have HP2 := Lib.hid (And.intro (blkOn HP.out.1 hb2) (And.intro (HP.out.2.1.below hb2 HP.out.2.2.2) (And.intro (below_then HP.out.2.2.1 hb2) (Nat.lt_of_lt_of_le HP.out.2.2.2 hb2.size))))
  clear hb2 HP
  have c0 := HP2.out.1.cell 0
  have lA := HP2.out.1.lt
  simp at c0
  go_wp2_with fail
  have eW := below_alloc1 w2 (.cells #[.int .i64 (-10), .int .i64 15] 57)
  have bA := Blk.new w2 57 #[.int .i64 (-10), .int .i64 15]
  have HP3 := Lib.hid (And.intro (blkOn HP2.out.1 eW) (And.intro (HP2.out.2.1.below eW HP2.out.2.2.2) (And.intro (below_then HP2.out.2.2.1 eW) (Nat.lt_of_lt_of_le HP2.out.2.2.2 eW.size))))
  clear eW c0 lA HP2
  obtain ⟨A2, hA⟩ : ∃ A2, w2.heap.size = A2 := ⟨_, rfl⟩
  obtain ⟨W2, hW2⟩ : ∃ W2, w2.alloc (.cells #[.int .i64 (-10), .int .i64 15] 57) = W2 := ⟨_, rfl⟩
  rw [hW2] at HP3 bA ⊢
  rw [hA] at bA ⊢
  clear hW2 hA w2
  have HA := Lib.hid bA; clear bA
  -- Over
  refine (over_ex g 3 W2 HP3.out.2.2.2 HP3.out.2.1).mono ?_
  rintro e w3 ⟨rfl, hb3⟩
  have HP4 := Lib.hid (And.intro (blkOn HP3.out.1 hb3) (And.intro (HP3.out.2.1.below hb3 HP3.out.2.2.2) (And.intro (below_then HP3.out.2.2.1 hb3) (Nat.lt_of_lt_of_le HP3.out.2.2.2 hb3.size))))
  have HA4 := Lib.hid (blkOn HA.out hb3)
  clear hb3 HP3 HA
  have eW := below_alloc1 w3 (.cells #[.int .i64 2, .int .i64 9] 57)
  have bB := Blk.new w3 57 #[.int .i64 2, .int .i64 9]
  have HP5 := Lib.hid (And.intro (blkOn HP4.out.1 eW) (And.intro (HP4.out.2.1.below eW HP4.out.2.2.2) (And.intro (below_then HP4.out.2.2.1 eW) (Nat.lt_of_lt_of_le HP4.out.2.2.2 eW.size))))
  have HA5 := Lib.hid (blkOn HA4.out eW)
  clear eW HP4 HA4
  go_wp2_with fail
  obtain ⟨A3, hA⟩ : ∃ A3, w3.heap.size = A3 := ⟨_, rfl⟩
  obtain ⟨W3, hW3⟩ : ∃ W3, w3.alloc (.cells #[.int .i64 2, .int .i64 9] 57) = W3 := ⟨_, rfl⟩
  rw [hW3] at HP5 bB HA5 ⊢
  rw [hA] at bB ⊢
  clear hW3 hA w3
  have HB := Lib.hid bB; clear bB
  -- Plus
  have c0 := HP5.out.1.cell 0
  have lA := HP5.out.1.lt
  simp at c0
  go_cut [6, 7] (fun s6 s7 wx => ∃ B gp cap, s6 = .pointer (some ⟨B, 0, none⟩) ∧ s7 = .int .i64 0 ∧ Blk wx B 24 #[.slice (some ⟨gp, 0, none⟩) 3 cap] ∧ gp < wx.heap.size ∧ PtsAt wx gp 0 sumS ∧ Below W3.heap.size W3 wx)
  case first =>
    go_region_held3 (fun w' => w'.cell? ⟨A, 0, none⟩ = some (.slice (some ⟨g, 0, none⟩) 3 3) ∧ Below W3.heap.size W3 w')
      (first | exact ⟨c0, (Below.refl _ _).drew⟩ | exact keepF (by assumption) (by assumption) lA | exact keepFa (by assumption) lA | exact keepFs (by assumption) lA (by first | exact Nat.le_refl _ | assumption))
      (first
        | (go_at_call 25; refine (other_ex _).mono ?_; rintro e w4 ⟨g2, rfl, hg2, hQ, hb4⟩; have s4 := (below_then (belowF (W2 := W3) (A := A) (by assumption)) hb4).size; (try have N1 : Blk w4 W3.heap.size 24 #[.slice none 0 0] := blkNewD hb4);
           have HPl : Hid (∀ W, Below W3.heap.size W3 W → Below w4.heap.size w4 W → Calls Tryz.prog 24 #[tv (some ⟨g, 0, none⟩) 3 3, tv (some ⟨g2, 0, none⟩) 2 2] W fun e w' => ∃ g cap, e = .returned (.tuple #[tv (some ⟨g, 0, none⟩) 3 cap, .int .i64 0]) ∧ W.heap.size ≤ g ∧ g < w'.heap.size ∧ PtsAt w' g 0 sumS ∧ Below W.heap.size W w') := Lib.hid fun W h1 h2 => plus_ex g 3 g2 2 W (Nat.lt_of_lt_of_le HP5.out.2.2.2 h1.size) (Nat.lt_of_lt_of_le hg2 h2.size) (HP5.out.2.1.below h1 HP5.out.2.2.2) (hQ.below h2 hg2);
           clear hQ)
        | (go_at_call 24; (with_reducible refine (HPl.out _ (belowF (by assumption)) (by first | exact Below.refl _ _ | exact below_alloc1 _ _)).mono ?_); rintro e w5 ⟨gp, cap, rfl, hgp0, hgp, hS, hb5⟩; have T5 := keepF (W2 := W3) (A := A) hb5 (by assumption) lA; have HS := Lib.hid hS; clear hS;
           (first | (with_reducible have N2 := blkNew hb5; have d0 := N2.cell 0; have d1 := N2.frozen 0; have ne := Nat.ne_of_gt (Nat.lt_of_lt_of_le (Blk.new _ _ _).lt hgp0); simp at d0) | (have N2 := blkOn N1 hb5; have d0 := N2.cell 0; have d1 := N2.frozen 0; have ne := Nat.ne_of_gt (Nat.lt_of_lt_of_le N1.lt hgp0); simp at d0) | skip))
        | fail)
    all_goals go_wp2_with fail
    all_goals go_meet
    all_goals (first
      | exact ⟨_, gp, cap, rfl, rfl, Blk.new _ _ _, Nat.lt_of_lt_of_le hgp (below_alloc1 _ _).size, HS.out.below (below_alloc1 _ _) hgp, T5.2.alloc T5.2.size _⟩
      | exact ⟨_, gp, cap, rfl, rfl, by simpa using N2.set_ 0 (.slice (some ⟨gp, 0, none⟩) 3 cap), by simpa using hgp, HS.out.only ((Only.refl _ _).setCell (.inl rfl) _) hgp ne, T5.2.setCell (p := ⟨_, 0, none⟩) s4 _⟩
      | exact ⟨_, gp, cap, rfl, rfl, by simpa using N2.set_ 0 (.slice (some ⟨gp, 0, none⟩) 3 cap), by simpa using hgp, HS.out.only ((Only.refl _ _).setCell (.inl rfl) _) hgp ne, T5.2.setCell (p := ⟨_, 0, none⟩) (Nat.le_refl _) _⟩)
  case rest =>
    obtain ⟨B, gp, cap, rfl, rfl, hBk, hgp, hS, hbc⟩ := hcut
    have HP6 := Lib.hid (And.intro (blkOn HP5.out.1 hbc) (And.intro (HP5.out.2.1.below hbc HP5.out.2.2.2) (And.intro (below_then HP5.out.2.2.1 hbc) (Nat.lt_of_lt_of_le HP5.out.2.2.2 hbc.size))))
    have HA6 := Lib.hid (And.intro (blkOn HA5.out hbc) (And.intro (blkOn HB.out hbc) (And.intro hBk (And.intro hS hgp))))
    clear hbc hBk hS hgp HP5 HA5 HB c0 lA
    have c0 := HP6.out.1.cell 0
    simp at c0
    go_wp2_with fail
    -- Area
    refine (area_ex g 3 wc HP6.out.2.2.2 HP6.out.2.1).mono ?_
    rintro e w6 ⟨rfl, hbc⟩
    have HP7 := Lib.hid (And.intro (blkOn HP6.out.1 hbc) (And.intro (HP6.out.2.1.below hbc HP6.out.2.2.2) (And.intro (below_then HP6.out.2.2.1 hbc) (Nat.lt_of_lt_of_le HP6.out.2.2.2 hbc.size))))
    have HA7 := Lib.hid (And.intro (blkOn HA6.out.1 hbc) (And.intro (blkOn HA6.out.2.1 hbc) (And.intro (blkOn HA6.out.2.2.1 hbc) (And.intro (HA6.out.2.2.2.1.below hbc HA6.out.2.2.2.2) (Nat.lt_of_lt_of_le HA6.out.2.2.2.2 hbc.size)))))
    clear hbc HP6 HA6 c0
    have c0 := HP7.out.1.cell 0
    simp at c0
    go_wp2_with fail
    -- Where
    refine (where_ex g 3 w6 HP7.out.2.2.2 HP7.out.2.1).mono ?_
    rintro e w7 ⟨gw, cap7, rfl, hgw, hR, hbc⟩
    have HE8 := Lib.hid (below_then HP7.out.2.2.1 hbc)
    have HA8 := Lib.hid (And.intro (blkOn HA7.out.1 hbc) (And.intro (blkOn HA7.out.2.1 hbc) (And.intro (blkOn HA7.out.2.2.1 hbc) (And.intro (HA7.out.2.2.2.1.below hbc HA7.out.2.2.2.2) (Nat.lt_of_lt_of_le HA7.out.2.2.2.2 hbc.size)))))
    have HR := Lib.hid (And.intro hR hgw)
    clear hbc HP7 HA7 hR hgw c0
    have a0 := HA8.out.1.cell 0
    have a1 := HA8.out.1.cell 1
    have b0 := HA8.out.2.1.cell 0
    have b1 := HA8.out.2.1.cell 1
    have p0 := HA8.out.2.2.1.cell 0
    simp at a0 a1 b0 b1 p0
    go_wp2_with fail
    -- Same
    have eW := below_alloc1 w7 (.cells #[.int .i64 5, .int .i64 3, .int .i64 6, .int .i64 10, .int .i64 6, .int .i64 11, .int .i64 20, .int .i64 11, .int .i64 16] 39)
    have bS := Blk.new w7 39 #[.int .i64 5, .int .i64 3, .int .i64 6, .int .i64 10, .int .i64 6, .int .i64 11, .int .i64 20, .int .i64 11, .int .i64 16]
    have hQ : PtsAt (w7.alloc (.cells #[.int .i64 5, .int .i64 3, .int .i64 6, .int .i64 10, .int .i64 6, .int .i64 11, .int .i64 20, .int .i64 11, .int .i64 16] 39)) w7.heap.size 0 sumS := by
      intro k p hp
      rcases k with _ | _ | _ | k
      · simp [sumS] at hp; subst hp
        exact ⟨bS.cell 0, bS.cell 1, bS.cell 2⟩
      · simp [sumS] at hp; subst hp
        exact ⟨bS.cell 3, bS.cell 4, bS.cell 5⟩
      · simp [sumS] at hp; subst hp
        exact ⟨bS.cell 6, bS.cell 7, bS.cell 8⟩
      · simp [sumS] at hp
    have HR9 := Lib.hid (And.intro (HR.out.1.below eW HR.out.2) (Nat.lt_of_lt_of_le HR.out.2 eW.size))
    have HE9 := Lib.hid (below_then HE8.out eW)
    refine (same_yes gp 0 w7.heap.size 0 3 cap 3 sumS _ rfl (by decide) (Nat.lt_of_lt_of_le HA8.out.2.2.2.2 eW.size) bS.lt (HA8.out.2.2.2.1.below eW HA8.out.2.2.2.2) hQ).mono ?_
    rintro e w8 ⟨rfl, hbc⟩
    have HR10 := Lib.hid (And.intro (HR9.out.1.below hbc HR9.out.2) (Nat.lt_of_lt_of_le HR9.out.2 hbc.size))
    have HE10 := Lib.hid (below_then HE9.out hbc)
    clear eW bS hQ HR9 HE9 hbc HA8 a0 a1 b0 b1 p0 HR HE8
    go_wp2_with fail
    -- SameRanges
    have eW := below_alloc1 w8 (.cells #[.int .i64 7, .int .i64 13] 57)
    have bS := Blk.new w8 57 #[.int .i64 7, .int .i64 13]
    have hQ : RunsMem (w8.alloc (.cells #[.int .i64 7, .int .i64 13] 57)) w8.heap.size 0 [(7, 13)] := by
      intro k p hp
      cases k with
      | zero => simp at hp; subst hp; exact ⟨bS.cell 0, bS.cell 1⟩
      | succ k => simp at hp
    have HE11 := Lib.hid (below_then HE10.out eW)
    refine (sameRanges_yes gw 0 w8.heap.size 0 1 cap7 1 [(7, 13)] _ rfl (by decide) (Nat.lt_of_lt_of_le HR10.out.2 eW.size) bS.lt (HR10.out.1.below eW HR10.out.2) hQ).mono ?_
    rintro e w9 ⟨rfl, hbc⟩
    have HE12 := Lib.hid (below_then HE11.out hbc)
    clear eW bS hQ hbc
    go_wp2
    go_ret
    exact ⟨rfl, HE12.out⟩
end

end Go.Proofs.YtmglhhbfkohkcaaGreatDoor
