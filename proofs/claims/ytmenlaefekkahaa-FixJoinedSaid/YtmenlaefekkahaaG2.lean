/- The contract of build (fix) where it makes a table. Its conditions: the places lie in memory and are 40 at most; what the closure answers at each is told, is without error and within the bounds. -/
import Derived.Test.YtmenlaefekkahaaE1
import Derived.Test.YtmenlaefekkahaaF2
import Derived.Deep.AppendLies
import Derived.Deep.Onto
set_option linter.unusedVariables false
set_option linter.unusedSimpArgs false
set_option linter.constructorNameAsVariable false
namespace Go.Proofs.Ytmenlaefekkahaa
open Go.RowKit

theorem Try.infoP : (Try.prog.info? 87).map (fun i => (i.zero, i.size, i.bytes)) = some (some (.agg #[.int .i64 0, .int .i64 0, .int .i64 0]), 3, 24) := by kernel_rfl
/-- points as cells -/
def ptCells (l : List P3) : List Value := l.flatMap fun r => [.int .i64 r.1, .int .i64 r.2.1, .int .i64 r.2.2]
theorem ptCells_len (l : List P3) : (ptCells l).length = l.length * 3 := by
  induction l with
  | nil => rfl
  | cons x l ih => simp [ptCells] at ih ⊢; omega
theorem ptCells_snoc (l : List P3) (r : P3) : ptCells (l ++ [r]) = ptCells l ++ [.int .i64 r.1, .int .i64 r.2.1, .int .i64 r.2.2] := by simp [ptCells]
/-- A row of points of the call's own. -/
def OwnPts (base : Nat) (w : World) (v : Value) (l : List P3) : Prop := w.ownsRow base 87 3 v l.length (ptCells l)
theorem OwnPts.grown {base : Nat} {X Y : World} {row : Option Nat} {v : Value} {L : List P3} (ho : OwnPts base X v L) (hg : X.grownBy Y row) (hr : ∀ r, row = some r → ∃ o : Obj, X.heap[r]? = some o ∧ o.isCells = false) : OwnPts base Y v L := by
  have ho' : X.ownsRow base 87 3 v L.length (ptCells L) := ho
  refine World.ownsRow.kept ho' hg ?_
  rcases ho'.2 with ⟨h1, _⟩ | ⟨g3, cap3, cur3, h1, _, h2, _⟩
  · left; rw [h1]; rfl
  · right
    rw [h1]
    intro e
    obtain ⟨o, ho2, hc⟩ := hr g3 (by rw [← e]; rfl)
    rw [h2] at ho2
    cases ho2; cases hc
theorem take_snocP' {α : Type} {xs : List α} {k : Nat} {x : α} (h : xs[k]? = some x) : xs.take (k + 1) = xs.take k ++ [x] := take_snocP h
theorem keepR {w0 w1 : World} {a b : Value} {A : Nat} (hb : Below w0.heap.size w0 w1) (h : w0.cell? ⟨A, 0, none⟩ = some a ∧ w0.cell? ⟨A, 1, none⟩ = some b) (h1 : A < w0.heap.size) :
    w1.cell? ⟨A, 0, none⟩ = some a ∧ w1.cell? ⟨A, 1, none⟩ = some b := ⟨((bcell hb).1 _ _ h1).trans h.1, ((bcell hb).1 _ _ h1).trans h.2⟩
theorem OwnPts.slice {base : Nat} {X : World} {v : Value} {L : List P3} (ho : OwnPts base X v L) : ∃ p n c, v = .slice p n c := by
  rcases (show X.ownsRow base 87 3 v L.length (ptCells L) from ho).2 with ⟨h, _⟩ | ⟨g, c, _, h, _⟩
  · exact ⟨_, _, _, h⟩
  · exact ⟨_, _, _, h⟩
/-- ints in memory -/
def IntsMem (w : World) (b o : Nat) (L : List Int) : Prop := ∀ k x, L[k]? = some x → w.cell? ⟨b, o + k, none⟩ = some (.int .i64 x)
def built (f : Int → Int × Int × Int) (L : List Int) : List P3 := L.map fun x => (x, (f x).1, (f x).2.1)

set_option maxRecDepth 100000 in
set_option maxHeartbeats 1000000 in
theorem build_good (b o n c Bw Bt Bu : Nat) (L : List Int) (f : Int → Int × Int × Int) (w : World) (hn : n = L.length) (h40 : n ≤ 40) (hb : b < w.heap.size) (hc : IntsMem w b o L)
    (hask : ∀ x ∈ L, ∀ W, Below w.heap.size w W → Calls Try.prog 136 #[.int .i64 x, .pointer (some ⟨Bw, 0, none⟩), .pointer (some ⟨Bt, 0, none⟩), .pointer (some ⟨Bu, 0, none⟩)] W fun e w' => e = .returned (rt (f x)) ∧ Below W.heap.size W w')
    (hok : ∀ x ∈ L, (f x).2.2 = 0 ∧ inB (f x).1 (f x).2.1 (-1000000000) 1000000000 = true) :
    Calls Try.prog 94 #[.slice (some ⟨b, o, none⟩) n c, .func (.func 136) #[] #[.pointer (some ⟨Bw, 0, none⟩), .pointer (some ⟨Bt, 0, none⟩), .pointer (some ⟨Bu, 0, none⟩)]] w fun e w' =>
      ∃ v, e = .returned (.tuple #[.agg #[v], .int .i64 0]) ∧ OwnPts w.heap.size w' v (built f L) ∧ Below w.heap.size w w' := by
  obtain ⟨i0, hi, hz0, hz1, hz2⟩ := info_parts Try.infoP
  have HN := Lib.hid hn; have HC := Lib.hid hc; have HA := Lib.hid hask; have HO := Lib.hid hok
  clear hn hc hask hok
  have t1 : ¬ (40 : Int) < (n : Int) := by omega
  go_enter Try.func94, Try.ntmps94
  go_wp2_with fail
  go_loopw [6, 17] (fun v i wr => ∃ k : Nat, k ≤ n ∧ i = .int .i64 k ∧ OwnPts (w.heap.size + 1) wr v (built f (L.take k)) ∧ Blk wr w.heap.size 43 #[.slice none 0 0] ∧ Below w.heap.size w wr) (fun _ i _ => n - (intOf i).toNat)
  case atStart => exact ⟨0, by omega, rfl, World.ownsRow_nil _ _ _ _, Blk.new w 43 _, (Below.refl _ _).alloc (Nat.le_refl _) _⟩
  case round =>
    obtain ⟨k, hk, rfl, hown, hT, hB⟩ := hrel
    by_cases hlt : k < n
    · have hp : ∃ p, L[k]? = some p := ⟨_, List.getElem?_eq_getElem (show k < L.length by rw [← HN.out]; exact hlt)⟩
      obtain ⟨x, hp⟩ := hp
      have hxm : x ∈ L := List.mem_of_getElem? hp
      have c0 := HC.out k x hp
      rw [← hB.cell (p := ⟨b, o + k, none⟩) hb] at c0
      obtain ⟨ho1, ho2⟩ := HO.out x hxm
      have hA := HA.out x hxm
      have hS : built f (L.take (k + 1)) = built f (L.take k) ++ [(x, (f x).1, (f x).2.1)] := by unfold built; rw [take_snocP' hp, List.map_append]; rfl
      have hlen : (built f (L.take k)).length = k := by unfold built; rw [List.length_map, List.length_take]; have := HN.out; omega
      generalize f x = r at *
      obtain ⟨lo, hi', er⟩ := r
      dsimp only at ho1 ho2 hS
      subst ho1
      have HS := Lib.hid hS; have HAx := Lib.hid hA; have HL := Lib.hid hlen; have HW := Lib.hid hown; have HIN := Lib.hid ho2; have HB := Lib.hid hB; have HT := Lib.hid hT
      clear hS hA hlen hown hp ho2 hB hT
      go_wp2_with fail
      refine (HAx.out wr HB.out).mono ?_
      rintro e w1 ⟨rfl, hb1⟩
      have hB1 : Below w.heap.size w w1 := below_then HB.out hb1
      have hw1 := HW.out.grown (below_grownNone hb1) (fun _ e => by cases e)
      have bR := Blk.new w1 23 #[.int .i64 lo, .int .i64 hi']
      have hB2 : Below w.heap.size w (w1.alloc (.cells #[.int .i64 lo, .int .i64 hi'] 23)) := hB1.alloc hB1.size _
      have hw2 := hw1.grown (World.grownBy_alloc w1 (.cells #[.int .i64 lo, .int .i64 hi'] 23) none) (fun _ e => by cases e)
      have hT2 := (HT.out.below hb1 HT.out.lt).alloc (.cells #[.int .i64 lo, .int .i64 hi'] 23)
      have HT2 := Lib.hid hT2; clear hT2
      have HB2 := Lib.hid hB2; have HW2 := Lib.hid hw2; have HR := Lib.hid bR
      clear hB1 hw1 bR hB2 hw2 hb1
      go_wp2_with fail
      obtain ⟨W2, hW2⟩ : ∃ W2, w1.alloc (.cells #[.int .i64 lo, .int .i64 hi'] 23) = W2 := ⟨_, rfl⟩
      rw [hW2] at HB2 HW2 HR HT2 ⊢
      clear hW2
      have z0 := HR.out.cell 0
      have z1 := HR.out.cell 1
      simp at z0 z1
      have lR : w1.heap.size < W2.drew.heap.size := HR.out.lt
      go_region_held3 (fun w' => w'.cell? ⟨w1.heap.size, 0, none⟩ = some (.int .i64 lo) ∧ w'.cell? ⟨w1.heap.size, 1, none⟩ = some (.int .i64 hi'))
        (first | (go_keep; done) | exact keepR hb4 ‹_› (Nat.lt_of_lt_of_le lR hb3.size) | exact keepR hb3 ‹_› lR)
        (first
          | (go_at_call 82; refine (around_any 1000000000 W2.drew (by omega) (by omega)).mono ?_; rintro e w3 ⟨rfl, hb3⟩)
          | (go_at_call 87; refine (within_to lo hi' (-1000000000) 1000000000 true w3 HIN.out).mono ?_; rintro e w4 ⟨rfl, hb4⟩))
      all_goals
        have hB4 : Below w.heap.size w w4 := below_then (below_then HB2.out (below_d hb3)) hb4
        have hw4 := (HW2.out.grown (below_grownNone (below_d hb3)) (fun _ e => by cases e)).grown (below_grownNone hb4) (fun _ e => by cases e)
        have hT4 := (HT2.out.drew.below hb3 (show w.heap.size < W2.drew.heap.size from HT2.out.lt)).below hb4 (Nat.lt_of_lt_of_le (show w.heap.size < W2.drew.heap.size from HT2.out.lt) hb3.size)
        have HT4 := Lib.hid (hT4.alloc (.cells #[.int .i64 x, .int .i64 lo, .int .i64 hi'] 87))
        have ltT := hT4.lt
        have hR4 := (HR.out.drew.below hb3 lR).below hb4 (Nat.lt_of_lt_of_le lR hb3.size)
        have y0 := hR4.cell 0
        have y1 := hR4.cell 1
        simp at y0 y1
        have HO2 := Lib.hid (World.ownsRow.alloc (o := .cells #[.int .i64 x, .int .i64 lo, .int .i64 hi'] 87) (show w4.ownsRow (w.heap.size + 1) 87 3 _ _ _ from hw4))
        have HB4 := Lib.hid hB4
        have hcell : ∀ (j : Nat) (u : Value), [Value.int .i64 x, .int .i64 lo, .int .i64 hi'][j]? = some u → (w4.alloc (.cells #[.int .i64 x, .int .i64 lo, .int .i64 hi'] 87)).cell? ((⟨w4.heap.size, 0, none⟩ : Addr).add j) = some u :=
          World.news_of_block (cs := #[.int .i64 x, .int .i64 lo, .int .i64 hi']) (t := 87) (fr := (0, 0)) (heap_alloc_new w4 _)
        have HCE := Lib.hid hcell
        have lR4 : w1.heap.size < w4.heap.size := Nat.lt_of_lt_of_le (Nat.lt_of_lt_of_le lR hb3.size) hb4.size
        clear hB4 hw4 hR4 hT4 hcell hb3 hb4 lR z0 z1
        go_wp2_with (at_builtin; refine wpList_append_own _ rfl (.tmp 36) (.tmp 43) 41 rfl (w.heap.size + 1) 87 i0 (.agg #[.int .i64 0, .int .i64 0, .int .i64 0]) 3 24 Try.underlying41 hi hz0 hz1 hz2 rfl (by decide) _ _ _ rfl HO2.out ⟨w4.heap.size, 0, none⟩ 1 1 [.int .i64 x, .int .i64 lo, .int .i64 hi'] rfl rfl HCE.out ?c2 ?c3 ?c4 ?c5 ?_)
        case c2 => simp [Value.oneCell']
        case c3 => simp only [maxLen]; rw [HL.out]; omega
        case c4 => rw [HL.out]; omega
        case c5 => simp; omega
        intro v' w5 hown1 hgrow _
        have hrow : ∀ j, Value.ownBlock u6 = some j → w.heap.size + 1 ≤ j := fun j e => (HO2.out.lt j e).1
        have hB5 : Below w.heap.size w w5 := (HB4.out.alloc HB4.out.size _).grown hgrow (by have := HB4.out.size; simp; omega) (fun j e => Nat.le_trans (Nat.le_succ _) (hrow j e))
        have hT5 := HT4.out.grown hgrow (fun e => absurd (hrow _ e.symm) (by omega))
        have hown2 : OwnPts (w.heap.size + 1) w5 v' (built f (L.take (k + 1))) := by
          unfold OwnPts
          rw [HS.out, List.length_append, ptCells_snoc]
          exact hown1
        clear hown1 hgrow
        go_wp2
        go_roundw
        case rel => exact ⟨k + 1, by omega, by go_num, hown2, hT5, hB5⟩
        case measure => simp [intOf]; omega
    · have hkn : built f (L.take k) = built f L := by rw [List.take_of_length_le (by have := HN.out; omega)]
      rw [hkn] at hown
      obtain ⟨sp, sn, sc, rfl⟩ := hown.slice
      have HW := Lib.hid hown
      have r0 := hT.cell 0
      have f0 := hT.frozen 0
      have lT := hT.lt
      simp at r0
      have HT := Lib.hid hT
      clear hown hT hkn
      go_wp2
      have hown2 : OwnPts (w.heap.size + 1) (wr.setCell ⟨w.heap.size, 0, none⟩ (.slice sp sn sc)) (.slice sp sn sc) (built f L) := by
        refine World.ownsRow.kept (show wr.ownsRow (w.heap.size + 1) 87 3 _ _ _ from HW.out) (grownBy_setCell' wr w.heap.size _) (.inr ?_)
        intro e
        have := (World.ownsRow.lt (show wr.ownsRow (w.heap.size + 1) 87 3 _ _ _ from HW.out) _ e).1
        omega
      have hB5 : Below w.heap.size w (wr.setCell ⟨w.heap.size, 0, none⟩ (.slice sp sn sc)) := hB.setCell (p := ⟨w.heap.size, 0, none⟩) (by simp) _
      refine bodyPost_ret (v := .tuple #[.agg #[.slice sp sn sc], .int .i64 0]) (by simp [results, Try.results94, go_sem, r0, lT]) rfl ⟨_, rfl, World.ownsRow.mono hown2 (by omega), hB5⟩
end Go.Proofs.Ytmenlaefekkahaa
