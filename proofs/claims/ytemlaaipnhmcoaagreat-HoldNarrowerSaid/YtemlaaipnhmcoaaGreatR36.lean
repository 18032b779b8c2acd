/- add of the specification: a run behind a list of runs of the call's own. Its conditions: the list is the caller's own; the numbers are places. -/
import Derived.Test.YtemlaaipnhmcoaaGreatR17
import Derived.Test.YtemlaaipnhmcoaaGreatR22
import Derived.Test.YtemlaaipnhmcoaaGreatR09
import Derived.Test.YtemlaaipnhmcoaaGreatR10
import Derived.Test.YtemlaaipnhmcoaaGreatR08
import Derived.Test.YtemlaaipnhmcoaaGreatQ98
set_option linter.unusedVariables false
set_option linter.unusedSimpArgs false
set_option linter.constructorNameAsVariable false
namespace Go.Proofs.YtemlaaipnhmcoaaGreat

section
open Go.RowKit

def curveTo (ps : List P3) (pk : List Int) : Nat → List Int
  | 0 => []
  | k + 1 => match ps[k]? with
    | some p => curveTo ps pk k ++ [p.2.1 + pickS pk k % (p.2.2 - p.2.1 + 1)]
    | none => curveTo ps pk k
theorem curveTo_succ {ps : List P3} {pk : List Int} {k : Nat} {p : P3} (h : ps[k]? = some p) : curveTo ps pk (k + 1) = curveTo ps pk k ++ [p.2.1 + pickS pk k % (p.2.2 - p.2.1 + 1)] := by rw [curveTo, h]
theorem curveTo_len (ps : List P3) (pk : List Int) : ∀ k : Nat, k ≤ ps.length → (curveTo ps pk k).length = k
  | 0, _ => rfl
  | k + 1, h => by
    have q := curveTo_len ps pk k (by omega)
    rw [curveTo, List.getElem?_eq_getElem (show k < ps.length by omega)]
    dsimp only
    rw [List.length_append, q]
    rfl
def NotWide (p : P3) : Prop := p.2.1 ≤ p.2.2 ∧ -1000000000000 ≤ p.2.1 ∧ p.2.2 ≤ 1000000000000

set_option maxRecDepth 100000 in
set_option maxHeartbeats 4000000 in
theorem scurve_to (A P : Option Addr) (n c pn pc : Nat) (ps : List P3) (pk : List Int) (w : World) (hp : TabIn w A n ps) (h40 : n ≤ 40) (hw : ∀ p ∈ ps, NotWide p) (hn : pn = pk.length) (hm : pn ≤ 4611686018427387904) (hk : IntsP w P pk) :
  Calls Tryz.prog 21 #[tv A n c, .slice P pn pc] w (GivesInts w (curveTo ps pk n)) := by
 obtain ⟨i0, i1, i2, i3, i4⟩ := info_parts Tryz.info3
 have CP : Hid (∀ W i, Below w.heap.size w W → Calls Tryz.prog 61 #[.slice P pn pc, .int .i64 i] W fun e w' => e = .returned (.int .i64 (pickS pk i)) ∧ Below W.heap.size W w') := Lib.hid fun W i hW => spick_to P pn pc pk i W hn hm (hk.below hW)
 obtain ⟨hpn, _, hpt⟩ := hp
 have HPN := Lib.hid hpn; have HPT := Lib.hid hpt; have HWD := Lib.hid hw
 clear hn hm hk hpn hpt hw
 have HE := Lib.hid (show Below w.heap.size w (w.alloc (.cells #[.slice A n c] 33)) from below_alloc1 w _)
 have HK := Lib.hid (boxes1' w 33 #[.slice A n c])
 go_enter Tryz.func21, Tryz.ntmps21
 go_upto_region 1 with fail
 obtain ⟨W0, hW0⟩ : ∃ W0 : World, (w.alloc (.cells #[.slice A n c] 33)) = W0 := ⟨_, rfl⟩
 rw [hW0] at HE HK ⊢
 clear hW0
 obtain ⟨G, hG⟩ : ∃ G, w.heap.size = G := ⟨_, rfl⟩
 rw [hG] at HK ⊢
 have HG := Lib.hid hG; clear hG
 go_wp2_with fail
 go_loopw [5, 6] (fun v i wr => ∃ k : Nat, k ≤ n ∧ i = .int .i64 k ∧ OwnInts (G + 1) wr v (curveTo ps pk k) ∧ Below w.heap.size w wr ∧ Boxes wr [(G, 33, #[.slice A n c])]) (fun _ i _ => n - (intOf i).toNat)
 case atStart => exact ⟨0, by omega, rfl, World.ownsRow_nil _ _ _ _, HE.out, HK.out⟩
 case round =>
  obtain ⟨k, hkn, rfl, hO, hB, hX⟩ := hrel
  have HB := Lib.hid hB; have HX := Lib.hid hX
  have hln := curveTo_len ps pk k (by rw [← HPN.out]; exact hkn)
  have HOWN : Hid (wr.ownsRow (G + 1) 3 1 u5 k (ints (curveTo ps pk k))) := Lib.hid (by
   have q := hO
   unfold OwnInts at q
   rw [List.length_map, hln] at q
   exact q)
  clear hB hX hO HE HK
  have z := HX.out _ (.head _)
  have z_0 := z.cell 0
  simp at z_0
  clear z
  by_cases hlt : k < n
  ·skip
   have k1 : (k : Int) < (n : Int) := by omega
   have k3 : (0 : Int) ≤ (k : Int) := by omega
   obtain ⟨pt, hp⟩ : ∃ p, ps[k]? = some p := ⟨_, List.getElem?_eq_getElem (show k < ps.length by rw [← HPN.out]; exact hlt)⟩
   obtain ⟨b, o, rfl, lb, hc⟩ : ∃ b o, A = some ⟨b, o, none⟩ ∧ b < w.heap.size ∧ PtsAt w b o ps := by
    rcases HPT.out with h | h
    ·exfalso; rw [h] at hp; cases hp
    ·exact h
   obtain ⟨e0, e1, e2⟩ := hc k pt hp
   rw [← HB.out.cell (p := ⟨b, o + k * 3, none⟩) lb] at e0
   rw [← HB.out.cell (p := ⟨b, o + k * 3 + 1, none⟩) lb] at e1
   rw [← HB.out.cell (p := ⟨b, o + k * 3 + 2, none⟩) lb] at e2
   obtain ⟨n1, n2, n3⟩ := HWD.out pt (List.mem_of_getElem? hp)
   have hs1 := curveTo_succ (pk := pk) hp
   obtain ⟨x, lo, hi⟩ := pt
   dsimp only at e0 e1 e2 n1 n2 n3 hs1
   have HS := Lib.hid hs1; have HLN := Lib.hid hln
   obtain ⟨g1, hg1⟩ : ∃ z, hi - lo = z := ⟨_, rfl⟩
   have w1 : IntKind.i64.wrap (hi - lo) = g1 := by rw [IntWalk.i64_in _ ⟨by omega, by omega⟩]; exact hg1
   obtain ⟨g2, hg2⟩ : ∃ z, g1 + 1 = z := ⟨_, rfl⟩
   have w2 : IntKind.i64.wrap (g1 + 1) = g2 := by rw [IntWalk.i64_in _ ⟨by omega, by omega⟩]; exact hg2
   obtain ⟨P0, hP0⟩ : ∃ z, pickS pk (k : Int) = z := ⟨_, rfl⟩
   obtain ⟨b0, b1⟩ := emod_in P0 (show (0 : Int) < g2 by omega)
   obtain ⟨dd, hd⟩ : ∃ z, P0 % g2 = z := ⟨_, rfl⟩
   rw [hd] at b0 b1
   obtain ⟨s, hs⟩ : ∃ z, lo + dd = z := ⟨_, rfl⟩
   have w3 : IntKind.i64.wrap (lo + dd) = s := by rw [IntWalk.i64_in _ ⟨by omega, by omega⟩]; exact hs
   have hnew : curveTo ps pk (k + 1) = curveTo ps pk k ++ [s] := by rw [HS.out, show hi - lo + 1 = g2 by omega, hP0, hd, hs]
   have HNEW := Lib.hid hnew
   have CP0 : Hid (∀ W, Below w.heap.size w W → Calls Tryz.prog 61 #[.slice P pn pc, .int .i64 k] W fun e w' => e = .returned (.int .i64 P0) ∧ Below W.heap.size W w') := Lib.hid fun W hW => int_to (CP.out W k hW) hP0
   have CM0 : Hid (∀ W, Calls Tryz.prog 23 #[.int .i64 P0, .int .i64 g2] W fun e w' => e = .returned (.int .i64 dd) ∧ Below W.heap.size W w') := Lib.hid fun W => int_to (smod_to P0 g2 W (by omega) (by omega)) hd
   clear hs1 HS hln hnew hP0 hd hs hg1 hg2 b0 b1 n1 n2 n3 hp hc
   go_upto_region 6 with fail
   have HTP := Lib.hid (Blk.new wr 110 #[.int .i64 x, .int .i64 lo, .int .i64 hi]); have HWa := Lib.hid (below_alloc1 wr (.cells #[.int .i64 x, .int .i64 lo, .int .i64 hi] 110))
   have HZB : Hid (G + 1 ≤ wr.heap.size) := Lib.hid (HX.out _ (.head _)).lt
   obtain ⟨wp, hW⟩ : ∃ W', wr.alloc (.cells #[.int .i64 x, .int .i64 lo, .int .i64 hi] 110) = W' := ⟨_, rfl⟩
   rw [hW] at HTP HWa ⊢
   clear hW
   obtain ⟨Np, hNp⟩ : ∃ n, wr.heap.size = n := ⟨_, rfl⟩
   rw [hNp] at HTP ⊢
   have HNP := Lib.hid hNp
   clear hNp e0 e1 e2 z_0
   have HOWL := Lib.hid (World.ownsRow.lt HOWN.out)
   have HOWQ : Hid (wp.ownsRow (G + 1) 3 1 u5 k (ints (curveTo ps pk k))) := Lib.hid (World.ownsRow.kept HOWN.out (below_grownNone HWa.out) (by cases hv : Value.ownBlock u5 <;> simp))
   have HXQ := Lib.hid (HX.out.on HWa.out)
   have HW := Lib.hid (below_drew1 wp)
   have hS0 : Below w.heap.size w wp.drew := (below_then HB.out HWa.out).drew
   have hS1 : Blk wp.drew Np 110 #[.int .i64 x, .int .i64 lo, .int .i64 hi] := HTP.out
   refine wp_region_held_drew (S := fun w' => Below w.heap.size w w' ∧ Blk w' Np 110 #[.int .i64 x, .int .i64 lo, .int .i64 hi]) (by kernel_rfl) ⟨hS0, hS1⟩ (fun hHeld => ?_)
   obtain ⟨yq, hW⟩ : ∃ W', wp.drew = W' := ⟨_, rfl⟩
   rw [hW] at hHeld HW ⊢
   clear hW hS0 hS1
   refine tK 20 (i := 0) (v := u5) rfl rfl (by kernel_rfl) ?_ hHeld ?_
   ·intro w hSw; clear hSw; go_simp; try with_reducible rfl
   simp only [uZ, uS]
   refine tK 21 (i := 1) (v := .pointer (some ⟨Np, 1, none⟩)) rfl rfl (by kernel_rfl) ?_ hHeld ?_
   ·intro w hSw; clear hSw; go_simp; try with_reducible rfl
   simp only [uZ, uS]
   refine tK 22 (i := 2) (v := .int .i64 lo) rfl rfl (by kernel_rfl) ?_ hHeld ?_
   ·intro w hSw; have cx := hSw.2.cell 1; simp at cx; clear hSw; go_simp; try with_reducible rfl
   simp only [uZ, uS]
   refine tK 23 (i := 3) (v := .slice P pn pc) rfl rfl (by kernel_rfl) ?_ hHeld ?_
   ·intro w hSw; clear hSw; go_simp; try with_reducible rfl
   simp only [uZ, uS]
   refine tK 24 (i := 4) (v := .int .i64 k) rfl rfl (by kernel_rfl) ?_ hHeld ?_
   ·intro w hSw; clear hSw; go_simp; try with_reducible rfl
   simp only [uZ, uS]
   refine tK 26 (i := 6) (v := .pointer (some ⟨Np, 2, none⟩)) rfl rfl (by kernel_rfl) ?_ hHeld ?_
   ·intro w hSw; clear hSw; go_simp; try with_reducible rfl
   simp only [uZ, uS]
   refine tK 27 (i := 7) (v := .int .i64 hi) rfl rfl (by kernel_rfl) ?_ hHeld ?_
   ·intro w hSw; have cx := hSw.2.cell 2; simp at cx; clear hSw; go_simp; try with_reducible rfl
   simp only [uZ, uS]
   refine tK 28 (i := 8) (v := .pointer (some ⟨Np, 1, none⟩)) rfl rfl (by kernel_rfl) ?_ hHeld ?_
   ·intro w hSw; clear hSw; go_simp; try with_reducible rfl
   simp only [uZ, uS]
   refine tK 29 (i := 9) (v := .int .i64 lo) rfl rfl (by kernel_rfl) ?_ hHeld ?_
   ·intro w hSw; have cx := hSw.2.cell 1; simp at cx; clear hSw; go_simp; try with_reducible rfl
   simp only [uZ, uS]
   refine tK 30 (i := 10) (v := .int .i64 g1) rfl rfl (by kernel_rfl) ?_ hHeld ?_
   ·intro w hSw; clear hSw; go_simp; first | done | exact w1
   simp only [uZ, uS]
   refine tK 31 (i := 11) (v := .int .i64 g2) rfl rfl (by kernel_rfl) ?_ hHeld ?_
   ·intro w hSw; clear hSw; go_simp; first | done | exact w2
   simp only [uZ, uS]
   refine wpAnyH_ready (rs := [5]) (by kernel_rfl) (by simp) ?_
   refine AllReadyH.cons rfl (fun K hK => ?_) AllReadyH.nil
   go_simp
   (with_reducible refine (CP0.out _ hHeld.1).mono ?_)
   rintro x' y ⟨rfl, hq⟩
   have HW := Lib.hid (below_then HW.out hq)
   refine hK.out _ _ ⟨below_then hHeld.1 hq, blkOn hHeld.2 hq⟩ (fun hHeld2 => ?_)
   clear hq
   try simp only [Act.put, uA, uZ, uS]
   clear hK K hHeld
   have hHeld := hHeld2
   clear hHeld2
   refine wpAnyH_ready (rs := [12]) (by kernel_rfl) (by simp) ?_
   refine AllReadyH.cons rfl (fun K hK => ?_) AllReadyH.nil
   go_simp
   (with_reducible refine (CM0.out _).mono ?_)
   rintro x' y ⟨rfl, hq⟩
   have HW := Lib.hid (below_then HW.out hq)
   refine hK.out _ _ ⟨below_then hHeld.1 hq, blkOn hHeld.2 hq⟩ (fun hHeld2 => ?_)
   clear hq
   try simp only [Act.put, uA, uZ, uS]
   clear hK K hHeld
   have hHeld := hHeld2
   clear hHeld2
   refine tK 33 (i := 13) (v := .int .i64 s) rfl rfl (by kernel_rfl) ?_ hHeld ?_
   ·intro w hSw; clear hSw; go_simp; first | done | exact w3
   simp only [uZ, uS]
   refine wpAnyH_ready (rs := [14]) (by kernel_rfl) (by simp) ?_
   refine AllReadyH.cons rfl (fun K hK => ?_) AllReadyH.nil
   rename World => yq
   go_simp
   have HNB := Lib.hid (World.news_of_block (cs := #[.int .i64 s]) (t := 3) (fr := (0, 0)) (heap_alloc_new yq (.cells #[.int .i64 s] 3)))
   have HYZ := Lib.hid (World.size_alloc yq (.cells #[.int .i64 s] 3))
   have HW := Lib.hid (below_then HW.out (below_alloc1 yq (.cells #[.int .i64 s] 3)))
   refine hK.out _ _ ⟨below_then hHeld.1 (below_alloc1 yq (.cells #[.int .i64 s] 3)), blkOn hHeld.2 (below_alloc1 _ _)⟩ (fun hHeld2 => ?_)
   try simp only [Act.put, uA, uZ, uS]
   clear hK K hHeld
   have hHeld := hHeld2
   clear hHeld2
   obtain ⟨ya, hW⟩ : ∃ W', yq.alloc (.cells #[.int .i64 s] 3) = W' := ⟨_, rfl⟩
   rw [hW] at HW hHeld HNB HYZ ⊢
   clear hW
   obtain ⟨Z, hZ⟩ : ∃ Z, yq.heap.size = Z := ⟨_, rfl⟩
   rw [hZ] at HNB HYZ ⊢
   clear hZ
   refine wpAnyH_ready (rs := [15]) (by kernel_rfl) (by simp) ?_
   refine AllReadyH.cons rfl (fun K hK => ?_) AllReadyH.nil
   have HOW : Hid (ya.ownsRow (G + 1) 3 1 u5 k (ints (curveTo ps pk k))) := Lib.hid (World.ownsRow.kept HOWQ.out (below_grownNone HW.out) (by cases hv : Value.ownBlock u5 <;> simp))
   refine step_append_lies _ (by rfl) (.tmp 20) (.tmp 34) _ (by rfl) (G + 1) 3 i0 _ 1 8 Tryz.underlying22 i1 i2 i3 i4 rfl (by omega) u5 k (ints (curveTo ps pk k)) (by rfl) (by exact HOW.out) ⟨Z, 0, none⟩ 1 1 [.int .i64 s] (by rfl) (by rfl) (by exact HNB.out) (by simp [Value.oneCell']) (by omega) (by simp [maxLen]; omega) (by omega) (by have := HZB.out; have := HWa.out.size; have := HW.out.size; omega) (Z + 1) (by exact HYZ.out) ?_
   intro gg cap w5 hown1 hgrow hat hlt5
   have hrow : ∀ j, Value.ownBlock u5 = some j → G + 1 ≤ j ∧ j < Np := fun j hj => by have := HOWL.out j hj; have := HNP.out; omega
   have hN5 := hHeld.2.grown hgrow (fun hj => by have := (hrow _ hj.symm).2; omega)
   have hB5 := hHeld.1.grown hgrow (hHeld.1.size) (fun j hj => by have := (hrow j hj).1; have := HG.out; omega)
   have hX5 := boxes_grown (HXQ.out.on HW.out) hgrow (fun p hp hj => by
    have q := (hrow _ hj.symm).1
    simp only [List.mem_cons, List.not_mem_nil, or_false] at hp
    rw [hp] at q; dsimp only at q; omega)
   refine hK.out _ _ ⟨hB5, hN5⟩ (fun hHeld2 => ?_)
   try simp only [Act.put, uA, uZ, uS]
   clear hK K hHeld
   have hHeld := hHeld2
   clear hHeld2
   refine tK 5 (i := 16) (v := .slice (some ⟨gg, 0, none⟩) (k + 1) cap) rfl rfl (by kernel_rfl) ?_ hHeld ?_
   ·intro w hSw; clear hSw; go_simp; try with_reducible rfl
   simp only [uZ, uS]
   refine wpAnyH_done (by kernel_rfl) ?_ _
   clear hHeld
   have hown2 : OwnInts (G + 1) w5 (.slice (some ⟨gg, 0, none⟩) (k + 1) cap) (curveTo ps pk (k + 1)) := by
    rw [HNEW.out]; exact own_snoc (by rw [HLN.out]; exact hown1)
   have HB6 := Lib.hid hB5; have HX6 := Lib.hid hX5; have HO6 := Lib.hid hown2
   clear hown1 hown2 hgrow hat hlt5 hrow hN5 hB5 hX5 HW HOW HNB HYZ
   go_wp2
   go_roundw
   case rel => exact ⟨k + 1, by omega, by go_num, HO6.out, HB6.out, HX6.out⟩
   case measure => simp [intOf]; omega
  have k1 : ¬ (k : Int) < (n : Int) := by omega
  have hk2 : n = k := by omega
  subst hk2
  go_wp2
  go_ret
  exact ⟨_, rfl, World.ownsRow.mono (show wr.ownsRow (G + 1) 3 1 u5 (ints (curveTo ps pk n)).length (ints (curveTo ps pk n)) from by rw [List.length_map, hln]; exact HOWN.out) (by have := HG.out; omega), HB.out⟩
end

section
open Go.RowKit

def ValOf (ps : List P3) (cs : List Int) (x num den : Int) : Prop := ∃ (i : Nat) (p q : P3) (y z : Int), ps[i]? = some p ∧ ps[i + 1]? = some q ∧ p.1 ≤ x ∧ x ≤ q.1 ∧ cs[i]? = some y ∧ cs[i + 1]? = some z ∧ num = y * (q.1 - x) + z * (x - p.1) ∧ den = q.1 - p.1
theorem pts_rise {ps : List P3} (ht : tabOk ps = true) {i : Nat} {p q : P3} (hp : ps[i]? = some p) (hq : ps[i + 1]? = some q) : p.1 < q.1 ∧ Okp p ∧ Okp q := by
  have hm := okp_of ps (-1) (tabOk_pts ht) (by omega)
  have hr := rising_pts ps (-1) (tabOk_pts ht) (by omega)
  have h1 := List.getElem?_eq_some_iff.1 hp
  have h2 := List.getElem?_eq_some_iff.1 hq
  obtain ⟨l1, e1⟩ := h1
  obtain ⟨l2, e2⟩ := h2
  refine ⟨?_, (hm p (List.mem_of_getElem? hp)).1, (hm q (List.mem_of_getElem? hq)).1⟩
  have := List.pairwise_iff_getElem.1 hr i (i + 1) l1 l2 (by omega)
  rw [e1, e2] at this
  exact this

set_option maxRecDepth 100000 in
set_option maxHeartbeats 4000000 in
theorem svalue_to (A C : Option Addr) (n c cn cc : Nat) (ps : List P3) (cs : List Int) (x : Int) (w : World) (hp : TabIn w A n ps) (ht : tabOk ps = true) (h2 : 2 ≤ n) (hcn : cn = cs.length) (hc : IntsP w C cs) (hin : InTab ps cs) (hx1 : firstX ps ≤ x) (hx2 : x ≤ lastX ps) :
  Calls Tryz.prog 20 #[tv A n c, .slice C cn cc, .int .i64 x] w fun e w' => (∃ num den, e = .returned (.tuple #[.int .i64 num, .int .i64 den]) ∧ ValOf ps cs x num den) ∧ Below w.heap.size w w' := by
 obtain ⟨hn, _, hpt⟩ := hp
 obtain ⟨b, o, rfl, lb, hm⟩ := hpt.block (by omega : 1 ≤ ps.length)
 obtain ⟨b', o', rfl, lb', hm'⟩ : ∃ b o, C = some ⟨b, o, none⟩ ∧ b < w.heap.size ∧ IntsMem w b o cs := by
  rcases hc with h | h
  ·exfalso; have := hin.1; rw [h] at this; simp at this; omega
  ·exact h
 have h40 : n ≤ 40 := by have := (tabOk_len ht).2; omega
 have hlen := hin.1
 have HP := Lib.hid hm; have HC := Lib.hid hm'; have HN := Lib.hid hn; have HIN := Lib.hid hin; have HT := Lib.hid ht
 have HCL : Hid (cs.length = n ∧ cn = n) := Lib.hid ⟨by omega, by omega⟩
 have hfirst : ∀ p, ps[0]? = some p → p.1 ≤ x := fun p hp => by
  have q : firstX ps = p.1 := by unfold firstX; rw [List.head?_eq_getElem?, hp]; rfl
  omega
 have hlast : ∀ p, ps[n - 1]? = some p → x ≤ p.1 := fun p hp => by
  have q : lastX ps = p.1 := by unfold lastX; rw [List.getLast?_eq_getElem?, ← hn, hp]; rfl
  omega
 have HF := Lib.hid hfirst; have HLA := Lib.hid hlast
 clear hm hm' hn hin hc hcn hpt ht hlen hfirst hlast hx1 hx2
 have HE := Lib.hid (show Below w.heap.size w (w.alloc (.cells #[.slice (some ⟨b, o, none⟩) n c] 33)) from below_alloc1 w _)
 have HK := Lib.hid (boxes1' w 33 #[.slice (some ⟨b, o, none⟩) n c])
 go_enter Tryz.func20, Tryz.ntmps20
 go_upto_region 1 with fail
 obtain ⟨W0, hW0⟩ : ∃ W0 : World, (w.alloc (.cells #[.slice (some ⟨b, o, none⟩) n c] 33)) = W0 := ⟨_, rfl⟩
 rw [hW0] at HE HK ⊢
 clear hW0
 obtain ⟨G, hG⟩ : ∃ G, w.heap.size = G := ⟨_, rfl⟩
 rw [hG] at HK ⊢
 have HG := Lib.hid hG; clear hG
 go_wp2_with fail
 go_loopw [8] (fun i wr => ∃ k : Nat, k + 1 ≤ n ∧ i = .int .i64 (k + 1 : Nat) ∧ (∀ p, ps[k]? = some p → p.1 ≤ x ∧ (1 ≤ k → p.1 < x)) ∧ Below w.heap.size w wr ∧ Boxes wr [(G, 33, #[.slice (some ⟨b, o, none⟩) n c])]) (fun i _ => n - (intOf i).toNat)
 case atStart => exact ⟨0, by omega, rfl, fun p hp => ⟨HF.out p hp, by omega⟩, HE.out, HK.out⟩
 case round =>
  obtain ⟨k, hk, rfl, hlow, hB, hX⟩ := hrel
  have HB := Lib.hid hB; have HX := Lib.hid hX
  clear hB hX HE HK
  have z := HX.out _ (.head _)
  have z_0 := z.cell 0
  simp at z_0
  clear z
  obtain ⟨p, hp⟩ : ∃ p, ps[k]? = some p := ⟨_, List.getElem?_eq_getElem (show k < ps.length by rw [← HN.out]; omega)⟩
  have hlowp := hlow p hp
  by_cases hlt : k + 1 < n
  rotate_left
  ·exfalso
   have := HLA.out p (by rw [show n - 1 = k by omega]; exact hp)
   have := hlowp.2 (by omega)
   omega
  obtain ⟨q, hq⟩ : ∃ q, ps[k + 1]? = some q := ⟨_, List.getElem?_eq_getElem (show k + 1 < ps.length by rw [← HN.out]; omega)⟩
  obtain ⟨y, hy⟩ : ∃ y, cs[k]? = some y := ⟨_, List.getElem?_eq_getElem (show k < cs.length by rw [HCL.out.1]; omega)⟩
  obtain ⟨zz, hz⟩ : ∃ y, cs[k + 1]? = some y := ⟨_, List.getElem?_eq_getElem (show k + 1 < cs.length by rw [HCL.out.1]; omega)⟩
  have e0 := (HP.out k p hp).1
  have e1 := (HP.out (k + 1) q hq).1
  rw [← HB.out.cell (p := ⟨b, o + k * 3, none⟩) lb] at e0
  rw [← HB.out.cell (p := ⟨b, o + (k + 1) * 3, none⟩) lb] at e1
  obtain ⟨hpq, okp, okq⟩ := pts_rise HT.out hp hq
  have hyb := HIN.out.2 k p y hp hy
  have hzb := HIN.out.2 (k + 1) q zz hq hz
  have HVAL : Hid (∀ num den, p.1 ≤ x → x ≤ q.1 → num = y * (q.1 - x) + zz * (x - p.1) → den = q.1 - p.1 → ValOf ps cs x num den) := Lib.hid fun num den g1 g2 g3 g4 => ⟨k, p, q, y, zz, hp, hq, g1, g2, hy, hz, g3, g4⟩
  have HCY : Hid (∀ W : World, Below w.heap.size w W → W.cell? ⟨b', o' + k, none⟩ = some (.int .i64 y)) := Lib.hid fun W hW => by rw [hW.cell (p := ⟨b', o' + k, none⟩) lb']; exact HC.out k y hy
  have HCZ : Hid (∀ W : World, Below w.heap.size w W → W.cell? ⟨b', o' + (k + 1), none⟩ = some (.int .i64 zz)) := Lib.hid fun W hW => by rw [hW.cell (p := ⟨b', o' + (k + 1), none⟩) lb']; exact HC.out (k + 1) zz hz
  have HNX : Hid (q.1 < x → ∀ p', ps[k + 1]? = some p' → p'.1 ≤ x ∧ (1 ≤ k + 1 → p'.1 < x)) := Lib.hid fun h p' hp' => by
   rw [hq] at hp'
   injection hp' with hp'
   subst hp'
   exact ⟨by omega, fun _ => h⟩
  have HHQ : Hid (ps[k + 1]? = some q) := Lib.hid hq
  have hle := hlowp.1
  obtain ⟨px, plo, phi⟩ := p
  obtain ⟨qx, qlo, qhi⟩ := q
  unfold Okp at okp okq
  dsimp only at e0 e1 hpq okp okq hyb hzb hle
  dsimp only at HVAL HNX
  clear hlow hlowp hp hq hy hz
  have k1 : ((k + 1 : Nat) : Int) < (n : Int) := by omega
  have k1' : (k : Int) + 1 < (n : Int) := by omega
  have k3 : (0 : Int) ≤ (k : Int) := by omega
  have k4 : (k : Int) < (n : Int) := by omega
  have k5 : (0 : Int) ≤ (k : Int) + 1 := by omega
  have w1 : IntKind.i64.wrap ((k : Int) + 1 - 1) = (k : Int) := by rw [IntWalk.i64_in _ ⟨by omega, by omega⟩]; omega
  have w1' : IntKind.i64.wrap (((k + 1 : Nat) : Int) - 1) = (k : Int) := by rw [IntWalk.i64_in _ ⟨by omega, by omega⟩]; omega
  have w1c : IntKind.i64.wrap (k : Int) = (k : Int) := IntWalk.i64_in _ ⟨by omega, by omega⟩
  by_cases hx : x ≤ qx
  rotate_left
  ·have hx' : qx < x := by omega
   have HN2 := Lib.hid (HNX.out hx')
   clear okp okq hyb hzb HVAL HNX HCY HCZ
   go_wp2
   go_roundw
   case rel => exact ⟨k + 1, by omega, by go_num, HN2.out, HB.out, HX.out⟩
   case measure => simp [intOf]; omega
  have c1 : (cn : Int) = (n : Int) := by have := HCL.out.2; omega
  have k6 : (k : Int) < (cn : Int) := by omega
  have k7 : (k : Int) + 1 < (cn : Int) := by omega
  have HXLE := Lib.hid hx; have HLE := Lib.hid hle
  have m1 : y * (qx - x) ≤ 1000000000 * 1000000 := by
   rcases Int.le_total 0 y with h | h
   ·exact Int.mul_le_mul (by omega) (by omega) (by omega) (by omega)
   ·have := Int.mul_nonpos_of_nonpos_of_nonneg h (show 0 ≤ qx - x by omega); omega
  have m2 : -(1000000000 * 1000000) ≤ y * (qx - x) := by
   rcases Int.le_total 0 y with h | h
   ·have := Int.mul_nonneg h (show 0 ≤ qx - x by omega); omega
   ·have := Int.mul_le_mul (show -y ≤ 1000000000 by omega) (show qx - x ≤ 1000000 by omega) (by omega) (by omega)
    rw [Int.neg_mul] at this; omega
  have m3 : zz * (x - px) ≤ 1000000000 * 1000000 := by
   rcases Int.le_total 0 zz with h | h
   ·exact Int.mul_le_mul (by omega) (by omega) (by omega) (by omega)
   ·have := Int.mul_nonpos_of_nonpos_of_nonneg h (show 0 ≤ x - px by omega); omega
  have m4 : -(1000000000 * 1000000) ≤ zz * (x - px) := by
   rcases Int.le_total 0 zz with h | h
   ·have := Int.mul_nonneg h (show 0 ≤ x - px by omega); omega
   ·have := Int.mul_le_mul (show -zz ≤ 1000000000 by omega) (show x - px ≤ 1000000 by omega) (by omega) (by omega)
    rw [Int.neg_mul] at this; omega
  obtain ⟨u1, hu1⟩ : ∃ z, qx - x = z := ⟨_, rfl⟩
  have w2 : IntKind.i64.wrap (qx - x) = u1 := by rw [IntWalk.i64_in _ ⟨by omega, by omega⟩]; exact hu1
  obtain ⟨u2, hu2⟩ : ∃ z, x - px = z := ⟨_, rfl⟩
  have w3 : IntKind.i64.wrap (x - px) = u2 := by rw [IntWalk.i64_in _ ⟨by omega, by omega⟩]; exact hu2
  obtain ⟨den, hden⟩ : ∃ z, qx - px = z := ⟨_, rfl⟩
  have w4 : IntKind.i64.wrap (qx - px) = den := by rw [IntWalk.i64_in _ ⟨by omega, by omega⟩]; exact hden
  rw [hu1] at m1 m2
  rw [hu2] at m3 m4
  obtain ⟨s1, hs1⟩ : ∃ z, y * u1 = z := ⟨_, rfl⟩
  have w5 : IntKind.i64.wrap (y * u1) = s1 := by rw [IntWalk.i64_in _ ⟨by omega, by omega⟩]; exact hs1
  obtain ⟨s2, hs2⟩ : ∃ z, zz * u2 = z := ⟨_, rfl⟩
  have w6 : IntKind.i64.wrap (zz * u2) = s2 := by rw [IntWalk.i64_in _ ⟨by omega, by omega⟩]; exact hs2
  rw [hs1] at m1 m2
  rw [hs2] at m3 m4
  obtain ⟨num, hnum⟩ : ∃ z, s1 + s2 = z := ⟨_, rfl⟩
  have w7 : IntKind.i64.wrap (s1 + s2) = num := by rw [IntWalk.i64_in _ ⟨by omega, by omega⟩]; exact hnum
  have HV := Lib.hid (HVAL.out num den hle hx (by rw [hu1, hu2, hs1, hs2, hnum]) hden.symm)
  clear m1 m2 m3 m4 hu1 hu2 hden hs1 hs2 hnum HVAL HNX okp okq hyb hzb
  go_upto_region 7 with fail
  clear e0 e1 z_0
  have hS0 : Below w.heap.size w wr.drew := HB.out.drew
  have HS0 := Lib.hid hS0
  refine wp_region_held_drew (S := fun w' => Below w.heap.size w w') (by kernel_rfl) hS0 (fun hHeld => ?_)
  obtain ⟨yq, hW⟩ : ∃ W', wr.drew = W' := ⟨_, rfl⟩
  rw [hW] at hHeld HS0 ⊢
  clear hW hS0
  refine tK 39 (i := 0) (v := .slice (some ⟨b', o', none⟩) cn cc) rfl rfl (by kernel_rfl) ?_ hHeld ?_
  ·intro w hSw; clear hSw; go_simp; try with_reducible rfl
  simp only [uZ, uS]
  refine tK 40 (i := 1) (v := .int .i64 ((k : Int) + 1)) rfl rfl (by kernel_rfl) ?_ hHeld ?_
  ·intro w hSw; clear hSw; go_simp; try with_reducible rfl
  simp only [uZ, uS]
  refine tK 41 (i := 2) (v := .int .i64 k) rfl rfl (by kernel_rfl) ?_ hHeld ?_
  ·intro w hSw; clear hSw; go_simp; first | done | exact w1 | exact w1c | simp [w1c]
  simp only [uZ, uS]
  refine tK 42 (i := 3) (v := .pointer (some ⟨b', o' + k, none⟩)) rfl rfl (by kernel_rfl) ?_ hHeld ?_
  ·intro w hSw; clear hSw; go_simp; try with_reducible rfl
  simp only [uZ, uS]
  refine tK 43 (i := 4) (v := .int .i64 y) rfl rfl (by kernel_rfl) ?_ hHeld ?_
  ·intro w hSw; have cx := HCY.out _ hSw; clear hSw; go_simp; try with_reducible rfl
  simp only [uZ, uS]
  refine tK 44 (i := 5) (v := .int .i64 qx) rfl rfl (by kernel_rfl) ?_ hHeld ?_
  ·intro w hSw; clear hSw; go_simp; try with_reducible rfl
  simp only [uZ, uS]
  refine tK 45 (i := 6) (v := .int .i64 x) rfl rfl (by kernel_rfl) ?_ hHeld ?_
  ·intro w hSw; clear hSw; go_simp; try with_reducible rfl
  simp only [uZ, uS]
  refine tK 46 (i := 7) (v := .int .i64 u1) rfl rfl (by kernel_rfl) ?_ hHeld ?_
  ·intro w hSw; clear hSw; go_simp; first | done | exact w2
  simp only [uZ, uS]
  refine tK 47 (i := 8) (v := .int .i64 s1) rfl rfl (by kernel_rfl) ?_ hHeld ?_
  ·intro w hSw; clear hSw; go_simp; first | done | exact w5
  simp only [uZ, uS]
  refine tK 48 (i := 9) (v := .slice (some ⟨b', o', none⟩) cn cc) rfl rfl (by kernel_rfl) ?_ hHeld ?_
  ·intro w hSw; clear hSw; go_simp; try with_reducible rfl
  simp only [uZ, uS]
  refine tK 49 (i := 10) (v := .int .i64 ((k : Int) + 1)) rfl rfl (by kernel_rfl) ?_ hHeld ?_
  ·intro w hSw; clear hSw; go_simp; try with_reducible rfl
  simp only [uZ, uS]
  refine tK 50 (i := 11) (v := .pointer (some ⟨b', o' + (k + 1), none⟩)) rfl rfl (by kernel_rfl) ?_ hHeld ?_
  ·intro w hSw; clear hSw; go_simp; try with_reducible rfl
  simp only [uZ, uS]
  refine tK 51 (i := 12) (v := .int .i64 zz) rfl rfl (by kernel_rfl) ?_ hHeld ?_
  ·intro w hSw; have cx := HCZ.out _ hSw; clear hSw; go_simp; try with_reducible rfl
  simp only [uZ, uS]
  refine tK 52 (i := 13) (v := .int .i64 x) rfl rfl (by kernel_rfl) ?_ hHeld ?_
  ·intro w hSw; clear hSw; go_simp; try with_reducible rfl
  simp only [uZ, uS]
  refine tK 53 (i := 14) (v := .int .i64 px) rfl rfl (by kernel_rfl) ?_ hHeld ?_
  ·intro w hSw; clear hSw; go_simp; try with_reducible rfl
  simp only [uZ, uS]
  refine tK 54 (i := 15) (v := .int .i64 u2) rfl rfl (by kernel_rfl) ?_ hHeld ?_
  ·intro w hSw; clear hSw; go_simp; first | done | exact w3
  simp only [uZ, uS]
  refine tK 55 (i := 16) (v := .int .i64 s2) rfl rfl (by kernel_rfl) ?_ hHeld ?_
  ·intro w hSw; clear hSw; go_simp; first | done | exact w6
  simp only [uZ, uS]
  refine tK 56 (i := 17) (v := .int .i64 num) rfl rfl (by kernel_rfl) ?_ hHeld ?_
  ·intro w hSw; clear hSw; go_simp; first | done | exact w7
  simp only [uZ, uS]
  refine tK 57 (i := 18) (v := .int .i64 qx) rfl rfl (by kernel_rfl) ?_ hHeld ?_
  ·intro w hSw; clear hSw; go_simp; try with_reducible rfl
  simp only [uZ, uS]
  refine tK 58 (i := 19) (v := .int .i64 px) rfl rfl (by kernel_rfl) ?_ hHeld ?_
  ·intro w hSw; clear hSw; go_simp; try with_reducible rfl
  simp only [uZ, uS]
  refine tK 59 (i := 20) (v := .int .i64 den) rfl rfl (by kernel_rfl) ?_ hHeld ?_
  ·intro w hSw; clear hSw; go_simp; first | done | exact w4
  simp only [uZ, uS]
  refine tK 6 (i := 21) (v := .int .i64 num) rfl rfl (by kernel_rfl) ?_ hHeld ?_
  ·intro w hSw; clear hSw; go_simp; try with_reducible rfl
  simp only [uZ, uS]
  refine tK 7 (i := 22) (v := .int .i64 den) rfl rfl (by kernel_rfl) ?_ hHeld ?_
  ·intro w hSw; clear hSw; go_simp; try with_reducible rfl
  simp only [uZ, uS]
  refine wpAnyH_done (by kernel_rfl) ?_ _
  clear hHeld
  go_wp2
  refine bodyPost_ret (v := .tuple #[.int .i64 num, .int .i64 den]) (by simp [results, Tryz.results20, go_sem]) rfl ⟨⟨_, _, rfl, HV.out⟩, HS0.out⟩
end

section
open Go.RowKit

abbrev bt (r : Int × Int × Bool) : Value := .tuple #[.int .i64 r.1, .int .i64 r.2.1, .bool r.2.2]
end

section
open Go.RowKit
attribute [local go_sem ↓] run_minI run_maxI
theorem OwnRuns.slice {base : Nat} {X : World} {v : Value} {L : List (Int × Int)} (ho : OwnRuns base X v L) : ∃ p c, v = .slice p L.length c := by
  obtain ⟨A, c, h, _⟩ := ho.runsP
  exact ⟨A, c, h⟩
end

end Go.Proofs.YtemlaaipnhmcoaaGreat
