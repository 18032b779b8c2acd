/- The contracts of xs and curve (the law package). Their conditions: the table's points and the numbers lie in memory; the table is valid. -/
import Derived.Test.YthhcejcpopgkiaaR1
import Derived.Test.YthhcejcpopgkiaaR3
import Derived.Test.YthhcejcpopgkiaaL3
import Derived.Test.YthhcejcpopgkiaaU0
import Derived.Test.YthhcejcpopgkiaaG4
import Derived.StillTailTactics
import Derived.RegionTactic
set_option linter.unusedVariables false
set_option linter.unusedSimpArgs false
set_option linter.constructorNameAsVariable false
namespace Go.Proofs.Ythhcejcpopgkiaa
open Go.RowKit

set_option maxRecDepth 100000 in
theorem xs_any (b o n c : Nat) (ps : List P3) (w : World) (hn : n = ps.length) (h40 : n ≤ 40) (hb : b < w.heap.size) (hc : PtsAt w b o ps) :
    Calls Try.prog 67 #[tv (some ⟨b, o, none⟩) n c] w (GivesInts w (xsOf ps)) := by
  have hE := below_alloc1 w (.cells #[.slice (some ⟨b, o, none⟩) n c] 43)
  have HL := Lib.hid (lines_any b o n c ps _ hn h40 (Nat.lt_of_lt_of_le hb hE.size) (hc.below hE hb))
  have HE := Lib.hid hE
  clear hE hc hn h40
  go_enter Try.func67, Try.ntmps67
  go_wp2_with fail
  refine (HL.out).mono ?_
  rintro e w1 ⟨v1, v2, v3, rfl, hL, hb1⟩
  have HO := Lib.hid (World.ownsRow.mono (show w1.ownsRow _ 3 1 v1 _ _ from hL.1) HE.out.size); have HE1 := Lib.hid (below_then HE.out hb1)
  clear hb1 hL
  go_wp2
  go_ret
  exact ⟨v1, rfl, HO.out, HE1.out⟩

/-- the number that numbers choose at a point -/
def pickN (cs : List Int) (i : Nat) : Int := if 0 < cs.length then cs.getD (i % cs.length) 0 else 0
def curveAt (cs : List Int) (p : P3) (i : Nat) : Int := p.2.1 + pickN cs i % (p.2.2 - p.2.1 + 1)
/-- curve, from the i-th point on -/
def curveFrom (cs : List Int) : Nat → List P3 → List Int
  | _, [] => []
  | i, p :: ps => curveAt cs p i :: curveFrom cs (i + 1) ps
theorem curveFrom_len (cs : List Int) : ∀ (i : Nat) (ps : List P3), (curveFrom cs i ps).length = ps.length
  | _, [] => rfl
  | i, p :: ps => by simp [curveFrom, curveFrom_len cs (i + 1) ps]
theorem curveFrom_snoc (cs : List Int) : ∀ (i : Nat) (ps : List P3) (p : P3), curveFrom cs i (ps ++ [p]) = curveFrom cs i ps ++ [curveAt cs p (i + ps.length)]
  | i, [], p => by simp [curveFrom]
  | i, q :: ps, p => by
    rw [List.cons_append, curveFrom, curveFrom, curveFrom_snoc cs (i + 1) ps p, List.cons_append, List.length_cons]
    rw [show i + 1 + ps.length = i + (ps.length + 1) by omega]
theorem curveFrom_get (cs : List Int) : ∀ (i : Nat) (ps : List P3) (k : Nat) (y : Int), (curveFrom cs i ps)[k]? = some y → ∃ p, ps[k]? = some p ∧ y = curveAt cs p (i + k)
  | _, [], k, y, h => by simp [curveFrom] at h
  | i, p :: ps, 0, y, h => by simp [curveFrom] at h; exact ⟨p, rfl, by rw [← h]; rfl⟩
  | i, p :: ps, k + 1, y, h => by
    rw [curveFrom] at h
    obtain ⟨q, h1, h2⟩ := curveFrom_get cs (i + 1) ps k y (by simpa using h)
    exact ⟨q, by simpa using h1, by rw [h2]; congr 1; omega⟩
theorem curveAt_in (cs : List Int) (p : P3) (i : Nat) (h : p.2.1 ≤ p.2.2) : p.2.1 ≤ curveAt cs p i ∧ curveAt cs p i ≤ p.2.2 := by
  unfold curveAt
  have h1 := Int.emod_nonneg (pickN cs i) (show p.2.2 - p.2.1 + 1 ≠ 0 by omega)
  have h2 := Int.emod_lt_of_pos (pickN cs i) (show 0 < p.2.2 - p.2.1 + 1 by omega)
  omega

set_option maxRecDepth 100000 in
set_option maxHeartbeats 4000000 in
theorem curve_any (b o n c : Nat) (A' : Option Addr) (n' c' : Nat) (ps : List P3) (cs : List Int) (w : World) (hn : n = ps.length) (hb : b < w.heap.size) (ht : tabOk ps = true) (hc : PtsAt w b o ps) (hn' : n' = cs.length) (hm' : n' ≤ maxLen) (hq : IntsP w A' cs) :
    Calls Try.prog 64 #[.agg #[.slice (some ⟨b, o, none⟩) n c, .slice A' n' c']] w (GivesInts w (curveFrom cs 0 ps)) := by
  have hl := tabOk_len ht
  have hok := okp_of ps (-1) (tabOk_pts ht) (by omega)
  have hor := pts_ordered ps (-1) (tabOk_pts ht)
  have h40 : n ≤ 40 := by omega
  obtain ⟨i0, hi, hz0, hz1, hz2⟩ := info_parts Try.info3
  have HN := Lib.hid (And.intro hn hn'); have HC := Lib.hid hc; have HQ := Lib.hid hq; have HO := Lib.hid (And.intro hok hor)
  have HB := Lib.hid (Blk.new w 66 #[.slice (some ⟨b, o, none⟩) n c, .slice A' n' c'])
  unfold maxLen at hm'
  clear hn hn' hc hq hl hok hor ht
  go_enter Try.func64, Try.ntmps64
  go_wp2_with fail
  go_loopw [3, 12] (fun v i wr => ∃ k : Nat, k ≤ n ∧ i = .int .i64 k ∧ OwnInts (w.heap.size + 1) wr v (curveFrom cs 0 (ps.take k)) ∧ Blk wr w.heap.size 66 #[.slice (some ⟨b, o, none⟩) n c, .slice A' n' c'] ∧ Below w.heap.size w wr) (fun _ i _ => n - (intOf i).toNat)
  case atStart => exact ⟨0, by omega, rfl, World.ownsRow_nil _ _ _ _, HB.out, below_alloc1 _ _⟩
  case round =>
    obtain ⟨k, hk, rfl, hown, hT, hB⟩ := hrel
    by_cases hlt : k < n
    · obtain ⟨p, hp⟩ : ∃ p, ps[k]? = some p := ⟨_, List.getElem?_eq_getElem (show k < ps.length by rw [← HN.out.1]; exact hlt)⟩
      obtain ⟨c0, c1, c2⟩ := HC.out k p hp
      rw [← hB.cell (p := ⟨b, o + k * 3, none⟩) hb] at c0
      rw [← hB.cell (p := ⟨b, o + k * 3 + 1, none⟩) hb] at c1
      rw [← hB.cell (p := ⟨b, o + k * 3 + 2, none⟩) hb] at c2
      have hS := take_snocP' hp
      have hlen : (ps.take k).length = k := by rw [List.length_take]; have := HN.out.1; omega
      have hsn := curveFrom_snoc cs 0 (ps.take k) p
      rw [← hS, hlen, Nat.zero_add] at hsn
      have hbo := (HO.out.1 p (List.mem_of_getElem? hp)).1
      have hor := HO.out.2 p (List.mem_of_getElem? hp)
      have hll := curveFrom_len cs 0 (ps.take k)
      rw [hlen] at hll
      obtain ⟨x, lo, hi'⟩ := p
      obtain ⟨_, _, b1, b2, b3, b4⟩ := hbo
      dsimp only at c0 c1 c2 b1 b2 b3 b4 hor
      obtain ⟨d0, w1⟩ : ∃ r, IntKind.i64.wrap (hi' - lo) = r := ⟨_, rfl⟩
      have e1 : hi' - lo = d0 := by rw [← w1, IntWalk.i64_in _ ⟨by omega, by omega⟩]
      obtain ⟨d, w2⟩ : ∃ r, IntKind.i64.wrap (d0 + 1) = r := ⟨_, rfl⟩
      have e2 : d0 + 1 = d := by rw [← w2, IntWalk.i64_in _ ⟨by omega, by omega⟩]
      obtain ⟨z, hz⟩ : ∃ z, pickN cs k = z := ⟨_, rfl⟩
      have t1 := tmod_twice z d (by omega)
      have t2 := Int.tmod_lt_of_pos z (show 0 < d by omega)
      have t3 : -d < z.tmod d := Int.lt_tmod_of_pos z (by omega)
      have t4 := Int.emod_nonneg z (show d ≠ 0 by omega)
      have t5 := Int.emod_lt_of_pos z (show 0 < d by omega)
      obtain ⟨m, g1⟩ : ∃ r, z.tmod d = r := ⟨_, rfl⟩
      rw [g1] at t1 t2 t3
      have q1 : IntKind.i64.wrap m = m := IntWalk.i64_in _ ⟨by omega, by omega⟩
      obtain ⟨s, w3⟩ : ∃ r, IntKind.i64.wrap (m + d) = r := ⟨_, rfl⟩
      have e3 : m + d = s := by rw [← w3, IntWalk.i64_in _ ⟨by omega, by omega⟩]
      rw [e3] at t1
      obtain ⟨kk, g2⟩ : ∃ r, z % d = r := ⟨_, rfl⟩
      rw [g2] at t1 t4 t5
      have q2 : IntKind.i64.wrap kk = kk := IntWalk.i64_in _ ⟨by omega, by omega⟩
      obtain ⟨V, w4⟩ : ∃ r, IntKind.i64.wrap (lo + kk) = r := ⟨_, rfl⟩
      have e4 : lo + kk = V := by rw [← w4, IntWalk.i64_in _ ⟨by omega, by omega⟩]
      have hV : curveAt cs (x, lo, hi') k = V := by
        unfold curveAt
        dsimp only
        rw [hz, e1, e2, g2, e4]
      rw [hV] at hsn
      have z1 : (d == 0) = false := beq_eq_false_iff_ne.2 (by omega)
      have z2 : ¬ d = 0 := by omega
      have HS := Lib.hid hsn; have HLL := Lib.hid hll
      have T0 := (hT.alloc (.cells #[.int .i64 x, .int .i64 lo, .int .i64 hi'] 87)).cell 0
      have T1 := (hT.alloc (.cells #[.int .i64 x, .int .i64 lo, .int .i64 hi'] 87)).cell 1
      simp at T0 T1
      have hlT := hT.lt
      have HT := Lib.hid hT; have HB2 := Lib.hid hB; have HW := Lib.hid hown
      clear hS hlen hsn hll e1 e2 e3 e4 hV b1 b2 b3 b4 hor t2 t3 t4 t5 g2 hp hown hT hB
      have HPI : Hid (pickN cs k = z) := Lib.hid hz
      clear hz
      go_upto_if 20 with (fail)
      go_cut [6] (fun s6 wx => s6 = .int .i64 z ∧ ∃ j, wx = (wr.alloc (.cells #[.int .i64 x, .int .i64 lo, .int .i64 hi'] 87)).drewN j)
      case first =>
        by_cases h0 : 0 < n'
        · obtain ⟨b', o', rfl, hb', hc'⟩ : ∃ b' o', A' = some ⟨b', o', none⟩ ∧ b' < w.heap.size ∧ IntsMem w b' o' cs := by
            rcases HQ.out with h | h
            · have := HN.out.2; rw [h] at this; simp at this; omega
            · exact h
          obtain ⟨j, hj⟩ : ∃ j, k % n' = j := ⟨_, rfl⟩
          have hjn : j < n' := by rw [← hj]; exact Nat.mod_lt _ h0
          obtain ⟨z', hz'⟩ : ∃ z', cs[j]? = some z' := ⟨_, List.getElem?_eq_getElem (show j < cs.length by rw [← HN.out.2]; exact hjn)⟩
          have hzz : z' = z := by
            rw [← HPI.out]
            unfold pickN
            rw [if_pos (by rw [← HN.out.2]; exact h0), ← HN.out.2, hj, List.getD_eq_getElem?_getD, hz']; rfl
          subst hzz
          have d0' := hc' j z' hz'
          rw [← HB2.out.cell (p := ⟨b', o' + j, none⟩) hb'] at d0'
          have r1 : ((k : Int)).tmod (n' : Int) = (j : Int) := by rw [← hj]; rfl
          have r2 : IntKind.i64.wrap (j : Int) = (j : Int) := IntWalk.i64_in _ ⟨by omega, by omega⟩
          have r3 : (j : Int) < (n' : Int) := by omega
          have r4 : (0 : Int) ≤ (j : Int) := by omega
          have r5 : (0 : Int) < (n' : Int) := by omega
          have r6 : ((n' : Int) == 0) = false := beq_eq_false_iff_ne.2 (by omega)
          have lb' : b' < wr.heap.size := Nat.lt_of_lt_of_le hb' HB2.out.size
          clear hc' hz' hj
          go_wp2_with fail
          go_region
          go_wp2_with fail
          go_meet
          exact ⟨rfl, 1, rfl⟩
        · have hzz : z = 0 := by
            rw [← HPI.out]
            unfold pickN
            rw [if_neg (by rw [← HN.out.2]; exact h0)]
          subst hzz
          have r5 : ¬ (0 : Int) < (n' : Int) := by omega
          go_wp2_with fail
          go_meet
          exact ⟨rfl, 0, rfl⟩
      case rest =>
        obtain ⟨rfl, j, rfl⟩ := hcut
        clear T0 T1 hlT
        have HWW : Hid (OwnInts (w.heap.size + 1) (((wr.alloc (.cells #[.int .i64 x, .int .i64 lo, .int .i64 hi'] 87)).drewN (j + 1)).alloc (.cells #[.int .i64 V] 3)) u3 (curveFrom cs 0 (ps.take k))) := Lib.hid ((show OwnInts _ ((wr.alloc (.cells #[.int .i64 x, .int .i64 lo, .int .i64 hi'] 87)).drewN (j + 1)) u3 _ from HW.out.alloc _).alloc _)
        have HNB : Hid ((((wr.alloc (.cells #[.int .i64 x, .int .i64 lo, .int .i64 hi'] 87)).drewN (j + 1)).alloc (.cells #[.int .i64 V] 3)).heap[wr.heap.size + 1]? = some (.cells #[.int .i64 V] 3 (0, 0))) := Lib.hid (by
          have h1 := heap_alloc_new ((wr.alloc (.cells #[.int .i64 x, .int .i64 lo, .int .i64 hi'] 87)).drewN (j + 1)) (.cells #[.int .i64 V] 3)
          have h2 : ((wr.alloc (.cells #[.int .i64 x, .int .i64 lo, .int .i64 hi'] 87)).drewN (j + 1)).heap.size = wr.heap.size + 1 := by show (wr.alloc _).heap.size = _; simp
          rw [h2] at h1; exact h1)
        have hwl := HB2.out.size
        go_upto_region 9 with fail
        go_region_law (refine step_append_lies _ (by rfl) _ _ _ (by rfl) (w.heap.size + 1) 3 i0 _ 1 8 Try.underlying44 hi hz0 hz1 hz2 rfl (by omega) u3 (ints (curveFrom cs 0 (ps.take k))).length (ints (curveFrom cs 0 (ps.take k))) (by rfl) (by exact HWW.out) ⟨wr.heap.size + 1, 0, none⟩ 1 1 [.int .i64 V] (by rfl) (by rfl) (World.news_of_block (cs := #[.int .i64 V]) (t := 3) (fr := (0, 0)) (by exact HNB.out)) (by simp [Value.oneCell']) (by omega) (by simp [maxLen]; rw [HLL.out]; omega) (by simp; rw [HLL.out]; omega) (by simp; omega) (wr.heap.size + 1 + 1) (by simp) ?_; intro gg cap w5 hown1 hgrow hat hlt5)
        all_goals
          have hrow : ∀ i, Value.ownBlock u3 = some i → w.heap.size + 1 ≤ i := fun i e => (World.ownsRow.lt (show World.ownsRow _ (w.heap.size + 1) 3 1 u3 _ _ from HW.out) i e).1
          have hB5 : Below w.heap.size w w5 := ((below_drewM (HB2.out.alloc HB2.out.size (.cells #[.int .i64 x, .int .i64 lo, .int .i64 hi'] 87)) (j + 1)).alloc (by show w.heap.size ≤ (wr.alloc (.cells #[.int .i64 x, .int .i64 lo, .int .i64 hi'] 87)).heap.size; simp; omega) (.cells #[.int .i64 V] 3)).grown hgrow (by show w.heap.size ≤ ((wr.alloc (.cells #[.int .i64 x, .int .i64 lo, .int .i64 hi'] 87)).alloc (.cells #[.int .i64 V] 3)).heap.size; simp; omega) (fun i e => by have := hrow i e; omega)
          have hT5 : Blk w5 w.heap.size 66 #[.slice (some ⟨b, o, none⟩) n c, .slice A' n' c'] := (((HT.out.alloc (.cells #[.int .i64 x, .int .i64 lo, .int .i64 hi'] 87)).drewN (j + 1)).alloc (.cells #[.int .i64 V] 3)).grown hgrow (fun e => absurd (hrow _ e.symm) (by omega))
          have hown2 : OwnInts (w.heap.size + 1) w5 (.slice (some ⟨gg, 0, none⟩) ((ints (curveFrom cs 0 (ps.take k))).length + 1) cap) (curveFrom cs 0 (ps.take (k + 1))) := by
            rw [HS.out]; exact own_snoc' hown1
          clear hown1 hgrow hat
          go_wp2
          go_roundw
          case rel => exact ⟨k + 1, by omega, by go_num, by rw [List.length_map] at hown2; exact hown2, hT5, hB5⟩
          case measure => simp [intOf]; omega
    · have hkn : ps.take k = ps := List.take_of_length_le (by have := HN.out.1; omega)
      rw [hkn] at hown
      have HO2 := Lib.hid (World.ownsRow.mono (show wr.ownsRow _ 3 1 u3 _ _ from hown) (Nat.le_succ _))
      clear hown hkn
      go_wp2
      go_ret
      exact ⟨u3, rfl, HO2.out, hB⟩
end Go.Proofs.Ythhcejcpopgkiaa
