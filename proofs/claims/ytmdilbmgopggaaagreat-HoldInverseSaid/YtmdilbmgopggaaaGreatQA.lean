/- What the tables of a tank want: rising tables (hold), At of the specification of layer 1. Conditions: see each theorem. -/
import Derived.Deep.RegionHeld3
import Derived.RowKit3
import Derived.Deep.DeepFit
import Derived.Deep.DeepMust
import Derived.Outline
import Derived.Laws.StructEq
import Derived.Laws.Small
import Derived.Laws.Tables
import Derived.KernelRfl
import Derived.Test.YtmdilbmgopggaaaGreatQ00
import Derived.Test.YtmdilbmgopggaaaGreatQ01
import Derived.Test.YtmdilbmgopggaaaGreatQ16
import Derived.Test.YtmdilbmgopggaaaGreatQ15
import Derived.Test.YtmdilbmgopggaaaGreatQ14
import Derived.Test.YtmdilbmgopggaaaGreatQ12
import Derived.Test.YtmdilbmgopggaaaGreatQ13
import Derived.RegionTactic
import Derived.Test.YtmdilbmgopggaaaGreatQ18
import Derived.Test.YtmdilbmgopggaaaGreatQ17
set_option linter.unusedVariables false
set_option linter.unusedSimpArgs false
set_option linter.constructorNameAsVariable false
namespace Go.Proofs.YtmdilbmgopggaaaGreat

section
open Go.RowKit

attribute [local go_sem ↓] eqlRange neqRange
/-- the error of a range -/
def errR (a b : Int) : Int := if vR a b = true then 0 else 10
end

section
open Go.RowKit
attribute [local go_sem ↓] eqlRange neqRange
theorem rCheckRange_any (a b : Int) (w : World) :
    Calls Tryz.prog 113 #[rv a b] w fun e w' => e = .returned (.int .i64 (errR a b)) ∧ Below w.heap.size w w' := by
  unfold errR
  cases h : vR a b
  all_goals
    have H := Lib.hid h; clear h
    go_enter Tryz.func113, Tryz.ntmps113
    go_wp2_with fail
    refine (rValid_to a b _ _ H.out).mono ?_
    rintro e w1 ⟨rfl, hb⟩
    go_wp2
    go_ret
    exact ⟨rfl, below_a1 hb⟩
end

section
open Go.RowKit

attribute [local go_sem] field0
theorem insideS_in (ps : List P3) (x : Int) : insideS ps x = inB x x (firstX ps) (lastX ps) := by
  unfold insideS inB
  by_cases h1 : firstX ps ≤ x <;> by_cases h2 : x ≤ lastX ps <;> simp [h1, h2]

set_option maxRecDepth 100000 in
set_option maxHeartbeats 2000000 in
theorem rAt_all (A : Option Addr) (n c : Nat) (ps : List P3) (x : Int) (w : World) (hn : n = ps.length) (hm : n ≤ maxLen) (hp : Pts w A ps) :
    Calls Tryz.prog 177 #[tv A n c, .int .i64 x] w fun e w' => e = .returned (rt (AtS ps x)) ∧ Below w.heap.size w w' := by
  have hE : Below w.heap.size w ((w.alloc (.cells #[.slice A n c] 26)).alloc (.cells #[.int .i64 0, .int .i64 0] 23)) := below_a2 (Below.refl _ _)
  have bT := (Blk.new w 26 #[.slice A n c]).alloc (.cells #[.int .i64 0, .int .i64 0] 23)
  have bR := Blk.new (w.alloc (.cells #[.slice A n c] 26)) 23 #[.int .i64 0, .int .i64 0]
  simp only [World.size_alloc] at bR
  have HP := Lib.hid (hp.below hE); have HN := Lib.hid hn; clear hn
  have HE := Lib.hid hE; have HT := Lib.hid bT; have HR := Lib.hid bR
  clear hE bT bR
  by_cases ht : tabOk ps = true
  · have hl := (tabOk_len ht).1
    have h40 := (tabOk_len ht).2
    obtain ⟨b, o, rfl, hb, hc⟩ := hp.block hl
    have HVT : Hid (∀ W, Pts W (some ⟨b, o, none⟩) ps → Calls Tryz.prog 192 #[tv (some ⟨b, o, none⟩) n c] W fun e w' => e = .returned (.bool true) ∧ Below W.heap.size W w') := Lib.hid fun W hW => by
      have h := validTable_any _ n c ps W HN.out hm hW
      rw [ht] at h; exact h
    by_cases hi : insideS ps x = true
    · have hx : firstX ps ≤ x ∧ x ≤ lastX ps := by simpa [insideS] using hi
      have hpl : placesS ps x x = 0 := by unfold placesS; rw [if_pos ht, ← insideS_in, if_pos hi]
      obtain ⟨⟨ra, rb⟩, hr⟩ : ∃ r, atS ps x = r := ⟨_, rfl⟩
      have HV := Lib.hid (show AtS ps x = (ra, rb, 0) by unfold AtS; rw [if_pos hpl, hr])
      have HI : Hid (∀ W, Below w.heap.size w W → Calls Tryz.prog 207 #[tv (some ⟨b, o, none⟩) n c, .int .i64 x] W fun e w' => e = .returned (.bool true) ∧ Below W.heap.size W w') := Lib.hid fun W hW => by
        have h := inside_any b o n c ps x W HN.out (by rw [HN.out]; exact hl) (by rw [HN.out]; exact h40) (Nat.lt_of_lt_of_le hb hW.size) (hc.below hW hb)
        rw [hi] at h; exact h
      have HA : Hid (∀ W, Below w.heap.size w W → Calls Tryz.prog 208 #[tv (some ⟨b, o, none⟩) n c, .int .i64 x] W fun e w' => e = .returned (rv ra rb) ∧ Below W.heap.size W w') := Lib.hid fun W hW =>
        rAt_to b o n c ps x ra rb W HN.out (Nat.lt_of_lt_of_le hb hW.size) ht hx.1 hx.2 (hc.below hW hb) hr
      clear hp hc hr ht hi hx hpl hl h40
      go_enter Tryz.func177, Tryz.ntmps177
      go_wp2_with fail
      refine (HVT.out _ HP.out).mono ?_
      rintro e w1 ⟨rfl, hb1⟩
      have HT1 := Lib.hid (blkOn HT.out hb1); have HR1 := Lib.hid (blkOn HR.out hb1); have HE1 := Lib.hid (below_then HE.out hb1)
      have t0 := HT1.out.cell 0
      simp at t0
      clear hb1
      go_wp2_with fail
      refine (HI.out _ HE1.out).mono ?_
      rintro e w2 ⟨rfl, hb2⟩
      have HT2 := Lib.hid (blkOn HT1.out hb2); have HR2 := Lib.hid (blkOn HR1.out hb2); have HE2 := Lib.hid (below_then HE1.out hb2)
      clear hb2 t0
      have t0 := HT2.out.cell 0
      simp at t0
      go_wp2_with fail
      refine (HA.out _ HE2.out).mono ?_
      rintro e w3 ⟨rfl, hb3⟩
      have bR3 := blkOn HR2.out hb3
      have r0 := bR3.cell 0
      have r1 := bR3.cell 1
      have f0 := bR3.frozen 0
      have f1 := bR3.frozen 1
      simp at r0 r1
      have HE3 := Lib.hid (below_then HE2.out hb3)
      clear hb3 bR3 t0
      go_wp2
      refine bodyPost_ret (v := rt (ra, rb, 0)) (by simp [results, Tryz.results177, go_sem, r0, r1]) rfl ⟨by rw [HV.out], ?_⟩
      exact (HE3.out.setCell (p := ⟨w.heap.size + 1, 0, none⟩) (by show w.heap.size ≤ w.heap.size + 1; omega) _).setCell (p := ⟨w.heap.size + 1, 1, none⟩) (by show w.heap.size ≤ w.heap.size + 1; omega) _
    · have hi : insideS ps x = false := by simpa using hi
      have hpl : placesS ps x x = 4 := by unfold placesS; rw [if_pos ht, ← insideS_in, hi]; rfl
      have HV := Lib.hid (show AtS ps x = (0, 0, 4) by unfold AtS; rw [hpl]; rfl)
      have HI : Hid (∀ W, Below w.heap.size w W → Calls Tryz.prog 207 #[tv (some ⟨b, o, none⟩) n c, .int .i64 x] W fun e w' => e = .returned (.bool false) ∧ Below W.heap.size W w') := Lib.hid fun W hW => by
        have h := inside_any b o n c ps x W HN.out (by rw [HN.out]; exact hl) (by rw [HN.out]; exact h40) (Nat.lt_of_lt_of_le hb hW.size) (hc.below hW hb)
        rw [hi] at h; exact h
      clear hp hc ht hi hpl hl h40
      go_enter Tryz.func177, Tryz.ntmps177
      go_wp2_with fail
      refine (HVT.out _ HP.out).mono ?_
      rintro e w1 ⟨rfl, hb1⟩
      have HT1 := Lib.hid (blkOn HT.out hb1); have HR1 := Lib.hid (blkOn HR.out hb1); have HE1 := Lib.hid (below_then HE.out hb1)
      have t0 := HT1.out.cell 0
      simp at t0
      clear hb1
      go_wp2_with fail
      refine (HI.out _ HE1.out).mono ?_
      rintro e w2 ⟨rfl, hb2⟩
      have bR2 := blkOn HR1.out hb2
      have r0 := bR2.cell 0
      have r1 := bR2.cell 1
      have f0 := bR2.frozen 0
      have f1 := bR2.frozen 1
      simp at r0 r1
      have HE2 := Lib.hid (below_then HE1.out hb2)
      clear hb2 bR2 t0
      go_wp2
      refine bodyPost_ret (v := rt (0, 0, 4)) (by simp [results, Tryz.results177, go_sem, r0, r1]) rfl ⟨by rw [HV.out], ?_⟩
      exact (HE2.out.setCell (p := ⟨w.heap.size + 1, 0, none⟩) (by show w.heap.size ≤ w.heap.size + 1; omega) _).setCell (p := ⟨w.heap.size + 1, 1, none⟩) (by show w.heap.size ≤ w.heap.size + 1; omega) _
  · have hf : tabOk ps = false := by simpa using ht
    have hpl : placesS ps x x = 11 := by unfold placesS; rw [if_neg ht]
    have HV := Lib.hid (show AtS ps x = (0, 0, 11) by unfold AtS; rw [hpl]; rfl)
    have HVT : Hid (∀ W, Pts W A ps → Calls Tryz.prog 192 #[tv A n c] W fun e w' => e = .returned (.bool false) ∧ Below W.heap.size W w') := Lib.hid fun W hW => by
      have h := validTable_any _ n c ps W HN.out hm hW
      rw [hf] at h; exact h
    clear hp ht hf hpl
    go_enter Tryz.func177, Tryz.ntmps177
    go_wp2_with fail
    refine (HVT.out _ HP.out).mono ?_
    rintro e w1 ⟨rfl, hb1⟩
    have bR1 := blkOn HR.out hb1
    have r0 := bR1.cell 0
    have r1 := bR1.cell 1
    have f0 := bR1.frozen 0
    have f1 := bR1.frozen 1
    simp at r0 r1
    have HE1 := Lib.hid (below_then HE.out hb1)
    clear hb1 bR1
    go_wp2
    refine bodyPost_ret (v := rt (0, 0, 11)) (by simp [results, Tryz.results177, go_sem, r0, r1]) rfl ⟨by rw [HV.out], ?_⟩
    exact (HE1.out.setCell (p := ⟨w.heap.size + 1, 0, none⟩) (by show w.heap.size ≤ w.heap.size + 1; omega) _).setCell (p := ⟨w.heap.size + 1, 1, none⟩) (by show w.heap.size ≤ w.heap.size + 1; omega) _
end

section
open Go.RowKit

def risesS : List P3 → Bool
  | p :: q :: r => (decide (p.2.1 ≤ q.2.1) && decide (p.2.2 ≤ q.2.2)) && risesS (q :: r)
  | _ => true
end

section
open Go.RowKit

theorem rises_at {ps : List P3} {k : Nat} {p q : P3} (hp : ps[k]? = some p) (hq : ps[k + 1]? = some q) : risesS (ps.drop k) = ((decide (p.2.1 ≤ q.2.1) && decide (p.2.2 ≤ q.2.2)) && risesS (ps.drop (k + 1))) := by
  have hk : k + 1 < ps.length := (List.getElem?_eq_some_iff.1 hq).1
  have e : ps.drop k = p :: q :: ps.drop (k + 1 + 1) := by
    rw [List.drop_eq_getElem_cons (by omega), List.drop_eq_getElem_cons hk]
    rw [List.getElem?_eq_getElem (by omega)] at hp
    rw [List.getElem?_eq_getElem hk] at hq
    injection hp with hp; injection hq with hq
    rw [hp, hq]
  have e2 : ps.drop (k + 1) = q :: ps.drop (k + 1 + 1) := by
    rw [List.drop_eq_getElem_cons hk]
    rw [List.getElem?_eq_getElem hk] at hq
    injection hq with hq
    rw [hq]
  rw [e, e2]; rfl
theorem rises_end {ps : List P3} {k : Nat} (h : ps.length ≤ k + 1) : risesS (ps.drop k) = true := by
  have hl : (ps.drop k).length ≤ 1 := by rw [List.length_drop]; omega
  generalize ps.drop k = L at *
  match L, hl with
  | [], _ => rfl
  | [_], _ => rfl
theorem rises_ask (a b : Int) (t : Bool) (w : World) (h : decide (a ≤ b) = t) : Calls Tryz.prog 116 #[.int .i64 a, .int .i64 b] w fun e w' => e = .returned (.bool t) ∧ Below w.heap.size w w' := by
  have hx : ((a ≤ b) ∧ t = true) ∨ (¬ (a ≤ b) ∧ t = false) := by
    by_cases c : a ≤ b
    · exact .inl ⟨c, by rw [← h]; exact decide_eq_true c⟩
    · exact .inr ⟨c, by rw [← h]; exact decide_eq_false c⟩
  clear h
  rcases hx with ⟨h, rfl⟩ | ⟨h, rfl⟩
  all_goals
    go_enter Tryz.func116, Tryz.ntmps116
    go_wp2
    go_ret
    exact ⟨rfl, Below.refl _ _⟩
set_option maxRecDepth 100000 in
set_option maxHeartbeats 8000000 in
theorem ordered_rises (A : Option Addr) (n c : Nat) (ps : List P3) (w : World) (hp : TabIn w A n ps) (ht : tabOk ps = true) :
    Calls Tryz.prog 147 #[tv A n c, .func (.func 116) #[] #[]] w fun e w' => e = .returned (.bool (risesS ps)) ∧ Below w.heap.size w w' := by
  obtain ⟨hn, hm, hp⟩ := hp
  have h40 := tabOk_len ht
  obtain ⟨b, o, rfl, hb, hc⟩ := hp.block h40.1
  generalize hrr : risesS ps = r
  have HR : Hid (risesS (ps.drop 0) = r) := Lib.hid hrr
  have HE := Lib.hid (below_alloc1 w (.cells #[.slice (some ⟨b, o, none⟩) n c] 26)); have HK := Lib.hid (boxes1' w 26 #[.slice (some ⟨b, o, none⟩) n c])
  have HC := Lib.hid hc; have HN := Lib.hid hn
  have hn1 : 1 ≤ n := by omega
  have hn40 : n ≤ 40 := by omega
  clear hc hn hp ht h40 hm hrr
  go_enter Tryz.func147, Tryz.ntmps147
  go_wp2_with fail
  obtain ⟨W0, hW0⟩ : ∃ W0, w.alloc (.cells #[.slice (some ⟨b, o, none⟩) n c] 26) = W0 := ⟨_, rfl⟩
  rw [hW0] at HE HK ⊢
  clear hW0
  obtain ⟨G, hG⟩ : ∃ G, w.heap.size = G := ⟨_, rfl⟩
  rw [hG] at HK ⊢
  have HG := Lib.hid hG; clear hG
  go_loopw [5] (fun i wr => ∃ k : Nat, k + 1 ≤ n ∧ i = .int .i64 ((k : Int) + 1) ∧ Hid (risesS (ps.drop k) = r) ∧ Below W0.heap.size W0 wr) (fun i _ => n - (intOf i).toNat)
  case atStart => exact ⟨0, by omega, rfl, HR, Below.refl _ _⟩
  case round =>
    obtain ⟨k, hk, rfl, HP, hB⟩ := hrel
    have q0 := (HK.out.on hB _ (.head _)).cell 0
    have l0 := (HK.out.on hB _ (.head _)).lt
    simp at q0 l0
    by_cases hlt : k + 1 < n
    · obtain ⟨p, hp⟩ : ∃ p, ps[k]? = some p := ⟨_, List.getElem?_eq_getElem (show k < ps.length by rw [← HN.out]; omega)⟩
      obtain ⟨q, hq⟩ : ∃ q, ps[k + 1]? = some q := ⟨_, List.getElem?_eq_getElem (show k + 1 < ps.length by rw [← HN.out]; omega)⟩
      have hEk := below_then HE.out hB
      obtain ⟨c0, c1, c2⟩ := HC.out k p hp
      rw [← hEk.cell (p := ⟨b, o + k * 3, none⟩) hb] at c0
      rw [← hEk.cell (p := ⟨b, o + k * 3 + 1, none⟩) hb] at c1
      rw [← hEk.cell (p := ⟨b, o + k * 3 + 2, none⟩) hb] at c2
      obtain ⟨d0, d1, d2⟩ := HC.out (k + 1) q hq
      rw [← hEk.cell (p := ⟨b, o + (k + 1) * 3, none⟩) hb] at d0
      rw [← hEk.cell (p := ⟨b, o + (k + 1) * 3 + 1, none⟩) hb] at d1
      rw [← hEk.cell (p := ⟨b, o + (k + 1) * 3 + 2, none⟩) hb] at d2
      have lb : b < wr.heap.size := Nat.lt_of_lt_of_le hb hEk.size
      have HS := Lib.hid (rises_at hp hq)
      obtain ⟨x, lo, hi⟩ := p
      obtain ⟨y, mo, hj⟩ := q
      dsimp only at c0 c1 c2 d0 d1 d2
      have HB := Lib.hid hB
      clear hp hq hB hEk
      have k3 : IntKind.i64.wrap ((k : Int) + 1 - 1) = (k : Int) := by rw [IntWalk.i64_in _ ⟨by omega, by omega⟩]; omega
      have k4 : (0 : Int) ≤ (k : Int) + 1 := by omega
      have k5 : ((k : Int) + 1).toNat = k + 1 := by omega
      have k6 : (k : Int) + 1 < (n : Int) := by omega
      have k7 : (k : Int) < (n : Int) := by omega
      go_wp2_with fail
      go_cut [6, 7] (fun s6 s7 wx => ∃ B6 B7, s6 = .pointer (some ⟨B6, 0, none⟩) ∧ s7 = .pointer (some ⟨B7, 0, none⟩) ∧ Blk wx B6 146 (#[.int .i64 x, .int .i64 lo, .int .i64 hi]) ∧ Blk wx B7 146 (#[.int .i64 y, .int .i64 mo, .int .i64 hj]) ∧ Below wr.heap.size wr wx)
      case first =>
        go_region
        all_goals go_wp2_with fail
        all_goals go_meet
        all_goals (first
          | exact ⟨_, _, rfl, rfl, (two_new wr _ _ _).1, (two_new wr _ _ _).2.1, (two_new wr _ _ _).2.2⟩
          | exact ⟨_, _, rfl, rfl, (two_new wr _ _ _).2.1, (two_new wr _ _ _).1, (two_new wr _ _ _).2.2⟩)
      case rest =>
        obtain ⟨B6, B7, rfl, rfl, hb6, hb7, hbx⟩ := hcut
        rename World => w2
        have e0 := hb6.cell 1
        have e1 := hb6.cell 2
        have g0 := hb7.cell 1
        have g1 := hb7.cell 2
        simp at e0 e1 g0 g1
        have HB6 := Lib.hid hb6; have HB7 := Lib.hid hb7
        have HB2 := Lib.hid (below_then HB.out hbx)
        clear hb6 hb7 hbx HB q0 l0 lb c0 c1 c2 d0 d1 d2 k3 k4 k5 k6 k7
        have hlh : ∃ t1 t2, decide (lo ≤ mo) = t1 ∧ decide (hi ≤ hj) = t2 := ⟨_, _, rfl, rfl⟩
        obtain ⟨t1, t2, ht1, ht2⟩ := hlh
        have HS2 : Hid (risesS (ps.drop k) = ((t1 && t2) && risesS (ps.drop (k + 1)))) := Lib.hid (by rw [HS.out, ht1, ht2])
        have A1 := Lib.hid (fun W => rises_ask lo mo t1 W ht1)
        have A2 := Lib.hid (fun W => rises_ask hi hj t2 W ht2)
        clear HS ht1 ht2
        cases t1
        · have hf : r = false := by rw [← HP.out, HS2.out]; rfl
          subst hf
          clear HP HS2 HR A2
          go_wp2_with fail
          refine (A1.out _).mono ?_
          rintro e w3 ⟨rfl, hb3⟩
          have HF := Lib.hid (below_then HE.out (below_then HB2.out hb3))
          clear hb3
          go_wp2
          go_ret
          exact ⟨rfl, HF.out⟩
        · go_wp2_with fail
          refine (A1.out _).mono ?_
          rintro e w3 ⟨rfl, hb3⟩
          have HB3 := Lib.hid (below_then HB2.out hb3)
          clear e0 g0 e1 g1
          have e1 := (HB6.out.below hb3 HB6.out.lt).cell 2
          have g1 := (HB7.out.below hb3 HB7.out.lt).cell 2
          simp at e1 g1
          clear hb3
          cases t2
          · have hf : r = false := by rw [← HP.out, HS2.out]; rfl
            subst hf
            clear HP HS2 HR
            go_wp2_with fail
            refine (A2.out _).mono ?_
            rintro e w4 ⟨rfl, hb3⟩
            have HF := Lib.hid (below_then HE.out (below_then HB3.out hb3))
            clear hb3
            go_wp2
            go_ret
            exact ⟨rfl, HF.out⟩
          · have HP2 : Hid (risesS (ps.drop (k + 1)) = r) := Lib.hid (by rw [← HP.out, HS2.out]; simp)
            clear HP HS2
            go_wp2_with fail
            refine (A2.out _).mono ?_
            rintro e w4 ⟨rfl, hb3⟩
            have HB4 := Lib.hid (below_then HB3.out hb3)
            clear hb3 e1 g1
            go_wp2
            go_roundw
            case rel => exact ⟨k + 1, by omega, by go_num, HP2, HB4.out⟩
            case measure => simp [intOf]; omega
    · have hf : r = true := by rw [← HP.out, rises_end (by rw [← HN.out]; omega)]
      subst hf
      have HF := Lib.hid (below_then HE.out hB)
      have k6 : ¬ (k : Int) + 1 < (n : Int) := by omega
      clear HP HR hB
      go_wp2
      go_ret
      exact ⟨rfl, HF.out⟩
end

end Go.Proofs.YtmdilbmgopggaaaGreat
