/- The contract of ordered (hold), with the closures of CheckHold and CheckTank. Its condition: the table is valid and lies in memory. -/
import Derived.RegionTactic
import Derived.Test.YtemlaaipnhmcoaaGreatR11
set_option linter.unusedVariables false
set_option linter.unusedSimpArgs false
set_option linter.constructorNameAsVariable false
namespace Go.Proofs.YtemlaaipnhmcoaaGreat

section
open Go.RowKit

theorem two_new (w : World) (t : TypeId) (c1 c2 : Array Value) : Blk ((w.alloc (.cells c1 t)).alloc (.cells c2 t)).drew w.heap.size t c1 ∧ Blk ((w.alloc (.cells c1 t)).alloc (.cells c2 t)).drew (w.heap.size + 1) t c2 ∧ Below w.heap.size w ((w.alloc (.cells c1 t)).alloc (.cells c2 t)).drew := by
  have h2 := (Blk.new (w.alloc (.cells c1 t)) t c2).drew
  rw [World.size_alloc] at h2
  exact ⟨((Blk.new w t c1).alloc _).drew, h2, (below_a2 (Below.refl _ _)).drew⟩

theorem falls_at {ps : List P3} {k : Nat} {p q : P3} (hp : ps[k]? = some p) (hq : ps[k + 1]? = some q) : fallsS (ps.drop k) = ((decide (q.2.1 ≤ p.2.1) && decide (q.2.2 ≤ p.2.2)) && fallsS (ps.drop (k + 1))) := by
  have hk : k + 1 < ps.length := (List.getElem?_eq_some_iff.1 hq).1
  have e : ps.drop k = p :: q :: ps.drop (k + 1 + 1) := by
    rw [List.drop_eq_getElem_cons (by omega), List.drop_eq_getElem_cons hk]
    rw [List.getElem?_eq_getElem (by omega)] at hp
    rw [List.getElem?_eq_getElem hk] at hq
    injection hp with hp; injection hq with hq
    rw [hp, hq]
  have e2 : ps.drop (k + 1) = q :: ps.drop (k + 1 + 1) := by
    rw [List.drop_eq_getElem_cons hk]
    rw [List.getElem?_eq_getElem hk] at hq
    injection hq with hq
    rw [hq]
  rw [e, e2]; rfl
theorem falls_end {ps : List P3} {k : Nat} (h : ps.length ≤ k + 1) : fallsS (ps.drop k) = true := by
  have hl : (ps.drop k).length ≤ 1 := by rw [List.length_drop]; omega
  generalize ps.drop k = L at *
  match L, hl with
  | [], _ => rfl
  | [_], _ => rfl
theorem falls_ask (a b : Int) (t : Bool) (w : World) (h : decide (b ≤ a) = t) : Calls Tryz.prog 101 #[.int .i64 a, .int .i64 b] w fun e w' => e = .returned (.bool t) ∧ Below w.heap.size w w' := by
 have hx : ((b ≤ a) ∧ t = true) ∨ (¬ (b ≤ a) ∧ t = false) := by
  by_cases c : b ≤ a
  ·exact .inl ⟨c, by rw [← h]; exact decide_eq_true c⟩
  ·exact .inr ⟨c, by rw [← h]; exact decide_eq_false c⟩
 clear h
 rcases hx with ⟨h, rfl⟩ | ⟨h, rfl⟩
 all_goals
  go_enter Tryz.func101, Tryz.ntmps101
  go_wp2
  go_ret
  exact ⟨rfl, Below.refl _ _⟩
set_option maxRecDepth 100000 in
set_option maxHeartbeats 8000000 in
theorem ordered_falls (A : Option Addr) (n c : Nat) (ps : List P3) (w : World) (hp : TabIn w A n ps) (ht : tabOk ps = true) :
  Calls Tryz.prog 146 #[tv A n c, .func (.func 101) #[] #[]] w fun e w' => e = .returned (.bool (fallsS ps)) ∧ Below w.heap.size w w' := by
 obtain ⟨hn, hm, hp⟩ := hp
 have h40 := tabOk_len ht
 obtain ⟨b, o, rfl, hb, hc⟩ := hp.block h40.1
 generalize hrr : fallsS ps = r
 have HR : Hid (fallsS (ps.drop 0) = r) := Lib.hid hrr
 have HE := Lib.hid (below_alloc1 w (.cells #[.slice (some ⟨b, o, none⟩) n c] 33)); have HK := Lib.hid (boxes1' w 33 #[.slice (some ⟨b, o, none⟩) n c])
 have HC := Lib.hid hc; have HN := Lib.hid hn
 have hn1 : 1 ≤ n := by omega
 have hn40 : n ≤ 40 := by omega
 clear hc hn hp ht h40 hm hrr
 go_enter Tryz.func146, Tryz.ntmps146
 go_wp2_with fail
 obtain ⟨W0, hW0⟩ : ∃ W0, w.alloc (.cells #[.slice (some ⟨b, o, none⟩) n c] 33) = W0 := ⟨_, rfl⟩
 rw [hW0] at HE HK ⊢
 clear hW0
 obtain ⟨G, hG⟩ : ∃ G, w.heap.size = G := ⟨_, rfl⟩
 rw [hG] at HK ⊢
 have HG := Lib.hid hG; clear hG
 go_loopw [5] (fun i wr => ∃ k : Nat, k + 1 ≤ n ∧ i = .int .i64 ((k : Int) + 1) ∧ Hid (fallsS (ps.drop k) = r) ∧ Below W0.heap.size W0 wr) (fun i _ => n - (intOf i).toNat)
 case atStart => exact ⟨0, by omega, rfl, HR, Below.refl _ _⟩
 case round =>
  obtain ⟨k, hk, rfl, HP, hB⟩ := hrel
  have q0 := (HK.out.on hB _ (.head _)).cell 0
  have l0 := (HK.out.on hB _ (.head _)).lt
  simp at q0 l0
  by_cases hlt : k + 1 < n
  ·obtain ⟨p, hp⟩ : ∃ p, ps[k]? = some p := ⟨_, List.getElem?_eq_getElem (show k < ps.length by rw [← HN.out]; omega)⟩
   obtain ⟨q, hq⟩ : ∃ q, ps[k + 1]? = some q := ⟨_, List.getElem?_eq_getElem (show k + 1 < ps.length by rw [← HN.out]; omega)⟩
   have hEk := below_then HE.out hB
   obtain ⟨c0, c1, c2⟩ := HC.out k p hp
   rw [← hEk.cell (p := ⟨b, o + k * 3, none⟩) hb] at c0
   rw [← hEk.cell (p := ⟨b, o + k * 3 + 1, none⟩) hb] at c1
   rw [← hEk.cell (p := ⟨b, o + k * 3 + 2, none⟩) hb] at c2
   obtain ⟨d0, d1, d2⟩ := HC.out (k + 1) q hq
   rw [← hEk.cell (p := ⟨b, o + (k + 1) * 3, none⟩) hb] at d0
   rw [← hEk.cell (p := ⟨b, o + (k + 1) * 3 + 1, none⟩) hb] at d1
   rw [← hEk.cell (p := ⟨b, o + (k + 1) * 3 + 2, none⟩) hb] at d2
   have lb : b < wr.heap.size := Nat.lt_of_lt_of_le hb hEk.size
   have HS := Lib.hid (falls_at hp hq)
   obtain ⟨x, lo, hi⟩ := p
   obtain ⟨y, mo, hj⟩ := q
   dsimp only at c0 c1 c2 d0 d1 d2
   have HB := Lib.hid hB
   clear hp hq hB hEk
   have k3 : IntKind.i64.wrap ((k : Int) + 1 - 1) = (k : Int) := by rw [IntWalk.i64_in _ ⟨by omega, by omega⟩]; omega
   have k4 : (0 : Int) ≤ (k : Int) + 1 := by omega
   have k5 : ((k : Int) + 1).toNat = k + 1 := by omega
   have k6 : (k : Int) + 1 < (n : Int) := by omega
   have k7 : (k : Int) < (n : Int) := by omega
   go_wp2_with fail
   go_cut [6, 7] (fun s6 s7 wx => ∃ B6 B7, s6 = .pointer (some ⟨B6, 0, none⟩) ∧ s7 = .pointer (some ⟨B7, 0, none⟩) ∧ Blk wx B6 110 (#[.int .i64 x, .int .i64 lo, .int .i64 hi]) ∧ Blk wx B7 110 (#[.int .i64 y, .int .i64 mo, .int .i64 hj]) ∧ Below wr.heap.size wr wx)
   case first =>
    go_region
    all_goals go_wp2_with fail
    all_goals go_meet
    all_goals (first
     | exact ⟨_, _, rfl, rfl, (two_new wr _ _ _).1, (two_new wr _ _ _).2.1, (two_new wr _ _ _).2.2⟩
     | exact ⟨_, _, rfl, rfl, (two_new wr _ _ _).2.1, (two_new wr _ _ _).1, (two_new wr _ _ _).2.2⟩)
   case rest =>
    obtain ⟨B6, B7, rfl, rfl, hb6, hb7, hbx⟩ := hcut
    rename World => w2
    have e0 := hb6.cell 1
    have e1 := hb6.cell 2
    have g0 := hb7.cell 1
    have g1 := hb7.cell 2
    simp at e0 e1 g0 g1
    have HB6 := Lib.hid hb6; have HB7 := Lib.hid hb7
    have HB2 := Lib.hid (below_then HB.out hbx)
    clear hb6 hb7 hbx HB q0 l0 lb c0 c1 c2 d0 d1 d2 k3 k4 k5 k6 k7
    have hlh : ∃ t1 t2, decide (mo ≤ lo) = t1 ∧ decide (hj ≤ hi) = t2 := ⟨_, _, rfl, rfl⟩
    obtain ⟨t1, t2, ht1, ht2⟩ := hlh
    have HS2 : Hid (fallsS (ps.drop k) = ((t1 && t2) && fallsS (ps.drop (k + 1)))) := Lib.hid (by rw [HS.out, ht1, ht2])
    have A1 := Lib.hid (fun W => falls_ask lo mo t1 W ht1)
    have A2 := Lib.hid (fun W => falls_ask hi hj t2 W ht2)
    clear HS ht1 ht2
    cases t1
    ·have hf : r = false := by rw [← HP.out, HS2.out]; rfl
     subst hf
     clear HP HS2 HR A2
     go_wp2_with fail
     refine (A1.out _).mono ?_
     rintro e w3 ⟨rfl, hb3⟩
     have HF := Lib.hid (below_then HE.out (below_then HB2.out hb3))
     clear hb3
     go_wp2
     go_ret
     exact ⟨rfl, HF.out⟩
    ·go_wp2_with fail
     refine (A1.out _).mono ?_
     rintro e w3 ⟨rfl, hb3⟩
     have HB3 := Lib.hid (below_then HB2.out hb3)
     clear e0 g0 e1 g1
     have e1 := (HB6.out.below hb3 HB6.out.lt).cell 2
     have g1 := (HB7.out.below hb3 HB7.out.lt).cell 2
     simp at e1 g1
     clear hb3
     cases t2
     ·have hf : r = false := by rw [← HP.out, HS2.out]; rfl
      subst hf
      clear HP HS2 HR
      go_wp2_with fail
      refine (A2.out _).mono ?_
      rintro e w4 ⟨rfl, hb3⟩
      have HF := Lib.hid (below_then HE.out (below_then HB3.out hb3))
      clear hb3
      go_wp2
      go_ret
      exact ⟨rfl, HF.out⟩
     ·have HP2 : Hid (fallsS (ps.drop (k + 1)) = r) := Lib.hid (by rw [← HP.out, HS2.out]; simp)
      clear HP HS2
      go_wp2_with fail
      refine (A2.out _).mono ?_
      rintro e w4 ⟨rfl, hb3⟩
      have HB4 := Lib.hid (below_then HB3.out hb3)
      clear hb3 e1 g1
      go_wp2
      go_roundw
      case rel => exact ⟨k + 1, by omega, by go_num, HP2, HB4.out⟩
      case measure => simp [intOf]; omega
  ·have hf : r = true := by rw [← HP.out, falls_end (by rw [← HN.out]; omega)]
   subst hf
   have HF := Lib.hid (below_then HE.out hB)
   have k6 : ¬ (k : Int) + 1 < (n : Int) := by omega
   clear HP HR hB
   go_wp2
   go_ret
   exact ⟨rfl, HF.out⟩
theorem rises_at {ps : List P3} {k : Nat} {p q : P3} (hp : ps[k]? = some p) (hq : ps[k + 1]? = some q) : risesS (ps.drop k) = ((decide (p.2.1 ≤ q.2.1) && decide (p.2.2 ≤ q.2.2)) && risesS (ps.drop (k + 1))) := by
  have hk : k + 1 < ps.length := (List.getElem?_eq_some_iff.1 hq).1
  have e : ps.drop k = p :: q :: ps.drop (k + 1 + 1) := by
    rw [List.drop_eq_getElem_cons (by omega), List.drop_eq_getElem_cons hk]
    rw [List.getElem?_eq_getElem (by omega)] at hp
    rw [List.getElem?_eq_getElem hk] at hq
    injection hp with hp; injection hq with hq
    rw [hp, hq]
  have e2 : ps.drop (k + 1) = q :: ps.drop (k + 1 + 1) := by
    rw [List.drop_eq_getElem_cons hk]
    rw [List.getElem?_eq_getElem hk] at hq
    injection hq with hq
    rw [hq]
  rw [e, e2]; rfl
theorem rises_end {ps : List P3} {k : Nat} (h : ps.length ≤ k + 1) : risesS (ps.drop k) = true := by
  have hl : (ps.drop k).length ≤ 1 := by rw [List.length_drop]; omega
  generalize ps.drop k = L at *
  match L, hl with
  | [], _ => rfl
  | [_], _ => rfl
theorem rises_ask (a b : Int) (t : Bool) (w : World) (h : decide (a ≤ b) = t) : Calls Tryz.prog 123 #[.int .i64 a, .int .i64 b] w fun e w' => e = .returned (.bool t) ∧ Below w.heap.size w w' := by
 have hx : ((a ≤ b) ∧ t = true) ∨ (¬ (a ≤ b) ∧ t = false) := by
  by_cases c : a ≤ b
  ·exact .inl ⟨c, by rw [← h]; exact decide_eq_true c⟩
  ·exact .inr ⟨c, by rw [← h]; exact decide_eq_false c⟩
 clear h
 rcases hx with ⟨h, rfl⟩ | ⟨h, rfl⟩
 all_goals
  go_enter Tryz.func123, Tryz.ntmps123
  go_wp2
  go_ret
  exact ⟨rfl, Below.refl _ _⟩
set_option maxRecDepth 100000 in
set_option maxHeartbeats 8000000 in
theorem ordered_rises (A : Option Addr) (n c : Nat) (ps : List P3) (w : World) (hp : TabIn w A n ps) (ht : tabOk ps = true) :
  Calls Tryz.prog 146 #[tv A n c, .func (.func 123) #[] #[]] w fun e w' => e = .returned (.bool (risesS ps)) ∧ Below w.heap.size w w' := by
 obtain ⟨hn, hm, hp⟩ := hp
 have h40 := tabOk_len ht
 obtain ⟨b, o, rfl, hb, hc⟩ := hp.block h40.1
 generalize hrr : risesS ps = r
 have HR : Hid (risesS (ps.drop 0) = r) := Lib.hid hrr
 have HE := Lib.hid (below_alloc1 w (.cells #[.slice (some ⟨b, o, none⟩) n c] 33)); have HK := Lib.hid (boxes1' w 33 #[.slice (some ⟨b, o, none⟩) n c])
 have HC := Lib.hid hc; have HN := Lib.hid hn
 have hn1 : 1 ≤ n := by omega
 have hn40 : n ≤ 40 := by omega
 clear hc hn hp ht h40 hm hrr
 go_enter Tryz.func146, Tryz.ntmps146
 go_wp2_with fail
 obtain ⟨W0, hW0⟩ : ∃ W0, w.alloc (.cells #[.slice (some ⟨b, o, none⟩) n c] 33) = W0 := ⟨_, rfl⟩
 rw [hW0] at HE HK ⊢
 clear hW0
 obtain ⟨G, hG⟩ : ∃ G, w.heap.size = G := ⟨_, rfl⟩
 rw [hG] at HK ⊢
 have HG := Lib.hid hG; clear hG
 go_loopw [5] (fun i wr => ∃ k : Nat, k + 1 ≤ n ∧ i = .int .i64 ((k : Int) + 1) ∧ Hid (risesS (ps.drop k) = r) ∧ Below W0.heap.size W0 wr) (fun i _ => n - (intOf i).toNat)
 case atStart => exact ⟨0, by omega, rfl, HR, Below.refl _ _⟩
 case round =>
  obtain ⟨k, hk, rfl, HP, hB⟩ := hrel
  have q0 := (HK.out.on hB _ (.head _)).cell 0
  have l0 := (HK.out.on hB _ (.head _)).lt
  simp at q0 l0
  by_cases hlt : k + 1 < n
  ·obtain ⟨p, hp⟩ : ∃ p, ps[k]? = some p := ⟨_, List.getElem?_eq_getElem (show k < ps.length by rw [← HN.out]; omega)⟩
   obtain ⟨q, hq⟩ : ∃ q, ps[k + 1]? = some q := ⟨_, List.getElem?_eq_getElem (show k + 1 < ps.length by rw [← HN.out]; omega)⟩
   have hEk := below_then HE.out hB
   obtain ⟨c0, c1, c2⟩ := HC.out k p hp
   rw [← hEk.cell (p := ⟨b, o + k * 3, none⟩) hb] at c0
   rw [← hEk.cell (p := ⟨b, o + k * 3 + 1, none⟩) hb] at c1
   rw [← hEk.cell (p := ⟨b, o + k * 3 + 2, none⟩) hb] at c2
   obtain ⟨d0, d1, d2⟩ := HC.out (k + 1) q hq
   rw [← hEk.cell (p := ⟨b, o + (k + 1) * 3, none⟩) hb] at d0
   rw [← hEk.cell (p := ⟨b, o + (k + 1) * 3 + 1, none⟩) hb] at d1
   rw [← hEk.cell (p := ⟨b, o + (k + 1) * 3 + 2, none⟩) hb] at d2
   have lb : b < wr.heap.size := Nat.lt_of_lt_of_le hb hEk.size
   have HS := Lib.hid (rises_at hp hq)
   obtain ⟨x, lo, hi⟩ := p
   obtain ⟨y, mo, hj⟩ := q
   dsimp only at c0 c1 c2 d0 d1 d2
   have HB := Lib.hid hB
   clear hp hq hB hEk
   have k3 : IntKind.i64.wrap ((k : Int) + 1 - 1) = (k : Int) := by rw [IntWalk.i64_in _ ⟨by omega, by omega⟩]; omega
   have k4 : (0 : Int) ≤ (k : Int) + 1 := by omega
   have k5 : ((k : Int) + 1).toNat = k + 1 := by omega
   have k6 : (k : Int) + 1 < (n : Int) := by omega
   have k7 : (k : Int) < (n : Int) := by omega
   go_wp2_with fail
   go_cut [6, 7] (fun s6 s7 wx => ∃ B6 B7, s6 = .pointer (some ⟨B6, 0, none⟩) ∧ s7 = .pointer (some ⟨B7, 0, none⟩) ∧ Blk wx B6 110 (#[.int .i64 x, .int .i64 lo, .int .i64 hi]) ∧ Blk wx B7 110 (#[.int .i64 y, .int .i64 mo, .int .i64 hj]) ∧ Below wr.heap.size wr wx)
   case first =>
    go_region
    all_goals go_wp2_with fail
    all_goals go_meet
    all_goals (first
     | exact ⟨_, _, rfl, rfl, (two_new wr _ _ _).1, (two_new wr _ _ _).2.1, (two_new wr _ _ _).2.2⟩
     | exact ⟨_, _, rfl, rfl, (two_new wr _ _ _).2.1, (two_new wr _ _ _).1, (two_new wr _ _ _).2.2⟩)
   case rest =>
    obtain ⟨B6, B7, rfl, rfl, hb6, hb7, hbx⟩ := hcut
    rename World => w2
    have e0 := hb6.cell 1
    have e1 := hb6.cell 2
    have g0 := hb7.cell 1
    have g1 := hb7.cell 2
    simp at e0 e1 g0 g1
    have HB6 := Lib.hid hb6; have HB7 := Lib.hid hb7
    have HB2 := Lib.hid (below_then HB.out hbx)
    clear hb6 hb7 hbx HB q0 l0 lb c0 c1 c2 d0 d1 d2 k3 k4 k5 k6 k7
    have hlh : ∃ t1 t2, decide (lo ≤ mo) = t1 ∧ decide (hi ≤ hj) = t2 := ⟨_, _, rfl, rfl⟩
    obtain ⟨t1, t2, ht1, ht2⟩ := hlh
    have HS2 : Hid (risesS (ps.drop k) = ((t1 && t2) && risesS (ps.drop (k + 1)))) := Lib.hid (by rw [HS.out, ht1, ht2])
    have A1 := Lib.hid (fun W => rises_ask lo mo t1 W ht1)
    have A2 := Lib.hid (fun W => rises_ask hi hj t2 W ht2)
    clear HS ht1 ht2
    cases t1
    ·have hf : r = false := by rw [← HP.out, HS2.out]; rfl
     subst hf
     clear HP HS2 HR A2
     go_wp2_with fail
     refine (A1.out _).mono ?_
     rintro e w3 ⟨rfl, hb3⟩
     have HF := Lib.hid (below_then HE.out (below_then HB2.out hb3))
     clear hb3
     go_wp2
     go_ret
     exact ⟨rfl, HF.out⟩
    ·go_wp2_with fail
     refine (A1.out _).mono ?_
     rintro e w3 ⟨rfl, hb3⟩
     have HB3 := Lib.hid (below_then HB2.out hb3)
     clear e0 g0 e1 g1
     have e1 := (HB6.out.below hb3 HB6.out.lt).cell 2
     have g1 := (HB7.out.below hb3 HB7.out.lt).cell 2
     simp at e1 g1
     clear hb3
     cases t2
     ·have hf : r = false := by rw [← HP.out, HS2.out]; rfl
      subst hf
      clear HP HS2 HR
      go_wp2_with fail
      refine (A2.out _).mono ?_
      rintro e w4 ⟨rfl, hb3⟩
      have HF := Lib.hid (below_then HE.out (below_then HB3.out hb3))
      clear hb3
      go_wp2
      go_ret
      exact ⟨rfl, HF.out⟩
     ·have HP2 : Hid (risesS (ps.drop (k + 1)) = r) := Lib.hid (by rw [← HP.out, HS2.out]; simp)
      clear HP HS2
      go_wp2_with fail
      refine (A2.out _).mono ?_
      rintro e w4 ⟨rfl, hb3⟩
      have HB4 := Lib.hid (below_then HB3.out hb3)
      clear hb3 e1 g1
      go_wp2
      go_roundw
      case rel => exact ⟨k + 1, by omega, by go_num, HP2, HB4.out⟩
      case measure => simp [intOf]; omega
  ·have hf : r = true := by rw [← HP.out, rises_end (by rw [← HN.out]; omega)]
   subst hf
   have HF := Lib.hid (below_then HE.out hB)
   have k6 : ¬ (k : Int) + 1 < (n : Int) := by omega
   clear HP HR hB
   go_wp2
   go_ret
   exact ⟨rfl, HF.out⟩
end

end Go.Proofs.YtemlaaipnhmcoaaGreat
