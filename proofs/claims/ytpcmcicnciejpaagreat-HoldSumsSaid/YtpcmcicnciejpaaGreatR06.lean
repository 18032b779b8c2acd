/- What a valid fill is; the contracts of Filled, Free and CheckFill (the specification of layer 2). Its condition: the hold's tables lie in memory. -/
import Derived.BigQuiet
import Derived.Deep.RegionHeld3
import Derived.Test.YtpcmcicnciejpaaGreatR05
import Derived.Test.YtpcmcicnciejpaaGreatR01
import Derived.Test.YtpcmcicnciejpaaGreatR03
import Derived.RegionTactic
import Derived.Deep.RegionWith
import Derived.Deep.QuietTactic
set_option linter.unusedVariables false
set_option linter.unusedSimpArgs false
set_option linter.constructorNameAsVariable false
namespace Go.Proofs.YtpcmcicnciejpaaGreat

section
open Go.RowKit

theorem between_to (n lo hi : Int) (t : Bool) (w : World) (h : decide (lo ≤ n ∧ n ≤ hi) = t) :
  Calls Tryz.prog 32 #[.int .i64 n, .int .i64 lo, .int .i64 hi] w fun e w' => e = .returned (.bool t) ∧ Below w.heap.size w w' := by
 have hx : (¬ lo ≤ n ∧ t = false) ∨ (lo ≤ n ∧ ¬ n ≤ hi ∧ t = false) ∨ (lo ≤ n ∧ n ≤ hi ∧ t = true) := by
  by_cases h1 : lo ≤ n
  ·by_cases h2 : n ≤ hi
   ·exact .inr (.inr ⟨h1, h2, by rw [← h]; exact decide_eq_true ⟨h1, h2⟩⟩)
   ·exact .inr (.inl ⟨h1, h2, by rw [← h]; exact decide_eq_false (by omega)⟩)
  ·exact .inl ⟨h1, by rw [← h]; exact decide_eq_false (by omega)⟩
 clear h
 rcases hx with ⟨h1, rfl⟩ | ⟨h1, h2, rfl⟩ | ⟨h1, h2, rfl⟩
 all_goals
  go_enter Tryz.func32, Tryz.ntmps32
  go_wp2
  go_ret
  exact ⟨rfl, Below.refl _ _⟩
theorem sFirst_any (b o m c : Nat) (x : Int) (w : World) (hb : b < w.heap.size) (h0 : w.cell? ⟨b, o, none⟩ = some (.int .i64 x)) :
  Calls Tryz.prog 33 #[tv (some ⟨b, o, none⟩) (m + 1) c] w fun e w' => e = .returned (.int .i64 x) ∧ Below w.heap.size w w' := by
 have k2 : (0 : Int) < (m : Int) + 1 := by omega
 have z1 : (w.alloc (.cells #[.slice (some ⟨b, o, none⟩) (m + 1) c] 38)).cell? ⟨b, o, none⟩ = some (.int .i64 x) := by
  rw [World.cell?_alloc_lt _ _ _ hb]; exact h0
 go_enter Tryz.func33, Tryz.ntmps33
 go_wp2
 go_ret
 exact ⟨rfl, (Below.refl _ _).alloc (Nat.le_refl _) _⟩
theorem sLast_any (b o m c : Nat) (x : Int) (w : World) (hm : (m : Int) ≤ 1000000) (hb : b < w.heap.size) (h0 : w.cell? ⟨b, o + m * 3, none⟩ = some (.int .i64 x)) :
  Calls Tryz.prog 19 #[tv (some ⟨b, o, none⟩) (m + 1) c] w fun e w' => e = .returned (.int .i64 x) ∧ Below w.heap.size w w' := by
 have k1 : (0 : Int) ≤ (m : Int) := by omega
 have k2 : (m : Int) < (m : Int) + 1 := by omega
 have k3 : IntKind.i64.wrap ((m : Int) + 1 - 1) = (m : Int) := by rw [IntWalk.i64_in _ ⟨by omega, by omega⟩]; omega
 have z1 : (w.alloc (.cells #[.slice (some ⟨b, o, none⟩) (m + 1) c] 38)).cell? ⟨b, o + m * 3, none⟩ = some (.int .i64 x) := by
  rw [World.cell?_alloc_lt _ _ _ hb]; exact h0
 go_enter Tryz.func19, Tryz.ntmps19
 go_wp2
 go_ret
 exact ⟨rfl, (Below.refl _ _).alloc (Nat.le_refl _) _⟩
theorem sFirst_tab (A : Option Addr) (n c : Nat) (ps : List P3) (w : World) (hp : TabIn w A n ps) (h : tabOk ps = true) :
    Calls Tryz.prog 33 #[tv A n c] w fun e w' => e = .returned (.int .i64 (firstX ps)) ∧ Below w.heap.size w w' := by
  have h1 := tabOk_len h
  obtain ⟨hn, _, hp⟩ := hp
  obtain ⟨b, o, rfl, hb, hc⟩ := hp.block h1.1
  obtain ⟨m, rfl⟩ : ∃ m, n = m + 1 := ⟨n - 1, by omega⟩
  exact sFirst_any b o m c _ w hb (first_at hc (by omega))
theorem sLast_tab (A : Option Addr) (n c : Nat) (ps : List P3) (w : World) (hp : TabIn w A n ps) (h : tabOk ps = true) :
    Calls Tryz.prog 19 #[tv A n c] w fun e w' => e = .returned (.int .i64 (lastX ps)) ∧ Below w.heap.size w w' := by
  have h1 := tabOk_len h
  obtain ⟨hn, _, hp⟩ := hp
  obtain ⟨b, o, rfl, hb, hc⟩ := hp.block h1.1
  obtain ⟨m, rfl⟩ : ∃ m, n = m + 1 := ⟨n - 1, by omega⟩
  exact sLast_any b o m c _ w (by omega) hb (last_at hc (by omega))
end

section
open Go.RowKit

set_option maxRecDepth 100000 in
set_option maxHeartbeats 2000000 in
theorem hover_any (A : Option Addr) (n c : Nat) (ps : List P3) (x y : Int) (w : World) (hp : TabIn w A n ps) :
  Calls Tryz.prog 46 #[tv A n c, rv x y] w fun e w' => e = .returned (rv (overS ps x y).1 (overS ps x y).2.1) ∧ Below w.heap.size w w' := by
 have HE := Lib.hid (show Below w.heap.size w (((w.alloc (.cells #[.slice A n c] 38)).alloc (.cells #[.int .i64 x, .int .i64 y] 35)).alloc (.cells #[.int .i64 0, .int .i64 0] 35)) from below_a3 (Below.refl _ _))
 have HK := Lib.hid (boxes3' w 38 35 35 #[.slice A n c] #[.int .i64 x, .int .i64 y] #[.int .i64 0, .int .i64 0])
 have C : Hid (∀ W, Below w.heap.size w W → Calls Tryz.prog 74 #[tv A n c, rv x y] W fun e w' => e = .returned (rt (overS ps x y)) ∧ Below W.heap.size W w') := Lib.hid fun W hW => over_all A n c ps x y W hp.1 hp.2.1 (hp.2.2.below hW)
 clear hp
 generalize overS ps x y = r at *
 obtain ⟨a, b, e⟩ := r
 go_enter Tryz.func46, Tryz.ntmps46
 go_wp2_with fail
 obtain ⟨W0, hW0⟩ : ∃ W0, (((w.alloc (.cells #[.slice A n c] 38)).alloc (.cells #[.int .i64 x, .int .i64 y] 35)).alloc (.cells #[.int .i64 0, .int .i64 0] 35)) = W0 := ⟨_, rfl⟩
 rw [hW0] at HE HK ⊢
 clear hW0
 refine (C.out _ HE.out).mono ?_
 rintro e1 w1 ⟨rfl, hb⟩
 have HE1 := Lib.hid (below_then HE.out hb)
 have HE2 := Lib.hid (below_then HE1.out (below_alloc1 w1 (.cells #[.int .i64 a, .int .i64 b] 35)))
 have HKN := Lib.hid ((HK.out.on hb).new 35 #[.int .i64 a, .int .i64 b])
 have z := HKN.out _ (.tail _ (.head _))
 have z0 := z.cell 0
 have z1 := z.cell 1
 have f0 := z.frozen 0
 have f1 := z.frozen 1
 have l0 := (HK.out.on hb _ (.head _)).lt
 simp at z0 z1 f0 f1 l0
 have hl : w.heap.size + 1 + 1 ≠ w1.heap.size := by omega
 have hl2 : w1.heap.size ≠ w.heap.size + 1 + 1 := by omega
 clear hb HE C z l0 HE1
 go_wp2
 refine bodyPost_ret (v := rv a b) (by simp [results, Tryz.results46, go_sem, z0, z1, hl, hl2]) rfl ⟨rfl, ?_⟩
 repeat (first | exact HE2.out | refine Below.setCell ?_ (by simp <;> omega) _)
end

section
open Go.RowKit

theorem two_new (w : World) (t : TypeId) (c1 c2 : Array Value) : Blk ((w.alloc (.cells c1 t)).alloc (.cells c2 t)).drew w.heap.size t c1 ∧ Blk ((w.alloc (.cells c1 t)).alloc (.cells c2 t)).drew (w.heap.size + 1) t c2 ∧ Below w.heap.size w ((w.alloc (.cells c1 t)).alloc (.cells c2 t)).drew := by
  have h2 := (Blk.new (w.alloc (.cells c1 t)) t c2).drew
  rw [World.size_alloc] at h2
  exact ⟨((Blk.new w t c1).alloc _).drew, h2, (below_a2 (Below.refl _ _)).drew⟩

theorem falls_at {ps : List P3} {k : Nat} {p q : P3} (hp : ps[k]? = some p) (hq : ps[k + 1]? = some q) : fallsS (ps.drop k) = ((decide (q.2.1 ≤ p.2.1) && decide (q.2.2 ≤ p.2.2)) && fallsS (ps.drop (k + 1))) := by
  have hk : k + 1 < ps.length := (List.getElem?_eq_some_iff.1 hq).1
  have e : ps.drop k = p :: q :: ps.drop (k + 1 + 1) := by
    rw [List.drop_eq_getElem_cons (by omega), List.drop_eq_getElem_cons hk]
    rw [List.getElem?_eq_getElem (by omega)] at hp
    rw [List.getElem?_eq_getElem hk] at hq
    injection hp with hp; injection hq with hq
    rw [hp, hq]
  have e2 : ps.drop (k + 1) = q :: ps.drop (k + 1 + 1) := by
    rw [List.drop_eq_getElem_cons hk]
    rw [List.getElem?_eq_getElem hk] at hq
    injection hq with hq
    rw [hq]
  rw [e, e2]; rfl
theorem falls_end {ps : List P3} {k : Nat} (h : ps.length ≤ k + 1) : fallsS (ps.drop k) = true := by
  have hl : (ps.drop k).length ≤ 1 := by rw [List.length_drop]; omega
  generalize ps.drop k = L at *
  match L, hl with
  | [], _ => rfl
  | [_], _ => rfl
theorem falls_ask (a b : Int) (t : Bool) (w : World) (h : decide (b ≤ a) = t) : Calls Tryz.prog 77 #[.int .i64 a, .int .i64 b] w fun e w' => e = .returned (.bool t) ∧ Below w.heap.size w w' := by
 have hx : ((b ≤ a) ∧ t = true) ∨ (¬ (b ≤ a) ∧ t = false) := by
  by_cases c : b ≤ a
  ·exact .inl ⟨c, by rw [← h]; exact decide_eq_true c⟩
  ·exact .inr ⟨c, by rw [← h]; exact decide_eq_false c⟩
 clear h
 rcases hx with ⟨h, rfl⟩ | ⟨h, rfl⟩
 all_goals
  go_enter Tryz.func77, Tryz.ntmps77
  go_wp2
  go_ret
  exact ⟨rfl, Below.refl _ _⟩
set_option maxRecDepth 100000 in
set_option maxHeartbeats 8000000 in
theorem ordered_falls (A : Option Addr) (n c : Nat) (ps : List P3) (w : World) (hp : TabIn w A n ps) (ht : tabOk ps = true) :
  Calls Tryz.prog 114 #[tv A n c, .func (.func 77) #[] #[]] w fun e w' => e = .returned (.bool (fallsS ps)) ∧ Below w.heap.size w w' := by
 obtain ⟨hn, hm, hp⟩ := hp
 have h40 := tabOk_len ht
 obtain ⟨b, o, rfl, hb, hc⟩ := hp.block h40.1
 generalize hrr : fallsS ps = r
 have HR : Hid (fallsS (ps.drop 0) = r) := Lib.hid hrr
 have HE := Lib.hid (below_alloc1 w (.cells #[.slice (some ⟨b, o, none⟩) n c] 38)); have HK := Lib.hid (boxes1' w 38 #[.slice (some ⟨b, o, none⟩) n c])
 have HC := Lib.hid hc; have HN := Lib.hid hn
 have hn1 : 1 ≤ n := by omega
 have hn40 : n ≤ 40 := by omega
 clear hc hn hp ht h40 hm hrr
 go_enter Tryz.func114, Tryz.ntmps114
 go_wp2_with fail
 obtain ⟨W0, hW0⟩ : ∃ W0, w.alloc (.cells #[.slice (some ⟨b, o, none⟩) n c] 38) = W0 := ⟨_, rfl⟩
 rw [hW0] at HE HK ⊢
 clear hW0
 obtain ⟨G, hG⟩ : ∃ G, w.heap.size = G := ⟨_, rfl⟩
 rw [hG] at HK ⊢
 have HG := Lib.hid hG; clear hG
 go_loopw [5] (fun i wr => ∃ k : Nat, k + 1 ≤ n ∧ i = .int .i64 ((k : Int) + 1) ∧ Hid (fallsS (ps.drop k) = r) ∧ Below W0.heap.size W0 wr) (fun i _ => n - (intOf i).toNat)
 case atStart => exact ⟨0, by omega, rfl, HR, Below.refl _ _⟩
 case round =>
  obtain ⟨k, hk, rfl, HP, hB⟩ := hrel
  have q0 := (HK.out.on hB _ (.head _)).cell 0
  have l0 := (HK.out.on hB _ (.head _)).lt
  simp at q0 l0
  by_cases hlt : k + 1 < n
  ·obtain ⟨p, hp⟩ : ∃ p, ps[k]? = some p := ⟨_, List.getElem?_eq_getElem (show k < ps.length by rw [← HN.out]; omega)⟩
   obtain ⟨q, hq⟩ : ∃ q, ps[k + 1]? = some q := ⟨_, List.getElem?_eq_getElem (show k + 1 < ps.length by rw [← HN.out]; omega)⟩
   have hEk := below_then HE.out hB
   obtain ⟨c0, c1, c2⟩ := HC.out k p hp
   rw [← hEk.cell (p := ⟨b, o + k * 3, none⟩) hb] at c0
   rw [← hEk.cell (p := ⟨b, o + k * 3 + 1, none⟩) hb] at c1
   rw [← hEk.cell (p := ⟨b, o + k * 3 + 2, none⟩) hb] at c2
   obtain ⟨d0, d1, d2⟩ := HC.out (k + 1) q hq
   rw [← hEk.cell (p := ⟨b, o + (k + 1) * 3, none⟩) hb] at d0
   rw [← hEk.cell (p := ⟨b, o + (k + 1) * 3 + 1, none⟩) hb] at d1
   rw [← hEk.cell (p := ⟨b, o + (k + 1) * 3 + 2, none⟩) hb] at d2
   have lb : b < wr.heap.size := Nat.lt_of_lt_of_le hb hEk.size
   have HS := Lib.hid (falls_at hp hq)
   obtain ⟨x, lo, hi⟩ := p
   obtain ⟨y, mo, hj⟩ := q
   dsimp only at c0 c1 c2 d0 d1 d2
   have HB := Lib.hid hB
   clear hp hq hB hEk
   have k3 : IntKind.i64.wrap ((k : Int) + 1 - 1) = (k : Int) := by rw [IntWalk.i64_in _ ⟨by omega, by omega⟩]; omega
   have k4 : (0 : Int) ≤ (k : Int) + 1 := by omega
   have k5 : ((k : Int) + 1).toNat = k + 1 := by omega
   have k6 : (k : Int) + 1 < (n : Int) := by omega
   have k7 : (k : Int) < (n : Int) := by omega
   go_wp2_with fail
   go_cut [6, 7] (fun s6 s7 wx => ∃ B6 B7, s6 = .pointer (some ⟨B6, 0, none⟩) ∧ s7 = .pointer (some ⟨B7, 0, none⟩) ∧ Blk wx B6 66 (#[.int .i64 x, .int .i64 lo, .int .i64 hi]) ∧ Blk wx B7 66 (#[.int .i64 y, .int .i64 mo, .int .i64 hj]) ∧ Below wr.heap.size wr wx)
   case first =>
    go_region
    all_goals go_wp2_with fail
    all_goals go_meet
    all_goals (first
     | exact ⟨_, _, rfl, rfl, (two_new wr _ _ _).1, (two_new wr _ _ _).2.1, (two_new wr _ _ _).2.2⟩
     | exact ⟨_, _, rfl, rfl, (two_new wr _ _ _).2.1, (two_new wr _ _ _).1, (two_new wr _ _ _).2.2⟩)
   case rest =>
    obtain ⟨B6, B7, rfl, rfl, hb6, hb7, hbx⟩ := hcut
    rename World => w2
    have e0 := hb6.cell 1
    have e1 := hb6.cell 2
    have g0 := hb7.cell 1
    have g1 := hb7.cell 2
    simp at e0 e1 g0 g1
    have HB6 := Lib.hid hb6; have HB7 := Lib.hid hb7
    have HB2 := Lib.hid (below_then HB.out hbx)
    clear hb6 hb7 hbx HB q0 l0 lb c0 c1 c2 d0 d1 d2 k3 k4 k5 k6 k7
    have hlh : ∃ t1 t2, decide (mo ≤ lo) = t1 ∧ decide (hj ≤ hi) = t2 := ⟨_, _, rfl, rfl⟩
    obtain ⟨t1, t2, ht1, ht2⟩ := hlh
    have HS2 : Hid (fallsS (ps.drop k) = ((t1 && t2) && fallsS (ps.drop (k + 1)))) := Lib.hid (by rw [HS.out, ht1, ht2])
    have A1 := Lib.hid (fun W => falls_ask lo mo t1 W ht1)
    have A2 := Lib.hid (fun W => falls_ask hi hj t2 W ht2)
    clear HS ht1 ht2
    cases t1
    ·have hf : r = false := by rw [← HP.out, HS2.out]; rfl
     subst hf
     clear HP HS2 HR A2
     go_wp2_with fail
     refine (A1.out _).mono ?_
     rintro e w3 ⟨rfl, hb3⟩
     have HF := Lib.hid (below_then HE.out (below_then HB2.out hb3))
     clear hb3
     go_wp2
     go_ret
     exact ⟨rfl, HF.out⟩
    ·go_wp2_with fail
     refine (A1.out _).mono ?_
     rintro e w3 ⟨rfl, hb3⟩
     have HB3 := Lib.hid (below_then HB2.out hb3)
     clear e0 g0 e1 g1
     have e1 := (HB6.out.below hb3 HB6.out.lt).cell 2
     have g1 := (HB7.out.below hb3 HB7.out.lt).cell 2
     simp at e1 g1
     clear hb3
     cases t2
     ·have hf : r = false := by rw [← HP.out, HS2.out]; rfl
      subst hf
      clear HP HS2 HR
      go_wp2_with fail
      refine (A2.out _).mono ?_
      rintro e w4 ⟨rfl, hb3⟩
      have HF := Lib.hid (below_then HE.out (below_then HB3.out hb3))
      clear hb3
      go_wp2
      go_ret
      exact ⟨rfl, HF.out⟩
     ·have HP2 : Hid (fallsS (ps.drop (k + 1)) = r) := Lib.hid (by rw [← HP.out, HS2.out]; simp)
      clear HP HS2
      go_wp2_with fail
      refine (A2.out _).mono ?_
      rintro e w4 ⟨rfl, hb3⟩
      have HB4 := Lib.hid (below_then HB3.out hb3)
      clear hb3 e1 g1
      go_wp2
      go_roundw
      case rel => exact ⟨k + 1, by omega, by go_num, HP2, HB4.out⟩
      case measure => simp [intOf]; omega
  ·have hf : r = true := by rw [← HP.out, falls_end (by rw [← HN.out]; omega)]
   subst hf
   have HF := Lib.hid (below_then HE.out hB)
   have k6 : ¬ (k : Int) + 1 < (n : Int) := by omega
   clear HP HR hB
   go_wp2
   go_ret
   exact ⟨rfl, HF.out⟩
theorem rises_at {ps : List P3} {k : Nat} {p q : P3} (hp : ps[k]? = some p) (hq : ps[k + 1]? = some q) : risesS (ps.drop k) = ((decide (p.2.1 ≤ q.2.1) && decide (p.2.2 ≤ q.2.2)) && risesS (ps.drop (k + 1))) := by
  have hk : k + 1 < ps.length := (List.getElem?_eq_some_iff.1 hq).1
  have e : ps.drop k = p :: q :: ps.drop (k + 1 + 1) := by
    rw [List.drop_eq_getElem_cons (by omega), List.drop_eq_getElem_cons hk]
    rw [List.getElem?_eq_getElem (by omega)] at hp
    rw [List.getElem?_eq_getElem hk] at hq
    injection hp with hp; injection hq with hq
    rw [hp, hq]
  have e2 : ps.drop (k + 1) = q :: ps.drop (k + 1 + 1) := by
    rw [List.drop_eq_getElem_cons hk]
    rw [List.getElem?_eq_getElem hk] at hq
    injection hq with hq
    rw [hq]
  rw [e, e2]; rfl
theorem rises_end {ps : List P3} {k : Nat} (h : ps.length ≤ k + 1) : risesS (ps.drop k) = true := by
  have hl : (ps.drop k).length ≤ 1 := by rw [List.length_drop]; omega
  generalize ps.drop k = L at *
  match L, hl with
  | [], _ => rfl
  | [_], _ => rfl
theorem rises_ask (a b : Int) (t : Bool) (w : World) (h : decide (a ≤ b) = t) : Calls Tryz.prog 104 #[.int .i64 a, .int .i64 b] w fun e w' => e = .returned (.bool t) ∧ Below w.heap.size w w' := by
 have hx : ((a ≤ b) ∧ t = true) ∨ (¬ (a ≤ b) ∧ t = false) := by
  by_cases c : a ≤ b
  ·exact .inl ⟨c, by rw [← h]; exact decide_eq_true c⟩
  ·exact .inr ⟨c, by rw [← h]; exact decide_eq_false c⟩
 clear h
 rcases hx with ⟨h, rfl⟩ | ⟨h, rfl⟩
 all_goals
  go_enter Tryz.func104, Tryz.ntmps104
  go_wp2
  go_ret
  exact ⟨rfl, Below.refl _ _⟩
set_option maxRecDepth 100000 in
set_option maxHeartbeats 8000000 in
theorem ordered_rises (A : Option Addr) (n c : Nat) (ps : List P3) (w : World) (hp : TabIn w A n ps) (ht : tabOk ps = true) :
  Calls Tryz.prog 114 #[tv A n c, .func (.func 104) #[] #[]] w fun e w' => e = .returned (.bool (risesS ps)) ∧ Below w.heap.size w w' := by
 obtain ⟨hn, hm, hp⟩ := hp
 have h40 := tabOk_len ht
 obtain ⟨b, o, rfl, hb, hc⟩ := hp.block h40.1
 generalize hrr : risesS ps = r
 have HR : Hid (risesS (ps.drop 0) = r) := Lib.hid hrr
 have HE := Lib.hid (below_alloc1 w (.cells #[.slice (some ⟨b, o, none⟩) n c] 38)); have HK := Lib.hid (boxes1' w 38 #[.slice (some ⟨b, o, none⟩) n c])
 have HC := Lib.hid hc; have HN := Lib.hid hn
 have hn1 : 1 ≤ n := by omega
 have hn40 : n ≤ 40 := by omega
 clear hc hn hp ht h40 hm hrr
 go_enter Tryz.func114, Tryz.ntmps114
 go_wp2_with fail
 obtain ⟨W0, hW0⟩ : ∃ W0, w.alloc (.cells #[.slice (some ⟨b, o, none⟩) n c] 38) = W0 := ⟨_, rfl⟩
 rw [hW0] at HE HK ⊢
 clear hW0
 obtain ⟨G, hG⟩ : ∃ G, w.heap.size = G := ⟨_, rfl⟩
 rw [hG] at HK ⊢
 have HG := Lib.hid hG; clear hG
 go_loopw [5] (fun i wr => ∃ k : Nat, k + 1 ≤ n ∧ i = .int .i64 ((k : Int) + 1) ∧ Hid (risesS (ps.drop k) = r) ∧ Below W0.heap.size W0 wr) (fun i _ => n - (intOf i).toNat)
 case atStart => exact ⟨0, by omega, rfl, HR, Below.refl _ _⟩
 case round =>
  obtain ⟨k, hk, rfl, HP, hB⟩ := hrel
  have q0 := (HK.out.on hB _ (.head _)).cell 0
  have l0 := (HK.out.on hB _ (.head _)).lt
  simp at q0 l0
  by_cases hlt : k + 1 < n
  ·obtain ⟨p, hp⟩ : ∃ p, ps[k]? = some p := ⟨_, List.getElem?_eq_getElem (show k < ps.length by rw [← HN.out]; omega)⟩
   obtain ⟨q, hq⟩ : ∃ q, ps[k + 1]? = some q := ⟨_, List.getElem?_eq_getElem (show k + 1 < ps.length by rw [← HN.out]; omega)⟩
   have hEk := below_then HE.out hB
   obtain ⟨c0, c1, c2⟩ := HC.out k p hp
   rw [← hEk.cell (p := ⟨b, o + k * 3, none⟩) hb] at c0
   rw [← hEk.cell (p := ⟨b, o + k * 3 + 1, none⟩) hb] at c1
   rw [← hEk.cell (p := ⟨b, o + k * 3 + 2, none⟩) hb] at c2
   obtain ⟨d0, d1, d2⟩ := HC.out (k + 1) q hq
   rw [← hEk.cell (p := ⟨b, o + (k + 1) * 3, none⟩) hb] at d0
   rw [← hEk.cell (p := ⟨b, o + (k + 1) * 3 + 1, none⟩) hb] at d1
   rw [← hEk.cell (p := ⟨b, o + (k + 1) * 3 + 2, none⟩) hb] at d2
   have lb : b < wr.heap.size := Nat.lt_of_lt_of_le hb hEk.size
   have HS := Lib.hid (rises_at hp hq)
   obtain ⟨x, lo, hi⟩ := p
   obtain ⟨y, mo, hj⟩ := q
   dsimp only at c0 c1 c2 d0 d1 d2
   have HB := Lib.hid hB
   clear hp hq hB hEk
   have k3 : IntKind.i64.wrap ((k : Int) + 1 - 1) = (k : Int) := by rw [IntWalk.i64_in _ ⟨by omega, by omega⟩]; omega
   have k4 : (0 : Int) ≤ (k : Int) + 1 := by omega
   have k5 : ((k : Int) + 1).toNat = k + 1 := by omega
   have k6 : (k : Int) + 1 < (n : Int) := by omega
   have k7 : (k : Int) < (n : Int) := by omega
   go_wp2_with fail
   go_cut [6, 7] (fun s6 s7 wx => ∃ B6 B7, s6 = .pointer (some ⟨B6, 0, none⟩) ∧ s7 = .pointer (some ⟨B7, 0, none⟩) ∧ Blk wx B6 66 (#[.int .i64 x, .int .i64 lo, .int .i64 hi]) ∧ Blk wx B7 66 (#[.int .i64 y, .int .i64 mo, .int .i64 hj]) ∧ Below wr.heap.size wr wx)
   case first =>
    go_region
    all_goals go_wp2_with fail
    all_goals go_meet
    all_goals (first
     | exact ⟨_, _, rfl, rfl, (two_new wr _ _ _).1, (two_new wr _ _ _).2.1, (two_new wr _ _ _).2.2⟩
     | exact ⟨_, _, rfl, rfl, (two_new wr _ _ _).2.1, (two_new wr _ _ _).1, (two_new wr _ _ _).2.2⟩)
   case rest =>
    obtain ⟨B6, B7, rfl, rfl, hb6, hb7, hbx⟩ := hcut
    rename World => w2
    have e0 := hb6.cell 1
    have e1 := hb6.cell 2
    have g0 := hb7.cell 1
    have g1 := hb7.cell 2
    simp at e0 e1 g0 g1
    have HB6 := Lib.hid hb6; have HB7 := Lib.hid hb7
    have HB2 := Lib.hid (below_then HB.out hbx)
    clear hb6 hb7 hbx HB q0 l0 lb c0 c1 c2 d0 d1 d2 k3 k4 k5 k6 k7
    have hlh : ∃ t1 t2, decide (lo ≤ mo) = t1 ∧ decide (hi ≤ hj) = t2 := ⟨_, _, rfl, rfl⟩
    obtain ⟨t1, t2, ht1, ht2⟩ := hlh
    have HS2 : Hid (risesS (ps.drop k) = ((t1 && t2) && risesS (ps.drop (k + 1)))) := Lib.hid (by rw [HS.out, ht1, ht2])
    have A1 := Lib.hid (fun W => rises_ask lo mo t1 W ht1)
    have A2 := Lib.hid (fun W => rises_ask hi hj t2 W ht2)
    clear HS ht1 ht2
    cases t1
    ·have hf : r = false := by rw [← HP.out, HS2.out]; rfl
     subst hf
     clear HP HS2 HR A2
     go_wp2_with fail
     refine (A1.out _).mono ?_
     rintro e w3 ⟨rfl, hb3⟩
     have HF := Lib.hid (below_then HE.out (below_then HB2.out hb3))
     clear hb3
     go_wp2
     go_ret
     exact ⟨rfl, HF.out⟩
    ·go_wp2_with fail
     refine (A1.out _).mono ?_
     rintro e w3 ⟨rfl, hb3⟩
     have HB3 := Lib.hid (below_then HB2.out hb3)
     clear e0 g0 e1 g1
     have e1 := (HB6.out.below hb3 HB6.out.lt).cell 2
     have g1 := (HB7.out.below hb3 HB7.out.lt).cell 2
     simp at e1 g1
     clear hb3
     cases t2
     ·have hf : r = false := by rw [← HP.out, HS2.out]; rfl
      subst hf
      clear HP HS2 HR
      go_wp2_with fail
      refine (A2.out _).mono ?_
      rintro e w4 ⟨rfl, hb3⟩
      have HF := Lib.hid (below_then HE.out (below_then HB3.out hb3))
      clear hb3
      go_wp2
      go_ret
      exact ⟨rfl, HF.out⟩
     ·have HP2 : Hid (risesS (ps.drop (k + 1)) = r) := Lib.hid (by rw [← HP.out, HS2.out]; simp)
      clear HP HS2
      go_wp2_with fail
      refine (A2.out _).mono ?_
      rintro e w4 ⟨rfl, hb3⟩
      have HB4 := Lib.hid (below_then HB3.out hb3)
      clear hb3 e1 g1
      go_wp2
      go_roundw
      case rel => exact ⟨k + 1, by omega, by go_num, HP2, HB4.out⟩
      case measure => simp [intOf]; omega
  ·have hf : r = true := by rw [← HP.out, rises_end (by rw [← HN.out]; omega)]
   subst hf
   have HF := Lib.hid (below_then HE.out hB)
   have k6 : ¬ (k : Int) + 1 < (n : Int) := by omega
   clear HP HR hB
   go_wp2
   go_ret
   exact ⟨rfl, HF.out⟩
end

section
open Go.RowKit
attribute [local go_sem ↓] eqlRange neqRange
theorem mkI {W2 w1 : World} {a b : Value} {A B : Nat} (hb : Below W2.heap.size W2 w1) (h : W2.cell? ⟨A, 0, none⟩ = some a ∧ W2.cell? ⟨B, 0, none⟩ = some b) (h1 : A < W2.heap.size) (h2 : B < W2.heap.size) :
    w1.cell? ⟨A, 0, none⟩ = some a ∧ w1.cell? ⟨B, 0, none⟩ = some b ∧ Below W2.heap.size W2 w1 := ⟨((bcell hb).1 _ _ h1).trans h.1, ((bcell hb).1 _ _ h2).trans h.2, hb⟩
theorem belowI {W2 w0 : World} {a b : Value} {A B : Nat} (h : w0.cell? ⟨A, 0, none⟩ = some a ∧ w0.cell? ⟨B, 0, none⟩ = some b ∧ Below W2.heap.size W2 w0) : Below W2.heap.size W2 w0 := h.2.2
theorem measures_ok {ps : List P3} (h : measuresS ps = true) : tabOk ps = true := by
  unfold measuresS at h
  cases ht : tabOk ps
  · rw [ht] at h; cases h
  · rfl
theorem along_cases {ps qs : List P3} {t : Bool} (h : alongS ps qs = t) : (firstX qs == firstX ps && lastX qs == lastX ps) = t := by
  have e : ∀ a b : Int, (b == a) = decide (a = b) := fun a b => by
    rw [Bool.eq_iff_iff]; simp only [beq_iff_eq, decide_eq_true_eq]; exact ⟨Eq.symm, Eq.symm⟩
  rw [← h, e, e]; rfl
theorem tix0 (A : Option Addr) (n c : Nat) (B : Option Addr) (m d : Nat) (C : Option Addr) (l e : Nat) (w : World) : (Instr.index 158 (.agg #[.slice A n c, .slice B m d, .slice C l e]) (.int .i64 0)).run Tryz.prog w = .ok (tv A n c) w := by kernel_rfl
theorem tix1 (A : Option Addr) (n c : Nat) (B : Option Addr) (m d : Nat) (C : Option Addr) (l e : Nat) (w : World) : (Instr.index 158 (.agg #[.slice A n c, .slice B m d, .slice C l e]) (.int .i64 1)).run Tryz.prog w = .ok (tv B m d) w := by kernel_rfl
theorem tix2 (A : Option Addr) (n c : Nat) (B : Option Addr) (m d : Nat) (C : Option Addr) (l e : Nat) (w : World) : (Instr.index 158 (.agg #[.slice A n c, .slice B m d, .slice C l e]) (.int .i64 2)).run Tryz.prog w = .ok (tv C l e) w := by kernel_rfl
attribute [local go_sem ↓] tix0 tix1 tix2
def ctRest (ord : List P3 → Bool) (v m h : List P3) : Nat → Bool
  | 0 => measuresS v && ((measuresS m && alongS v m) && ((measuresS h && alongS v h) && (ord v && ord h)))
  | 1 => (measuresS m && alongS v m) && ((measuresS h && alongS v h) && (ord v && ord h))
  | 2 => (measuresS h && alongS v h) && (ord v && ord h)
  | _ => ord v && ord h
set_option maxRecDepth 100000 in
set_option maxHeartbeats 8000000 in
theorem checkTables_falls (A : Option Addr) (n c : Nat) (B : Option Addr) (m d : Nat) (C : Option Addr) (l e : Nat) (v mo h : List P3) (w : World) (h1 : TabIn w A n v) (h2 : TabIn w B m mo) (h3 : TabIn w C l h) :
  Calls Tryz.prog 76 #[tv A n c, tv B m d, tv C l e, .func (.func 77) #[] #[]] w fun e w' => e = .returned (.bool (ctRest fallsS v mo h 0)) ∧ Below w.heap.size w w' := by
 generalize hr : ctRest fallsS v mo h 0 = r
 have HR := Lib.hid hr
 have HE := Lib.hid (show Below w.heap.size w (((w.alloc (.cells #[.slice A n c] 38)).alloc (.cells #[.slice B m d] 38)).alloc (.cells #[.slice C l e] 38)) from below_a3 (Below.refl _ _))
 have HK := Lib.hid (boxes3' w 38 38 38 #[.slice A n c] #[.slice B m d] #[.slice C l e])
 have IV : Hid (∀ W, Below w.heap.size w W → TabIn W A n v) := Lib.hid fun W hW => h1.below hW
 have MV : Hid (∀ W t, Below w.heap.size w W → measuresS v = t → Calls Tryz.prog 113 #[tv A n c] W fun e w' => e = .returned (.bool t) ∧ Below W.heap.size W w') := Lib.hid fun W t hW ht => by
  have g := measures_any A n c v W (h1.below hW)
  rw [ht] at g; exact g
 have PV : Hid (measuresS v = true → ∀ W, Below w.heap.size w W → Calls Tryz.prog 55 #[tv A n c] W fun e w' => e = .returned (rv (firstX v) (lastX v)) ∧ Below W.heap.size W w') := Lib.hid fun hq W hW => hplaces_tab A n c v W (h1.below hW) (measures_ok hq)
 have IM : Hid (∀ W, Below w.heap.size w W → TabIn W B m mo) := Lib.hid fun W hW => h2.below hW
 have MM : Hid (∀ W t, Below w.heap.size w W → measuresS mo = t → Calls Tryz.prog 113 #[tv B m d] W fun e w' => e = .returned (.bool t) ∧ Below W.heap.size W w') := Lib.hid fun W t hW ht => by
  have g := measures_any B m d mo W (h2.below hW)
  rw [ht] at g; exact g
 have PM : Hid (measuresS mo = true → ∀ W, Below w.heap.size w W → Calls Tryz.prog 55 #[tv B m d] W fun e w' => e = .returned (rv (firstX mo) (lastX mo)) ∧ Below W.heap.size W w') := Lib.hid fun hq W hW => hplaces_tab B m d mo W (h2.below hW) (measures_ok hq)
 have IH : Hid (∀ W, Below w.heap.size w W → TabIn W C l h) := Lib.hid fun W hW => h3.below hW
 have MH : Hid (∀ W t, Below w.heap.size w W → measuresS h = t → Calls Tryz.prog 113 #[tv C l e] W fun e w' => e = .returned (.bool t) ∧ Below W.heap.size W w') := Lib.hid fun W t hW ht => by
  have g := measures_any C l e h W (h3.below hW)
  rw [ht] at g; exact g
 have PH : Hid (measuresS h = true → ∀ W, Below w.heap.size w W → Calls Tryz.prog 55 #[tv C l e] W fun e w' => e = .returned (rv (firstX h) (lastX h)) ∧ Below W.heap.size W w') := Lib.hid fun hq W hW => hplaces_tab C l e h W (h3.below hW) (measures_ok hq)
 clear h1 h2 h3 hr
 go_enter Tryz.func76, Tryz.ntmps76
 go_wp2_with fail
 obtain ⟨W0, hW0⟩ : ∃ W0, (((w.alloc (.cells #[.slice A n c] 38)).alloc (.cells #[.slice B m d] 38)).alloc (.cells #[.slice C l e] 38)) = W0 := ⟨_, rfl⟩
 rw [hW0] at HE HK ⊢
 clear hW0
 obtain ⟨G, hG⟩ : ∃ G, w.heap.size = G := ⟨_, rfl⟩
 rw [hG] at HK ⊢
 have HG := Lib.hid hG; clear hG
 go_loopw [15] (fun i wr => ∃ k : Nat, k ≤ 3 ∧ i = .int .i64 k ∧ Hid (ctRest fallsS v mo h k = r ∧ (1 ≤ k → measuresS v = true) ∧ (3 ≤ k → measuresS h = true)) ∧ Below W0.heap.size W0 wr) (fun i _ => 3 - (intOf i).toNat)
 case atStart => exact ⟨0, by omega, rfl, Lib.hid ⟨HR.out, by omega, by omega⟩, Below.refl _ _⟩
 case round =>
  obtain ⟨k, hk, rfl, HP, hB⟩ := hrel
  have g0 := (HK.out.on hB _ (.tail _ (.tail _ (.head _)))).cell 0
  have l0 := (HK.out.on hB _ (.tail _ (.tail _ (.head _)))).lt
  have g2 := (HK.out.on hB _ (.head _)).cell 0
  simp at g0 l0 g2
  have HB := Lib.hid hB
  clear hB
  have hkk : k = 0 ∨ k = 1 ∨ k = 2 ∨ k = 3 := by omega
  rcases hkk with rfl | rfl | rfl | rfl
  ·have HP0 := Lib.hid HP.out.1
   have hw := below_alloc1 wr (.cells #[.slice A n c] 38)
   have HW := Lib.hid (below_then HB.out hw)
   have c0 := (Blk.new wr 38 #[.slice A n c]).cell 0
   have la := (Blk.new wr 38 #[.slice A n c]).lt
   have c1 := ((HK.out.on HB.out).on hw _ (.tail _ (.tail _ (.head _)))).cell 0
   have l1 := ((HK.out.on HB.out).on hw _ (.tail _ (.tail _ (.head _)))).lt
   clear hw g0 g2 l0
   go_upto_region 4 with fail
   obtain ⟨B1, hB1⟩ : ∃ B1, wr.heap.size = B1 := ⟨_, rfl⟩
   obtain ⟨W1, hW1⟩ : ∃ W1, wr.alloc (.cells #[.slice A n c] 38) = W1 := ⟨_, rfl⟩
   rw [hW1] at HW c0 c1 la l1 ⊢
   rw [hB1] at c0 la ⊢
   clear hW1 hB1
   simp at c0 c1 l1
   have HE1 := Lib.hid (below_then HE.out HW.out)
   cases hm : measuresS v
   ·have hf : r = false := by rw [← HP0.out]; unfold ctRest; rw [hm]; rfl
    subst hf
    have HM := Lib.hid hm
    clear hm HP HP0 HR
    go_region_with (go_at_call 113; refine (MV.out _ false (below_then HE1.out (Below.refl _ _).drew) HM.out).mono ?_; rintro e y1 ⟨rfl, hy1⟩)
    all_goals go_wp2
    all_goals go_ret
    all_goals exact ⟨rfl, below_then HE1.out (below_d hy1)⟩
   ·have HM := Lib.hid hm
    have HP2 : Hid (ctRest fallsS v mo h (0 + 1) = r ∧ (1 ≤ 0 + 1 → measuresS v = true) ∧ (3 ≤ 0 + 1 → measuresS h = true)) := Lib.hid ⟨by rw [← HP0.out]; show ctRest fallsS v mo h 1 = _; rw [show ctRest fallsS v mo h 0 = (measuresS v && ctRest fallsS v mo h 1) from rfl, hm]; rfl, fun _ => hm, by omega⟩
    have CX := Lib.hid (PV.out hm)
    have z : (firstX v == firstX v && lastX v == lastX v) = true := by simp
    generalize firstX v = f1 at *
    generalize lastX v = f2 at *
    clear hm HP HP0
    go_region_held3 (fun w' => w'.cell? ⟨B1, 0, none⟩ = some (.slice A n c) ∧ w'.cell? ⟨G, 0, none⟩ = some (.slice A n c) ∧ Below W1.heap.size W1 w')
     (first | assumption | exact mkI (Below.refl _ _).drew ⟨c0, c1⟩ la l1 | exact mkI (below_then (belowI (by assumption)) (by assumption)) ⟨c0, c1⟩ la l1)
     (first | (go_at_call 113; (with_reducible refine (MV.out _ true (below_then HE1.out (belowI (by assumption))) HM.out).mono ?_); rintro e y1 ⟨rfl, hy1⟩; have T1 := Lib.hid (below_then (belowI (W2 := W1) (A := B1) (B := G) (by assumption)) hy1)) | (go_at_call 55; (with_reducible refine (CX.out _ (below_then HE1.out (belowI (by assumption)))).mono ?_); rintro e y2 ⟨rfl, hy2⟩; have T2 := Lib.hid (below_then (belowI (W2 := W1) (A := B1) (B := G) (by assumption)) hy2)) | fail)
    all_goals go_wp2
    all_goals go_roundw
    all_goals try (case rel => exact ⟨0 + 1, by omega, by go_num, HP2, below_then HW.out T2.out⟩)
    all_goals try (case measure => simp [intOf])
  ·have HP0 := Lib.hid HP.out.1
   have hw := below_alloc1 wr (.cells #[.slice B m d] 38)
   have HW := Lib.hid (below_then HB.out hw)
   have c0 := (Blk.new wr 38 #[.slice B m d]).cell 0
   have la := (Blk.new wr 38 #[.slice B m d]).lt
   have c1 := ((HK.out.on HB.out).on hw _ (.tail _ (.tail _ (.head _)))).cell 0
   have l1 := ((HK.out.on HB.out).on hw _ (.tail _ (.tail _ (.head _)))).lt
   clear hw g0 g2 l0
   go_upto_region 4 with fail
   obtain ⟨B1, hB1⟩ : ∃ B1, wr.heap.size = B1 := ⟨_, rfl⟩
   obtain ⟨W1, hW1⟩ : ∃ W1, wr.alloc (.cells #[.slice B m d] 38) = W1 := ⟨_, rfl⟩
   rw [hW1] at HW c0 c1 la l1 ⊢
   rw [hB1] at c0 la ⊢
   clear hW1 hB1
   simp at c0 c1 l1
   have HE1 := Lib.hid (below_then HE.out HW.out)
   cases hm : measuresS mo
   ·have hf : r = false := by rw [← HP0.out]; unfold ctRest; rw [hm]; rfl
    subst hf
    have HM := Lib.hid hm
    clear hm HP HP0 HR
    go_region_with (go_at_call 113; refine (MM.out _ false (below_then HE1.out (Below.refl _ _).drew) HM.out).mono ?_; rintro e y1 ⟨rfl, hy1⟩)
    all_goals go_wp2
    all_goals go_ret
    all_goals exact ⟨rfl, below_then HE1.out (below_d hy1)⟩
   ·have HM := Lib.hid hm
    have HV := Lib.hid (HP.out.2.1 (by omega))
    have CX := Lib.hid (PM.out hm); have CY := Lib.hid (PV.out HV.out)
    have hal : ∃ t, alongS v mo = t := ⟨_, rfl⟩
    obtain ⟨t, hal⟩ := hal
    have hz := along_cases hal
    have HP3 : Hid ((t && ctRest fallsS v mo h 2) = r) := Lib.hid (by rw [← HP0.out, show ctRest fallsS v mo h 1 = ((measuresS mo && alongS v mo) && ctRest fallsS v mo h 2) from rfl, hm, hal]; simp)
    generalize firstX v = f1 at *
    generalize lastX v = f2 at *
    generalize firstX mo = f3 at *
    generalize lastX mo = f4 at *
    clear hm HP HP0 hal
    cases t
    ·have hf : r = false := by rw [← HP3.out]; rfl
     subst hf
     clear HP3 HR
     go_region_held3 (fun w' => w'.cell? ⟨B1, 0, none⟩ = some (.slice B m d) ∧ w'.cell? ⟨G, 0, none⟩ = some (.slice A n c) ∧ Below W1.heap.size W1 w')
      (first | assumption | exact mkI (Below.refl _ _).drew ⟨c0, c1⟩ la l1 | exact mkI (below_then (belowI (by assumption)) (by assumption)) ⟨c0, c1⟩ la l1)
      (first | (go_at_call 113; (with_reducible refine (MM.out _ true (below_then HE1.out (belowI (by assumption))) HM.out).mono ?_); rintro e y1 ⟨rfl, hy1⟩; have T1 := Lib.hid (below_then (belowI (W2 := W1) (A := B1) (B := G) (by assumption)) hy1)) | (go_at_call 55; (with_reducible refine (CX.out _ (below_then HE1.out (belowI (by assumption)))).mono ?_); rintro e y2 ⟨rfl, hy2⟩; have T2 := Lib.hid (below_then (belowI (W2 := W1) (A := B1) (B := G) (by assumption)) hy2)) | (go_at_call 55; (with_reducible refine (CY.out _ (below_then HE1.out (belowI (by assumption)))).mono ?_); rintro e y3 ⟨rfl, hy3⟩; have T3 := Lib.hid (below_then (belowI (W2 := W1) (A := B1) (B := G) (by assumption)) hy3)) | fail)
     all_goals go_wp2
     all_goals go_ret
     all_goals exact ⟨rfl, below_then HE1.out T3.out⟩
    ·have HP2 : Hid (ctRest fallsS v mo h (1 + 1) = r ∧ (1 ≤ 1 + 1 → measuresS v = true) ∧ (3 ≤ 1 + 1 → measuresS h = true)) := Lib.hid ⟨by rw [← HP3.out]; rfl, fun _ => HV.out, by omega⟩
     clear HP3
     go_region_held3 (fun w' => w'.cell? ⟨B1, 0, none⟩ = some (.slice B m d) ∧ w'.cell? ⟨G, 0, none⟩ = some (.slice A n c) ∧ Below W1.heap.size W1 w')
      (first | assumption | exact mkI (Below.refl _ _).drew ⟨c0, c1⟩ la l1 | exact mkI (below_then (belowI (by assumption)) (by assumption)) ⟨c0, c1⟩ la l1)
      (first | (go_at_call 113; (with_reducible refine (MM.out _ true (below_then HE1.out (belowI (by assumption))) HM.out).mono ?_); rintro e y1 ⟨rfl, hy1⟩; have T1 := Lib.hid (below_then (belowI (W2 := W1) (A := B1) (B := G) (by assumption)) hy1)) | (go_at_call 55; (with_reducible refine (CX.out _ (below_then HE1.out (belowI (by assumption)))).mono ?_); rintro e y2 ⟨rfl, hy2⟩; have T2 := Lib.hid (below_then (belowI (W2 := W1) (A := B1) (B := G) (by assumption)) hy2)) | (go_at_call 55; (with_reducible refine (CY.out _ (below_then HE1.out (belowI (by assumption)))).mono ?_); rintro e y3 ⟨rfl, hy3⟩; have T3 := Lib.hid (below_then (belowI (W2 := W1) (A := B1) (B := G) (by assumption)) hy3)) | fail)
     all_goals go_wp2
     all_goals go_roundw
     all_goals try (case rel => exact ⟨1 + 1, by omega, by go_num, HP2, below_then HW.out T3.out⟩)
     all_goals try (case measure => simp [intOf])
  ·have HP0 := Lib.hid HP.out.1
   have hw := below_alloc1 wr (.cells #[.slice C l e] 38)
   have HW := Lib.hid (below_then HB.out hw)
   have c0 := (Blk.new wr 38 #[.slice C l e]).cell 0
   have la := (Blk.new wr 38 #[.slice C l e]).lt
   have c1 := ((HK.out.on HB.out).on hw _ (.tail _ (.tail _ (.head _)))).cell 0
   have l1 := ((HK.out.on HB.out).on hw _ (.tail _ (.tail _ (.head _)))).lt
   clear hw g0 g2 l0
   go_upto_region 4 with fail
   obtain ⟨B1, hB1⟩ : ∃ B1, wr.heap.size = B1 := ⟨_, rfl⟩
   obtain ⟨W1, hW1⟩ : ∃ W1, wr.alloc (.cells #[.slice C l e] 38) = W1 := ⟨_, rfl⟩
   rw [hW1] at HW c0 c1 la l1 ⊢
   rw [hB1] at c0 la ⊢
   clear hW1 hB1
   simp at c0 c1 l1
   have HE1 := Lib.hid (below_then HE.out HW.out)
   cases hm : measuresS h
   ·have hf : r = false := by rw [← HP0.out]; unfold ctRest; rw [hm]; rfl
    subst hf
    have HM := Lib.hid hm
    clear hm HP HP0 HR
    go_region_with (go_at_call 113; refine (MH.out _ false (below_then HE1.out (Below.refl _ _).drew) HM.out).mono ?_; rintro e y1 ⟨rfl, hy1⟩)
    all_goals go_wp2
    all_goals go_ret
    all_goals exact ⟨rfl, below_then HE1.out (below_d hy1)⟩
   ·have HM := Lib.hid hm
    have HV := Lib.hid (HP.out.2.1 (by omega))
    have CX := Lib.hid (PH.out hm); have CY := Lib.hid (PV.out HV.out)
    have hal : ∃ t, alongS v h = t := ⟨_, rfl⟩
    obtain ⟨t, hal⟩ := hal
    have hz := along_cases hal
    have HP3 : Hid ((t && ctRest fallsS v mo h 3) = r) := Lib.hid (by rw [← HP0.out, show ctRest fallsS v mo h 2 = ((measuresS h && alongS v h) && ctRest fallsS v mo h 3) from rfl, hm, hal]; simp)
    generalize firstX v = f1 at *
    generalize lastX v = f2 at *
    generalize firstX h = f3 at *
    generalize lastX h = f4 at *
    clear hm HP HP0 hal
    cases t
    ·have hf : r = false := by rw [← HP3.out]; rfl
     subst hf
     clear HP3 HR
     go_region_held3 (fun w' => w'.cell? ⟨B1, 0, none⟩ = some (.slice C l e) ∧ w'.cell? ⟨G, 0, none⟩ = some (.slice A n c) ∧ Below W1.heap.size W1 w')
      (first | assumption | exact mkI (Below.refl _ _).drew ⟨c0, c1⟩ la l1 | exact mkI (below_then (belowI (by assumption)) (by assumption)) ⟨c0, c1⟩ la l1)
      (first | (go_at_call 113; (with_reducible refine (MH.out _ true (below_then HE1.out (belowI (by assumption))) HM.out).mono ?_); rintro e y1 ⟨rfl, hy1⟩; have T1 := Lib.hid (below_then (belowI (W2 := W1) (A := B1) (B := G) (by assumption)) hy1)) | (go_at_call 55; (with_reducible refine (CX.out _ (below_then HE1.out (belowI (by assumption)))).mono ?_); rintro e y2 ⟨rfl, hy2⟩; have T2 := Lib.hid (below_then (belowI (W2 := W1) (A := B1) (B := G) (by assumption)) hy2)) | (go_at_call 55; (with_reducible refine (CY.out _ (below_then HE1.out (belowI (by assumption)))).mono ?_); rintro e y3 ⟨rfl, hy3⟩; have T3 := Lib.hid (below_then (belowI (W2 := W1) (A := B1) (B := G) (by assumption)) hy3)) | fail)
     all_goals go_wp2
     all_goals go_ret
     all_goals exact ⟨rfl, below_then HE1.out T3.out⟩
    ·have HP2 : Hid (ctRest fallsS v mo h (2 + 1) = r ∧ (1 ≤ 2 + 1 → measuresS v = true) ∧ (3 ≤ 2 + 1 → measuresS h = true)) := Lib.hid ⟨by rw [← HP3.out]; rfl, fun _ => HV.out, fun _ => HM.out⟩
     clear HP3
     go_region_held3 (fun w' => w'.cell? ⟨B1, 0, none⟩ = some (.slice C l e) ∧ w'.cell? ⟨G, 0, none⟩ = some (.slice A n c) ∧ Below W1.heap.size W1 w')
      (first | assumption | exact mkI (Below.refl _ _).drew ⟨c0, c1⟩ la l1 | exact mkI (below_then (belowI (by assumption)) (by assumption)) ⟨c0, c1⟩ la l1)
      (first | (go_at_call 113; (with_reducible refine (MH.out _ true (below_then HE1.out (belowI (by assumption))) HM.out).mono ?_); rintro e y1 ⟨rfl, hy1⟩; have T1 := Lib.hid (below_then (belowI (W2 := W1) (A := B1) (B := G) (by assumption)) hy1)) | (go_at_call 55; (with_reducible refine (CX.out _ (below_then HE1.out (belowI (by assumption)))).mono ?_); rintro e y2 ⟨rfl, hy2⟩; have T2 := Lib.hid (below_then (belowI (W2 := W1) (A := B1) (B := G) (by assumption)) hy2)) | (go_at_call 55; (with_reducible refine (CY.out _ (below_then HE1.out (belowI (by assumption)))).mono ?_); rintro e y3 ⟨rfl, hy3⟩; have T3 := Lib.hid (below_then (belowI (W2 := W1) (A := B1) (B := G) (by assumption)) hy3)) | fail)
     all_goals go_wp2
     all_goals go_roundw
     all_goals try (case rel => exact ⟨2 + 1, by omega, by go_num, HP2, below_then HW.out T3.out⟩)
     all_goals try (case measure => simp [intOf])
  ·have HV := Lib.hid (HP.out.2.1 (by omega)); have HH := Lib.hid (HP.out.2.2 (by omega))
   have hr3 : (fallsS v && fallsS h) = r := HP.out.1
   have O1 := Lib.hid (fun W hW => ordered_falls A n c v W (IV.out W hW) (measures_ok HV.out))
   have O2 := Lib.hid (fun W hW => ordered_falls C l e h W (IH.out W hW) (measures_ok HH.out))
   generalize fallsS v = t1 at *
   generalize fallsS h = t2 at *
   have HR3 := Lib.hid hr3
   clear hr3 HP HR
   go_wp2_with fail
   refine (O1.out _ (below_then HE.out HB.out)).mono ?_
   rintro e y ⟨rfl, hy⟩
   have HE2 := Lib.hid (below_then (below_then HE.out HB.out) hy)
   clear g0 g2 l0
   have g2 := ((HK.out.on HB.out).on hy _ (.head _)).cell 0
   simp at g2
   clear hy
   cases t1
   ·have hf : r = false := by rw [← HR3.out]; rfl
    subst hf
    go_wp2
    go_ret
    exact ⟨rfl, HE2.out⟩
   ·have hf : r = t2 := by rw [← HR3.out]; simp
    subst hf
    go_wp2_with fail
    refine (O2.out _ HE2.out).mono ?_
    rintro e z ⟨rfl, hz⟩
    have HE3 := Lib.hid (below_then HE2.out hz)
    clear hz g2
    go_wp2
    go_ret
    exact ⟨rfl, HE3.out⟩
set_option maxRecDepth 100000 in
set_option maxHeartbeats 8000000 in
theorem checkTables_rises (A : Option Addr) (n c : Nat) (B : Option Addr) (m d : Nat) (C : Option Addr) (l e : Nat) (v mo h : List P3) (w : World) (h1 : TabIn w A n v) (h2 : TabIn w B m mo) (h3 : TabIn w C l h) :
  Calls Tryz.prog 76 #[tv A n c, tv B m d, tv C l e, .func (.func 104) #[] #[]] w fun e w' => e = .returned (.bool (ctRest risesS v mo h 0)) ∧ Below w.heap.size w w' := by
 generalize hr : ctRest risesS v mo h 0 = r
 have HR := Lib.hid hr
 have HE := Lib.hid (show Below w.heap.size w (((w.alloc (.cells #[.slice A n c] 38)).alloc (.cells #[.slice B m d] 38)).alloc (.cells #[.slice C l e] 38)) from below_a3 (Below.refl _ _))
 have HK := Lib.hid (boxes3' w 38 38 38 #[.slice A n c] #[.slice B m d] #[.slice C l e])
 have IV : Hid (∀ W, Below w.heap.size w W → TabIn W A n v) := Lib.hid fun W hW => h1.below hW
 have MV : Hid (∀ W t, Below w.heap.size w W → measuresS v = t → Calls Tryz.prog 113 #[tv A n c] W fun e w' => e = .returned (.bool t) ∧ Below W.heap.size W w') := Lib.hid fun W t hW ht => by
  have g := measures_any A n c v W (h1.below hW)
  rw [ht] at g; exact g
 have PV : Hid (measuresS v = true → ∀ W, Below w.heap.size w W → Calls Tryz.prog 55 #[tv A n c] W fun e w' => e = .returned (rv (firstX v) (lastX v)) ∧ Below W.heap.size W w') := Lib.hid fun hq W hW => hplaces_tab A n c v W (h1.below hW) (measures_ok hq)
 have IM : Hid (∀ W, Below w.heap.size w W → TabIn W B m mo) := Lib.hid fun W hW => h2.below hW
 have MM : Hid (∀ W t, Below w.heap.size w W → measuresS mo = t → Calls Tryz.prog 113 #[tv B m d] W fun e w' => e = .returned (.bool t) ∧ Below W.heap.size W w') := Lib.hid fun W t hW ht => by
  have g := measures_any B m d mo W (h2.below hW)
  rw [ht] at g; exact g
 have PM : Hid (measuresS mo = true → ∀ W, Below w.heap.size w W → Calls Tryz.prog 55 #[tv B m d] W fun e w' => e = .returned (rv (firstX mo) (lastX mo)) ∧ Below W.heap.size W w') := Lib.hid fun hq W hW => hplaces_tab B m d mo W (h2.below hW) (measures_ok hq)
 have IH : Hid (∀ W, Below w.heap.size w W → TabIn W C l h) := Lib.hid fun W hW => h3.below hW
 have MH : Hid (∀ W t, Below w.heap.size w W → measuresS h = t → Calls Tryz.prog 113 #[tv C l e] W fun e w' => e = .returned (.bool t) ∧ Below W.heap.size W w') := Lib.hid fun W t hW ht => by
  have g := measures_any C l e h W (h3.below hW)
  rw [ht] at g; exact g
 have PH : Hid (measuresS h = true → ∀ W, Below w.heap.size w W → Calls Tryz.prog 55 #[tv C l e] W fun e w' => e = .returned (rv (firstX h) (lastX h)) ∧ Below W.heap.size W w') := Lib.hid fun hq W hW => hplaces_tab C l e h W (h3.below hW) (measures_ok hq)
 clear h1 h2 h3 hr
 go_enter Tryz.func76, Tryz.ntmps76
 go_wp2_with fail
 obtain ⟨W0, hW0⟩ : ∃ W0, (((w.alloc (.cells #[.slice A n c] 38)).alloc (.cells #[.slice B m d] 38)).alloc (.cells #[.slice C l e] 38)) = W0 := ⟨_, rfl⟩
 rw [hW0] at HE HK ⊢
 clear hW0
 obtain ⟨G, hG⟩ : ∃ G, w.heap.size = G := ⟨_, rfl⟩
 rw [hG] at HK ⊢
 have HG := Lib.hid hG; clear hG
 go_loopw [15] (fun i wr => ∃ k : Nat, k ≤ 3 ∧ i = .int .i64 k ∧ Hid (ctRest risesS v mo h k = r ∧ (1 ≤ k → measuresS v = true) ∧ (3 ≤ k → measuresS h = true)) ∧ Below W0.heap.size W0 wr) (fun i _ => 3 - (intOf i).toNat)
 case atStart => exact ⟨0, by omega, rfl, Lib.hid ⟨HR.out, by omega, by omega⟩, Below.refl _ _⟩
 case round =>
  obtain ⟨k, hk, rfl, HP, hB⟩ := hrel
  have g0 := (HK.out.on hB _ (.tail _ (.tail _ (.head _)))).cell 0
  have l0 := (HK.out.on hB _ (.tail _ (.tail _ (.head _)))).lt
  have g2 := (HK.out.on hB _ (.head _)).cell 0
  simp at g0 l0 g2
  have HB := Lib.hid hB
  clear hB
  have hkk : k = 0 ∨ k = 1 ∨ k = 2 ∨ k = 3 := by omega
  rcases hkk with rfl | rfl | rfl | rfl
  ·have HP0 := Lib.hid HP.out.1
   have hw := below_alloc1 wr (.cells #[.slice A n c] 38)
   have HW := Lib.hid (below_then HB.out hw)
   have c0 := (Blk.new wr 38 #[.slice A n c]).cell 0
   have la := (Blk.new wr 38 #[.slice A n c]).lt
   have c1 := ((HK.out.on HB.out).on hw _ (.tail _ (.tail _ (.head _)))).cell 0
   have l1 := ((HK.out.on HB.out).on hw _ (.tail _ (.tail _ (.head _)))).lt
   clear hw g0 g2 l0
   go_upto_region 4 with fail
   obtain ⟨B1, hB1⟩ : ∃ B1, wr.heap.size = B1 := ⟨_, rfl⟩
   obtain ⟨W1, hW1⟩ : ∃ W1, wr.alloc (.cells #[.slice A n c] 38) = W1 := ⟨_, rfl⟩
   rw [hW1] at HW c0 c1 la l1 ⊢
   rw [hB1] at c0 la ⊢
   clear hW1 hB1
   simp at c0 c1 l1
   have HE1 := Lib.hid (below_then HE.out HW.out)
   cases hm : measuresS v
   ·have hf : r = false := by rw [← HP0.out]; unfold ctRest; rw [hm]; rfl
    subst hf
    have HM := Lib.hid hm
    clear hm HP HP0 HR
    go_region_with (go_at_call 113; refine (MV.out _ false (below_then HE1.out (Below.refl _ _).drew) HM.out).mono ?_; rintro e y1 ⟨rfl, hy1⟩)
    all_goals go_wp2
    all_goals go_ret
    all_goals exact ⟨rfl, below_then HE1.out (below_d hy1)⟩
   ·have HM := Lib.hid hm
    have HP2 : Hid (ctRest risesS v mo h (0 + 1) = r ∧ (1 ≤ 0 + 1 → measuresS v = true) ∧ (3 ≤ 0 + 1 → measuresS h = true)) := Lib.hid ⟨by rw [← HP0.out]; show ctRest risesS v mo h 1 = _; rw [show ctRest risesS v mo h 0 = (measuresS v && ctRest risesS v mo h 1) from rfl, hm]; rfl, fun _ => hm, by omega⟩
    have CX := Lib.hid (PV.out hm)
    have z : (firstX v == firstX v && lastX v == lastX v) = true := by simp
    generalize firstX v = f1 at *
    generalize lastX v = f2 at *
    clear hm HP HP0
    go_region_held3 (fun w' => w'.cell? ⟨B1, 0, none⟩ = some (.slice A n c) ∧ w'.cell? ⟨G, 0, none⟩ = some (.slice A n c) ∧ Below W1.heap.size W1 w')
     (first | assumption | exact mkI (Below.refl _ _).drew ⟨c0, c1⟩ la l1 | exact mkI (below_then (belowI (by assumption)) (by assumption)) ⟨c0, c1⟩ la l1)
     (first | (go_at_call 113; (with_reducible refine (MV.out _ true (below_then HE1.out (belowI (by assumption))) HM.out).mono ?_); rintro e y1 ⟨rfl, hy1⟩; have T1 := Lib.hid (below_then (belowI (W2 := W1) (A := B1) (B := G) (by assumption)) hy1)) | (go_at_call 55; (with_reducible refine (CX.out _ (below_then HE1.out (belowI (by assumption)))).mono ?_); rintro e y2 ⟨rfl, hy2⟩; have T2 := Lib.hid (below_then (belowI (W2 := W1) (A := B1) (B := G) (by assumption)) hy2)) | fail)
    all_goals go_wp2
    all_goals go_roundw
    all_goals try (case rel => exact ⟨0 + 1, by omega, by go_num, HP2, below_then HW.out T2.out⟩)
    all_goals try (case measure => simp [intOf])
  ·have HP0 := Lib.hid HP.out.1
   have hw := below_alloc1 wr (.cells #[.slice B m d] 38)
   have HW := Lib.hid (below_then HB.out hw)
   have c0 := (Blk.new wr 38 #[.slice B m d]).cell 0
   have la := (Blk.new wr 38 #[.slice B m d]).lt
   have c1 := ((HK.out.on HB.out).on hw _ (.tail _ (.tail _ (.head _)))).cell 0
   have l1 := ((HK.out.on HB.out).on hw _ (.tail _ (.tail _ (.head _)))).lt
   clear hw g0 g2 l0
   go_upto_region 4 with fail
   obtain ⟨B1, hB1⟩ : ∃ B1, wr.heap.size = B1 := ⟨_, rfl⟩
   obtain ⟨W1, hW1⟩ : ∃ W1, wr.alloc (.cells #[.slice B m d] 38) = W1 := ⟨_, rfl⟩
   rw [hW1] at HW c0 c1 la l1 ⊢
   rw [hB1] at c0 la ⊢
   clear hW1 hB1
   simp at c0 c1 l1
   have HE1 := Lib.hid (below_then HE.out HW.out)
   cases hm : measuresS mo
   ·have hf : r = false := by rw [← HP0.out]; unfold ctRest; rw [hm]; rfl
    subst hf
    have HM := Lib.hid hm
    clear hm HP HP0 HR
    go_region_with (go_at_call 113; refine (MM.out _ false (below_then HE1.out (Below.refl _ _).drew) HM.out).mono ?_; rintro e y1 ⟨rfl, hy1⟩)
    all_goals go_wp2
    all_goals go_ret
    all_goals exact ⟨rfl, below_then HE1.out (below_d hy1)⟩
   ·have HM := Lib.hid hm
    have HV := Lib.hid (HP.out.2.1 (by omega))
    have CX := Lib.hid (PM.out hm); have CY := Lib.hid (PV.out HV.out)
    have hal : ∃ t, alongS v mo = t := ⟨_, rfl⟩
    obtain ⟨t, hal⟩ := hal
    have hz := along_cases hal
    have HP3 : Hid ((t && ctRest risesS v mo h 2) = r) := Lib.hid (by rw [← HP0.out, show ctRest risesS v mo h 1 = ((measuresS mo && alongS v mo) && ctRest risesS v mo h 2) from rfl, hm, hal]; simp)
    generalize firstX v = f1 at *
    generalize lastX v = f2 at *
    generalize firstX mo = f3 at *
    generalize lastX mo = f4 at *
    clear hm HP HP0 hal
    cases t
    ·have hf : r = false := by rw [← HP3.out]; rfl
     subst hf
     clear HP3 HR
     go_region_held3 (fun w' => w'.cell? ⟨B1, 0, none⟩ = some (.slice B m d) ∧ w'.cell? ⟨G, 0, none⟩ = some (.slice A n c) ∧ Below W1.heap.size W1 w')
      (first | assumption | exact mkI (Below.refl _ _).drew ⟨c0, c1⟩ la l1 | exact mkI (below_then (belowI (by assumption)) (by assumption)) ⟨c0, c1⟩ la l1)
      (first | (go_at_call 113; (with_reducible refine (MM.out _ true (below_then HE1.out (belowI (by assumption))) HM.out).mono ?_); rintro e y1 ⟨rfl, hy1⟩; have T1 := Lib.hid (below_then (belowI (W2 := W1) (A := B1) (B := G) (by assumption)) hy1)) | (go_at_call 55; (with_reducible refine (CX.out _ (below_then HE1.out (belowI (by assumption)))).mono ?_); rintro e y2 ⟨rfl, hy2⟩; have T2 := Lib.hid (below_then (belowI (W2 := W1) (A := B1) (B := G) (by assumption)) hy2)) | (go_at_call 55; (with_reducible refine (CY.out _ (below_then HE1.out (belowI (by assumption)))).mono ?_); rintro e y3 ⟨rfl, hy3⟩; have T3 := Lib.hid (below_then (belowI (W2 := W1) (A := B1) (B := G) (by assumption)) hy3)) | fail)
     all_goals go_wp2
     all_goals go_ret
     all_goals exact ⟨rfl, below_then HE1.out T3.out⟩
    ·have HP2 : Hid (ctRest risesS v mo h (1 + 1) = r ∧ (1 ≤ 1 + 1 → measuresS v = true) ∧ (3 ≤ 1 + 1 → measuresS h = true)) := Lib.hid ⟨by rw [← HP3.out]; rfl, fun _ => HV.out, by omega⟩
     clear HP3
     go_region_held3 (fun w' => w'.cell? ⟨B1, 0, none⟩ = some (.slice B m d) ∧ w'.cell? ⟨G, 0, none⟩ = some (.slice A n c) ∧ Below W1.heap.size W1 w')
      (first | assumption | exact mkI (Below.refl _ _).drew ⟨c0, c1⟩ la l1 | exact mkI (below_then (belowI (by assumption)) (by assumption)) ⟨c0, c1⟩ la l1)
      (first | (go_at_call 113; (with_reducible refine (MM.out _ true (below_then HE1.out (belowI (by assumption))) HM.out).mono ?_); rintro e y1 ⟨rfl, hy1⟩; have T1 := Lib.hid (below_then (belowI (W2 := W1) (A := B1) (B := G) (by assumption)) hy1)) | (go_at_call 55; (with_reducible refine (CX.out _ (below_then HE1.out (belowI (by assumption)))).mono ?_); rintro e y2 ⟨rfl, hy2⟩; have T2 := Lib.hid (below_then (belowI (W2 := W1) (A := B1) (B := G) (by assumption)) hy2)) | (go_at_call 55; (with_reducible refine (CY.out _ (below_then HE1.out (belowI (by assumption)))).mono ?_); rintro e y3 ⟨rfl, hy3⟩; have T3 := Lib.hid (below_then (belowI (W2 := W1) (A := B1) (B := G) (by assumption)) hy3)) | fail)
     all_goals go_wp2
     all_goals go_roundw
     all_goals try (case rel => exact ⟨1 + 1, by omega, by go_num, HP2, below_then HW.out T3.out⟩)
     all_goals try (case measure => simp [intOf])
  ·have HP0 := Lib.hid HP.out.1
   have hw := below_alloc1 wr (.cells #[.slice C l e] 38)
   have HW := Lib.hid (below_then HB.out hw)
   have c0 := (Blk.new wr 38 #[.slice C l e]).cell 0
   have la := (Blk.new wr 38 #[.slice C l e]).lt
   have c1 := ((HK.out.on HB.out).on hw _ (.tail _ (.tail _ (.head _)))).cell 0
   have l1 := ((HK.out.on HB.out).on hw _ (.tail _ (.tail _ (.head _)))).lt
   clear hw g0 g2 l0
   go_upto_region 4 with fail
   obtain ⟨B1, hB1⟩ : ∃ B1, wr.heap.size = B1 := ⟨_, rfl⟩
   obtain ⟨W1, hW1⟩ : ∃ W1, wr.alloc (.cells #[.slice C l e] 38) = W1 := ⟨_, rfl⟩
   rw [hW1] at HW c0 c1 la l1 ⊢
   rw [hB1] at c0 la ⊢
   clear hW1 hB1
   simp at c0 c1 l1
   have HE1 := Lib.hid (below_then HE.out HW.out)
   cases hm : measuresS h
   ·have hf : r = false := by rw [← HP0.out]; unfold ctRest; rw [hm]; rfl
    subst hf
    have HM := Lib.hid hm
    clear hm HP HP0 HR
    go_region_with (go_at_call 113; refine (MH.out _ false (below_then HE1.out (Below.refl _ _).drew) HM.out).mono ?_; rintro e y1 ⟨rfl, hy1⟩)
    all_goals go_wp2
    all_goals go_ret
    all_goals exact ⟨rfl, below_then HE1.out (below_d hy1)⟩
   ·have HM := Lib.hid hm
    have HV := Lib.hid (HP.out.2.1 (by omega))
    have CX := Lib.hid (PH.out hm); have CY := Lib.hid (PV.out HV.out)
    have hal : ∃ t, alongS v h = t := ⟨_, rfl⟩
    obtain ⟨t, hal⟩ := hal
    have hz := along_cases hal
    have HP3 : Hid ((t && ctRest risesS v mo h 3) = r) := Lib.hid (by rw [← HP0.out, show ctRest risesS v mo h 2 = ((measuresS h && alongS v h) && ctRest risesS v mo h 3) from rfl, hm, hal]; simp)
    generalize firstX v = f1 at *
    generalize lastX v = f2 at *
    generalize firstX h = f3 at *
    generalize lastX h = f4 at *
    clear hm HP HP0 hal
    cases t
    ·have hf : r = false := by rw [← HP3.out]; rfl
     subst hf
     clear HP3 HR
     go_region_held3 (fun w' => w'.cell? ⟨B1, 0, none⟩ = some (.slice C l e) ∧ w'.cell? ⟨G, 0, none⟩ = some (.slice A n c) ∧ Below W1.heap.size W1 w')
      (first | assumption | exact mkI (Below.refl _ _).drew ⟨c0, c1⟩ la l1 | exact mkI (below_then (belowI (by assumption)) (by assumption)) ⟨c0, c1⟩ la l1)
      (first | (go_at_call 113; (with_reducible refine (MH.out _ true (below_then HE1.out (belowI (by assumption))) HM.out).mono ?_); rintro e y1 ⟨rfl, hy1⟩; have T1 := Lib.hid (below_then (belowI (W2 := W1) (A := B1) (B := G) (by assumption)) hy1)) | (go_at_call 55; (with_reducible refine (CX.out _ (below_then HE1.out (belowI (by assumption)))).mono ?_); rintro e y2 ⟨rfl, hy2⟩; have T2 := Lib.hid (below_then (belowI (W2 := W1) (A := B1) (B := G) (by assumption)) hy2)) | (go_at_call 55; (with_reducible refine (CY.out _ (below_then HE1.out (belowI (by assumption)))).mono ?_); rintro e y3 ⟨rfl, hy3⟩; have T3 := Lib.hid (below_then (belowI (W2 := W1) (A := B1) (B := G) (by assumption)) hy3)) | fail)
     all_goals go_wp2
     all_goals go_ret
     all_goals exact ⟨rfl, below_then HE1.out T3.out⟩
    ·have HP2 : Hid (ctRest risesS v mo h (2 + 1) = r ∧ (1 ≤ 2 + 1 → measuresS v = true) ∧ (3 ≤ 2 + 1 → measuresS h = true)) := Lib.hid ⟨by rw [← HP3.out]; rfl, fun _ => HV.out, fun _ => HM.out⟩
     clear HP3
     go_region_held3 (fun w' => w'.cell? ⟨B1, 0, none⟩ = some (.slice C l e) ∧ w'.cell? ⟨G, 0, none⟩ = some (.slice A n c) ∧ Below W1.heap.size W1 w')
      (first | assumption | exact mkI (Below.refl _ _).drew ⟨c0, c1⟩ la l1 | exact mkI (below_then (belowI (by assumption)) (by assumption)) ⟨c0, c1⟩ la l1)
      (first | (go_at_call 113; (with_reducible refine (MH.out _ true (below_then HE1.out (belowI (by assumption))) HM.out).mono ?_); rintro e y1 ⟨rfl, hy1⟩; have T1 := Lib.hid (below_then (belowI (W2 := W1) (A := B1) (B := G) (by assumption)) hy1)) | (go_at_call 55; (with_reducible refine (CX.out _ (below_then HE1.out (belowI (by assumption)))).mono ?_); rintro e y2 ⟨rfl, hy2⟩; have T2 := Lib.hid (below_then (belowI (W2 := W1) (A := B1) (B := G) (by assumption)) hy2)) | (go_at_call 55; (with_reducible refine (CY.out _ (below_then HE1.out (belowI (by assumption)))).mono ?_); rintro e y3 ⟨rfl, hy3⟩; have T3 := Lib.hid (below_then (belowI (W2 := W1) (A := B1) (B := G) (by assumption)) hy3)) | fail)
     all_goals go_wp2
     all_goals go_roundw
     all_goals try (case rel => exact ⟨2 + 1, by omega, by go_num, HP2, below_then HW.out T3.out⟩)
     all_goals try (case measure => simp [intOf])
  ·have HV := Lib.hid (HP.out.2.1 (by omega)); have HH := Lib.hid (HP.out.2.2 (by omega))
   have hr3 : (risesS v && risesS h) = r := HP.out.1
   have O1 := Lib.hid (fun W hW => ordered_rises A n c v W (IV.out W hW) (measures_ok HV.out))
   have O2 := Lib.hid (fun W hW => ordered_rises C l e h W (IH.out W hW) (measures_ok HH.out))
   generalize risesS v = t1 at *
   generalize risesS h = t2 at *
   have HR3 := Lib.hid hr3
   clear hr3 HP HR
   go_wp2_with fail
   refine (O1.out _ (below_then HE.out HB.out)).mono ?_
   rintro e y ⟨rfl, hy⟩
   have HE2 := Lib.hid (below_then (below_then HE.out HB.out) hy)
   clear g0 g2 l0
   have g2 := ((HK.out.on HB.out).on hy _ (.head _)).cell 0
   simp at g2
   clear hy
   cases t1
   ·have hf : r = false := by rw [← HR3.out]; rfl
    subst hf
    go_wp2
    go_ret
    exact ⟨rfl, HE2.out⟩
   ·have hf : r = t2 := by rw [← HR3.out]; simp
    subst hf
    go_wp2_with fail
    refine (O2.out _ HE2.out).mono ?_
    rintro e z ⟨rfl, hz⟩
    have HE3 := Lib.hid (below_then HE2.out hz)
    clear hz g2
    go_wp2
    go_ret
    exact ⟨rfl, HE3.out⟩
end

section
open Go.RowKit

structure TankD where
  id : Int
  al : Int
  ah : Int
  vol : List P3
  sur : List P3
  hei : List P3
abbrev tankCells (t : TankD) (m : HoldM) : Array Value := #[.int .i64 t.id, .int .i64 t.al, .int .i64 t.ah, .slice m.A m.n m.c, .slice m.B m.m m.d, .slice m.C m.l m.e]
abbrev tankV (t : TankD) (m : HoldM) : Value := .agg (tankCells t m)
def TankIn (w : World) (t : TankD) (m : HoldM) : Prop := TabIn w m.A m.n t.vol ∧ TabIn w m.B m.m t.sur ∧ TabIn w m.C m.l t.hei
theorem TankIn.below {w w' : World} {t : TankD} {m : HoldM} (i : TankIn w t m) (hb : Below w.heap.size w w') : TankIn w' t m := ⟨i.1.below hb, i.2.1.below hb, i.2.2.below hb⟩
def tankS (t : TankD) : Bool := (decide (1 ≤ t.id ∧ t.id ≤ 9) && inB t.al t.ah (-1000000) 1000000) && ctRest risesS t.vol t.sur t.hei 0
def tankErr (t : TankD) : Int := if tankS t = true then 0 else 21
theorem tankErr_of {h : TankD} {t : Bool} (e : tankS h = t) : tankErr h = if t = true then 0 else 21 := by unfold tankErr; rw [e]

set_option maxRecDepth 100000 in
set_option maxHeartbeats 8000000 in
theorem checkTank_any (t : TankD) (m : HoldM) (w : World) (hi : TankIn w t m) :
  Calls Tryz.prog 67 #[tankV t m] w fun e w' => e = .returned (.int .i64 (tankErr t)) ∧ Below w.heap.size w w' := by
 obtain ⟨id, al, ah, vol, mom, hei⟩ := t
 obtain ⟨A, n, c, B, mm, d, C, l, ee⟩ := m
 obtain ⟨i1, i2, i3⟩ := hi
 dsimp only at i1 i2 i3
 obtain ⟨r, hr⟩ : ∃ r, tankS ⟨id, al, ah, vol, mom, hei⟩ = r := ⟨_, rfl⟩
 rw [tankErr_of hr]
 have HE := Lib.hid (below_alloc1 w (.cells #[.int .i64 id, .int .i64 al, .int .i64 ah, .slice A n c, .slice B mm d, .slice C l ee] 46))
 have HK := Lib.hid (boxes1' w 46 #[.int .i64 id, .int .i64 al, .int .i64 ah, .slice A n c, .slice B mm d, .slice C l ee])
 have CW : Hid (∀ W a b lo hi t, inB a b lo hi = t → Calls Tryz.prog 75 #[rv a b, .int .i64 lo, .int .i64 hi] W fun e w' => e = .returned (.bool t) ∧ Below W.heap.size W w') := Lib.hid fun W a b lo hi t ht => hwithin_to a b lo hi t W ht
 have CT : Hid (∀ W, Below w.heap.size w W → Calls Tryz.prog 76 #[tv A n c, tv B mm d, tv C l ee, .func (.func 104) #[] #[]] W fun e w' => e = .returned (.bool (ctRest risesS vol mom hei 0)) ∧ Below W.heap.size W w') := Lib.hid fun W hW =>
  checkTables_rises A n c B mm d C l ee vol mom hei W (i1.below hW) (i2.below hW) (i3.below hW)
 have HR : Hid (((decide (1 ≤ id ∧ id ≤ 9) && inB al ah (-1000000) 1000000) && ctRest risesS vol mom hei 0) = r) := Lib.hid hr
 obtain ⟨CR, hCR⟩ : ∃ f, ctRest risesS vol mom hei 0 = f := ⟨_, rfl⟩
 rw [hCR] at CT HR
 clear hr i1 i2 i3 hCR
 have hid : (id < 1 ∧ decide (1 ≤ id ∧ id ≤ 9) = false) ∨ (¬ id < 1 ∧ 9 < id ∧ decide (1 ≤ id ∧ id ≤ 9) = false) ∨ (¬ id < 1 ∧ ¬ 9 < id ∧ decide (1 ≤ id ∧ id ≤ 9) = true) := by
  by_cases g1 : id < 1
  ·exact .inl ⟨g1, decide_eq_false (by omega)⟩
  ·by_cases g2 : 9 < id
   ·exact .inr (.inl ⟨g1, g2, decide_eq_false (by omega)⟩)
   ·exact .inr (.inr ⟨g1, g2, decide_eq_true (by omega)⟩)
 rcases hid with ⟨g1, hd⟩ | ⟨g1, g2, hd⟩ | ⟨g1, g2, hd⟩
 ·have hf : r = false := by rw [← HR.out, hd]; rfl
  subst hf
  clear hd HR
  go_enter Tryz.func67, Tryz.ntmps67
  go_wp2
  go_ret
  exact ⟨rfl, HE.out⟩
 ·have hf : r = false := by rw [← HR.out, hd]; rfl
  subst hf
  clear hd HR
  go_enter Tryz.func67, Tryz.ntmps67
  go_wp2
  go_ret
  exact ⟨rfl, HE.out⟩
 ·obtain ⟨b1, hb1⟩ : ∃ b, inB al ah (-1000000) 1000000 = b := ⟨_, rfl⟩
  have HR2 : Hid ((b1 && CR) = r) := Lib.hid (by rw [← HR.out, hd, hb1]; rfl)
  have C1 := Lib.hid (fun W => CW.out W al ah (-1000000) 1000000 b1 hb1)
  clear hd HR hb1
  go_enter Tryz.func67, Tryz.ntmps67
  go_wp2_with fail
  obtain ⟨W0, hW0⟩ : ∃ W0, w.alloc (.cells #[.int .i64 id, .int .i64 al, .int .i64 ah, .slice A n c, .slice B mm d, .slice C l ee] 46) = W0 := ⟨_, rfl⟩
  rw [hW0] at HE HK ⊢
  clear hW0
  obtain ⟨G, hG⟩ : ∃ G, w.heap.size = G := ⟨_, rfl⟩
  rw [hG] at HK ⊢
  have HG := Lib.hid hG; clear hG
  refine (C1.out _).mono ?_
  rintro e w1 ⟨rfl, hb⟩
  have HE1 := Lib.hid (below_then HE.out hb); have HK1 := Lib.hid (HK.out.on hb)
  clear hb HE HK
  cases b1
  ·have hf : r = false := by rw [← HR2.out]; rfl
   subst hf
   clear HR2
   go_wp2
   go_ret
   exact ⟨rfl, HE1.out⟩
  ·have hf : CR = r := by rw [← HR2.out]; rfl
   subst hf
   clear HR2
   have z := HK1.out _ (.head _)
   have z3 := z.cell 3
   have z4 := z.cell 4
   have z5 := z.cell 5
   simp at z3 z4 z5
   clear z
   go_wp2_with fail
   refine (CT.out _ HE1.out).mono ?_
   rintro e w3 ⟨rfl, hb⟩
   have HE3 := Lib.hid (below_then HE1.out hb)
   clear hb z3 z4 z5
   cases CR
   ·go_wp2
    go_ret
    exact ⟨rfl, HE3.out⟩
   ·go_wp2
    go_ret
    exact ⟨rfl, HE3.out⟩
end

section
open Go.RowKit

def amtRest (h : HoldD) : Nat → Bool
  | 0 => amountS h.t0 h.t1 && (amountS h.u0 h.u1 && (amountS h.v0 h.v1 && (amountS h.h0 h.h1 && ctRest fallsS h.vol h.mom h.hei 0)))
  | 1 => amountS h.u0 h.u1 && (amountS h.v0 h.v1 && (amountS h.h0 h.h1 && ctRest fallsS h.vol h.mom h.hei 0))
  | 2 => amountS h.v0 h.v1 && (amountS h.h0 h.h1 && ctRest fallsS h.vol h.mom h.hei 0)
  | 3 => amountS h.h0 h.h1 && ctRest fallsS h.vol h.mom h.hei 0
  | _ => ctRest fallsS h.vol h.mom h.hei 0
def holdS (h : HoldD) : Bool := (decide (1 ≤ h.id ∧ h.id ≤ 9) && inB h.al h.ah (-1000000) 1000000) && amtRest h 0
def holdErr (h : HoldD) : Int := if holdS h = true then 0 else 20
theorem rix0 (a b c d e f g h : Int) (w : World) : (Instr.index 130 (.agg #[.int .i64 a, .int .i64 b, .int .i64 c, .int .i64 d, .int .i64 e, .int .i64 f, .int .i64 g, .int .i64 h]) (.int .i64 0)).run Tryz.prog w = .ok (rv a b) w := by kernel_rfl
theorem rix1 (a b c d e f g h : Int) (w : World) : (Instr.index 130 (.agg #[.int .i64 a, .int .i64 b, .int .i64 c, .int .i64 d, .int .i64 e, .int .i64 f, .int .i64 g, .int .i64 h]) (.int .i64 1)).run Tryz.prog w = .ok (rv c d) w := by kernel_rfl
theorem rix2 (a b c d e f g h : Int) (w : World) : (Instr.index 130 (.agg #[.int .i64 a, .int .i64 b, .int .i64 c, .int .i64 d, .int .i64 e, .int .i64 f, .int .i64 g, .int .i64 h]) (.int .i64 2)).run Tryz.prog w = .ok (rv e f) w := by kernel_rfl
theorem rix3 (a b c d e f g h : Int) (w : World) : (Instr.index 130 (.agg #[.int .i64 a, .int .i64 b, .int .i64 c, .int .i64 d, .int .i64 e, .int .i64 f, .int .i64 g, .int .i64 h]) (.int .i64 3)).run Tryz.prog w = .ok (rv g h) w := by kernel_rfl
attribute [local go_sem ↓] rix0 rix1 rix2 rix3
theorem holdErr_of {h : HoldD} {t : Bool} (e : holdS h = t) : holdErr h = if t = true then 0 else 20 := by unfold holdErr; rw [e]

set_option maxRecDepth 100000 in
set_option maxHeartbeats 8000000 in
theorem checkHold_any (h : HoldD) (m : HoldM) (w : World) (hi : HoldIn w h m) :
  Calls Tryz.prog 49 #[holdV h m] w fun e w' => e = .returned (.int .i64 (holdErr h)) ∧ Below w.heap.size w w' := by
 obtain ⟨id, al, ah, vol, mom, hei, t0, t1, u0, u1, v0, v1, h0, h1⟩ := h
 obtain ⟨A, n, c, B, mm, d, C, l, ee⟩ := m
 obtain ⟨i1, i2, i3⟩ := hi
 dsimp only at i1 i2 i3
 obtain ⟨r, hr⟩ : ∃ r, holdS ⟨id, al, ah, vol, mom, hei, t0, t1, u0, u1, v0, v1, h0, h1⟩ = r := ⟨_, rfl⟩
 rw [holdErr_of hr]
 have HE := Lib.hid (below_alloc1 w (.cells #[.int .i64 id, .int .i64 al, .int .i64 ah, .slice A n c, .slice B mm d, .slice C l ee, .int .i64 t0, .int .i64 t1, .int .i64 u0, .int .i64 u1, .int .i64 v0, .int .i64 v1, .int .i64 h0, .int .i64 h1] 40))
 have HK := Lib.hid (boxes1' w 40 #[.int .i64 id, .int .i64 al, .int .i64 ah, .slice A n c, .slice B mm d, .slice C l ee, .int .i64 t0, .int .i64 t1, .int .i64 u0, .int .i64 u1, .int .i64 v0, .int .i64 v1, .int .i64 h0, .int .i64 h1])
 have CW : Hid (∀ W a b lo hi t, inB a b lo hi = t → Calls Tryz.prog 75 #[rv a b, .int .i64 lo, .int .i64 hi] W fun e w' => e = .returned (.bool t) ∧ Below W.heap.size W w') := Lib.hid fun W a b lo hi t ht => hwithin_to a b lo hi t W ht
 have CT : Hid (∀ W, Below w.heap.size w W → Calls Tryz.prog 76 #[tv A n c, tv B mm d, tv C l ee, .func (.func 77) #[] #[]] W fun e w' => e = .returned (.bool (ctRest fallsS vol mom hei 0)) ∧ Below W.heap.size W w') := Lib.hid fun W hW =>
  checkTables_falls A n c B mm d C l ee vol mom hei W (i1.below hW) (i2.below hW) (i3.below hW)
 have HR : Hid (((decide (1 ≤ id ∧ id ≤ 9) && inB al ah (-1000000) 1000000) && amtRest ⟨id, al, ah, vol, mom, hei, t0, t1, u0, u1, v0, v1, h0, h1⟩ 0) = r) := Lib.hid hr
 obtain ⟨AR, hAR⟩ : ∃ f, amtRest ⟨id, al, ah, vol, mom, hei, t0, t1, u0, u1, v0, v1, h0, h1⟩ = f := ⟨_, rfl⟩
 obtain ⟨CR, hCR⟩ : ∃ f, ctRest fallsS vol mom hei 0 = f := ⟨_, rfl⟩
 have a0 : AR 0 = (amountS t0 t1 && AR 1) := by rw [← hAR]; rfl
 have a1 : AR 1 = (amountS u0 u1 && AR 2) := by rw [← hAR]; rfl
 have a2 : AR 2 = (amountS v0 v1 && AR 3) := by rw [← hAR]; rfl
 have a3 : AR 3 = (amountS h0 h1 && AR 4) := by rw [← hAR]; rfl
 have a4 : AR 4 = CR := by rw [← hAR, ← hCR]; rfl
 rw [hAR] at HR
 rw [hCR] at CT
 have HA := Lib.hid (And.intro a0 (And.intro a1 (And.intro a2 (And.intro a3 a4))))
 clear hr i1 i2 i3 hAR hCR a0 a1 a2 a3 a4
 have hid : (id < 1 ∧ decide (1 ≤ id ∧ id ≤ 9) = false) ∨ (¬ id < 1 ∧ 9 < id ∧ decide (1 ≤ id ∧ id ≤ 9) = false) ∨ (¬ id < 1 ∧ ¬ 9 < id ∧ decide (1 ≤ id ∧ id ≤ 9) = true) := by
  by_cases g1 : id < 1
  ·exact .inl ⟨g1, decide_eq_false (by omega)⟩
  ·by_cases g2 : 9 < id
   ·exact .inr (.inl ⟨g1, g2, decide_eq_false (by omega)⟩)
   ·exact .inr (.inr ⟨g1, g2, decide_eq_true (by omega)⟩)
 rcases hid with ⟨g1, hd⟩ | ⟨g1, g2, hd⟩ | ⟨g1, g2, hd⟩
 ·have hf : r = false := by rw [← HR.out, hd]; rfl
  subst hf
  clear hd HR
  go_enter Tryz.func49, Tryz.ntmps49
  go_wp2
  go_ret
  exact ⟨rfl, HE.out⟩
 ·have hf : r = false := by rw [← HR.out, hd]; rfl
  subst hf
  clear hd HR
  go_enter Tryz.func49, Tryz.ntmps49
  go_wp2
  go_ret
  exact ⟨rfl, HE.out⟩
 ·obtain ⟨b1, hb1⟩ : ∃ b, inB al ah (-1000000) 1000000 = b := ⟨_, rfl⟩
  have HR2 : Hid ((b1 && AR 0) = r) := Lib.hid (by rw [← HR.out, hd, hb1]; rfl)
  have C1 := Lib.hid (fun W => CW.out W al ah (-1000000) 1000000 b1 hb1)
  clear hd HR hb1
  go_enter Tryz.func49, Tryz.ntmps49
  go_wp2_with fail
  obtain ⟨W0, hW0⟩ : ∃ W0, w.alloc (.cells #[.int .i64 id, .int .i64 al, .int .i64 ah, .slice A n c, .slice B mm d, .slice C l ee, .int .i64 t0, .int .i64 t1, .int .i64 u0, .int .i64 u1, .int .i64 v0, .int .i64 v1, .int .i64 h0, .int .i64 h1] 40) = W0 := ⟨_, rfl⟩
  rw [hW0] at HE HK ⊢
  clear hW0
  obtain ⟨G, hG⟩ : ∃ G, w.heap.size = G := ⟨_, rfl⟩
  rw [hG] at HK ⊢
  have HG := Lib.hid hG; clear hG
  refine (C1.out _).mono ?_
  rintro e w1 ⟨rfl, hb⟩
  have HE1 := Lib.hid (below_then HE.out hb); have HK1 := Lib.hid (HK.out.on hb)
  clear hb HE HK
  cases b1
  ·have hf : r = false := by rw [← HR2.out]; rfl
   subst hf
   clear HR2
   go_wp2
   go_ret
   exact ⟨rfl, HE1.out⟩
  ·have HR3 : Hid (AR 0 = r) := Lib.hid (by rw [← HR2.out]; rfl)
   clear HR2
   have z := HK1.out _ (.head _)
   have z6 := z.cell 6
   have z7 := z.cell 7
   have z8 := z.cell 8
   have z9 := z.cell 9
   have z10 := z.cell 10
   have z11 := z.cell 11
   have z12 := z.cell 12
   have z13 := z.cell 13
   simp at z6 z7 z8 z9 z10 z11 z12 z13
   clear z
   go_wp2_with fail
   clear z6 z7 z8 z9 z10 z11 z12 z13
   go_loopw [28] (fun i wr => ∃ k : Nat, k ≤ 4 ∧ i = .int .i64 k ∧ Hid (AR k = r) ∧ Below w1.heap.size w1 wr) (fun i _ => 4 - (intOf i).toNat)
   case atStart => exact ⟨0, by omega, rfl, HR3, Below.refl _ _⟩
   case round =>
    obtain ⟨k, hk, rfl, HP, hB⟩ := hrel
    have HB := Lib.hid hB
    clear hB
    have hkk : k = 0 ∨ k = 1 ∨ k = 2 ∨ k = 3 ∨ k = 4 := by omega
    rcases hkk with rfl | rfl | rfl | rfl | rfl
    ·obtain ⟨b2, hb2⟩ : ∃ b, inB t0 t1 0 1000000000 = b := ⟨_, rfl⟩
     have HP2 : Hid ((b2 && AR 1) = r) := Lib.hid (by rw [← HP.out, HA.out.1]; unfold amountS; rw [hb2])
     have C2 := Lib.hid (fun W => CW.out W t0 t1 0 1000000000 b2 hb2)
     clear hb2 HP
     go_wp2_with fail
     refine (C2.out _).mono ?_
     rintro e w2 ⟨rfl, hb⟩
     have HB2 := Lib.hid (below_then (below_then HB.out (below_alloc1 wr (.cells #[.int .i64 t0, .int .i64 t1] 35))) hb)
     clear hb
     cases b2
     ·have hf : r = false := by rw [← HP2.out]; rfl
      subst hf
      go_wp2
      go_ret
      exact ⟨rfl, below_then HE1.out HB2.out⟩
     ·have HP3 : Hid (AR (0 + 1) = r) := Lib.hid (by rw [← HP2.out]; rfl)
      clear HP2
      go_wp2
      go_roundw
      case rel => exact ⟨0 + 1, by omega, by go_num, HP3, HB2.out⟩
      case measure => simp [intOf]
    ·obtain ⟨b2, hb2⟩ : ∃ b, inB u0 u1 0 1000000000 = b := ⟨_, rfl⟩
     have HP2 : Hid ((b2 && AR 2) = r) := Lib.hid (by rw [← HP.out, HA.out.2.1]; unfold amountS; rw [hb2])
     have C2 := Lib.hid (fun W => CW.out W u0 u1 0 1000000000 b2 hb2)
     clear hb2 HP
     go_wp2_with fail
     refine (C2.out _).mono ?_
     rintro e w2 ⟨rfl, hb⟩
     have HB2 := Lib.hid (below_then (below_then HB.out (below_alloc1 wr (.cells #[.int .i64 u0, .int .i64 u1] 35))) hb)
     clear hb
     cases b2
     ·have hf : r = false := by rw [← HP2.out]; rfl
      subst hf
      go_wp2
      go_ret
      exact ⟨rfl, below_then HE1.out HB2.out⟩
     ·have HP3 : Hid (AR (1 + 1) = r) := Lib.hid (by rw [← HP2.out]; rfl)
      clear HP2
      go_wp2
      go_roundw
      case rel => exact ⟨1 + 1, by omega, by go_num, HP3, HB2.out⟩
      case measure => simp [intOf]
    ·obtain ⟨b2, hb2⟩ : ∃ b, inB v0 v1 0 1000000000 = b := ⟨_, rfl⟩
     have HP2 : Hid ((b2 && AR 3) = r) := Lib.hid (by rw [← HP.out, HA.out.2.2.1]; unfold amountS; rw [hb2])
     have C2 := Lib.hid (fun W => CW.out W v0 v1 0 1000000000 b2 hb2)
     clear hb2 HP
     go_wp2_with fail
     refine (C2.out _).mono ?_
     rintro e w2 ⟨rfl, hb⟩
     have HB2 := Lib.hid (below_then (below_then HB.out (below_alloc1 wr (.cells #[.int .i64 v0, .int .i64 v1] 35))) hb)
     clear hb
     cases b2
     ·have hf : r = false := by rw [← HP2.out]; rfl
      subst hf
      go_wp2
      go_ret
      exact ⟨rfl, below_then HE1.out HB2.out⟩
     ·have HP3 : Hid (AR (2 + 1) = r) := Lib.hid (by rw [← HP2.out]; rfl)
      clear HP2
      go_wp2
      go_roundw
      case rel => exact ⟨2 + 1, by omega, by go_num, HP3, HB2.out⟩
      case measure => simp [intOf]
    ·obtain ⟨b2, hb2⟩ : ∃ b, inB h0 h1 0 1000000000 = b := ⟨_, rfl⟩
     have HP2 : Hid ((b2 && AR 4) = r) := Lib.hid (by rw [← HP.out, HA.out.2.2.2.1]; unfold amountS; rw [hb2])
     have C2 := Lib.hid (fun W => CW.out W h0 h1 0 1000000000 b2 hb2)
     clear hb2 HP
     go_wp2_with fail
     refine (C2.out _).mono ?_
     rintro e w2 ⟨rfl, hb⟩
     have HB2 := Lib.hid (below_then (below_then HB.out (below_alloc1 wr (.cells #[.int .i64 h0, .int .i64 h1] 35))) hb)
     clear hb
     cases b2
     ·have hf : r = false := by rw [← HP2.out]; rfl
      subst hf
      go_wp2
      go_ret
      exact ⟨rfl, below_then HE1.out HB2.out⟩
     ·have HP3 : Hid (AR (3 + 1) = r) := Lib.hid (by rw [← HP2.out]; rfl)
      clear HP2
      go_wp2
      go_roundw
      case rel => exact ⟨3 + 1, by omega, by go_num, HP3, HB2.out⟩
      case measure => simp [intOf]
    ·have hf : CR = r := by rw [← HP.out, HA.out.2.2.2.2]
     subst hf
     have HE2 := Lib.hid (below_then HE1.out HB.out)
     have z := HK1.out.on HB.out _ (.head _)
     have z3 := z.cell 3
     have z4 := z.cell 4
     have z5 := z.cell 5
     simp at z3 z4 z5
     clear z HP HR3
     go_wp2_with fail
     refine (CT.out _ HE2.out).mono ?_
     rintro e w3 ⟨rfl, hb⟩
     have HE3 := Lib.hid (below_then HE2.out hb)
     clear hb z3 z4 z5
     cases CR
     ·go_wp2
      go_ret
      exact ⟨rfl, HE3.out⟩
     ·go_wp2
      go_ret
      exact ⟨rfl, HE3.out⟩
end

section
open Go.RowKit

structure LevelD where
  tank : Int
  pr : Bool
  s0 : Int
  s1 : Int
  d0 : Int
  d1 : Int
abbrev levelV (l : LevelD) : Value := .agg #[.int .i64 l.tank, .bool l.pr, .int .i64 l.s0, .int .i64 l.s1, .int .i64 l.d0, .int .i64 l.d1]
def levelS (t : TankD) (l : LevelD) : Bool := decide (l.tank = t.id) && (densS l.d0 l.d1 && (inB l.s0 l.s1 (firstX t.vol) (lastX t.vol) && (!l.pr || decide (l.s0 = lastX t.vol))))
def levelErr (t : TankD) (l : LevelD) : Int := if tankS t = true then (if levelS t l = true then 0 else 23) else 21
theorem levelErr_of {t : TankD} {l : LevelD} {a b : Bool} (h : tankS t = a) (g : levelS t l = b) : levelErr t l = if a = true then (if b = true then 0 else 23) else 21 := by unfold levelErr; rw [h, g]
theorem mkL {W2 w1 : World} {a b c : Value} {A B : Nat} (hb : Below W2.heap.size W2 w1) (h : W2.cell? ⟨B, 1, none⟩ = some a ∧ W2.cell? ⟨B, 2, none⟩ = some b ∧ W2.cell? ⟨A, 3, none⟩ = some c) (h1 : A < W2.heap.size) (h2 : B < W2.heap.size) :
    w1.cell? ⟨B, 1, none⟩ = some a ∧ w1.cell? ⟨B, 2, none⟩ = some b ∧ w1.cell? ⟨A, 3, none⟩ = some c ∧ Below W2.heap.size W2 w1 := ⟨((bcell hb).1 _ _ h2).trans h.1, ((bcell hb).1 _ _ h2).trans h.2.1, ((bcell hb).1 _ _ h1).trans h.2.2, hb⟩
theorem belowL {W2 w0 : World} {a b c : Value} {A B : Nat} (h : w0.cell? ⟨B, 1, none⟩ = some a ∧ w0.cell? ⟨B, 2, none⟩ = some b ∧ w0.cell? ⟨A, 3, none⟩ = some c ∧ Below W2.heap.size W2 w0) : Below W2.heap.size W2 w0 := h.2.2.2
theorem tank_tab {t : TankD} (h : tankS t = true) : tabOk t.vol = true := by
  unfold tankS ctRest at h
  cases hm : measuresS t.vol
  · rw [hm] at h; simp at h
  · exact measures_ok hm

set_option maxRecDepth 100000 in
set_option maxHeartbeats 8000000 in
theorem checkLevel_any (t : TankD) (m : HoldM) (lv : LevelD) (w : World) (hi : TankIn w t m) :
  Calls Tryz.prog 38 #[tankV t m, levelV lv] w fun e w' => e = .returned (.int .i64 (levelErr t lv)) ∧ Below w.heap.size w w' := by
 have CC : Hid (∀ W, Below w.heap.size w W → Calls Tryz.prog 67 #[tankV t m] W fun e w' => e = .returned (.int .i64 (tankErr t)) ∧ Below W.heap.size W w') := Lib.hid fun W hW => checkTank_any t m W (hi.below hW)
 obtain ⟨bt, hbt⟩ : ∃ b, tankS t = b := ⟨_, rfl⟩
 obtain ⟨bl, hbl⟩ : ∃ b, levelS t lv = b := ⟨_, rfl⟩
 rw [levelErr_of hbt hbl]
 rw [tankErr_of hbt] at CC
 have HV : Hid (bt = true → tabOk t.vol = true) := Lib.hid fun x => tank_tab (hbt.trans x)
 obtain ⟨id, al, ah, vol, sur, hei⟩ := t
 obtain ⟨A, n, c, B, mm, d, C, l, ee⟩ := m
 obtain ⟨tk, pr, s0, s1, d0, d1⟩ := lv
 obtain ⟨i1, i2, i3⟩ := hi
 dsimp only at i1 i2 i3 HV
 have HE := Lib.hid (show Below w.heap.size w ((w.alloc (.cells #[.int .i64 id, .int .i64 al, .int .i64 ah, .slice A n c, .slice B mm d, .slice C l ee] 46)).alloc (.cells #[.int .i64 tk, .bool pr, .int .i64 s0, .int .i64 s1, .int .i64 d0, .int .i64 d1] 49)) from below_a2 (Below.refl _ _))
 have HK := Lib.hid (boxes2' w 46 49 #[.int .i64 id, .int .i64 al, .int .i64 ah, .slice A n c, .slice B mm d, .slice C l ee] #[.int .i64 tk, .bool pr, .int .i64 s0, .int .i64 s1, .int .i64 d0, .int .i64 d1])
 obtain ⟨bd, ebd⟩ : ∃ b, densS d0 d1 = b := ⟨_, rfl⟩
 obtain ⟨bi, ebi⟩ : ∃ b, inB s0 s1 (firstX vol) (lastX vol) = b := ⟨_, rfl⟩
 have C1 : Hid (∀ W, Calls Tryz.prog 68 #[rv d0 d1] W fun e w' => e = .returned (.bool bd) ∧ Below W.heap.size W w') := Lib.hid fun W => isDensity_to d0 d1 bd W ebd
 have C2 : Hid (bt = true → ∀ W, Below w.heap.size w W → Calls Tryz.prog 69 #[rv s0 s1, tv A n c] W fun e w' => e = .returned (.bool bi) ∧ Below W.heap.size W w') := Lib.hid fun x W hW => inPlaces_to A n c vol s0 s1 bi W (i1.below hW) (HV.out x) ebi
 have C3 : Hid (bt = true → ∀ W, Below w.heap.size w W → Calls Tryz.prog 55 #[tv A n c] W fun e w' => e = .returned (rv (firstX vol) (lastX vol)) ∧ Below W.heap.size W w') := Lib.hid fun x W hW => hplaces_tab A n c vol W (i1.below hW) (HV.out x)
 have e0 : levelS ⟨id, al, ah, vol, sur, hei⟩ ⟨tk, pr, s0, s1, d0, d1⟩ = (decide (tk = id) && (bd && (bi && (!pr || decide (s0 = lastX vol))))) := by rw [← ebd, ← ebi]; rfl
 have HR := Lib.hid (e0.symm.trans hbl)
 clear e0 hbl hbt i1 i2 i3 HV ebd ebi
 generalize firstX vol = f1 at *
 generalize lastX vol = f2 at *
 go_enter Tryz.func38, Tryz.ntmps38
 go_wp2_with fail
 obtain ⟨W0, hW0⟩ : ∃ W0, ((w.alloc (.cells #[.int .i64 id, .int .i64 al, .int .i64 ah, .slice A n c, .slice B mm d, .slice C l ee] 46)).alloc (.cells #[.int .i64 tk, .bool pr, .int .i64 s0, .int .i64 s1, .int .i64 d0, .int .i64 d1] 49)) = W0 := ⟨_, rfl⟩
 rw [hW0] at HE HK ⊢
 clear hW0
 obtain ⟨G, hG⟩ : ∃ G, w.heap.size = G := ⟨_, rfl⟩
 rw [hG] at HK ⊢
 have HG := Lib.hid hG; clear hG
 refine (CC.out _ HE.out).mono ?_
 rintro e w1 ⟨rfl, hb⟩
 have HE1 := Lib.hid (below_then HE.out hb); have HK1 := Lib.hid (HK.out.on hb)
 clear hb HE HK
 cases bt
 ·simp only [Bool.false_eq_true, if_false]
  clear HR
  go_wp2
  go_ret
  exact ⟨rfl, HE1.out⟩
 simp only [if_true]
 have y := HK1.out _ (.tail _ (.head _))
 have y0 := y.cell 0
 have z := HK1.out _ (.head _)
 have z0 := z.cell 0
 have z4 := z.cell 4
 have z5 := z.cell 5
 simp at y0 z0 z4 z5
 clear y z
 by_cases hk : tk = id
 ·subst hk
  have x1 : (tk == tk) = true := by simp
  go_wp2_with fail
  refine (C1.out _).mono ?_
  rintro e w2 ⟨rfl, hb⟩
  have HE2 := Lib.hid (below_then HE1.out hb); have HK2 := Lib.hid (HK1.out.on hb)
  clear hb HE1 HK1 y0 z0 z4 z5
  cases bd
  ·have hf : bl = false := by rw [← HR.out]; simp
   subst hf
   clear HR
   go_wp2
   go_ret
   exact ⟨rfl, HE2.out⟩
  have y3 := (HK2.out _ (.tail _ (.head _))).cell 3
  have z2 := (HK2.out _ (.head _)).cell 2
  have z3 := (HK2.out _ (.head _)).cell 3
  simp at y3 z2 z3
  go_wp2_with fail
  refine (C2.out (by trivial) _ HE2.out).mono ?_
  rintro e w3 ⟨rfl, hb⟩
  have HE3 := Lib.hid (below_then HE2.out hb); have HK3 := Lib.hid (HK2.out.on hb)
  clear hb HE2 HK2 y3 z2 z3
  cases bi
  ·have hf : bl = false := by rw [← HR.out]; simp
   subst hf
   clear HR
   go_wp2
   go_ret
   exact ⟨rfl, HE3.out⟩
  have z1 := (HK3.out _ (.head _)).cell 1
  have y3 := (HK3.out _ (.tail _ (.head _))).cell 3
  have z2 := (HK3.out _ (.head _)).cell 2
  simp at z1 y3 z2
  cases pr
  ·have hf : bl = true := by rw [← HR.out]; simp
   subst hf
   clear HR
   go_wp2_with fail
   go_region
   go_wp2
   go_ret
   exact ⟨rfl, HE3.out.drew⟩
  have la := (HK3.out _ (.tail _ (.head _))).lt
  have l1 := (HK3.out _ (.head _)).lt
  by_cases hs : s0 = f2
  ·have hf : bl = true := by rw [← HR.out]; simp [hs]
   subst hf
   clear HR
   have x2 : (s0 == f2) = true := by simp [hs]
   go_wp2_with fail
   go_region_held3 (fun w' => w'.cell? ⟨G + 1, 1, none⟩ = some (.bool true) ∧ w'.cell? ⟨G + 1, 2, none⟩ = some (.int .i64 s0) ∧ w'.cell? ⟨G, 3, none⟩ = some (.slice A n c) ∧ Below w3.heap.size w3 w')
    (first | assumption | exact mkL (Below.refl _ _).drew ⟨z1, z2, y3⟩ la l1 | exact mkL (below_then (belowL (by assumption)) (by assumption)) ⟨z1, z2, y3⟩ la l1)
    (first
     | (go_at_call 55; (with_reducible refine (C3.out (by trivial) _ (below_then HE3.out (belowL (by assumption)))).mono ?_); rintro e y1 ⟨rfl, hy1⟩; have T1 := Lib.hid (below_then (belowL (W2 := w3) (A := G) (B := G + 1) (by assumption)) hy1))
     | fail)
   all_goals go_wp2
   all_goals go_ret
   all_goals exact ⟨rfl, below_then HE3.out T1.out⟩
  ·have hf : bl = false := by rw [← HR.out]; simp [hs]
   subst hf
   clear HR
   have x2 : (s0 == f2) = false := beq_eq_false_iff_ne.2 hs
   go_wp2_with fail
   go_region_held3 (fun w' => w'.cell? ⟨G + 1, 1, none⟩ = some (.bool true) ∧ w'.cell? ⟨G + 1, 2, none⟩ = some (.int .i64 s0) ∧ w'.cell? ⟨G, 3, none⟩ = some (.slice A n c) ∧ Below w3.heap.size w3 w')
    (first | assumption | exact mkL (Below.refl _ _).drew ⟨z1, z2, y3⟩ la l1 | exact mkL (below_then (belowL (by assumption)) (by assumption)) ⟨z1, z2, y3⟩ la l1)
    (first
     | (go_at_call 55; (with_reducible refine (C3.out (by trivial) _ (below_then HE3.out (belowL (by assumption)))).mono ?_); rintro e y1 ⟨rfl, hy1⟩; have T1 := Lib.hid (below_then (belowL (W2 := w3) (A := G) (B := G + 1) (by assumption)) hy1))
     | fail)
   all_goals go_wp2
   all_goals go_ret
   all_goals exact ⟨rfl, below_then HE3.out T1.out⟩
 ·have hf : bl = false := by rw [← HR.out]; simp [hk]
  subst hf
  have x1 : (tk == id) = false := beq_eq_false_iff_ne.2 hk
  clear HR
  go_wp2
  go_ret
  exact ⟨rfl, HE1.out⟩
end

section
open Go.RowKit
attribute [local go_sem ↓] eqlRange neqRange
structure FillD where
  hold : Int
  st : Int
  x0 : Int
  x1 : Int
  d0 : Int
  d1 : Int
abbrev fillV (f : FillD) : Value := .agg #[.int .i64 f.hold, .int .i64 f.st, .int .i64 f.x0, .int .i64 f.x1, .int .i64 f.d0, .int .i64 f.d1]
def stateS (st : Int) (ne nd inp de : Bool) : Bool := (decide (st = 0) && (ne && nd)) || ((decide (1 ≤ st ∧ st ≤ 2) && (ne && de)) || (decide (3 ≤ st ∧ st ≤ 5) && (inp && de)))
def fillS (h : HoldD) (f : FillD) : Bool := decide (f.hold = h.id) && stateS f.st (f.x0 == 0 && f.x1 == 0) (f.d0 == 0 && f.d1 == 0) (inB f.x0 f.x1 (firstX h.vol) (lastX h.vol)) (densS f.d0 f.d1)
def fillErr (h : HoldD) (f : FillD) : Int := if holdS h = true then (if fillS h f = true then 0 else 22) else 20
theorem fillErr_of {h : HoldD} {f : FillD} {a b : Bool} (g : holdS h = a) (e : fillS h f = b) : fillErr h f = if a = true then (if b = true then 0 else 22) else 20 := by unfold fillErr; rw [g, e]
theorem hold_tab {h : HoldD} (e : holdS h = true) : tabOk h.vol = true := by
  cases hm : measuresS h.vol
  · unfold holdS amtRest ctRest at e
    rw [hm] at e
    simp at e
  · exact measures_ok hm

set_option maxHeartbeats 1000000 in
theorem sFree_to (n : Int) (t : Bool) (w : World) (h : decide (3 ≤ n ∧ n ≤ 5) = t) :
  Calls Tryz.prog 17 #[.int .i64 n] w fun e w' => e = .returned (.bool t) ∧ Below w.heap.size w w' := by
 have C : Hid (∀ W, Calls Tryz.prog 32 #[.int .i64 n, .int .i64 3, .int .i64 5] W fun e w' => e = .returned (.bool t) ∧ Below W.heap.size W w') := Lib.hid fun W => between_to n 3 5 t W h
 clear h
 go_enter Tryz.func17, Tryz.ntmps17
 go_wp2_with fail
 refine (C.out _).mono ?_
 rintro e w1 ⟨rfl, hb⟩
 have HB := Lib.hid hb; clear hb
 go_wp2
 go_ret
 exact ⟨rfl, HB.out⟩
end

end Go.Proofs.YtpcmcicnciejpaaGreat
