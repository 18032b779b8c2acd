/- The contracts of between, amount, place, density, table, First, Last and along (the specification of layer 2). Their conditions: the tables are valid where they must be, and lie in memory. -/
import Derived.Test.YtemlaaipnhmcoaaGreatR10
import Derived.BigQuiet
import Derived.Deep.RegionHeld3
import Derived.Test.YtemlaaipnhmcoaaGreatR09
import Derived.Test.YtemlaaipnhmcoaaGreatR08
set_option linter.unusedVariables false
set_option linter.unusedSimpArgs false
set_option linter.constructorNameAsVariable false
namespace Go.Proofs.YtemlaaipnhmcoaaGreat

section
open Go.RowKit

def noneNeg (ps : List P3) : Bool := ps.all fun p => decide (0 ≤ p.2.1)
theorem noneNeg_at {ps : List P3} {k : Nat} {p : P3} (h : ps[k]? = some p) : noneNeg (ps.drop k) = (decide (0 ≤ p.2.1) && noneNeg (ps.drop (k + 1))) := by
  have hk : k < ps.length := (List.getElem?_eq_some_iff.1 h).1
  have e : ps.drop k = p :: ps.drop (k + 1) := by
    rw [List.drop_eq_getElem_cons hk]
    rw [List.getElem?_eq_getElem hk] at h
    injection h with h
    rw [h]
  rw [e]; rfl
set_option maxRecDepth 100000 in
set_option maxHeartbeats 4000000 in
theorem measures_any (A : Option Addr) (n c : Nat) (ps : List P3) (w : World) (hp : TabIn w A n ps) :
  Calls Tryz.prog 145 #[tv A n c] w fun e w' => e = .returned (.bool (measuresS ps)) ∧ Below w.heap.size w w' := by
 obtain ⟨hn, hm, hp⟩ := hp
 have hE : Below w.heap.size w (w.alloc (.cells #[.slice A n c] 33)) := below_alloc1 w _
 have C : Hid (∀ W t, Below w.heap.size w W → (if tabOk ps = true then (0 : Int) else 11) = t → Calls Tryz.prog 164 #[tv A n c] W fun e w' => e = .returned (.int .i64 t) ∧ Below W.heap.size W w') := Lib.hid fun W t hW h => int_to (checkTable_any A n c ps W hn hm (hp.below hW)) h
 have HE := Lib.hid hE; have HK := Lib.hid (boxes1' w 33 #[.slice A n c])
 unfold maxLen at hm
 cases ht : tabOk ps
 ·have hr : measuresS ps = false := by unfold measuresS; rw [ht]; rfl
  rw [hr]
  have HT := Lib.hid (show (if tabOk ps = true then (0 : Int) else 11) = 11 by rw [ht]; rfl)
  clear hE hp hn ht hr
  go_enter Tryz.func145, Tryz.ntmps145
  go_wp2_with fail
  refine (C.out _ 11 HE.out HT.out).mono ?_
  rintro e w1 ⟨rfl, hb⟩
  have HE1 := Lib.hid (below_then HE.out hb)
  clear hb
  go_wp2
  go_ret
  exact ⟨rfl, HE1.out⟩
 ·have HT := Lib.hid (show (if tabOk ps = true then (0 : Int) else 11) = 0 by rw [ht]; rfl)
  have h40 := tabOk_len ht
  by_cases h2 : n < 2
  ·have hr : measuresS ps = false := by unfold measuresS; rw [ht, decide_eq_false (by omega)]; rfl
   rw [hr]
   clear hE hp hn ht hr h40
   go_enter Tryz.func145, Tryz.ntmps145
   go_wp2_with fail
   refine (C.out _ 0 HE.out HT.out).mono ?_
   rintro e w1 ⟨rfl, hb⟩
   have HE1 := Lib.hid (below_then HE.out hb)
   have q0 := (HK.out.on hb _ (.head _)).cell 0
   simp at q0
   clear hb
   go_wp2
   go_ret
   exact ⟨rfl, HE1.out⟩
  ·obtain ⟨b, o, rfl, hb, hc⟩ := hp.block h40.1
   have hr : measuresS ps = noneNeg ps := by unfold measuresS noneNeg; rw [ht, decide_eq_true (by omega)]; rfl
   rw [hr]
   generalize hrr : noneNeg ps = r
   have HR := Lib.hid hrr
   have HC := Lib.hid hc; have HN := Lib.hid hn
   clear hE hp hn ht hr hrr hc
   go_enter Tryz.func145, Tryz.ntmps145
   go_wp2_with fail
   refine (C.out _ 0 HE.out HT.out).mono ?_
   rintro e w1 ⟨rfl, hb1⟩
   have HE1 := Lib.hid (below_then HE.out hb1)
   have q0 := (HK.out.on hb1 _ (.head _)).cell 0
   simp at q0
   clear hb1
   go_wp2_with fail
   clear q0
   go_loopw [17] (fun i wr => ∃ k : Nat, k ≤ n ∧ i = .int .i64 k ∧ Hid (noneNeg (ps.drop k) = r) ∧ Below w1.heap.size w1 wr) (fun i _ => n - (intOf i).toNat)
   case atStart => exact ⟨0, by omega, rfl, HR, Below.refl _ _⟩
   case round =>
    obtain ⟨k, hk, rfl, HP, hB⟩ := hrel
    by_cases hlt : k < n
    ·obtain ⟨p, hp⟩ : ∃ p, ps[k]? = some p := ⟨_, List.getElem?_eq_getElem (show k < ps.length by rw [← HN.out]; exact hlt)⟩
     have hEk := below_then HE1.out hB
     obtain ⟨c0, c1, c2⟩ := HC.out k p hp
     rw [← hEk.cell (p := ⟨b, o + k * 3, none⟩) hb] at c0
     rw [← hEk.cell (p := ⟨b, o + k * 3 + 1, none⟩) hb] at c1
     rw [← hEk.cell (p := ⟨b, o + k * 3 + 2, none⟩) hb] at c2
     have HS := Lib.hid (noneNeg_at hp)
     obtain ⟨x, lo, hi⟩ := p
     dsimp only at c0 c1 c2
     have HB := Lib.hid (hB.alloc hB.size (.cells #[.int .i64 x, .int .i64 lo, .int .i64 hi] 110))
     clear hp hB hEk
     by_cases h0 : lo < 0
     ·have hf : r = false := by rw [← HP.out, HS.out, decide_eq_false (by dsimp only; omega)]; rfl
      subst hf
      clear HP HS HR
      go_wp2
      go_ret
      exact ⟨rfl, below_then HE1.out HB.out⟩
     ·have HP2 : Hid (noneNeg (ps.drop (k + 1)) = r) := Lib.hid (by rw [← HP.out, HS.out, decide_eq_true (by dsimp only; omega)]; rfl)
      clear HP HS
      go_wp2
      go_roundw
      case rel => exact ⟨k + 1, by omega, by go_num, HP2, HB.out⟩
      case measure => simp [intOf]; omega
    ·have hf : r = true := by rw [← HP.out, List.drop_of_length_le (by have := HN.out; omega)]; rfl
     subst hf
     have HB := Lib.hid hB
     clear HP HR hB
     go_wp2
     go_ret
     exact ⟨rfl, below_then HE1.out HB.out⟩
end

section
open Go.RowKit

theorem between_to (n lo hi : Int) (t : Bool) (w : World) (h : decide (lo ≤ n ∧ n ≤ hi) = t) :
  Calls Tryz.prog 85 #[.int .i64 n, .int .i64 lo, .int .i64 hi] w fun e w' => e = .returned (.bool t) ∧ Below w.heap.size w w' := by
 have hx : (¬ lo ≤ n ∧ t = false) ∨ (lo ≤ n ∧ ¬ n ≤ hi ∧ t = false) ∨ (lo ≤ n ∧ n ≤ hi ∧ t = true) := by
  by_cases h1 : lo ≤ n
  ·by_cases h2 : n ≤ hi
   ·exact .inr (.inr ⟨h1, h2, by rw [← h]; exact decide_eq_true ⟨h1, h2⟩⟩)
   ·exact .inr (.inl ⟨h1, h2, by rw [← h]; exact decide_eq_false (by omega)⟩)
  ·exact .inl ⟨h1, by rw [← h]; exact decide_eq_false (by omega)⟩
 clear h
 rcases hx with ⟨h1, rfl⟩ | ⟨h1, h2, rfl⟩ | ⟨h1, h2, rfl⟩
 all_goals
  go_enter Tryz.func85, Tryz.ntmps85
  go_wp2
  go_ret
  exact ⟨rfl, Below.refl _ _⟩
theorem sFirst_any (b o m c : Nat) (x : Int) (w : World) (hb : b < w.heap.size) (h0 : w.cell? ⟨b, o, none⟩ = some (.int .i64 x)) :
  Calls Tryz.prog 15 #[tv (some ⟨b, o, none⟩) (m + 1) c] w fun e w' => e = .returned (.int .i64 x) ∧ Below w.heap.size w w' := by
 have k2 : (0 : Int) < (m : Int) + 1 := by omega
 have z1 : (w.alloc (.cells #[.slice (some ⟨b, o, none⟩) (m + 1) c] 33)).cell? ⟨b, o, none⟩ = some (.int .i64 x) := by
  rw [World.cell?_alloc_lt _ _ _ hb]; exact h0
 go_enter Tryz.func15, Tryz.ntmps15
 go_wp2
 go_ret
 exact ⟨rfl, (Below.refl _ _).alloc (Nat.le_refl _) _⟩
theorem sLast_any (b o m c : Nat) (x : Int) (w : World) (hm : (m : Int) ≤ 1000000) (hb : b < w.heap.size) (h0 : w.cell? ⟨b, o + m * 3, none⟩ = some (.int .i64 x)) :
  Calls Tryz.prog 16 #[tv (some ⟨b, o, none⟩) (m + 1) c] w fun e w' => e = .returned (.int .i64 x) ∧ Below w.heap.size w w' := by
 have k1 : (0 : Int) ≤ (m : Int) := by omega
 have k2 : (m : Int) < (m : Int) + 1 := by omega
 have k3 : IntKind.i64.wrap ((m : Int) + 1 - 1) = (m : Int) := by rw [IntWalk.i64_in _ ⟨by omega, by omega⟩]; omega
 have z1 : (w.alloc (.cells #[.slice (some ⟨b, o, none⟩) (m + 1) c] 33)).cell? ⟨b, o + m * 3, none⟩ = some (.int .i64 x) := by
  rw [World.cell?_alloc_lt _ _ _ hb]; exact h0
 go_enter Tryz.func16, Tryz.ntmps16
 go_wp2
 go_ret
 exact ⟨rfl, (Below.refl _ _).alloc (Nat.le_refl _) _⟩
theorem sFirst_tab (A : Option Addr) (n c : Nat) (ps : List P3) (w : World) (hp : TabIn w A n ps) (h : tabOk ps = true) :
    Calls Tryz.prog 15 #[tv A n c] w fun e w' => e = .returned (.int .i64 (firstX ps)) ∧ Below w.heap.size w w' := by
  have h1 := tabOk_len h
  obtain ⟨hn, _, hp⟩ := hp
  obtain ⟨b, o, rfl, hb, hc⟩ := hp.block h1.1
  obtain ⟨m, rfl⟩ : ∃ m, n = m + 1 := ⟨n - 1, by omega⟩
  exact sFirst_any b o m c _ w hb (first_at hc (by omega))
theorem sLast_tab (A : Option Addr) (n c : Nat) (ps : List P3) (w : World) (hp : TabIn w A n ps) (h : tabOk ps = true) :
    Calls Tryz.prog 16 #[tv A n c] w fun e w' => e = .returned (.int .i64 (lastX ps)) ∧ Below w.heap.size w w' := by
  have h1 := tabOk_len h
  obtain ⟨hn, _, hp⟩ := hp
  obtain ⟨b, o, rfl, hb, hc⟩ := hp.block h1.1
  obtain ⟨m, rfl⟩ : ∃ m, n = m + 1 := ⟨n - 1, by omega⟩
  exact sLast_any b o m c _ w (by omega) hb (last_at hc (by omega))
end

end Go.Proofs.YtemlaaipnhmcoaaGreat
