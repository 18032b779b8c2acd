/- The contract of Inverse (the specification of layer 2) over a valid table whose volumes fall or rise. Its condition: the table lies in memory. -/
import Derived.Test.YtbcefdaflnlhoaaGreatQ27
import Derived.Test.YtbcefdaflnlhoaaGreatQ25
set_option linter.unusedVariables false
set_option linter.unusedSimpArgs false
set_option linter.constructorNameAsVariable false
namespace Go.Proofs.YtbcefdaflnlhoaaGreat

section
open Go.RowKit

/-- A hold's volumes fall. -/
theorem hold_falls {h : HoldD} (e : holdS h = true) : fallsS h.vol = true ∧ 2 ≤ h.vol.length := by
  unfold holdS amtRest ctRest at e
  simp only [Bool.and_eq_true] at e
  obtain ⟨_, _, _, _, _, hm, _, _, hf, _⟩ := e
  refine ⟨hf, ?_⟩
  unfold measuresS at hm
  simp only [Bool.and_eq_true, decide_eq_true_eq] at hm
  exact hm.1.2
/-- What lies ahead lies ahead, what lies behind lies behind. -/
def Turns (ps : List P3) (x y : Int) (fl : Bool) : Prop := (∀ u v, firstX ps ≤ u → u ≤ v → v ≤ lastX ps → besideS ps x y fl v = true → besideS ps x y fl u = true) ∧ (∀ u v, firstX ps ≤ u → u ≤ v → v ≤ lastX ps → besideS ps x y (!fl) u = true → besideS ps x y (!fl) v = true)
theorem turns_falls {ps : List P3} {x y : Int} (ht : tabOk ps = true) (h2 : 2 ≤ ps.length) (hf : fallsS ps = true) : Turns ps x y true := by
  refine ⟨fun u v a b c h => ?_, fun u v a b c h => ?_⟩
  · have q := at_falls ht h2 hf a b c
    simp only [besideS, moreF, if_true, decide_eq_true_eq] at h ⊢
    omega
  · have q := at_falls ht h2 hf a b c
    simp only [besideS, lessF, Bool.not_true, Bool.false_eq_true, if_false, decide_eq_true_eq] at h ⊢
    omega
/-- the result of Inverse -/
def invV (R : Int × Int × Int) : Value := .tuple #[rv R.1 R.2.1, .bool (decide (R.2.2 = 0))]
theorem sInverse_tab (A : Option Addr) (n c : Nat) (ps : List P3) (x y : Int) (fl : Bool) (w : World) (hp : TabIn w A n ps) (ht : tabOk ps = true) (hle : firstX ps ≤ lastX ps) (hT : Turns ps x y fl) :
    Calls Tryz.prog 46 #[tv A n c, rv x y, .bool fl] w fun e w' => e = .returned (invV (invS (besideS ps x y fl) (besideS ps x y (!fl)) (firstX ps) (lastX ps))) ∧ Below w.heap.size w w' := by
  obtain ⟨pl1, pl2⟩ := places_in ht
  obtain ⟨a, b, e, ha, hf1, hf2, hb, hg1, hg2⟩ := inv_facts hle hT.1 hT.2
  rw [e]
  have CF : Hid (∀ W z t, Below w.heap.size w W → firstX ps ≤ z → z ≤ lastX ps → besideS ps x y fl z = t → Calls Tryz.prog 102 #[tv A n c, rv x y, .int .i64 z, .bool fl] W fun e w' => e = .returned (.bool t) ∧ Below W.heap.size W w') := Lib.hid fun W z t hW q1 q2 q3 => sbeside_tab A n c ps x y z fl t W (hp.below hW) ht q1 q2 q3
  have CG : Hid (∀ W z t, Below w.heap.size w W → firstX ps ≤ z → z ≤ lastX ps → besideS ps x y (!fl) z = t → Calls Tryz.prog 102 #[tv A n c, rv x y, .int .i64 z, .bool (!fl)] W fun e w' => e = .returned (.bool t) ∧ Below W.heap.size W w') := Lib.hid fun W z t hW q1 q2 q3 => sbeside_tab A n c ps x y z (!fl) t W (hp.below hW) ht q1 q2 q3
  have P1 : Hid (∀ W, Below w.heap.size w W → Calls Tryz.prog 101 #[tv A n c] W fun e w' => e = .returned (.int .i64 (firstX ps)) ∧ Below W.heap.size W w') := Lib.hid fun W hW => sFirst_tab A n c ps W (hp.below hW) ht
  have P2 : Hid (∀ W, Below w.heap.size w W → Calls Tryz.prog 60 #[tv A n c] W fun e w' => e = .returned (.int .i64 (lastX ps)) ∧ Below W.heap.size W w') := Lib.hid fun W hW => sLast_tab A n c ps W (hp.below hW) ht
  by_cases h : lastX ps < a
  · rw [if_pos (.inl h)]
    exact sInverse_ahead A n c x y _ _ a b fl _ _ w CF CG P1 P2 pl1 hle pl2 ha hb hf1 hf2 hg1 hg2 h
  by_cases h' : b = firstX ps
  · rw [if_pos (.inr h')]
    exact sInverse_behind A n c x y _ _ a b fl _ _ w CF CG P1 P2 pl1 hle pl2 ha hb hf1 hf2 hg1 hg2 h h'
  rw [if_neg (by omega)]
  by_cases j : firstX ps < a <;> by_cases j' : b ≤ lastX ps
  · rw [show max (a - 1) (firstX ps) = a - 1 by omega, show min b (lastX ps) = b by omega]
    exact sInverse_both A n c x y _ _ a b fl _ _ w CF CG P1 P2 pl1 hle pl2 ha hb hf1 hf2 hg1 hg2 h h' j j'
  · rw [show max (a - 1) (firstX ps) = a - 1 by omega, show min b (lastX ps) = lastX ps by omega]
    exact sInverse_left A n c x y _ _ a b fl _ _ w CF CG P1 P2 pl1 hle pl2 ha hb hf1 hf2 hg1 hg2 h h' j j'
  · rw [show max (a - 1) (firstX ps) = firstX ps by omega, show min b (lastX ps) = b by omega]
    exact sInverse_right A n c x y _ _ a b fl _ _ w CF CG P1 P2 pl1 hle pl2 ha hb hf1 hf2 hg1 hg2 h h' j j'
  · rw [show max (a - 1) (firstX ps) = firstX ps by omega, show min b (lastX ps) = lastX ps by omega]
    exact sInverse_none A n c x y _ _ a b fl _ _ w CF CG P1 P2 pl1 hle pl2 ha hb hf1 hf2 hg1 hg2 h h' j j'
end

end Go.Proofs.YtbcefdaflnlhoaaGreat
