/- The contracts of falls and rises (the specification of layer 2). Their condition: the table is valid and lies in memory. -/
import Derived.Deep.QuietTactic
import Derived.BigQuiet
import Derived.Test.YtmdilbmgopggaaaGreatQ18
import Derived.Test.YtmdilbmgopggaaaGreatQ17
set_option linter.unusedVariables false
set_option linter.unusedSimpArgs false
set_option linter.constructorNameAsVariable false
namespace Go.Proofs.YtmdilbmgopggaaaGreat

section
open Go.RowKit

set_option maxRecDepth 100000 in
set_option maxHeartbeats 8000000 in
theorem sfalls_any (A : Option Addr) (n c : Nat) (ps : List P3) (w : World) (hp : TabIn w A n ps) (ht : tabOk ps = true) :
    Calls Tryz.prog 102 #[tv A n c] w fun e w' => e = .returned (.bool (fallsS ps)) ∧ Below w.heap.size w w' := by
  obtain ⟨hn, hm, hp⟩ := hp
  have h40 := tabOk_len ht
  obtain ⟨b, o, rfl, hb, hc⟩ := hp.block h40.1
  generalize hrr : fallsS ps = r
  have HR : Hid (fallsS (ps.drop 0) = r) := Lib.hid hrr
  have HE := Lib.hid (below_alloc1 w (.cells #[.slice (some ⟨b, o, none⟩) n c] 26)); have HK := Lib.hid (boxes1' w 26 #[.slice (some ⟨b, o, none⟩) n c])
  have HC := Lib.hid hc; have HN := Lib.hid hn
  have hn1 : 1 ≤ n := by omega
  have hn40 : n ≤ 40 := by omega
  clear hc hn hp ht h40 hm hrr
  go_enter Tryz.func102, Tryz.ntmps102
  go_wp2_with fail
  obtain ⟨W0, hW0⟩ : ∃ W0, w.alloc (.cells #[.slice (some ⟨b, o, none⟩) n c] 26) = W0 := ⟨_, rfl⟩
  rw [hW0] at HE HK ⊢
  clear hW0
  obtain ⟨G, hG⟩ : ∃ G, w.heap.size = G := ⟨_, rfl⟩
  rw [hG] at HK ⊢
  have HG := Lib.hid hG; clear hG
  go_loopw [3] (fun i wr => ∃ k : Nat, k + 1 ≤ n ∧ i = .int .i64 ((k : Int) + 1) ∧ Hid (fallsS (ps.drop k) = r) ∧ Below W0.heap.size W0 wr) (fun i _ => n - (intOf i).toNat)
  case atStart => exact ⟨0, by omega, rfl, HR, Below.refl _ _⟩
  case round =>
    obtain ⟨k, hk, rfl, HP, hB⟩ := hrel
    have q0 := (HK.out.on hB _ (.head _)).cell 0
    simp at q0
    by_cases hlt : k + 1 < n
    · obtain ⟨p, hp⟩ : ∃ p, ps[k]? = some p := ⟨_, List.getElem?_eq_getElem (show k < ps.length by rw [← HN.out]; omega)⟩
      obtain ⟨q, hq⟩ : ∃ q, ps[k + 1]? = some q := ⟨_, List.getElem?_eq_getElem (show k + 1 < ps.length by rw [← HN.out]; omega)⟩
      have hEk := below_then HE.out hB
      obtain ⟨c0, c1, c2⟩ := HC.out k p hp
      rw [← hEk.cell (p := ⟨b, o + k * 3 + 1, none⟩) hb] at c1
      rw [← hEk.cell (p := ⟨b, o + k * 3 + 2, none⟩) hb] at c2
      obtain ⟨d0, d1, d2⟩ := HC.out (k + 1) q hq
      rw [← hEk.cell (p := ⟨b, o + (k + 1) * 3 + 1, none⟩) hb] at d1
      rw [← hEk.cell (p := ⟨b, o + (k + 1) * 3 + 2, none⟩) hb] at d2
      have HS := Lib.hid (falls_at hp hq)
      obtain ⟨x, lo, hi⟩ := p
      obtain ⟨y, mo, hj⟩ := q
      dsimp only at c1 c2 d1 d2
      have HB := Lib.hid hB
      clear hp hq hB hEk c0 d0
      have k3 : IntKind.i64.wrap ((k : Int) + 1 - 1) = (k : Int) := by rw [IntWalk.i64_in _ ⟨by omega, by omega⟩]; omega
      have k4 : (0 : Int) ≤ (k : Int) + 1 := by omega
      have k5 : ((k : Int) + 1).toNat = k + 1 := by omega
      have k6 : (k : Int) + 1 < (n : Int) := by omega
      have k7 : (k : Int) < (n : Int) := by omega
      by_cases h1 : lo < mo
      · have hf : r = false := by rw [← HP.out, HS.out, decide_eq_false (by dsimp only; omega)]; rfl
        subst hf
        clear HP HS HR
        have b1 : decide (lo < mo) = true := decide_eq_true h1
        go_wp2_with fail
        go_quiet (fail)
        go_wp2
        go_ret
        exact ⟨rfl, below_then HE.out (below_drewM HB.out _)⟩
      · have b1 : decide (lo < mo) = false := decide_eq_false h1
        by_cases h2 : hi < hj
        · have hf : r = false := by rw [← HP.out, HS.out, decide_eq_true (by dsimp only; omega), decide_eq_false (by dsimp only; omega)]; rfl
          subst hf
          clear HP HS HR
          have b2 : decide (hi < hj) = true := decide_eq_true h2
          go_wp2_with fail
          go_quiet (fail)
          go_wp2
          go_ret
          exact ⟨rfl, below_then HE.out (below_drewM HB.out _)⟩
        · have b2 : decide (hi < hj) = false := decide_eq_false h2
          have HP2 : Hid (fallsS (ps.drop (k + 1)) = r) := Lib.hid (by rw [← HP.out, HS.out, decide_eq_true (by dsimp only; omega), decide_eq_true (by dsimp only; omega)]; rfl)
          clear HP HS
          go_wp2_with fail
          go_quiet (fail)
          go_wp2
          go_roundw
          case rel => exact ⟨k + 1, by omega, by go_num, HP2, below_drewM HB.out _⟩
          case measure => simp [intOf]; omega
    · have hf : r = true := by rw [← HP.out, falls_end (by rw [← HN.out]; omega)]
      subst hf
      have HF := Lib.hid (below_then HE.out hB)
      have k6 : ¬ (k : Int) + 1 < (n : Int) := by omega
      clear HP HR hB
      go_wp2
      go_ret
      exact ⟨rfl, HF.out⟩
end

end Go.Proofs.YtmdilbmgopggaaaGreat
