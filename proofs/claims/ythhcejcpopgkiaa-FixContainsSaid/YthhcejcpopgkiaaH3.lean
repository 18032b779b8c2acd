/- The contract of Plus (fix), where both tables are valid, have 2 points or more and places in common, and no number is too great. -/
import Derived.Test.YthhcejcpopgkiaaH2
set_option linter.unusedVariables false
set_option linter.unusedSimpArgs false
set_option linter.constructorNameAsVariable false
namespace Go.Proofs.Ythhcejcpopgkiaa
open Go.RowKit

set_option maxRecDepth 100000 in
set_option maxHeartbeats 2000000 in
theorem plus_good (b o n c b' o' n' c' : Nat) (ps qs : List P3) (LO HI : Int) (L : List Int) (w : World)
    (hn : n = ps.length) (h2 : 2 ≤ n) (ht : tabOk ps = true) (hn' : n' = qs.length) (h2' : 2 ≤ n') (ht' : tabOk qs = true)
    (hb : b < w.heap.size) (hb' : b' < w.heap.size) (hc : PtsAt w b o ps) (hc' : PtsAt w b' o' qs)
    (hLO : max (firstX ps) (firstX qs) = LO) (hHI : min (lastX ps) (lastX qs) = HI) (hov : LO ≤ HI)
    (hL : L.Pairwise (· < ·)) (hm : ∀ x, x ∈ L ↔ x ∈ cornersS ps LO HI ++ cornersS qs LO HI) (h40 : L.length ≤ 40)
    (hok : ∀ x ∈ L, (plusAt ps qs x).2.2 = 0 ∧ inB (plusAt ps qs x).1 (plusAt ps qs x).2.1 (-1000000000) 1000000000 = true) :
    Calls Try.prog 57 #[tv (some ⟨b, o, none⟩) n c, tv (some ⟨b', o', none⟩) n' c'] w (GivesTab0 w (built (plusAt ps qs) L)) := by
  have hE : Below w.heap.size w (((w.alloc (.cells #[.slice (some ⟨b, o, none⟩) n c] 43)).alloc (.cells #[.slice (some ⟨b', o', none⟩) n' c'] 43)).alloc (.cells #[.slice none 0 0] 43)) := below_a3 (Below.refl _ _)
  have hT := Blk.new ((w.alloc (.cells #[.slice (some ⟨b, o, none⟩) n c] 43)).alloc (.cells #[.slice (some ⟨b', o', none⟩) n' c'] 43)) 43 #[.slice none 0 0]
  simp only [World.size_alloc] at hT
  have hC : Hid (∀ W, Below w.heap.size w W → Calls Try.prog 115 #[tv (some ⟨b, o, none⟩) n c, tv (some ⟨b', o', none⟩) n' c', addFn] W (GivesTab0 W (built (plusAt ps qs) L))) :=
    Lib.hid fun W hW => combine_plus b o n c b' o' n' c' ps qs LO HI L W hn h2 ht hn' h2' ht' (Nat.lt_of_lt_of_le hb hW.size) (Nat.lt_of_lt_of_le hb' hW.size) (hc.below hW hb) (hc'.below hW hb') hLO hHI hov hL hm h40 hok
  have HT := Lib.hid hT; have HE := Lib.hid hE
  clear hn hn' ht ht' hc hc' hLO hHI hov hL hm h40 hok hT hE
  go_enter Try.func57, Try.ntmps57
  go_wp2_with fail
  refine (hC.out _ HE.out).mono ?_
  rintro e w1 ⟨v, rfl, ho, hb1⟩
  obtain ⟨sp, sn, sc, rfl⟩ := ho.slice
  have hT1 := blkOn HT.out hb1
  have r0 := hT1.cell 0
  have f0 := hT1.frozen 0
  have lT := hT1.lt
  simp at r0
  have HO := Lib.hid ho; have HE1 := Lib.hid (below_then HE.out hb1)
  have HLe := Lib.hid HE.out.size
  have lT0 := HT.out.lt
  clear ho hb1 hT1
  go_wp2
  have hB5 := HE1.out.setCell (p := ⟨w.heap.size + 1 + 1, 0, none⟩) (by show w.heap.size ≤ w.heap.size + 1 + 1; omega) (.slice sp sn sc)
  refine bodyPost_ret (v := .tuple #[.agg #[.slice sp sn sc], .int .i64 0]) (by simp [results, Try.results57, go_sem, r0, lT]) rfl ⟨_, rfl, ?_, hB5⟩
  refine World.ownsRow.kept (World.ownsRow.mono (show w1.ownsRow _ 87 3 _ _ _ from HO.out) HLe.out) (grownBy_setCell' w1 _ _) (.inr ?_)
  intro e
  have := (World.ownsRow.lt (show w1.ownsRow _ 87 3 _ _ _ from HO.out) _ e).1
  omega
end Go.Proofs.Ythhcejcpopgkiaa
