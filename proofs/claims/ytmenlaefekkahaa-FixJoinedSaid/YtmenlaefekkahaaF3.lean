/- The contracts of SameRanges and Same (the specification) where both are the same. Their conditions: both lie in memory. -/
import Derived.Test.YtmenlaefekkahaaF2
set_option linter.unusedVariables false
set_option linter.unusedSimpArgs false
set_option linter.constructorNameAsVariable false
namespace Go.Proofs.Ytmenlaefekkahaa
open Go.RowKit
attribute [local go_sem ↓] eqlRange neqRange

theorem below_drewM {B : Nat} {a w : World} (h : Below B a w) (n : Nat) : Below B a (w.drewN n) := h.trans ⟨rfl, rfl, rfl, Nat.le_refl _, fun _ _ => rfl⟩
/-- Runs in memory. -/
def RunsMem (w : World) (b o : Nat) (L : List (Int × Int)) : Prop := ∀ k r, L[k]? = some r → w.cell? ⟨b, o + k * 2, none⟩ = some (.int .i64 r.1) ∧ w.cell? ⟨b, o + k * 2 + 1, none⟩ = some (.int .i64 r.2)
theorem RunsMem.keep {w w' : World} {b o : Nat} {L : List (Int × Int)} (h : RunsMem w b o L) (hk : ∀ i, w'.cell? ⟨b, i, none⟩ = w.cell? ⟨b, i, none⟩) : RunsMem w' b o L := fun k p hp => by
  rw [hk, hk]; exact h k p hp
theorem RunsMem.below {w w' : World} {b o : Nat} {L : List (Int × Int)} (h : RunsMem w b o L) (hB : Below w.heap.size w w') (hb : b < w.heap.size) : RunsMem w' b o L := h.keep fun i => (bcell hB).1 b i hb

set_option maxRecDepth 100000 in
set_option maxHeartbeats 1000000 in
theorem sameRanges_yes (b o b' o' n c c' : Nat) (L : List (Int × Int)) (w : World) (hn : n = L.length) (hm : n ≤ maxLen) (hb : b < w.heap.size) (hb' : b' < w.heap.size) (h : RunsMem w b o L) (h' : RunsMem w b' o' L) :
    Calls Try.prog 56 #[.slice (some ⟨b, o, none⟩) n c, .slice (some ⟨b', o', none⟩) n c'] w fun e w' => e = .returned (.bool true) ∧ Below w.heap.size w w' := by
  unfold maxLen at hm
  have HN := Lib.hid hn; clear hn
  have HC := Lib.hid h; have HC' := Lib.hid h'; clear h h'
  go_enter Try.func56, Try.ntmps56
  go_wp2_with fail
  go_loopw [13] (fun i wr => ∃ k : Nat, k ≤ n ∧ i = .int .i64 k ∧ Below w.heap.size w wr) (fun i _ => n - (intOf i).toNat)
  case atStart => exact ⟨0, by omega, rfl, Below.refl _ _⟩
  case round =>
    obtain ⟨k, hk, rfl, hB⟩ := hrel
    by_cases hlt : k < n
    · have hp : ∃ p, L[k]? = some p := ⟨_, List.getElem?_eq_getElem (show k < L.length by rw [← HN.out]; exact hlt)⟩
      obtain ⟨⟨x, y⟩, hp⟩ := hp
      obtain ⟨c0, c1⟩ := HC.out k _ hp
      obtain ⟨d0, d1⟩ := HC'.out k _ hp
      rw [← hB.cell (p := ⟨b, o + k * 2, none⟩) hb] at c0
      rw [← hB.cell (p := ⟨b, o + k * 2 + 1, none⟩) hb] at c1
      rw [← hB.cell (p := ⟨b', o' + k * 2, none⟩) hb'] at d0
      rw [← hB.cell (p := ⟨b', o' + k * 2 + 1, none⟩) hb'] at d1
      clear hp
      dsimp only at c0 c1 d0 d1
      go_wp2_with fail
      go_quiet (fail)
      go_wp2
      go_roundw
      case rel => exact ⟨k + 1, by omega, by go_num, below_drewM hB _⟩
      case measure => simp [intOf]; omega
    · go_wp2
      go_ret
      exact ⟨rfl, hB⟩
theorem eqPoint (a b c a' b' c' : Int) (w : World) : (Op.equalIn 10000 87 (.agg #[.int .i64 a, .int .i64 b, .int .i64 c]) (.agg #[.int .i64 a', .int .i64 b', .int .i64 c'])).run Try.prog w = .ok (a == a' && b == b' && c == c') w := by
  have u3 := Try.underlying3
  have hS : Try.prog.underlying 87 = some (.struct (Try.prog.fieldsOf 87)) := by kernel_rfl
  have hp : Try.prog.stoodInHeld 87 = false := by kernel_rfl
  rw [show (10000 : Nat) = 9999 + 1 from rfl, run_equalIn_agg w 9999 87 _ _ hS hp]
  simp only [Program.fieldsOf, Try.underlying87]
  go_simp
  by_cases h1 : a = a' <;> by_cases h2 : b = b' <;> by_cases h3 : c = c' <;> simp [h1, h2, h3]
@[go_sem] theorem eqGuardPoint (op : BinOp) (x y : Operand) (xs ys : Array Value) (w : World) : (eqGuard op 87 x y (.agg xs) (.agg ys)).run Try.prog w = .ok () w :=
  run_eqGuard_agg w op 87 x y xs ys (by kernel_rfl)
theorem neqPoint (a b c a' b' c' : Int) (w : World) : (binOp .neq 87 (.agg #[.int .i64 a, .int .i64 b, .int .i64 c]) (.agg #[.int .i64 a', .int .i64 b', .int .i64 c'])).run Try.prog w = .ok (.bool (!(a == a' && b == b' && c == c'))) w := by
  rw [run_neq_struct, eqPoint]; rfl
attribute [local go_sem ↓] neqPoint

set_option maxRecDepth 100000 in
set_option maxHeartbeats 1000000 in
theorem same_yes (b o b' o' n c c' : Nat) (L : List P3) (w : World) (hn : n = L.length) (hm : n ≤ maxLen) (hb : b < w.heap.size) (hb' : b' < w.heap.size) (h : PtsAt w b o L) (h' : PtsAt w b' o' L) :
    Calls Try.prog 39 #[tv (some ⟨b, o, none⟩) n c, tv (some ⟨b', o', none⟩) n c'] w fun e w' => e = .returned (.bool true) ∧ Below w.heap.size w w' := by
  unfold maxLen at hm
  have HN := Lib.hid hn; clear hn
  have HC := Lib.hid h; have HC' := Lib.hid h'; clear h h'
  go_enter Try.func39, Try.ntmps39
  go_wp2_with fail
  have bX := (Blk.new w 43 #[.slice (some ⟨b, o, none⟩) n c]).alloc (.cells #[.slice (some ⟨b', o', none⟩) n c'] 43)
  have bY := Blk.new (w.alloc (.cells #[.slice (some ⟨b, o, none⟩) n c] 43)) 43 #[.slice (some ⟨b', o', none⟩) n c']
  have hE : Below w.heap.size w ((w.alloc (.cells #[.slice (some ⟨b, o, none⟩) n c] 43)).alloc (.cells #[.slice (some ⟨b', o', none⟩) n c'] 43)) := below_a2 (Below.refl _ _)
  simp only [World.size_alloc] at bY
  have q1 := HC.out.below hE hb
  have q2 := HC'.out.below hE hb'
  obtain ⟨W0, hW0⟩ : ∃ W0, ((w.alloc (.cells #[.slice (some ⟨b, o, none⟩) n c] 43)).alloc (.cells #[.slice (some ⟨b', o', none⟩) n c'] 43)) = W0 := ⟨_, rfl⟩
  rw [hW0] at bX bY hE q1 q2 ⊢
  clear hW0
  have v0 := bX.cell 0
  have v1 := bY.cell 0
  have l0 := bX.lt
  have l1 := bY.lt
  simp at v0 v1
  have hbW : b < W0.heap.size := by omega
  have hbW' : b' < W0.heap.size := by omega
  have Q1 := Lib.hid q1; have Q2 := Lib.hid q2; have HE := Lib.hid hE
  clear HC HC' q1 q2 hE bX bY
  go_loopw [16] (fun i wr => ∃ k : Nat, k ≤ n ∧ i = .int .i64 k ∧ Below W0.heap.size W0 wr) (fun i _ => n - (intOf i).toNat)
  case atStart => exact ⟨0, by omega, rfl, Below.refl _ _⟩
  case round =>
    obtain ⟨k, hk, rfl, hB⟩ := hrel
    by_cases hlt : k < n
    · have hp : ∃ p, L[k]? = some p := ⟨_, List.getElem?_eq_getElem (show k < L.length by rw [← HN.out]; exact hlt)⟩
      obtain ⟨⟨x, y, z⟩, hp⟩ := hp
      obtain ⟨c0, c1, c2⟩ := Q1.out k _ hp
      obtain ⟨d0, d1, d2⟩ := Q2.out k _ hp
      rw [← hB.cell (p := ⟨b, o + k * 3, none⟩) hbW] at c0
      rw [← hB.cell (p := ⟨b, o + k * 3 + 1, none⟩) hbW] at c1
      rw [← hB.cell (p := ⟨b, o + k * 3 + 2, none⟩) hbW] at c2
      rw [← hB.cell (p := ⟨b', o' + k * 3, none⟩) hbW'] at d0
      rw [← hB.cell (p := ⟨b', o' + k * 3 + 2, none⟩) hbW'] at d2
      rw [← hB.cell (p := ⟨b', o' + k * 3 + 1, none⟩) hbW'] at d1
      rw [← hB.cell (p := ⟨w.heap.size, 0, none⟩) l0] at v0
      rw [← hB.cell (p := ⟨w.heap.size + 1, 0, none⟩) l1] at v1
      clear hp
      dsimp only at c0 c1 c2 d0 d1 d2
      go_wp2_with fail
      go_quiet (fail)
      go_wp2
      go_roundw
      case rel => exact ⟨k + 1, by omega, by go_num, below_drewM hB _⟩
      case measure => simp [intOf]; omega
    · go_wp2
      go_ret
      exact ⟨rfl, below_then HE.out hB⟩
end Go.Proofs.Ytmenlaefekkahaa
