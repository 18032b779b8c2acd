/- The contracts of CheckTable, domain, checkPlaces, rise and at of a piece (fix). Their condition: the table's points lie in memory. -/
import Derived.StillTailTactics
import Derived.Test.YtmdilbmgopggaaaGreatQ02
set_option linter.unusedVariables false
set_option linter.unusedSimpArgs false
set_option linter.constructorNameAsVariable false
namespace Go.Proofs.YtmdilbmgopggaaaGreat

section
open Go.RowKit
attribute [local go_sem ↓] eqlRange neqRange
theorem checkTable_any (A : Option Addr) (n c : Nat) (ps : List P3) (w : World) (hn : n = ps.length) (hm : n ≤ maxLen) (hp : Pts w A ps) :
    Calls Tryz.prog 169 #[tv A n c] w fun e w' => e = .returned (.int .i64 (if tabOk ps = true then 0 else 11)) ∧ Below w.heap.size w w' := by
  unfold maxLen at hm
  by_cases h : 1 ≤ n ∧ n ≤ 40
  · have e : tabOk ps = ptsOk (-1) ps := by unfold tabOk; rw [← hn]; simp [h]
    rw [e]
    rcases hp with hp | ⟨b, o, rfl, hb, hc⟩
    · exfalso; rw [hp] at hn; simp at hn; omega
    · exact checkTable_loop b o n c ps w hb hn h.1 h.2 hc
  · have e : tabOk ps = false := by unfold tabOk; rw [← hn]; simp; omega
    rw [e]
    clear e hn hp
    have h2 : (n : Int) < 1 ∨ (¬ (n : Int) < 1 ∧ (40 : Int) < (n : Int)) := by omega
    clear h
    rcases h2 with h2 | ⟨h2, h3⟩
    all_goals
      go_enter Tryz.func169, Tryz.ntmps169
      go_wp2
      go_ret
      exact ⟨rfl, (Below.refl _ _).alloc (Nat.le_refl _) _⟩

set_option maxRecDepth 100000 in
theorem domain_any (b o m c : Nat) (x xl : Int) (w : World) (hm : (m : Int) ≤ 1000000) (hb : b < w.heap.size) (h0 : w.cell? ⟨b, o, none⟩ = some (.int .i64 x)) (hl : w.cell? ⟨b, o + m * 3, none⟩ = some (.int .i64 xl)) :
    Calls Tryz.prog 226 #[tv (some ⟨b, o, none⟩) (m + 1) c] w fun e w' => e = .returned (rv x xl) ∧ Below w.heap.size w w' := by
  have k1 : (0 : Int) ≤ (m : Int) := by omega
  have k2 : (m : Int) < (m : Int) + 1 := by omega
  have k3 : IntKind.i64.wrap ((m : Int) + 1 - 1) = (m : Int) := by rw [IntWalk.i64_in _ ⟨by omega, by omega⟩]; omega
  go_enter Tryz.func226, Tryz.ntmps226
  go_wp2_with fail
  have z0 : ((w.alloc (.cells #[.slice (some ⟨b, o, none⟩) (m + 1) c] 26)).alloc (.cells #[.int .i64 0, .int .i64 0] 23)).cell? ⟨w.heap.size, 0, none⟩ = some (.slice (some ⟨b, o, none⟩) (m + 1) c) := by simp [go_sem]
  have z1 : ((w.alloc (.cells #[.slice (some ⟨b, o, none⟩) (m + 1) c] 26)).alloc (.cells #[.int .i64 0, .int .i64 0] 23)).cell? ⟨b, o, none⟩ = some (.int .i64 x) := by
    rw [World.cell?_alloc_lt _ _ _ (by simp; omega), World.cell?_alloc_lt _ _ _ hb]; exact h0
  have z2 : ((w.alloc (.cells #[.slice (some ⟨b, o, none⟩) (m + 1) c] 26)).alloc (.cells #[.int .i64 0, .int .i64 0] 23)).cell? ⟨b, o + m * 3, none⟩ = some (.int .i64 xl) := by
    rw [World.cell?_alloc_lt _ _ _ (by simp; omega), World.cell?_alloc_lt _ _ _ hb]; exact hl
  go_region
  go_wp2
  refine bodyPost_ret (v := rv x xl) (by simp [results, Tryz.results226, go_sem]) rfl ⟨rfl, ?_⟩
  exact (((Below.refl _ _).alloc (Nat.le_refl _) _).alloc (by simp) _).drew

theorem mul_between2 (m n A B : Int) (hm : -A ≤ m) (hm' : m ≤ A) (hn : -B ≤ n) (hn' : n ≤ B) : -(A * B) ≤ m * n ∧ m * n ≤ A * B := by
  have h0 := absI_le m A hm hm'
  have h1 := absI_le n B hn hn'
  have hA : 0 ≤ A := Int.le_trans (absI_nn m) h0
  have h2 : absI (m * n) ≤ A * B := by
    rw [absI_mul]
    exact Int.mul_le_mul h0 h1 (absI_nn n) hA
  exact of_absI_le h2

/-- rise -/
def riseS (x dx dy : Int) : Int := x * dy / max dx 1
theorem rise_any (x dx dy : Int) (w : World) (hx : -1000000 ≤ x) (hx' : x ≤ 1000000) (hd : dx ≤ 1000000) (hy : -2000000000 ≤ dy) (hy' : dy ≤ 2000000000) :
    Calls Tryz.prog 217 #[.int .i64 x, .int .i64 dx, .int .i64 dy] w fun e w' => e = .returned (.int .i64 (riseS x dx dy)) ∧ w = w' := by
  unfold riseS
  obtain ⟨m1, m2⟩ := mul_between2 x dy 1000000 2000000000 hx hx' hy hy'
  have hm : 1 ≤ max dx 1 := by omega
  rcases Int.lt_or_le dx 1 with h | h
  · have e : max dx 1 = 1 := by omega
    rw [e]
    clear e hm
    go_enter Tryz.func217, Tryz.ntmps217
    go_wp2_with fail
    refine (floor_any _ 1 _ (by omega) (by omega) (by omega)).mono ?_
    rintro e w' ⟨rfl, rfl⟩
    go_wp2
    go_ret
    exact ⟨by simp, rfl⟩
  · have e : max dx 1 = dx := by omega
    rw [e]
    clear e hm
    go_enter Tryz.func217, Tryz.ntmps217
    go_wp2_with fail
    all_goals
      refine (floor_any _ _ _ (by omega) (by omega) (by omega)).mono ?_
      rintro e w' ⟨rfl, rfl⟩
      go_wp2
      go_ret
      exact ⟨by first | rfl | (congr 3; omega), rfl⟩
theorem riseS_bounds (x dx dy : Int) (hx : -1000000 ≤ x) (hx' : x ≤ 1000000) (hy : -2000000000 ≤ dy) (hy' : dy ≤ 2000000000) : -2000000000000000 ≤ riseS x dx dy ∧ riseS x dx dy ≤ 2000000000000000 := by
  obtain ⟨m1, m2⟩ := mul_between2 x dy 1000000 2000000000 hx hx' hy hy'
  exact ediv_between _ _ 2000000000000000 (by omega) (by omega) (by omega) (by omega)
end

end Go.Proofs.YtmdilbmgopggaaaGreat
