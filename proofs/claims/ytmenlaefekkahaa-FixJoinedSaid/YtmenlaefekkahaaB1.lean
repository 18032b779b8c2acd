/- The contract of CheckTable (fix). Its condition: the table's points lie in memory. -/
import Derived.Test.YtmenlaefekkahaaA6
set_option linter.unusedVariables false
set_option linter.unusedSimpArgs false
set_option linter.constructorNameAsVariable false
namespace Go.Proofs.Ytmenlaefekkahaa
open Go.RowKit
attribute [local go_sem ↓] eqlRange neqRange

abbrev P3 := Int × Int × Int
/-- The points of a table lie in memory. -/
def Pts (w : World) (A : Option Addr) (ps : List P3) : Prop :=
  ps = [] ∨ ∃ b o, A = some ⟨b, o, none⟩ ∧ b < w.heap.size ∧ ∀ k p, ps[k]? = some p →
    w.cell? ⟨b, o + k * 3, none⟩ = some (.int .i64 p.1) ∧ w.cell? ⟨b, o + k * 3 + 1, none⟩ = some (.int .i64 p.2.1) ∧ w.cell? ⟨b, o + k * 3 + 2, none⟩ = some (.int .i64 p.2.2)
theorem Pts.keep {w w' : World} {A : Option Addr} {ps : List P3} (h : Pts w A ps) (hs : w.heap.size ≤ w'.heap.size) (hk : ∀ b o, b < w.heap.size → w'.cell? ⟨b, o, none⟩ = w.cell? ⟨b, o, none⟩) : Pts w' A ps := by
  rcases h with h | ⟨b, o, hA, hb, hc⟩
  · exact .inl h
  · refine .inr ⟨b, o, hA, by omega, fun k p hp => ?_⟩
    rw [hk _ _ hb, hk _ _ hb, hk _ _ hb]
    exact hc k p hp
theorem Pts.below {w w' : World} {A : Option Addr} {ps : List P3} (h : Pts w A ps) (hb : Below w.heap.size w w') : Pts w' A ps := h.keep hb.size (bcell hb).1

def ptOk (last : Int) (p : P3) : Bool := decide (last < p.1) && (decide (p.1 ≤ 1000000) && inB p.2.1 p.2.2 (-1000000000) 1000000000)
def ptsOk : Int → List P3 → Bool
  | _, [] => true
  | last, p :: ps => ptOk last p && ptsOk p.1 ps
def tabOk (ps : List P3) : Bool := decide (1 ≤ ps.length ∧ ps.length ≤ 40) && ptsOk (-1) ps
/-- a table as a value -/
abbrev tv (A : Option Addr) (n c : Nat) : Value := .agg #[.slice A n c]

theorem bounds_any (x lo hi : Int) (w : World) :
    Calls Try.prog 97 #[.agg #[.int .i64 x, .int .i64 lo, .int .i64 hi]] w fun e w' => e = .returned (rv lo hi) ∧ Below w.heap.size w w' := by
  go_enter Try.func97, Try.ntmps97
  go_wp2
  refine bodyPost_ret (v := rv lo hi) (by simp [results, Try.results97, go_sem]) rfl ⟨rfl, ?_⟩
  exact ((Below.refl _ _).alloc (Nat.le_refl _) _).alloc (by simp) _

theorem ptsOk_at {last : Int} {ps : List P3} {k : Nat} {p : P3} (h : ps[k]? = some p) : ptsOk last (ps.drop k) = (ptOk last p && ptsOk p.1 (ps.drop (k + 1))) := by
  have hk : k < ps.length := (List.getElem?_eq_some_iff.1 h).1
  have e : ps.drop k = p :: ps.drop (k + 1) := by
    rw [List.drop_eq_getElem_cons hk]
    rw [List.getElem?_eq_getElem hk] at h
    injection h with h
    rw [h]
  rw [e]; rfl

theorem checkTable_loop (b o n c : Nat) (ps : List P3) (w : World) (hb : b < w.heap.size) (hn : n = ps.length) (h1 : 1 ≤ n) (h2 : n ≤ 40)
    (hc : ∀ k p, ps[k]? = some p → w.cell? ⟨b, o + k * 3, none⟩ = some (.int .i64 p.1) ∧ w.cell? ⟨b, o + k * 3 + 1, none⟩ = some (.int .i64 p.2.1) ∧ w.cell? ⟨b, o + k * 3 + 2, none⟩ = some (.int .i64 p.2.2)) :
    Calls Try.prog 40 #[tv (some ⟨b, o, none⟩) n c] w fun e w' => e = .returned (.int .i64 (if ptsOk (-1) ps = true then 0 else 11)) ∧ Below w.heap.size w w' := by
  have HN := Lib.hid hn; clear hn
  have HC := Lib.hid hc; clear hc
  have t1 : ¬ (n : Int) < 1 := by omega
  have t2 : ¬ (40 : Int) < (n : Int) := by omega
  generalize hr : ptsOk (-1) ps = r
  have HR := Lib.hid hr; clear hr
  go_enter Try.func40, Try.ntmps40
  go_wp2_with fail
  go_loopw [3, 19] (fun l i wr => ∃ (k : Nat) (last : Int), k ≤ n ∧ i = .int .i64 k ∧ l = .int .i64 last ∧ Below w.heap.size w wr ∧ Hid (ptsOk last (ps.drop k) = r)) (fun _ i _ => n - (intOf i).toNat)
  case atStart => exact ⟨0, -1, by omega, rfl, rfl, (Below.refl _ _).alloc (Nat.le_refl _) _, HR.out⟩
  case round =>
    obtain ⟨k, last, hk, rfl, rfl, hB, HP⟩ := hrel
    by_cases hlt : k < n
    · have hp : ∃ p, ps[k]? = some p := ⟨_, List.getElem?_eq_getElem (show k < ps.length by rw [← HN.out]; exact hlt)⟩
      obtain ⟨p, hp⟩ := hp
      obtain ⟨c0, c1, c2⟩ := HC.out k p hp
      rw [← hB.cell (p := ⟨b, o + k * 3, none⟩) hb] at c0
      rw [← hB.cell (p := ⟨b, o + k * 3 + 1, none⟩) hb] at c1
      rw [← hB.cell (p := ⟨b, o + k * 3 + 2, none⟩) hb] at c2
      have HA := Lib.hid (ptsOk_at (last := last) hp); clear hp
      obtain ⟨x, lo, hi⟩ := p
      dsimp only at c0 c1 c2
      by_cases hx1 : last < x
      · by_cases hx2 : x ≤ 1000000
        · have hin := fun W => within_any lo hi (-1000000000) 1000000000 W
          cases hq : inB lo hi (-1000000000) 1000000000
          · have hf : r = false := by
              have h1 := HP.out; have h2 := HA.out
              rw [← h1, h2]; simp [ptOk, hq]
            rw [hq] at hin
            have HIN := Lib.hid hin; clear hin hq HP HA HR
            subst hf
            go_wp2_with fail
            refine (bounds_any _ _ _ _).mono ?_
            rintro e w1 ⟨rfl, hb1⟩
            go_wp2_with fail
            refine (around_any 1000000000 _ (by omega) (by omega)).mono ?_
            rintro e w2 ⟨rfl, hb2⟩
            go_wp2_with fail
            refine (HIN.out _).mono ?_
            rintro e w3 ⟨rfl, hb3⟩
            go_wp2
            go_ret
            exact ⟨rfl, hB.trans ((below_a1 (below_then (below_then hb1 hb2) hb3)).mono hB.size)⟩
          · have hP : ptsOk x (ps.drop (k + 1)) = r := by
              have h1 := HP.out; have h2 := HA.out
              rw [← h1, h2]; simp [ptOk, hq, hx1, hx2]
            rw [hq] at hin
            have HIN := Lib.hid hin; clear hin hq HP HA HR
            have HP := Lib.hid hP; clear hP
            go_wp2_with fail
            refine (bounds_any _ _ _ _).mono ?_
            rintro e w1 ⟨rfl, hb1⟩
            obtain ⟨hc1, hf1⟩ := bcell hb1
            have hz1 : wr.heap.size < w1.heap.size := by have := hb1.size; simp at this; omega
            go_wp2_with fail
            refine (around_any 1000000000 _ (by omega) (by omega)).mono ?_
            rintro e w2 ⟨rfl, hb2⟩
            obtain ⟨hc2, hf2⟩ := bcell hb2
            have hz2 : wr.heap.size < w2.heap.size := by have := hb2.size; omega
            go_wp2_with fail
            refine (HIN.out _).mono ?_
            rintro e w3 ⟨rfl, hb3⟩
            obtain ⟨hc3, hf3⟩ := bcell hb3
            have hB3 := hB.trans ((below_a1 (below_then (below_then hb1 hb2) hb3)).mono hB.size)
            go_wp2
            go_roundw
            case rel => exact ⟨k + 1, x, by omega, by go_num, rfl, hB3, HP⟩
            case measure => simp [intOf]; omega
        · have hf : r = false := by
            have h1 := HP.out; have h2 := HA.out
            rw [← h1, h2]; simp [ptOk, hx2]
          subst hf
          clear HP HA HR
          go_wp2
          go_ret
          exact ⟨rfl, hB.trans ((below_a1 (Below.refl _ _)).mono hB.size)⟩
      · have hf : r = false := by
          have h1 := HP.out; have h2 := HA.out
          rw [← h1, h2]; simp [ptOk, hx1]
        subst hf
        clear HP HA HR
        go_wp2
        go_ret
        exact ⟨rfl, hB.trans ((below_a1 (Below.refl _ _)).mono hB.size)⟩
    · have hf : r = true := by
        have h1 := HP.out
        rw [← h1, List.drop_eq_nil_of_le (by have := HN.out; omega)]; rfl
      subst hf
      clear HP HR
      go_wp2
      go_ret
      exact ⟨rfl, hB⟩
end Go.Proofs.Ytmenlaefekkahaa
