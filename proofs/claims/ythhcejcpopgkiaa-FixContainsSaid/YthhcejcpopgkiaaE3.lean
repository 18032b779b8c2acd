/- Runs.add in one theorem; the pieces of a valid table with places that rise. -/
import Derived.Test.YthhcejcpopgkiaaE2
import Derived.Test.YthhcejcpopgkiaaC3
import Derived.Test.YthhcejcpopgkiaaD4
set_option linter.unusedVariables false
set_option linter.unusedSimpArgs false
set_option linter.constructorNameAsVariable false
namespace Go.Proofs.Ythhcejcpopgkiaa
open Go.RowKit Go.Shelf

/-- The list of runs, or nothing yet. -/
def RunsN (g base : Nat) (w : World) (L : List (Int × Int)) : Prop := (L = [] ∧ Blk w g 137 #[.slice none 0 0]) ∨ (L ≠ [] ∧ RunsAt g base w L)

theorem addRun_ne (L : List (Int × Int)) (r : Int × Int) : addRun L r ≠ [] := by
  unfold addRun
  cases L.getLast? with
  | none => simp
  | some z => dsimp only; split <;> simp

theorem addRun_len (L : List (Int × Int)) (r : Int × Int) : (addRun L r).length ≤ L.length + 1 := by
  unfold addRun
  cases L.getLast? with
  | none => simp
  | some z => dsimp only; split <;> simp

theorem runsAdd_any (g base : Nat) (L : List (Int × Int)) (a b : Int) (w : World) (h : RunsN g base w L) (hbase : base ≤ w.heap.size) (hm : L.length ≤ 1000000) :
    Calls Try.prog 126 #[.pointer (some ⟨g, 0, none⟩), rv a b] w (AddsRun g base w (addRun L (a, b))) := by
  rcases h with ⟨rfl, h⟩ | ⟨hne, h⟩
  · exact runsAdd_first g base a b w h hbase
  · obtain ⟨init, z, rfl⟩ : ∃ init z, L = init ++ [z] := ⟨_, _, (List.dropLast_concat_getLast hne).symm⟩
    have hm' : init.length ≤ 1000000 := by simp at hm; omega
    by_cases he : a = z.2
    · subst he
      have : addRun (init ++ [z]) (z.2, b) = init ++ [(z.1, b)] := by simp [addRun]
      rw [this]
      exact runsAdd_merge g base init z b w h hbase hm'
    · have : addRun (init ++ [z]) (a, b) = init ++ [z] ++ [(a, b)] := by simp [addRun, he]
      rw [this]
      exact runsAdd_push g base init z a b w h hbase hm' he

/-- A piece of a valid table: its places rise. -/
abbrev Pr := { x : P3 × P3 // Okp x.1 ∧ Okp x.2 ∧ x.1.1 < x.2.1 }

theorem rise_of : ∀ (ps : List P3) (last : Int), ptsOk last ps = true → -1 ≤ last → ∀ x ∈ ps.zip ps.tail, Okp x.1 ∧ Okp x.2 ∧ x.1.1 < x.2.1
  | [], _, _, _, x, hx => by simp at hx
  | [p], _, _, _, x, hx => by simp at hx
  | p :: q :: ps, last, h, hl, x, hx => by
    have h1 := okp_of (p :: q :: ps) last h hl
    have h' : ptsOk p.1 (q :: ps) = true := by
      simp only [ptsOk, Bool.and_eq_true] at h ⊢
      exact h.2
    have hp := h1 p (by simp)
    have hpl : -1 ≤ p.1 := by have := hp.2; omega
    rw [List.tail_cons, List.zip_cons_cons, List.mem_cons] at hx
    rcases hx with rfl | hx
    · exact ⟨hp.1, (h1 q (by simp)).1, (okp_of (q :: ps) p.1 h' hpl q (by simp)).2⟩
    · exact rise_of (q :: ps) p.1 h' hpl x hx

theorem rise_list {ps : List P3} (h : tabOk ps = true) : ∃ xs : List Pr, xs.map (·.1) = ps.zip ps.tail :=
  lift_all _ (rise_of ps (-1) (tabOk_pts h) (by omega))

theorem rise_stops (xs : List Pr) (m : Nat) (hm : 1 ≤ m) (Bt n₀ b o len cap : Nat) (ps : List P3) (hlen : len = ps.length) (h2 : 2 ≤ len) (h40 : len ≤ 40) (hxs : xs.map (·.1) = ps.zip ps.tail) (hb : b < n₀) (w : World) (hBt : Bt < w.heap.size) (hn₀ : n₀ ≤ w.heap.size)
    (hcb : w.cell? ⟨Bt, 0, none⟩ = some (.slice (some ⟨b, o, none⟩) len cap)) (hc : PtsAt w b o ps) :
    SeqStopsK Fence.wide m Try.prog 132 #[.pointer (some ⟨Bt, 0, none⟩)] (fun x : Pr => #[pv x.1.1 x.1.2]) (Below n₀) (fun ys => ys = xs) (fun pre => pre <+: xs) xs.length w := fun l J Jx W hW hJ _ hY h0 =>
  pieces1_in (fun x : Pr => x.1) xs m hm l Bt n₀ b o len cap ps hlen h2 h40 hxs hb J Jx W.heap.size hJ hY W ((hW.cell (p := ⟨Bt, 0, none⟩) hBt).trans hcb)
    (fun k p hp => by
      obtain ⟨c0, c1, c2⟩ := hc k p hp
      exact ⟨(hW.cell (p := ⟨b, _, none⟩) (by show b < _; omega)).trans c0, (hW.cell (p := ⟨b, _, none⟩) (by show b < _; omega)).trans c1, (hW.cell (p := ⟨b, _, none⟩) (by show b < _; omega)).trans c2⟩) h0
end Go.Proofs.Ythhcejcpopgkiaa
