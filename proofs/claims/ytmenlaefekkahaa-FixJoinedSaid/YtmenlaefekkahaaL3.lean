/- The contract of Lines (the specification). Its condition: the table's points lie in memory, 40 of them at most. -/
import Derived.Test.YtmenlaefekkahaaB7
import Derived.Test.YtmenlaefekkahaaG2
import Derived.Deep.AppendLies
set_option linter.unusedVariables false
set_option linter.unusedSimpArgs false
set_option linter.constructorNameAsVariable false
namespace Go.Proofs.Ytmenlaefekkahaa
open Go.RowKit

/-- Two values own no block together. -/
def Apart (v v' : Value) : Prop := ∀ g, v.ownBlock = some g → v'.ownBlock = some g → False
theorem Apart.symm {v v' : Value} (h : Apart v v') : Apart v' v := fun g a b => h g b a
theorem apart_keep {base : Nat} {W w1 : World} {v1 v2 : Value} {L : List Int} (h : OwnInts base W v2 L) (hg : W.grownBy w1 v1.ownBlock) (ha : Apart v1 v2) : OwnInts base w1 v2 L :=
  World.ownsRow.kept (show W.ownsRow base 3 1 v2 _ _ from h) hg (by
    cases hv : v2.ownBlock with
    | none => exact .inl rfl
    | some g => exact .inr fun e => ha g e.symm hv)
theorem apart_new {base : Nat} {W : World} {v1 v2 : Value} {L : List Int} {g n cap : Nat} (h2 : OwnInts base W v2 L) (ha : Apart v1 v2) (hat : v1.ownBlock = some g ∨ g = W.heap.size) : Apart (.slice (some ⟨g, 0, none⟩) n cap) v2 := by
  intro g' e e'
  have : g = g' := by simpa [Value.ownBlock] using e
  subst this
  rcases hat with hat | hat
  · exact ha g hat e'
  · have := (World.ownsRow.lt (show W.ownsRow base 3 1 v2 _ _ from h2) g e').2
    omega
theorem apart_nil (v : Value) : Apart (.slice none 0 0) v := fun g e => by simp [Value.ownBlock] at e

/-- The places and both lines of a table's points, in three rows. -/
def LinesAt (base : Nat) (W : World) (v1 v2 v3 : Value) (L : List P3) : Prop :=
  OwnInts base W v1 (L.map (·.1)) ∧ OwnInts base W v2 (L.map (·.2.1)) ∧ OwnInts base W v3 (L.map (·.2.2)) ∧ Apart v1 v2 ∧ Apart v1 v3 ∧ Apart v2 v3
theorem LinesAt.alloc {base : Nat} {W : World} {v1 v2 v3 : Value} {L : List P3} (h : LinesAt base W v1 v2 v3 L) (o : Obj) : LinesAt base (W.alloc o) v1 v2 v3 L :=
  ⟨h.1.alloc o, h.2.1.alloc o, h.2.2.1.alloc o, h.2.2.2⟩
theorem own_snoc' {base : Nat} {w : World} {v : Value} {l : List Int} {x : Int} (h : w.ownsRow base 3 1 v ((ints l).length + 1) (ints l ++ [Value.int .i64 x])) : OwnInts base w v (l ++ [x]) := by
  rw [List.length_map] at h; exact own_snoc h

set_option maxRecDepth 100000 in
set_option maxHeartbeats 2000000 in
theorem lines_any (b o n c : Nat) (ps : List P3) (w : World) (hn : n = ps.length) (h40 : n ≤ 40) (hb : b < w.heap.size) (hc : PtsAt w b o ps) :
    Calls Try.prog 114 #[tv (some ⟨b, o, none⟩) n c] w fun e w' => ∃ v1 v2 v3, e = .returned (.tuple #[v1, v2, v3]) ∧ LinesAt w.heap.size w' v1 v2 v3 ps ∧ Below w.heap.size w w' := by
  obtain ⟨i0, hi, hz0, hz1, hz2⟩ := info_parts Try.info3
  have HN := Lib.hid hn; clear hn
  have HC := Lib.hid hc; clear hc
  go_enter Try.func114, Try.ntmps114
  go_wp2_with fail
  go_loopw [5, 6, 7, 13] (fun v1 v2 v3 i wr => ∃ k : Nat, k ≤ n ∧ i = .int .i64 k ∧ LinesAt w.heap.size wr v1 v2 v3 (ps.take k) ∧ Below w.heap.size w wr) (fun _ _ _ i _ => n - (intOf i).toNat)
  case atStart => exact ⟨0, by omega, rfl, ⟨World.ownsRow_nil _ _ _ _, World.ownsRow_nil _ _ _ _, World.ownsRow_nil _ _ _ _, apart_nil _, apart_nil _, apart_nil _⟩, (Below.refl _ _).alloc (Nat.le_refl _) _⟩
  case round =>
    obtain ⟨k, hk, rfl, hL, hB⟩ := hrel
    by_cases hlt : k < n
    · obtain ⟨p, hp⟩ : ∃ p, ps[k]? = some p := ⟨_, List.getElem?_eq_getElem (show k < ps.length by rw [← HN.out]; exact hlt)⟩
      obtain ⟨c0, c1, c2⟩ := HC.out k p hp
      rw [← hB.cell (p := ⟨b, o + k * 3, none⟩) hb] at c0
      rw [← hB.cell (p := ⟨b, o + k * 3 + 1, none⟩) hb] at c1
      rw [← hB.cell (p := ⟨b, o + k * 3 + 2, none⟩) hb] at c2
      have hS := take_snocP' hp
      have hlen : (ps.take k).length = k := by rw [List.length_take]; have := HN.out; omega
      obtain ⟨x, lo, hi'⟩ := p
      dsimp only at c0 c1 c2
      clear hp
      have HS := Lib.hid hS; clear hS
      obtain ⟨L, hLL⟩ : ∃ L, ps.take k = L := ⟨_, rfl⟩
      rw [hLL] at HS hlen hL
      clear hLL
      have HZ0 := Lib.hid (And.intro hL.1 (And.intro hL.2.1 hL.2.2.1))
      obtain ⟨q1, q2, q3, a12, a13, a23⟩ := (hL.alloc (.cells #[.int .i64 x, .int .i64 lo, .int .i64 hi'] 87)).alloc (.cells #[.int .i64 x] 3)
      have hcell := cell_one (wr.alloc (.cells #[.int .i64 x, .int .i64 lo, .int .i64 hi'] 87)) x 3
      rw [World.size_alloc] at hcell
      have bP := (Blk.new wr 87 #[.int .i64 x, .int .i64 lo, .int .i64 hi']).alloc (.cells #[.int .i64 x] 3)
      have hBB := (hB.alloc hB.size (.cells #[.int .i64 x, .int .i64 lo, .int .i64 hi'] 87)).alloc (by have := hB.size; simp; omega) (.cells #[.int .i64 x] 3)
      have H1 := Lib.hid q1; have H2 := Lib.hid q2; have H3 := Lib.hid q3; have HA := Lib.hid (And.intro a12 (And.intro a13 a23)); have HCE := Lib.hid hcell; have HP := Lib.hid bP; have HB := Lib.hid hBB; have HL := Lib.hid hlen; have HS0 := Lib.hid hB.size
      clear q1 q2 q3 a12 a13 a23 hcell bP hBB hlen hL hB
      -- the places
      go_wp2_with (at_builtin; refine wpList_append_lies _ rfl (.tmp 17) (.tmp 20) 44 rfl w.heap.size 3 i0 (.int .i64 0) 1 8 Try.underlying44 hi hz0 hz1 hz2 rfl (by decide) _ _ _ rfl H1.out ⟨wr.heap.size + 1, 0, none⟩ 1 1 [.int .i64 x] rfl rfl HCE.out (by simp [Value.oneCell']) (by omega) (by simp [maxLen]; rw [HL.out]; omega) (by simp; rw [HL.out]; omega) (by have := HS0.out; simp; omega) _ rfl ?_)
      intro g1 cap1 w1 o1 hg1 hat1 hl1
      have r1 : OwnInts w.heap.size w1 (.slice (some ⟨g1, 0, none⟩) (L.length + 1) cap1) (L.map (·.1) ++ [x]) := by unfold OwnInts; simpa using o1
      have r2 := apart_keep H2.out hg1 HA.out.1
      have r3 := apart_keep H3.out hg1 HA.out.2.1
      have b12 := apart_new (g := g1) (n := L.length + 1) (cap := cap1) H2.out HA.out.1 (by simpa using hat1)
      have b13 := apart_new (g := g1) (n := L.length + 1) (cap := cap1) H3.out HA.out.2.1 (by simpa using hat1)
      have b23 := HA.out.2.2
      have hP1 := HP.out.grown hg1 (fun e => by have := (World.ownsRow.lt HZ0.out.1 _ e.symm).2; omega)
      have hB1 := HB.out.grown hg1 HB.out.size (fun j hj => (World.ownsRow.lt HZ0.out.1 j hj).1)
      have p1 := hP1.cell 1
      have lP := hP1.lt
      simp at p1
      have G1 := Lib.hid (r1.alloc (.cells #[.int .i64 lo] 3)); have G2 := Lib.hid (r2.alloc (.cells #[.int .i64 lo] 3)); have G3 := Lib.hid (r3.alloc (.cells #[.int .i64 lo] 3))
      have GA := Lib.hid (And.intro b12 (And.intro b13 b23)); have GCE := Lib.hid (cell_one w1 lo 3); have GP := Lib.hid (hP1.alloc (.cells #[.int .i64 lo] 3)); have GB := Lib.hid (hB1.alloc hB1.size (.cells #[.int .i64 lo] 3)); have GS := Lib.hid hB1.size
      clear o1 hg1 hat1 hl1 r1 r2 r3 b12 b13 b23 hP1 hB1 H1 H2 H3 HA HCE HP HB
      -- the lower line
      go_wp2_with (at_builtin; refine wpList_append_lies _ rfl (.tmp 22) (.tmp 25) 44 rfl w.heap.size 3 i0 (.int .i64 0) 1 8 Try.underlying44 hi hz0 hz1 hz2 rfl (by decide) _ _ _ rfl G2.out ⟨w1.heap.size, 0, none⟩ 1 1 [.int .i64 lo] rfl rfl GCE.out (by simp [Value.oneCell']) (by omega) (by simp [maxLen]; rw [HL.out]; omega) (by simp; rw [HL.out]; omega) (by have := GS.out; simp; omega) _ rfl ?_)
      intro g2 cap2 w2 o2 hg2 hat2 hl2
      have r2 : OwnInts w.heap.size w2 (.slice (some ⟨g2, 0, none⟩) (L.length + 1) cap2) (L.map (·.2.1) ++ [lo]) := by unfold OwnInts; simpa using o2
      have r1 := apart_keep G1.out hg2 GA.out.1.symm
      have r3 := apart_keep G3.out hg2 GA.out.2.2
      have b21 := apart_new (g := g2) (n := L.length + 1) (cap := cap2) G1.out GA.out.1.symm (by simpa using hat2)
      have b23 := apart_new (g := g2) (n := L.length + 1) (cap := cap2) G3.out GA.out.2.2 (by simpa using hat2)
      have b13 := GA.out.2.1
      have hP2 := GP.out.grown hg2 (fun e => by have := (World.ownsRow.lt HZ0.out.2.1 _ e.symm).2; omega)
      have hB2 := GB.out.grown hg2 GB.out.size (fun j hj => (World.ownsRow.lt HZ0.out.2.1 j hj).1)
      clear p1 lP
      have p2 := hP2.cell 2
      have lP := hP2.lt
      simp at p2
      have K1 := Lib.hid (r1.alloc (.cells #[.int .i64 hi'] 3)); have K2 := Lib.hid (r2.alloc (.cells #[.int .i64 hi'] 3)); have K3 := Lib.hid (r3.alloc (.cells #[.int .i64 hi'] 3))
      have KA := Lib.hid (And.intro b21 (And.intro b13 b23)); have KCE := Lib.hid (cell_one w2 hi' 3); have KB := Lib.hid (hB2.alloc hB2.size (.cells #[.int .i64 hi'] 3)); have KS := Lib.hid hB2.size
      clear o2 hg2 hat2 hl2 r1 r2 r3 b21 b13 b23 hP2 hB2 G1 G2 G3 GA GCE GP GB
      -- the upper line
      go_wp2_with (at_builtin; refine wpList_append_lies _ rfl (.tmp 27) (.tmp 30) 44 rfl w.heap.size 3 i0 (.int .i64 0) 1 8 Try.underlying44 hi hz0 hz1 hz2 rfl (by decide) _ _ _ rfl K3.out ⟨w2.heap.size, 0, none⟩ 1 1 [.int .i64 hi'] rfl rfl KCE.out (by simp [Value.oneCell']) (by omega) (by simp [maxLen]; rw [HL.out]; omega) (by simp; rw [HL.out]; omega) (by have := KS.out; simp; omega) _ rfl ?_)
      intro g3 cap3 w3 o3 hg3 hat3 hl3
      have r3 : OwnInts w.heap.size w3 (.slice (some ⟨g3, 0, none⟩) (L.length + 1) cap3) (L.map (·.2.2) ++ [hi']) := by unfold OwnInts; simpa using o3
      have r1 := apart_keep K1.out hg3 KA.out.2.1.symm
      have r2 := apart_keep K2.out hg3 KA.out.2.2.symm
      have b31 := apart_new (g := g3) (n := L.length + 1) (cap := cap3) K1.out KA.out.2.1.symm (by simpa using hat3)
      have b32 := apart_new (g := g3) (n := L.length + 1) (cap := cap3) K2.out KA.out.2.2.symm (by simpa using hat3)
      have b21 := KA.out.1
      have hB3 := KB.out.grown hg3 KB.out.size (fun j hj => (World.ownsRow.lt HZ0.out.2.2 j hj).1)
      have hR : LinesAt w.heap.size w3 (.slice (some ⟨g1, 0, none⟩) (L.length + 1) cap1) (.slice (some ⟨g2, 0, none⟩) (L.length + 1) cap2) (.slice (some ⟨g3, 0, none⟩) (L.length + 1) cap3) (ps.take (k + 1)) := by
        rw [HS.out]
        exact ⟨by simpa using r1, by simpa using r2, by simpa using r3, b21.symm, b31.symm, b32.symm⟩
      have HR := Lib.hid hR; have HB3 := Lib.hid hB3
      clear o3 hg3 hat3 hl3 r1 r2 r3 b31 b32 b21 hB3 hR p2 lP
      go_wp2
      go_roundw
      case rel => exact ⟨k + 1, by omega, by go_num, HR.out, HB3.out⟩
      case measure => simp [intOf]; omega
    · have hkn : ps.take k = ps := List.take_of_length_le (by have := HN.out; omega)
      rw [hkn] at hL
      have HL := Lib.hid hL; have HB := Lib.hid hB; clear hL hB hkn
      go_wp2
      go_ret3
      exact ⟨_, _, _, rfl, HL.out, HB.out⟩
end Go.Proofs.Ytmenlaefekkahaa
