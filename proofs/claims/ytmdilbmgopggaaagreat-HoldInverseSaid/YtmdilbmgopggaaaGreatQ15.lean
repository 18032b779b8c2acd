/- The contract of Value (the specification). Its conditions: both rows lie in memory, 40 numbers at most, within the bounds of tables; the place is at or behind the first, and not behind the last. -/
import Derived.Test.YtmdilbmgopggaaaGreatQ07
import Derived.Test.YtmdilbmgopggaaaGreatQ14
import Derived.Deep.AppendLies
import Derived.Test.YtmdilbmgopggaaaGreatQ12
import Derived.Test.YtmdilbmgopggaaaGreatQ13
set_option linter.unusedVariables false
set_option linter.unusedSimpArgs false
set_option linter.constructorNameAsVariable false
namespace Go.Proofs.YtmdilbmgopggaaaGreat

section
theorem rising_pts : ∀ (ps : List P3) (last : Int), ptsOk last ps = true → -1 ≤ last → ps.Pairwise (fun p q => p.1 < q.1)
  | [], _, _, _ => .nil
  | p :: ps, last, h, hl => by
    have h1 := (okp_of (p :: ps) last h hl p (by simp))
    simp only [ptsOk, Bool.and_eq_true] at h
    refine .cons (fun q hq => ?_) (rising_pts ps p.1 h.2 (by have := h1.2; omega))
    exact (okp_of ps p.1 h.2 (by have := h1.2; omega) q hq).2
theorem rising_at {ps : List P3} (ht : tabOk ps = true) {i j : Nat} {p q : P3} (hi : ps[i]? = some p) (hj : ps[j]? = some q) (h : i < j) : p.1 < q.1 := by
  obtain ⟨li, rfl⟩ := List.getElem?_eq_some_iff.1 hi
  obtain ⟨lj, rfl⟩ := List.getElem?_eq_some_iff.1 hj
  exact List.pairwise_iff_getElem.1 (rising_pts ps (-1) (tabOk_pts ht) (by omega)) i j li lj h
theorem rising_le {ps : List P3} (ht : tabOk ps = true) {i j : Nat} {p q : P3} (hi : ps[i]? = some p) (hj : ps[j]? = some q) (h : i ≤ j) : p.1 ≤ q.1 := by
  rcases Nat.lt_or_ge i j with c | c
  · exact Int.le_of_lt (rising_at ht hi hj c)
  · have : i = j := by omega
    subst this
    rw [hi] at hj; injection hj with hj; subst hj; exact Int.le_refl _

theorem ceil_eq (m d : Int) (hd : 0 < d) : -(-m / d) = m / d + (if 0 < m % d then 1 else 0) := by
  have h1 := Int.mul_ediv_add_emod m d
  have h2 := Int.emod_nonneg m (show d ≠ 0 by omega)
  have h3 := Int.emod_lt_of_pos m hd
  by_cases hz : 0 < m % d
  · rw [if_pos hz]
    have : -m / d = -(m / d) - 1 := by
      refine ((Int.ediv_emod_unique (r := d - m % d) hd).2 ⟨?_, by omega, by omega⟩).1
      rw [Int.mul_sub, Int.mul_neg]; omega
    omega
  · rw [if_neg hz]
    have : -m / d = -(m / d) := by
      refine ((Int.ediv_emod_unique (r := 0) hd).2 ⟨?_, by omega, by omega⟩).1
      rw [Int.mul_neg]; omega
    omega

/-- A table at a place of one of its pieces. -/
theorem atS_piece {ps : List P3} {i : Nat} {pq : P3 × P3} {x : Int} (hi : (pcs ps)[i]? = some pq) (hx : x ≤ pq.2.1) (hb : ∀ j, j < i → ∀ r, (pcs ps)[j]? = some r → r.2.1 < x) : atS ps x = pAt pq.1 pq.2 x := by
  obtain ⟨li, hi'⟩ := List.getElem?_eq_some_iff.1 hi
  have hf : (pcs ps).find? (fun r => decide (x ≤ r.2.1)) = some pq := by
    rw [List.find?_eq_some_iff_getElem]
    refine ⟨by simpa using hx, i, li, hi', fun j hj => ?_⟩
    have := hb j hj _ (List.getElem?_eq_getElem (by omega))
    simp; omega
  unfold atS
  rw [hf]
theorem pcs_at {ps : List P3} {i : Nat} {p q : P3} (h2 : 2 ≤ ps.length) (hp : ps[i]? = some p) (hq : ps[i + 1]? = some q) : (pcs ps)[i]? = some (p, q) := by
  rw [pcs_two h2, List.getElem?_zip_eq_some]
  exact ⟨hp, by rw [List.getElem?_tail]; exact hq⟩
theorem pcs_before {ps : List P3} {j : Nat} {r : P3 × P3} (h2 : 2 ≤ ps.length) (h : (pcs ps)[j]? = some r) : ps[j + 1]? = some r.2 := by
  rw [pcs_two h2, List.getElem?_zip_eq_some, List.getElem?_tail] at h
  exact h.2

/-- The specification's values at a place: of the point at or ahead of it, and the next one. -/
theorem ref_at {ps : List P3} (ht : tabOk ps = true) {k : Nat} {p : P3} {x : Int} (hp : ps[k]? = some p) (h1 : p.1 ≤ x) (hl : x ≤ lastX ps) (hn : ∀ q, ps[k + 1]? = some q → x < q.1) :
    (p.1 = x → atS ps x = (p.2.1, p.2.2)) ∧
    (p.1 ≠ x → ∃ q, ps[k + 1]? = some q ∧ p.1 < x ∧ x < q.1 ∧ atS ps x = (p.2.1 + (q.2.1 - p.2.1) * (x - p.1) / (q.1 - p.1), upS (p.2.2 + (q.2.2 - p.2.2) * (x - p.1) / (q.1 - p.1)) ((q.2.2 - p.2.2) * (x - p.1) % (q.1 - p.1)))) := by
  have hk : k < ps.length := (List.getElem?_eq_some_iff.1 hp).1
  constructor
  · rintro rfl
    by_cases h2 : 2 ≤ ps.length
    · cases k with
      | zero =>
        obtain ⟨q, hq⟩ : ∃ q, ps[1]? = some q := ⟨_, List.getElem?_eq_getElem (by omega)⟩
        rw [atS_piece (pcs_at h2 hp hq) (Int.le_of_lt (rising_at ht hp hq (by omega))) (fun j hj => by omega)]
        simp [pAt, riseS]
      | succ k =>
        obtain ⟨q, hq⟩ : ∃ q, ps[k]? = some q := ⟨_, List.getElem?_eq_getElem (by omega)⟩
        have hlt := rising_at ht hq hp (by omega)
        rw [atS_piece (pcs_at h2 hq hp) (Int.le_refl _) (fun j hj r hr => rising_at ht (pcs_before h2 hr) hp (by omega))]
        have hm : max (p.1 - q.1) 1 = p.1 - q.1 := by omega
        simp only [pAt, riseS, hm]
        rw [Int.mul_ediv_cancel_left _ (by omega), Int.mul_ediv_cancel_left _ (by omega)]
        ext <;> dsimp only <;> omega
    · have h1 : ps.length = 1 := by omega
      obtain ⟨p', rfl⟩ := List.length_eq_one_iff.1 h1
      have : k = 0 := by simp at hk; exact hk
      subst this
      simp at hp; subst hp
      simp [atS, pcs, pAt, riseS]
  · intro hne
    have hlt : p.1 < x := by omega
    have hk1 : k + 1 < ps.length := by
      rcases Nat.lt_or_ge (k + 1) ps.length with c | c
      · exact c
      · have e : ps[ps.length - 1]? = some p := by rw [show ps.length - 1 = k by omega]; exact hp
        have : lastX ps = p.1 := by unfold lastX; rw [List.getLast?_eq_getElem?, e]; rfl
        omega
    obtain ⟨q, hq⟩ : ∃ q, ps[k + 1]? = some q := ⟨_, List.getElem?_eq_getElem hk1⟩
    have hxq := hn q hq
    refine ⟨q, hq, hlt, hxq, ?_⟩
    have h2 : 2 ≤ ps.length := by omega
    rw [atS_piece (pcs_at h2 hp hq) (Int.le_of_lt hxq) (fun j hj r hr => by have := rising_le ht (pcs_before h2 hr) hp (by omega); omega)]
    have hm : max (q.1 - p.1) 1 = q.1 - p.1 := by omega
    have hc := ceil_eq ((q.2.2 - p.2.2) * (x - p.1)) (q.1 - p.1) (by omega)
    have e1 : (x - p.1) * (q.2.1 - p.2.1) = (q.2.1 - p.2.1) * (x - p.1) := Int.mul_comm _ _
    have e2 : (x - p.1) * (p.2.2 - q.2.2) = -((q.2.2 - p.2.2) * (x - p.1)) := by rw [Int.mul_comm, ← Int.neg_mul]; congr 1; omega
    simp only [pAt, riseS, hm, e1, e2]
    ext
    · rfl
    · dsimp only
      unfold upS
      split at hc <;> rename_i hz
      · rw [if_pos hz]; omega
      · rw [if_neg hz]; omega
end

section
open Go.RowKit

/-- Two values own no block together. -/
def Apart (v v' : Value) : Prop := ∀ g, v.ownBlock = some g → v'.ownBlock = some g → False
theorem Apart.symm {v v' : Value} (h : Apart v v') : Apart v' v := fun g a b => h g b a
theorem apart_keep {base : Nat} {W w1 : World} {v1 v2 : Value} {L : List Int} (h : OwnInts base W v2 L) (hg : W.grownBy w1 v1.ownBlock) (ha : Apart v1 v2) : OwnInts base w1 v2 L :=
  World.ownsRow.kept (show W.ownsRow base 3 1 v2 _ _ from h) hg (by
    cases hv : v2.ownBlock with
    | none => exact .inl rfl
    | some g => exact .inr fun e => ha g e.symm hv)
theorem apart_new {base : Nat} {W : World} {v1 v2 : Value} {L : List Int} {g n cap : Nat} (h2 : OwnInts base W v2 L) (ha : Apart v1 v2) (hat : v1.ownBlock = some g ∨ g = W.heap.size) : Apart (.slice (some ⟨g, 0, none⟩) n cap) v2 := by
  intro g' e e'
  have : g = g' := by simpa [Value.ownBlock] using e
  subst this
  rcases hat with hat | hat
  · exact ha g hat e'
  · have := (World.ownsRow.lt (show W.ownsRow base 3 1 v2 _ _ from h2) g e').2
    omega
theorem apart_nil (v : Value) : Apart (.slice none 0 0) v := fun g e => by simp [Value.ownBlock] at e

/-- The places and both lines of a table's points, in three rows. -/
def LinesAt (base : Nat) (W : World) (v1 v2 v3 : Value) (L : List P3) : Prop :=
  OwnInts base W v1 (L.map (·.1)) ∧ OwnInts base W v2 (L.map (·.2.1)) ∧ OwnInts base W v3 (L.map (·.2.2)) ∧ Apart v1 v2 ∧ Apart v1 v3 ∧ Apart v2 v3
theorem LinesAt.alloc {base : Nat} {W : World} {v1 v2 v3 : Value} {L : List P3} (h : LinesAt base W v1 v2 v3 L) (o : Obj) : LinesAt base (W.alloc o) v1 v2 v3 L :=
  ⟨h.1.alloc o, h.2.1.alloc o, h.2.2.1.alloc o, h.2.2.2⟩
set_option maxRecDepth 100000 in
set_option maxHeartbeats 2000000 in
theorem lines_any (b o n c : Nat) (ps : List P3) (w : World) (hn : n = ps.length) (h40 : n ≤ 40) (hb : b < w.heap.size) (hc : PtsAt w b o ps) :
    Calls Tryz.prog 229 #[tv (some ⟨b, o, none⟩) n c] w fun e w' => ∃ v1 v2 v3, e = .returned (.tuple #[v1, v2, v3]) ∧ LinesAt w.heap.size w' v1 v2 v3 ps ∧ Below w.heap.size w w' := by
  obtain ⟨i0, hi, hz0, hz1, hz2⟩ := info_parts Tryz.info3
  have HN := Lib.hid hn; clear hn
  have HC := Lib.hid hc; clear hc
  go_enter Tryz.func229, Tryz.ntmps229
  go_wp2_with fail
  go_loopw [5, 6, 7, 13] (fun v1 v2 v3 i wr => ∃ k : Nat, k ≤ n ∧ i = .int .i64 k ∧ LinesAt w.heap.size wr v1 v2 v3 (ps.take k) ∧ Below w.heap.size w wr) (fun _ _ _ i _ => n - (intOf i).toNat)
  case atStart => exact ⟨0, by omega, rfl, ⟨World.ownsRow_nil _ _ _ _, World.ownsRow_nil _ _ _ _, World.ownsRow_nil _ _ _ _, apart_nil _, apart_nil _, apart_nil _⟩, (Below.refl _ _).alloc (Nat.le_refl _) _⟩
  case round =>
    obtain ⟨k, hk, rfl, hL, hB⟩ := hrel
    by_cases hlt : k < n
    · obtain ⟨p, hp⟩ : ∃ p, ps[k]? = some p := ⟨_, List.getElem?_eq_getElem (show k < ps.length by rw [← HN.out]; exact hlt)⟩
      obtain ⟨c0, c1, c2⟩ := HC.out k p hp
      rw [← hB.cell (p := ⟨b, o + k * 3, none⟩) hb] at c0
      rw [← hB.cell (p := ⟨b, o + k * 3 + 1, none⟩) hb] at c1
      rw [← hB.cell (p := ⟨b, o + k * 3 + 2, none⟩) hb] at c2
      have hS := take_snocP' hp
      have hlen : (ps.take k).length = k := by rw [List.length_take]; have := HN.out; omega
      obtain ⟨x, lo, hi'⟩ := p
      dsimp only at c0 c1 c2
      clear hp
      have HS := Lib.hid hS; clear hS
      obtain ⟨L, hLL⟩ : ∃ L, ps.take k = L := ⟨_, rfl⟩
      rw [hLL] at HS hlen hL
      clear hLL
      have HZ0 := Lib.hid (And.intro hL.1 (And.intro hL.2.1 hL.2.2.1))
      obtain ⟨q1, q2, q3, a12, a13, a23⟩ := (hL.alloc (.cells #[.int .i64 x, .int .i64 lo, .int .i64 hi'] 146)).alloc (.cells #[.int .i64 x] 3)
      have hcell := cell_one (wr.alloc (.cells #[.int .i64 x, .int .i64 lo, .int .i64 hi'] 146)) x 3
      rw [World.size_alloc] at hcell
      have bP := (Blk.new wr 146 #[.int .i64 x, .int .i64 lo, .int .i64 hi']).alloc (.cells #[.int .i64 x] 3)
      have hBB := (hB.alloc hB.size (.cells #[.int .i64 x, .int .i64 lo, .int .i64 hi'] 146)).alloc (by have := hB.size; simp; omega) (.cells #[.int .i64 x] 3)
      have H1 := Lib.hid q1; have H2 := Lib.hid q2; have H3 := Lib.hid q3; have HA := Lib.hid (And.intro a12 (And.intro a13 a23)); have HCE := Lib.hid hcell; have HP := Lib.hid bP; have HB := Lib.hid hBB; have HL := Lib.hid hlen; have HS0 := Lib.hid hB.size
      clear q1 q2 q3 a12 a13 a23 hcell bP hBB hlen hL hB
      -- the places
      go_wp2_with (at_builtin; refine wpList_append_lies _ rfl (.tmp 17) (.tmp 20) 86 rfl w.heap.size 3 i0 (.int .i64 0) 1 8 Tryz.underlying86 hi hz0 hz1 hz2 rfl (by decide) _ _ _ rfl H1.out ⟨wr.heap.size + 1, 0, none⟩ 1 1 [.int .i64 x] rfl rfl HCE.out (by simp [Value.oneCell']) (by omega) (by simp [maxLen]; rw [HL.out]; omega) (by simp; rw [HL.out]; omega) (by have := HS0.out; simp; omega) _ rfl ?_)
      intro g1 cap1 w1 o1 hg1 hat1 hl1
      have r1 : OwnInts w.heap.size w1 (.slice (some ⟨g1, 0, none⟩) (L.length + 1) cap1) (L.map (·.1) ++ [x]) := by unfold OwnInts; simpa using o1
      have r2 := apart_keep H2.out hg1 HA.out.1
      have r3 := apart_keep H3.out hg1 HA.out.2.1
      have b12 := apart_new (g := g1) (n := L.length + 1) (cap := cap1) H2.out HA.out.1 (by simpa using hat1)
      have b13 := apart_new (g := g1) (n := L.length + 1) (cap := cap1) H3.out HA.out.2.1 (by simpa using hat1)
      have b23 := HA.out.2.2
      have hP1 := HP.out.grown hg1 (fun e => by have := (World.ownsRow.lt HZ0.out.1 _ e.symm).2; omega)
      have hB1 := HB.out.grown hg1 HB.out.size (fun j hj => (World.ownsRow.lt HZ0.out.1 j hj).1)
      have p1 := hP1.cell 1
      have lP := hP1.lt
      simp at p1
      have G1 := Lib.hid (r1.alloc (.cells #[.int .i64 lo] 3)); have G2 := Lib.hid (r2.alloc (.cells #[.int .i64 lo] 3)); have G3 := Lib.hid (r3.alloc (.cells #[.int .i64 lo] 3))
      have GA := Lib.hid (And.intro b12 (And.intro b13 b23)); have GCE := Lib.hid (cell_one w1 lo 3); have GP := Lib.hid (hP1.alloc (.cells #[.int .i64 lo] 3)); have GB := Lib.hid (hB1.alloc hB1.size (.cells #[.int .i64 lo] 3)); have GS := Lib.hid hB1.size
      clear o1 hg1 hat1 hl1 r1 r2 r3 b12 b13 b23 hP1 hB1 H1 H2 H3 HA HCE HP HB
      -- the lower line
      go_wp2_with (at_builtin; refine wpList_append_lies _ rfl (.tmp 22) (.tmp 25) 86 rfl w.heap.size 3 i0 (.int .i64 0) 1 8 Tryz.underlying86 hi hz0 hz1 hz2 rfl (by decide) _ _ _ rfl G2.out ⟨w1.heap.size, 0, none⟩ 1 1 [.int .i64 lo] rfl rfl GCE.out (by simp [Value.oneCell']) (by omega) (by simp [maxLen]; rw [HL.out]; omega) (by simp; rw [HL.out]; omega) (by have := GS.out; simp; omega) _ rfl ?_)
      intro g2 cap2 w2 o2 hg2 hat2 hl2
      have r2 : OwnInts w.heap.size w2 (.slice (some ⟨g2, 0, none⟩) (L.length + 1) cap2) (L.map (·.2.1) ++ [lo]) := by unfold OwnInts; simpa using o2
      have r1 := apart_keep G1.out hg2 GA.out.1.symm
      have r3 := apart_keep G3.out hg2 GA.out.2.2
      have b21 := apart_new (g := g2) (n := L.length + 1) (cap := cap2) G1.out GA.out.1.symm (by simpa using hat2)
      have b23 := apart_new (g := g2) (n := L.length + 1) (cap := cap2) G3.out GA.out.2.2 (by simpa using hat2)
      have b13 := GA.out.2.1
      have hP2 := GP.out.grown hg2 (fun e => by have := (World.ownsRow.lt HZ0.out.2.1 _ e.symm).2; omega)
      have hB2 := GB.out.grown hg2 GB.out.size (fun j hj => (World.ownsRow.lt HZ0.out.2.1 j hj).1)
      clear p1 lP
      have p2 := hP2.cell 2
      have lP := hP2.lt
      simp at p2
      have K1 := Lib.hid (r1.alloc (.cells #[.int .i64 hi'] 3)); have K2 := Lib.hid (r2.alloc (.cells #[.int .i64 hi'] 3)); have K3 := Lib.hid (r3.alloc (.cells #[.int .i64 hi'] 3))
      have KA := Lib.hid (And.intro b21 (And.intro b13 b23)); have KCE := Lib.hid (cell_one w2 hi' 3); have KB := Lib.hid (hB2.alloc hB2.size (.cells #[.int .i64 hi'] 3)); have KS := Lib.hid hB2.size
      clear o2 hg2 hat2 hl2 r1 r2 r3 b21 b13 b23 hP2 hB2 G1 G2 G3 GA GCE GP GB
      -- the upper line
      go_wp2_with (at_builtin; refine wpList_append_lies _ rfl (.tmp 27) (.tmp 30) 86 rfl w.heap.size 3 i0 (.int .i64 0) 1 8 Tryz.underlying86 hi hz0 hz1 hz2 rfl (by decide) _ _ _ rfl K3.out ⟨w2.heap.size, 0, none⟩ 1 1 [.int .i64 hi'] rfl rfl KCE.out (by simp [Value.oneCell']) (by omega) (by simp [maxLen]; rw [HL.out]; omega) (by simp; rw [HL.out]; omega) (by have := KS.out; simp; omega) _ rfl ?_)
      intro g3 cap3 w3 o3 hg3 hat3 hl3
      have r3 : OwnInts w.heap.size w3 (.slice (some ⟨g3, 0, none⟩) (L.length + 1) cap3) (L.map (·.2.2) ++ [hi']) := by unfold OwnInts; simpa using o3
      have r1 := apart_keep K1.out hg3 KA.out.2.1.symm
      have r2 := apart_keep K2.out hg3 KA.out.2.2.symm
      have b31 := apart_new (g := g3) (n := L.length + 1) (cap := cap3) K1.out KA.out.2.1.symm (by simpa using hat3)
      have b32 := apart_new (g := g3) (n := L.length + 1) (cap := cap3) K2.out KA.out.2.2.symm (by simpa using hat3)
      have b21 := KA.out.1
      have hB3 := KB.out.grown hg3 KB.out.size (fun j hj => (World.ownsRow.lt HZ0.out.2.2 j hj).1)
      have hR : LinesAt w.heap.size w3 (.slice (some ⟨g1, 0, none⟩) (L.length + 1) cap1) (.slice (some ⟨g2, 0, none⟩) (L.length + 1) cap2) (.slice (some ⟨g3, 0, none⟩) (L.length + 1) cap3) (ps.take (k + 1)) := by
        rw [HS.out]
        exact ⟨by simpa using r1, by simpa using r2, by simpa using r3, b21.symm, b31.symm, b32.symm⟩
      have HR := Lib.hid hR; have HB3 := Lib.hid hB3
      clear o3 hg3 hat3 hl3 r1 r2 r3 b31 b32 b21 hB3 hR p2 lP
      go_wp2
      go_roundw
      case rel => exact ⟨k + 1, by omega, by go_num, HR.out, HB3.out⟩
      case measure => simp [intOf]; omega
    · have hkn : ps.take k = ps := List.take_of_length_le (by have := HN.out; omega)
      rw [hkn] at hL
      have HL := Lib.hid hL; have HB := Lib.hid hB; clear hL hB hkn
      go_wp2
      go_ret3
      exact ⟨_, _, _, rfl, HL.out, HB.out⟩
end

section
open Go.RowKit

/-- What Value gives: the line at a place, as a whole number and a fraction. -/
def GivesVal (xs ys : List Int) (x : Int) (w : World) (e : Ending) (w' : World) : Prop :=
  ∃ k xk yk, xs[k]? = some xk ∧ ys[k]? = some yk ∧ xk ≤ x ∧ (∀ z, xs[k + 1]? = some z → x < z) ∧ Below w.heap.size w w' ∧
    ((xk = x ∧ e = .returned (.agg #[.int .i64 yk, .int .i64 0, .int .i64 1])) ∨
     (xk ≠ x ∧ ∃ z yz, xs[k + 1]? = some z ∧ ys[k + 1]? = some yz ∧ e = .returned (.agg #[.int .i64 (yk + (yz - yk) * (x - xk) / (z - xk)), .int .i64 ((yz - yk) * (x - xk) % (z - xk)), .int .i64 (z - xk)])))

set_option maxRecDepth 100000 in
set_option maxHeartbeats 4000000 in
theorem value_any (b o b' o' n c c' : Nat) (xs ys : List Int) (x : Int) (w : World) (hn : n = xs.length) (hn' : n = ys.length) (h1 : 1 ≤ n) (h40 : n ≤ 40) (hb : b < w.heap.size) (hb' : b' < w.heap.size) (hc : IntsMem w b o xs) (hc' : IntsMem w b' o' ys)
    (hxs : ∀ z ∈ xs, 0 ≤ z ∧ z ≤ 1000000) (hys : ∀ z ∈ ys, -1000000000 ≤ z ∧ z ≤ 1000000000) (hx : 0 ≤ x) (hx' : x ≤ 1000000) (hf : ∀ z, xs[0]? = some z → z ≤ x) (hl : ∀ z, xs[n - 1]? = some z → x ≤ z) :
    Calls Tryz.prog 230 #[.slice (some ⟨b, o, none⟩) n c, .slice (some ⟨b', o', none⟩) n c', .int .i64 x] w (GivesVal xs ys x w) := by
  have HN := Lib.hid (And.intro hn (And.intro hn' (And.intro hf hl))); clear hn hn' hf hl
  have HC := Lib.hid hc; have HC' := Lib.hid hc'; clear hc hc'
  have HX := Lib.hid (And.intro hxs hys); clear hxs hys
  have HXX := Lib.hid (And.intro hx hx'); clear hx hx'
  have bF := Blk.new w 208 #[.int .i64 0, .int .i64 0, .int .i64 0]
  have hE : Below w.heap.size w (w.alloc (.cells #[.int .i64 0, .int .i64 0, .int .i64 0] 208)) := (Below.refl _ _).alloc (Nat.le_refl _) _
  have HF := Lib.hid bF; have HE := Lib.hid hE; clear bF hE
  go_enter Tryz.func230, Tryz.ntmps230
  go_wp2_with fail
  obtain ⟨A, hA⟩ : ∃ A, w.heap.size = A := ⟨_, rfl⟩
  obtain ⟨W0, hW0⟩ : ∃ W0, w.alloc (.cells #[.int .i64 0, .int .i64 0, .int .i64 0] 208) = W0 := ⟨_, rfl⟩
  have hA' : A ≤ W0.heap.size := by rw [← hW0, ← hA]; simp
  have hbA : b < A := by omega
  have hbA' : b' < A := by omega
  rw [hW0] at HF HE ⊢
  rw [hA] at HF ⊢
  clear hW0
  have HIL := Lib.hid hA; clear hA
  go_loopw [7] (fun i wr => ∃ k : Nat, k < n ∧ i = .int .i64 k ∧ Below W0.heap.size W0 wr ∧ Hid (∀ z, xs[k]? = some z → z ≤ x)) (fun i _ => n - (intOf i).toNat)
  case atStart => exact ⟨0, by omega, rfl, Below.refl _ _, HN.out.2.2.1⟩
  case round =>
    obtain ⟨k, hk, rfl, hB, HK⟩ := hrel
    obtain ⟨xk, hxk⟩ : ∃ z, xs[k]? = some z := ⟨_, List.getElem?_eq_getElem (show k < xs.length by rw [← HN.out.1]; exact hk)⟩
    obtain ⟨yk, hyk⟩ : ∃ z, ys[k]? = some z := ⟨_, List.getElem?_eq_getElem (show k < ys.length by rw [← HN.out.2.1]; exact hk)⟩
    have hle := HK.out xk hxk
    have bx := HX.out.1 xk (List.mem_of_getElem? hxk)
    have by' := HX.out.2 yk (List.mem_of_getElem? hyk)
    have hBw : Below w.heap.size w wr := below_then HE.out hB
    have c0 := HC.out k xk hxk
    have d0 := HC'.out k yk hyk
    rw [← hBw.cell (p := ⟨b, o + k, none⟩) hb] at c0
    rw [← hBw.cell (p := ⟨b', o' + k, none⟩) hb'] at d0
    have hF := HF.out.below hB HF.out.lt
    have f0 := hF.frozen 0
    have f1 := hF.frozen 1
    have f2 := hF.frozen 2
    have r0 := hF.cell 0
    have r1 := hF.cell 1
    have r2 := hF.cell 2
    simp at r0 r1 r2
    have hdone : ∀ u v t : Value, Below w.heap.size w (((wr.setCell ⟨A, 0, none⟩ u).setCell ⟨A, 1, none⟩ v).setCell ⟨A, 2, none⟩ t) := fun u v t =>
      ((hBw.setCell (p := ⟨A, 0, none⟩) (by rw [HIL.out]; exact Nat.le_refl _) _).setCell (p := ⟨A, 1, none⟩) (by rw [HIL.out]; exact Nat.le_refl _) _).setCell (p := ⟨A, 2, none⟩) (by rw [HIL.out]; exact Nat.le_refl _) _
    have HDO := Lib.hid hdone; clear hdone hF
    by_cases hlt : k + 1 < n
    · obtain ⟨z, hz⟩ : ∃ z, xs[k + 1]? = some z := ⟨_, List.getElem?_eq_getElem (show k + 1 < xs.length by rw [← HN.out.1]; exact hlt)⟩
      obtain ⟨yz, hyz⟩ : ∃ z, ys[k + 1]? = some z := ⟨_, List.getElem?_eq_getElem (show k + 1 < ys.length by rw [← HN.out.2.1]; exact hlt)⟩
      have bz := HX.out.1 z (List.mem_of_getElem? hz)
      have byz := HX.out.2 yz (List.mem_of_getElem? hyz)
      have c1 := HC.out (k + 1) z hz
      have d1 := HC'.out (k + 1) yz hyz
      rw [← hBw.cell (p := ⟨b, o + (k + 1), none⟩) hb] at c1
      rw [← hBw.cell (p := ⟨b', o' + (k + 1), none⟩) hb'] at d1
      have s1 : (k : Int) + 1 < (n : Int) := by omega
      have s2 : IntKind.i64.wrap ((k : Int) + 1) = (k : Int) + 1 := IntWalk.i64_in _ ⟨by omega, by omega⟩
      by_cases hzx : z ≤ x
      · have HB := Lib.hid hB
        have HK2 : Hid (∀ z', xs[k + 1]? = some z' → z' ≤ x) := Lib.hid fun z' h => by rw [hz] at h; injection h with h; omega
        clear hxk hyk hz hyz hle bx by' hBw hB f0 f1 f2 r0 r1 r2 HDO bz byz
        go_wp2
        go_roundw
        case rel => exact ⟨k + 1, by omega, by go_num, HB.out, HK2⟩
        case measure => simp [intOf]; omega
      · by_cases he : xk = x
        · have HG : Hid (∀ w' e, Below w.heap.size w w' → e = .returned (.agg #[.int .i64 yk, .int .i64 0, .int .i64 1]) → GivesVal xs ys x w e w') := Lib.hid fun w' e h1 h2 =>
            ⟨k, xk, yk, hxk, hyk, hle, (fun z' h => by rw [hz] at h; injection h with h; omega), h1, .inl ⟨he, h2⟩⟩
          subst he
          clear hxk hyk hz hyz hle bx by' hBw hB bz byz
          go_wp2
          refine bodyPost_ret (v := .agg #[.int .i64 yk, .int .i64 0, .int .i64 1]) (by simp [results, Tryz.results230, go_sem, r0, r1, r2]) rfl (HG.out _ _ (HDO.out _ _ _) rfl)
        · have hbx := HXX.out
          have dpos : 0 < z - xk := by omega
          have hmb := mul_between2 (yz - yk) (x - xk) 2000000000 1000000 (by omega) (by omega) (by omega) (by omega)
          obtain ⟨dd, w1⟩ : ∃ r, IntKind.i64.wrap (z - xk) = r := ⟨_, rfl⟩
          have e1 : z - xk = dd := by rw [← w1, IntWalk.i64_in _ ⟨by omega, by omega⟩]
          obtain ⟨dy, w2⟩ : ∃ r, IntKind.i64.wrap (yz - yk) = r := ⟨_, rfl⟩
          have e2 : yz - yk = dy := by rw [← w2, IntWalk.i64_in _ ⟨by omega, by omega⟩]
          obtain ⟨dx, w3⟩ : ∃ r, IntKind.i64.wrap (x - xk) = r := ⟨_, rfl⟩
          have e3 : x - xk = dx := by rw [← w3, IntWalk.i64_in _ ⟨by omega, by omega⟩]
          rw [e2, e3] at hmb
          obtain ⟨m, w4⟩ : ∃ r, IntKind.i64.wrap (dy * dx) = r := ⟨_, rfl⟩
          have e4 : dy * dx = m := by rw [← w4, IntWalk.i64_in _ ⟨by omega, by omega⟩]
          rw [e4] at hmb
          have hq := ediv_between m dd 2000000000000000 (by omega) (by omega) (by omega) (by omega)
          have hqd1 := Int.mul_ediv_add_emod m dd
          have hqd2 := Int.emod_nonneg m (show dd ≠ 0 by omega)
          have hqd3 := Int.emod_lt_of_pos m (show 0 < dd by omega)
          rw [Int.mul_comm] at hqd1
          obtain ⟨q, hqq⟩ : ∃ q, m / dd = q := ⟨_, rfl⟩
          rw [hqq] at hq hqd1
          obtain ⟨V, w5⟩ : ∃ r, IntKind.i64.wrap (yk + q) = r := ⟨_, rfl⟩
          have e5 : yk + q = V := by rw [← w5, IntWalk.i64_in _ ⟨by omega, by omega⟩]
          obtain ⟨qd, w6⟩ : ∃ r, IntKind.i64.wrap (q * dd) = r := ⟨_, rfl⟩
          have e6 : q * dd = qd := by rw [← w6, IntWalk.i64_in _ ⟨by omega, by omega⟩]
          obtain ⟨R, w7⟩ : ∃ r, IntKind.i64.wrap (m - qd) = r := ⟨_, rfl⟩
          have e7 : m - qd = R := by rw [← w7, IntWalk.i64_in _ ⟨by omega, by omega⟩]
          have CF : Hid (∀ W, Calls Tryz.prog 236 #[.int .i64 m, .int .i64 dd] W fun e w' => e = .returned (.int .i64 q) ∧ W = w') := Lib.hid fun W => by
            have h := rFloor_any m dd W (by omega) (by omega) (by omega)
            rw [hqq] at h; exact h
          have hR : m % dd = R := by omega
          have HG : Hid (∀ w' e, Below w.heap.size w w' → e = .returned (.agg #[.int .i64 V, .int .i64 R, .int .i64 dd]) → GivesVal xs ys x w e w') := Lib.hid fun w' e h1 h2 =>
            ⟨k, xk, yk, hxk, hyk, hle, (fun z' h => by rw [hz] at h; injection h with h; omega), h1, .inr ⟨he, z, yz, hz, hyz, by rw [e1, e2, e3, e4, hqq, e5, hR]; exact h2⟩⟩
          have t0 : (xk == x) = false := beq_eq_false_iff_ne.2 he
          have t1 : ¬ z ≤ x := hzx
          have HDR : Hid (∀ (j : Nat) (u v t : Value), Below w.heap.size w ((((wr.drewN j).setCell ⟨A, 0, none⟩ u).setCell ⟨A, 1, none⟩ v).setCell ⟨A, 2, none⟩ t)) := Lib.hid fun j u v t =>
            (((below_drewM hBw j).setCell (p := ⟨A, 0, none⟩) (by rw [HIL.out]; exact Nat.le_refl _) _).setCell (p := ⟨A, 1, none⟩) (by rw [HIL.out]; exact Nat.le_refl _) _).setCell (p := ⟨A, 2, none⟩) (by rw [HIL.out]; exact Nat.le_refl _) _
          clear hxk hyk hz hyz hle bx by' hBw hB bz byz he hbx dpos hmb e1 e2 e3 e4 e5 e6 e7 hq hqd1 hqd2 hqd3 hqq hR HDO hzx
          go_wp2_with fail
          go_region
          go_wp2_with fail
          go_region
          go_wp2_with fail
          refine (CF.out _).mono ?_
          rintro e w' ⟨rfl, rfl⟩
          go_wp2
          refine bodyPost_ret (v := .agg #[.int .i64 V, .int .i64 R, .int .i64 dd]) (by simp [results, Tryz.results230, go_sem, r0, r1, r2]) rfl (HG.out _ _ (HDR.out 2 _ _ _) rfl)
    · have hkn : k + 1 = n := by omega
      have he : xk = x := by
        have := HN.out.2.2.2 xk (by rw [show n - 1 = k by omega]; exact hxk)
        omega
      have HG : Hid (∀ w' e, Below w.heap.size w w' → e = .returned (.agg #[.int .i64 yk, .int .i64 0, .int .i64 1]) → GivesVal xs ys x w e w') := Lib.hid fun w' e h1 h2 =>
        ⟨k, xk, yk, hxk, hyk, hle, (fun z' h => by rw [List.getElem?_eq_none (by have := HN.out.1; omega)] at h; cases h), h1, .inl ⟨he, h2⟩⟩
      subst he
      have s1 : ¬ (k : Int) + 1 < (n : Int) := by omega
      have s2 : IntKind.i64.wrap ((k : Int) + 1) = (k : Int) + 1 := IntWalk.i64_in _ ⟨by omega, by omega⟩
      clear hxk hyk hle bx by' hBw hB hkn
      go_wp2
      refine bodyPost_ret (v := .agg #[.int .i64 yk, .int .i64 0, .int .i64 1]) (by simp [results, Tryz.results230, go_sem, r0, r1, r2]) rfl (HG.out _ _ (HDO.out _ _ _) rfl)
end

end Go.Proofs.YtmdilbmgopggaaaGreat
