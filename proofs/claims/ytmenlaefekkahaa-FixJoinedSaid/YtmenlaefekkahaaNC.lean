/- FixMakes (the law package) returns true. Its condition: the points lie in memory. -/
import Derived.Test.YtmenlaefekkahaaMB
import Derived.Test.YtmenlaefekkahaaP1
import Derived.Test.YtmenlaefekkahaaA10
import Derived.Test.YtmenlaefekkahaaMA
import Derived.Test.YtmenlaefekkahaaI1
set_option linter.unusedVariables false
set_option linter.unusedSimpArgs false
set_option linter.constructorNameAsVariable false
namespace Go.Proofs.Ytmenlaefekkahaa

section
open Go.RowKit

theorem own_table {base : Nat} {w : World} {p : Option Addr} {n c : Nat} {L : List P3} (ho : OwnPts base w (.slice p n c) L) : n = L.length ∧ Pts w p L := by
  rcases Nat.lt_or_ge 0 L.length with hl | hl
  · obtain ⟨g, cap, h, _, hg, hp⟩ := ho.pts hl
    injection h with h1 h2 h3
    subst h1 h2 h3
    exact ⟨rfl, .inr ⟨g, 0, rfl, hg, hp⟩⟩
  · obtain rfl : L = [] := List.eq_nil_of_length_eq_zero (by omega)
    rcases (show w.ownsRow _ 87 3 (.slice p n c) 0 (ptCells []) from ho).2 with ⟨h, _⟩ | ⟨g, cap, _, h, _⟩
    · injection h with h1 h2 h3
      subst h1 h2 h3
      exact ⟨rfl, .inl rfl⟩
    · injection h with h1 h2 h3
      subst h1 h2 h3
      exact ⟨rfl, .inl rfl⟩
/-- What shaped gives. -/
def GivesShaped (base : Nat) (w : World) (E : Int) (L : List P3) (e : Ending) (w' : World) : Prop := ∃ v, e = .returned (.tuple #[.agg #[v], .int .i64 E]) ∧ OwnPts base w' v (okPts E L) ∧ Below w.heap.size w w'

set_option maxRecDepth 100000 in
set_option maxHeartbeats 4000000 in
theorem shaped_any (base : Nat) (p : Option Addr) (n c : Nat) (L : List P3) (w : World) (h200 : n ≤ 200) (ho : OwnPts base w (.slice p n c) L) (hbase : base ≤ w.heap.size) :
    Calls Try.prog 117 #[.slice p n c] w (GivesShaped base w (shapedS L) L) := by
  obtain ⟨hn, hp⟩ := own_table ho
  have hT := Blk.new w 43 #[.slice none 0 0]
  have hE0 : Below w.heap.size w (w.alloc (.cells #[.slice none 0 0] 43)) := below_alloc1 w _
  by_cases h0 : n = 0
  · have hs : shapedS L = 4 := by unfold shapedS; rw [if_pos (by omega)]
    rw [hs]
    have HE := Lib.hid hE0
    subst h0
    clear ho hp hn hT hE0 hs
    go_enter Try.func117, Try.ntmps117
    go_wp2
    refine bodyPost_ret (v := .tuple #[.agg #[.slice none 0 0], .int .i64 4]) (by simp [results, Try.results117, go_sem]) rfl ⟨_, rfl, okPts_bad (by omega) _ _ _, ?_⟩
    exact HE.out
  by_cases h40 : 40 < n
  · have hs : shapedS L = 2 := by unfold shapedS; rw [if_neg (by omega), if_pos (by omega)]
    rw [hs]
    have HE := Lib.hid hE0
    have k1 : ((n : Int) == 0) = false := beq_eq_false_iff_ne.2 (by omega)
    clear ho hp hn hT hE0 hs
    go_enter Try.func117, Try.ntmps117
    go_wp2
    refine bodyPost_ret (v := .tuple #[.agg #[.slice none 0 0], .int .i64 2]) (by simp [results, Try.results117, go_sem]) rfl ⟨_, rfl, okPts_bad (by omega) _ _ _, ?_⟩
    exact HE.out
  have hE1 : Below w.heap.size w ((w.alloc (.cells #[.slice none 0 0] 43)).alloc (.cells #[.slice p n c] 43)) := below_a2 (Below.refl _ _)
  have hT1 := hT.alloc (.cells #[.slice p n c] 43)
  have hU := Blk.new (w.alloc (.cells #[.slice none 0 0] 43)) 43 #[.slice p n c]
  rw [World.size_alloc] at hU
  have ho1 := (ho.alloc (.cells #[.slice none 0 0] 43)).alloc (.cells #[.slice p n c] 43)
  have k1 : ((n : Int) == 0) = false := beq_eq_false_iff_ne.2 (by omega)
  have k2 : ¬ (40 : Int) < (n : Int) := by omega
  have CV : Hid (∀ W t, Below w.heap.size w W → tabOk L = t → Calls Try.prog 63 #[tv p n c] W fun e w' => e = .returned (.bool t) ∧ Below W.heap.size W w') := Lib.hid fun W t hW h => by
    have := validTable_any p n c L W hn (by unfold maxLen; omega) (hp.below hW)
    rw [h] at this; exact this
  have hs : shapedS L = if tabOk L = true then 0 else 5 := by unfold shapedS; rw [if_neg (by omega), if_neg (by omega)]
  have HOL := Lib.hid (fun k hk => (World.ownsRow.lt (show w.ownsRow base 87 3 (.slice p n c) _ _ from ho) k hk).2)
  have HE := Lib.hid hE1; have HT := Lib.hid hT1; have HU := Lib.hid hU; have HO := Lib.hid ho1; have HS := Lib.hid hs
  cases ht : tabOk L
  · have e5 : shapedS L = 5 := by rw [hs, ht]; rfl
    rw [e5]
    have HTT := Lib.hid ht
    clear hE1 hT1 hU ho1 hT hE0 hp ho hn hs e5 ht
    go_enter Try.func117, Try.ntmps117
    go_wp2_with fail
    refine (CV.out _ false HE.out HTT.out).mono ?_
    rintro e w1 ⟨rfl, hb1⟩
    have hT2 := blkOn HT.out hb1
    have r0 := hT2.cell 0
    have f0 := hT2.frozen 0
    have lT := hT2.lt
    simp at r0
    have HE1 := Lib.hid (below_then HE.out hb1)
    clear hb1 hT2
    go_wp2
    refine bodyPost_ret (v := .tuple #[.agg #[.slice none 0 0], .int .i64 5]) (by simp [results, Try.results117, go_sem, r0, lT]) rfl ⟨_, rfl, okPts_bad (by omega) _ _ _, ?_⟩
    exact HE1.out.setCell (p := ⟨w.heap.size, 0, none⟩) (by show w.heap.size ≤ w.heap.size; omega) _
  · have e5 : shapedS L = 0 := by rw [hs, ht]; rfl
    rw [e5]
    have HTT := Lib.hid ht
    clear hE1 hT1 hU ho1 hT hE0 hp ho hn hs e5 ht
    go_enter Try.func117, Try.ntmps117
    go_wp2_with fail
    refine (CV.out _ true HE.out HTT.out).mono ?_
    rintro e w1 ⟨rfl, hb1⟩
    have hT2 := blkOn HT.out hb1
    have r0 := hT2.cell 0
    have f0 := hT2.frozen 0
    have lT := hT2.lt
    have hU2 := blkOn HU.out hb1
    have r1 := hU2.cell 0
    have lU := hU2.lt
    simp at r0 r1
    have HO1 := Lib.hid (HO.out.below hb1)
    have HE1 := Lib.hid (below_then HE.out hb1)
    clear hb1 hT2 hU2
    go_wp2
    refine bodyPost_ret (v := .tuple #[.agg #[.slice p n c], .int .i64 0]) (by simp [results, Try.results117, go_sem, r0, lT]) rfl ⟨_, rfl, ?_, ?_⟩
    · rw [okPts_ok]
      refine World.ownsRow.kept (show w1.ownsRow base 87 3 _ _ _ from HO1.out) (grownBy_setCell' w1 _ _) (.inr ?_)
      intro e
      have := HOL.out _ e
      omega
    · exact HE1.out.setCell (p := ⟨w.heap.size, 0, none⟩) (by show w.heap.size ≤ w.heap.size; omega) _
end

section
open Go.RowKit

set_option maxRecDepth 100000 in
set_option maxHeartbeats 4000000 in
theorem rPlus_bad (A : Option Addr) (n c : Nat) (A' : Option Addr) (n' c' : Nat) (ps qs : List P3) (w : World)
    (hn : n = ps.length) (hm : n ≤ maxLen) (hn' : n' = qs.length) (hm' : n' ≤ maxLen) (hp : Pts w A ps) (hp' : Pts w A' qs) (h0 : ¬ (tabOk ps = true ∧ tabOk qs = true)) :
    Calls Try.prog 58 #[tv A n c, tv A' n' c'] w (GivesTabE w 11 []) := by
  have hE : Below w.heap.size w (((w.alloc (.cells #[.slice A n c] 43)).alloc (.cells #[.slice A' n' c'] 43)).alloc (.cells #[.slice none 0 0] 43)) := below_a3 (Below.refl _ _)
  have hK : Boxes (((w.alloc (.cells #[.slice A n c] 43)).alloc (.cells #[.slice A' n' c'] 43)).alloc (.cells #[.slice none 0 0] 43)) [(w.heap.size + 1 + 1, 43, #[.slice none 0 0]), (w.heap.size + 1, 43, #[.slice A' n' c']), (w.heap.size, 43, #[.slice A n c])] := boxes3 w _ _ _ _ _ _
  have CV : Hid (∀ W t, Below w.heap.size w W → tabOk ps = t → Calls Try.prog 63 #[tv A n c] W fun e w' => e = .returned (.bool t) ∧ Below W.heap.size W w') := Lib.hid fun W t hW h => by
    have := validTable_any A n c ps W hn hm (hp.below hW)
    rw [h] at this; exact this
  have CU : Hid (∀ W t, Below w.heap.size w W → tabOk qs = t → Calls Try.prog 63 #[tv A' n' c'] W fun e w' => e = .returned (.bool t) ∧ Below W.heap.size W w') := Lib.hid fun W t hW h => by
    have := validTable_any A' n' c' qs W hn' hm' (hp'.below hW)
    rw [h] at this; exact this
  have HE := Lib.hid hE; have HK := Lib.hid hK
  have hcs : tabOk ps = false ∨ (tabOk ps = true ∧ tabOk qs = false) := by
    cases h1 : tabOk ps
    · exact .inl rfl
    · cases h2 : tabOk qs
      · exact .inr ⟨rfl, rfl⟩
      · exact absurd ⟨h1, h2⟩ h0
  clear hE hK hn hn' hp hp' h0
  rcases hcs with h | ⟨h, h'⟩
  · have HV := Lib.hid h; clear h
    go_enter Try.func58, Try.ntmps58
    go_wp2_with fail
    obtain ⟨W0, hW0⟩ : ∃ W0, (((w.alloc (.cells #[.slice A n c] 43)).alloc (.cells #[.slice A' n' c'] 43)).alloc (.cells #[.slice none 0 0] 43)) = W0 := ⟨_, rfl⟩
    rw [hW0] at HE HK ⊢
    clear hW0
    refine (CV.out _ false HE.out HV.out).mono ?_
    rintro e w1 ⟨rfl, hb1⟩
    have HE1 := Lib.hid (below_then HE.out hb1)
    have q := HK.out.on hb1 _ (.head _)
    have r0 := q.cell 0
    have f0 := q.frozen 0
    have lT := q.lt
    simp at r0
    clear hb1 q
    go_wp2
    refine bodyPost_ret (v := .tuple #[.agg #[.slice none 0 0], .int .i64 11]) (by simp [results, Try.results58, go_sem, r0, lT]) rfl ⟨_, rfl, okPts_bad (by omega) _ _ _, ?_⟩
    exact HE1.out.setCell (p := ⟨w.heap.size + 1 + 1, 0, none⟩) (by show w.heap.size ≤ w.heap.size + 1 + 1; omega) _
  · have HV := Lib.hid h; have HU := Lib.hid h'; clear h h'
    go_enter Try.func58, Try.ntmps58
    go_wp2_with fail
    obtain ⟨W0, hW0⟩ : ∃ W0, (((w.alloc (.cells #[.slice A n c] 43)).alloc (.cells #[.slice A' n' c'] 43)).alloc (.cells #[.slice none 0 0] 43)) = W0 := ⟨_, rfl⟩
    rw [hW0] at HE HK ⊢
    clear hW0
    refine (CV.out _ true HE.out HV.out).mono ?_
    rintro e w1 ⟨rfl, hb1⟩
    have HE1 := Lib.hid (below_then HE.out hb1); have HK1 := Lib.hid (HK.out.on hb1)
    clear hb1 HK
    have q0 := (HK1.out _ (.tail _ (.head _))).cell 0
    simp at q0
    go_wp2_with fail
    refine (CU.out _ false HE1.out HU.out).mono ?_
    rintro e w2 ⟨rfl, hb1⟩
    have HE2 := Lib.hid (below_then HE1.out hb1)
    have q := HK1.out.on hb1 _ (.head _)
    have r0 := q.cell 0
    have f0 := q.frozen 0
    have lT := q.lt
    simp at r0
    clear hb1 q q0
    go_wp2
    refine bodyPost_ret (v := .tuple #[.agg #[.slice none 0 0], .int .i64 11]) (by simp [results, Try.results58, go_sem, r0, lT]) rfl ⟨_, rfl, okPts_bad (by omega) _ _ _, ?_⟩
    exact HE2.out.setCell (p := ⟨w.heap.size + 1 + 1, 0, none⟩) (by show w.heap.size ≤ w.heap.size + 1 + 1; omega) _

set_option maxRecDepth 100000 in
set_option maxHeartbeats 8000000 in
theorem rPlus_good (b o n c b' o' n' c' : Nat) (ps qs : List P3) (w : World) (hn : n = ps.length) (hn' : n' = qs.length) (hb : b < w.heap.size) (hb' : b' < w.heap.size)
    (ht : tabOk ps = true) (hu : tabOk qs = true) (hc : PtsAt w b o ps) (hc' : PtsAt w b' o' qs) :
    Calls Try.prog 58 #[tv (some ⟨b, o, none⟩) n c, tv (some ⟨b', o', none⟩) n' c'] w (GivesTabE w (shapedS (built (plusAt ps qs) (placesOf ps qs))) (built (plusAt ps qs) (placesOf ps qs))) := by
  have hlp := tabOk_len ht
  have hlq := tabOk_len hu
  have hll := placesOf_len ps qs
  have hE : Below w.heap.size w (((w.alloc (.cells #[.slice (some ⟨b, o, none⟩) n c] 43)).alloc (.cells #[.slice (some ⟨b', o', none⟩) n' c'] 43)).alloc (.cells #[.slice none 0 0] 43)) := below_a3 (Below.refl _ _)
  have hK : Boxes (((w.alloc (.cells #[.slice (some ⟨b, o, none⟩) n c] 43)).alloc (.cells #[.slice (some ⟨b', o', none⟩) n' c'] 43)).alloc (.cells #[.slice none 0 0] 43)) [(w.heap.size + 1 + 1, 43, #[.slice none 0 0]), (w.heap.size + 1, 43, #[.slice (some ⟨b', o', none⟩) n' c']), (w.heap.size, 43, #[.slice (some ⟨b, o, none⟩) n c])] := boxes3 w _ _ _ _ _ _
  have CV : Hid (∀ W, Below w.heap.size w W → Calls Try.prog 63 #[tv (some ⟨b, o, none⟩) n c] W fun e w' => e = .returned (.bool true) ∧ Below W.heap.size W w') := Lib.hid fun W hW => by
    have := validTable_any _ n c ps W hn (by unfold maxLen; omega) ((hc.below hW hb).pts (Nat.lt_of_lt_of_le hb hW.size))
    rw [ht] at this; exact this
  have CU : Hid (∀ W, Below w.heap.size w W → Calls Try.prog 63 #[tv (some ⟨b', o', none⟩) n' c'] W fun e w' => e = .returned (.bool true) ∧ Below W.heap.size W w') := Lib.hid fun W hW => by
    have := validTable_any _ n' c' qs W hn' (by unfold maxLen; omega) ((hc'.below hW hb').pts (Nat.lt_of_lt_of_le hb' hW.size))
    rw [hu] at this; exact this
  have CP : Hid (∀ W, Below w.heap.size w W → Calls Try.prog 116 #[tv (some ⟨b, o, none⟩) n c, tv (some ⟨b', o', none⟩) n' c'] W (GivesPlaces W (placesOf ps qs))) := Lib.hid fun W hW =>
    places_any b o n c b' o' n' c' ps qs W hn hn' (Nat.lt_of_lt_of_le hb hW.size) (Nat.lt_of_lt_of_le hb' hW.size) ht hu (hc.below hW hb) (hc'.below hW hb')
  obtain ⟨L, hL⟩ : ∃ L, placesOf ps qs = L := ⟨_, rfl⟩
  obtain ⟨f, hf⟩ : ∃ f, plusAt ps qs = f := ⟨_, rfl⟩
  have hx : ∀ x ∈ L, (firstX ps ≤ x ∧ x ≤ lastX ps) ∧ (firstX qs ≤ x ∧ x ≤ lastX qs) ∧ f x = ((atS ps x).1 + (atS qs x).1, (atS ps x).2 + (atS qs x).2, 0) := fun x hx => by
    rw [← hL] at hx
    obtain ⟨h1, h2, _⟩ := placesOf_in ht hx
    exact ⟨h1, h2, by rw [← hf]; exact plusAt_is ht hu hx⟩
  have CA : Hid (∀ W x ra rb, Below w.heap.size w W → firstX ps ≤ x → x ≤ lastX ps → atS ps x = (ra, rb) → Calls Try.prog 93 #[tv (some ⟨b, o, none⟩) n c, .int .i64 x] W fun e w' => e = .returned (rv ra rb) ∧ Below W.heap.size W w') := Lib.hid fun W x ra rb hW h1 h2 h3 =>
    rAt_to b o n c ps x ra rb W hn (Nat.lt_of_lt_of_le hb hW.size) ht h1 h2 (hc.below hW hb) h3
  have CB : Hid (∀ W x ra rb, Below w.heap.size w W → firstX qs ≤ x → x ≤ lastX qs → atS qs x = (ra, rb) → Calls Try.prog 93 #[tv (some ⟨b', o', none⟩) n' c', .int .i64 x] W fun e w' => e = .returned (rv ra rb) ∧ Below W.heap.size W w') := Lib.hid fun W x ra rb hW h1 h2 h3 =>
    rAt_to b' o' n' c' qs x ra rb W hn' (Nat.lt_of_lt_of_le hb' hW.size) hu h1 h2 (hc'.below hW hb') h3
  rw [hL] at hll
  rw [hL] at CP
  rw [hf, hL]
  have hN : L.length ≤ 80 := by omega
  have HE := Lib.hid hE; have HK := Lib.hid hK; have HX := Lib.hid hx; have HTU := Lib.hid (And.intro ht hu)
  clear hE hK hc hc' hn hn' hx hL hf hlp hlq hll ht hu
  obtain ⟨i0, hi, hz0, hz1, hz2⟩ := info_parts Try.infoP
  go_enter Try.func58, Try.ntmps58
  go_wp2_with fail
  obtain ⟨W0, hW0⟩ : ∃ W0, (((w.alloc (.cells #[.slice (some ⟨b, o, none⟩) n c] 43)).alloc (.cells #[.slice (some ⟨b', o', none⟩) n' c'] 43)).alloc (.cells #[.slice none 0 0] 43)) = W0 := ⟨_, rfl⟩
  rw [hW0] at HE HK ⊢
  clear hW0
  obtain ⟨G, hG⟩ : ∃ G, w.heap.size = G := ⟨_, rfl⟩
  rw [hG] at HK ⊢
  have HG := Lib.hid hG; clear hG
  refine (CV.out _ HE.out).mono ?_
  rintro e w1 ⟨rfl, hb1⟩
  have HE1 := Lib.hid (below_then HE.out hb1); have HK1 := Lib.hid (HK.out.on hb1)
  clear hb1 HK HE
  have q0 := (HK1.out _ (.tail _ (.head _))).cell 0
  simp at q0
  go_wp2_with fail
  refine (CU.out _ HE1.out).mono ?_
  rintro e w2 ⟨rfl, hb1⟩
  have HE2 := Lib.hid (below_then HE1.out hb1); have HK2 := Lib.hid (HK1.out.on hb1)
  clear hb1 HK1 HE1 q0
  have q0 := (HK2.out _ (.tail _ (.head _))).cell 0
  have q1 := (HK2.out _ (.tail _ (.tail _ (.head _)))).cell 0
  simp at q0 q1
  go_wp2_with fail
  refine (CP.out _ HE2.out).mono ?_
  rintro e w3 ⟨PA, cap, rfl, hpl, hb1⟩
  have HE3 := Lib.hid (below_then HE2.out hb1); have HK3 := Lib.hid (HK2.out.on hb1)
  clear hb1 HK2 HE2 q0 q1
  have HPL := Lib.hid hpl; clear hpl
  obtain ⟨N, hN'⟩ : ∃ N, L.length = N := ⟨_, rfl⟩
  rw [hN'] at hN ⊢
  have HN := Lib.hid hN'; clear hN'
  go_wp2_with fail
  go_loopw [6, 24] (fun v i wr => ∃ k : Nat, k ≤ N ∧ i = .int .i64 k ∧ OwnPts w3.heap.size wr v (built f (L.take k)) ∧ Below w3.heap.size w3 wr) (fun _ i _ => N - (intOf i).toNat)
  case atStart => exact ⟨0, by omega, rfl, World.ownsRow_nil _ _ _ _, Below.refl _ _⟩
  case round =>
    obtain ⟨k, hk, rfl, hown, hB⟩ := hrel
    by_cases hlt : k < N
    · obtain ⟨x, hp⟩ : ∃ x, L[k]? = some x := ⟨_, List.getElem?_eq_getElem (show k < L.length by rw [HN.out]; exact hlt)⟩
      obtain ⟨pg, po, rfl, hpg, hpm⟩ : ∃ pg po, PA = some ⟨pg, po, none⟩ ∧ pg < w3.heap.size ∧ IntsMem w3 pg po L := by
        rcases HPL.out with h | h
        · rw [h] at hp; cases hp
        · exact h
      have c0 := hpm k x hp
      rw [← hB.cell (p := ⟨pg, po + k, none⟩) hpg] at c0
      obtain ⟨⟨a1, a2⟩, ⟨b1, b2⟩, hfx⟩ := HX.out x (List.mem_of_getElem? hp)
      obtain ⟨⟨ra, rb⟩, hra⟩ : ∃ r, atS ps x = r := ⟨_, rfl⟩
      obtain ⟨⟨rc, rd⟩, hrc⟩ : ∃ r, atS qs x = r := ⟨_, rfl⟩
      have n1 := inB_of (atS_in HTU.out.1 a1 a2)
      have n2 := inB_of (atS_in HTU.out.2 b1 b2)
      rw [hra] at n1
      rw [hrc] at n2
      dsimp only at n1 n2
      have HS : Hid (built f (L.take (k + 1)) = built f (L.take k) ++ [(x, ra + rc, rb + rd)]) := Lib.hid (by unfold built; rw [take_snocP' hp, List.map_append, List.map_cons, List.map_nil, hfx, hra, hrc])
      have hlen : (built f (L.take k)).length = k := by unfold built; rw [List.length_map, List.length_take]; have := HN.out; omega
      have HA := Lib.hid (And.intro (And.intro a1 a2) hra); have HB2 := Lib.hid (And.intro (And.intro b1 b2) hrc)
      have HO := Lib.hid hown; have HB := Lib.hid hB; have HL := Lib.hid hlen
      have hEk := below_then HE3.out hB
      have HEK := Lib.hid hEk
      have hKk := HK3.out.on hB
      have q1 := (hKk _ (.tail _ (.tail _ (.head _)))).cell 0
      simp at q1
      have HKK := Lib.hid hKk
      clear hp hpm hfx hra hrc hown hB hlen hEk hKk a1 a2 b1 b2
      go_wp2_with fail
      refine (CA.out _ x ra rb HEK.out HA.out.1.1 HA.out.1.2 HA.out.2).mono ?_
      rintro e v1 ⟨rfl, hb1⟩
      have HB1 := Lib.hid (below_then HB.out (below_then hb1 (below_alloc1 v1 (.cells #[.int .i64 ra, .int .i64 rb] 23))))
      have HK1 := Lib.hid ((HKK.out.on hb1).new 23 #[.int .i64 ra, .int .i64 rb]); have HE1 := Lib.hid (below_then (below_then HEK.out hb1) (below_alloc1 v1 (.cells #[.int .i64 ra, .int .i64 rb] 23)))
      have HO1 := Lib.hid ((HO.out.below hb1).alloc (.cells #[.int .i64 ra, .int .i64 rb] 23))
      clear hb1 q1 HKK HEK HO HB
      go_upto_region 8 with fail
      obtain ⟨B1, hB1⟩ : ∃ B, v1.heap.size = B := ⟨_, rfl⟩
      obtain ⟨W1, hW1⟩ : ∃ W, v1.alloc (.cells #[.int .i64 ra, .int .i64 rb] 23) = W := ⟨_, rfl⟩
      rw [hW1] at HB1 HK1 HE1 HO1 ⊢
      rw [hB1] at HK1 ⊢
      clear hW1 hB1
      have q1 := (HK1.out _ (.tail _ (.tail _ (.head _)))).cell 0
      simp at q1
      go_wp2_with fail
      refine (CB.out _ x rc rd HE1.out HB2.out.1.1 HB2.out.1.2 HB2.out.2).mono ?_
      rintro e v2 ⟨rfl, hb1⟩
      have HB3 := Lib.hid (below_then HB1.out (below_then hb1 (below_alloc1 v2 (.cells #[.int .i64 rc, .int .i64 rd] 23))))
      have HK2 := Lib.hid ((HK1.out.on hb1).new 23 #[.int .i64 rc, .int .i64 rd])
      have HO2 := Lib.hid ((HO1.out.below hb1).alloc (.cells #[.int .i64 rc, .int .i64 rd] 23))
      clear hb1 q1 HK1 HE1 HO1 HB1
      go_upto_region 9 with fail
      obtain ⟨B2, hB2⟩ : ∃ B, v2.heap.size = B := ⟨_, rfl⟩
      obtain ⟨W2, hW2⟩ : ∃ W, v2.alloc (.cells #[.int .i64 rc, .int .i64 rd] 23) = W := ⟨_, rfl⟩
      rw [hW2] at HB3 HK2 HO2 ⊢
      rw [hB2] at HK2 ⊢
      clear hW2 hB2
      have d0 := (HK2.out _ (.tail _ (.head _))).cell 0
      have d1 := (HK2.out _ (.tail _ (.head _))).cell 1
      have e0 := (HK2.out _ (.head _)).cell 0
      have e1 := (HK2.out _ (.head _)).cell 1
      simp at d0 d1 e0 e1
      have HO3 := Lib.hid (HO2.out.alloc (.cells #[.int .i64 x, .int .i64 (ra + rc), .int .i64 (rb + rd)] 87))
      have HCE := Lib.hid (cell_pt W2 x (ra + rc) (rb + rd))
      have HB4 := Lib.hid (HB3.out.alloc HB3.out.size (.cells #[.int .i64 x, .int .i64 (ra + rc), .int .i64 (rb + rd)] 87))
      have HSZ := Lib.hid HB3.out.size
      clear HK2 HO2
      go_wp2_with (at_builtin; refine wpList_append_own _ rfl (.tmp 34) (.tmp 47) 41 rfl w3.heap.size 87 i0 (.agg #[.int .i64 0, .int .i64 0, .int .i64 0]) 3 24 Try.underlying41 hi hz0 hz1 hz2 rfl (by decide) _ _ _ rfl HO3.out ⟨W2.heap.size, 0, none⟩ 1 1 [.int .i64 x, .int .i64 (ra + rc), .int .i64 (rb + rd)] rfl rfl HCE.out ?c2 ?c3 ?c4 ?c5 ?_)
      case c2 => simp [Value.oneCell']
      case c3 => simp only [maxLen]; rw [HL.out]; omega
      case c4 => rw [HL.out]; omega
      case c5 => have := HSZ.out; simp; omega
      intro v' w5 hown1 hgrow _
      have hrow : ∀ j, Value.ownBlock u6 = some j → w3.heap.size ≤ j := fun j e => (HO3.out.lt j e).1
      have hB5 : Below w3.heap.size w3 w5 := HB4.out.grown hgrow HB4.out.size hrow
      have hown2 : OwnPts w3.heap.size w5 v' (built f (L.take (k + 1))) := by
        unfold OwnPts
        rw [HS.out, List.length_append, ptCells_snoc]
        exact hown1
      clear hown1 hgrow d0 d1 e0 e1
      go_wp2
      go_roundw
      case rel => exact ⟨k + 1, by omega, by go_num, hown2, hB5⟩
      case measure => simp [intOf]; omega
    · have hkn : built f (L.take k) = built f L := by rw [List.take_of_length_le (by have := HN.out; omega)]
      rw [hkn] at hown
      have hlen : (built f L).length = N := by unfold built; rw [List.length_map, HN.out]
      obtain ⟨sp, sn, sc, rfl⟩ := hown.slice
      have hsn := (own_table hown).1
      have HSH := Lib.hid (shaped_any w3.heap.size sp sn sc (built f L) wr (by omega) hown hB.size)
      have HEK := Lib.hid (below_then HE3.out hB)
      have HKK := Lib.hid (HK3.out.on hB)
      have l3 := HK3.out _ (.head _)
      have hl3 := l3.lt
      obtain ⟨E, hE⟩ : ∃ E, shapedS (built f L) = E := ⟨_, rfl⟩
      rw [hE] at HSH ⊢
      have HEE := Lib.hid hE
      clear hown hB hkn hlen hsn l3 hE
      go_wp2_with fail
      refine (HSH.out).mono ?_
      rintro e w4 ⟨v, rfl, ho, hb1⟩
      obtain ⟨rp, rn, rc, rfl⟩ := ho.slice
      have q := HKK.out.on hb1 _ (.head _)
      have r0 := q.cell 0
      have f0 := q.frozen 0
      have lT := q.lt
      simp at r0
      have HO := Lib.hid ho; have HE4 := Lib.hid (below_then HEK.out hb1)
      have HGL : Hid (w.heap.size ≤ w3.heap.size) := Lib.hid HE3.out.size
      clear ho hb1 q
      go_wp2
      refine bodyPost_ret (v := .tuple #[.agg #[.slice rp rn rc], .int .i64 E]) (by simp [results, Try.results58, go_sem, r0, lT]) rfl ⟨_, by rw [HEE.out], ?_, ?_⟩
      · rw [HEE.out]
        refine World.ownsRow.kept (World.ownsRow.mono (show w4.ownsRow _ 87 3 _ _ _ from HO.out) HGL.out) (grownBy_setCell' w4 _ _) (.inr ?_)
        intro e
        have := (World.ownsRow.lt (show w4.ownsRow _ 87 3 _ _ _ from HO.out) _ e).1
        omega
      · exact HE4.out.setCell (p := ⟨G + 1 + 1, 0, none⟩) (by have := HG.out; show w.heap.size ≤ G + 1 + 1; omega) _
theorem rPlus_any (A : Option Addr) (n c : Nat) (A' : Option Addr) (n' c' : Nat) (ps qs : List P3) (w : World)
    (hn : n = ps.length) (hm : n ≤ maxLen) (hn' : n' = qs.length) (hm' : n' ≤ maxLen) (hp : Pts w A ps) (hp' : Pts w A' qs) :
    Calls Try.prog 58 #[tv A n c, tv A' n' c'] w (GivesTabE w (joinErr (plusAt ps qs) ps qs) (built (plusAt ps qs) (placesOf ps qs))) := by
  by_cases h : tabOk ps = true ∧ tabOk qs = true
  · obtain ⟨b, o, rfl, hb, hc⟩ := hp.block (tabOk_len h.1).1
    obtain ⟨b', o', rfl, hb', hc'⟩ := hp'.block (tabOk_len h.2).1
    rw [plus_shaped h.1 h.2]
    exact rPlus_good b o n c b' o' n' c' ps qs w hn hn' hb hb' h.1 h.2 hc hc'
  · rw [join_bad h]
    exact (rPlus_bad A n c A' n' c' ps qs w hn hm hn' hm' hp hp' h).mono fun e w' => givesTab_bad (by omega)
end

section
open Go.RowKit
attribute [local go_sem ↓] run_minI run_maxI

set_option maxRecDepth 100000 in
set_option maxHeartbeats 4000000 in
theorem rEither_bad (A : Option Addr) (n c : Nat) (A' : Option Addr) (n' c' : Nat) (ps qs : List P3) (w : World)
    (hn : n = ps.length) (hm : n ≤ maxLen) (hn' : n' = qs.length) (hm' : n' ≤ maxLen) (hp : Pts w A ps) (hp' : Pts w A' qs) (h0 : ¬ (tabOk ps = true ∧ tabOk qs = true)) :
    Calls Try.prog 60 #[tv A n c, tv A' n' c'] w (GivesTabE w 11 []) := by
  have hE : Below w.heap.size w (((w.alloc (.cells #[.slice A n c] 43)).alloc (.cells #[.slice A' n' c'] 43)).alloc (.cells #[.slice none 0 0] 43)) := below_a3 (Below.refl _ _)
  have hK : Boxes (((w.alloc (.cells #[.slice A n c] 43)).alloc (.cells #[.slice A' n' c'] 43)).alloc (.cells #[.slice none 0 0] 43)) [(w.heap.size + 1 + 1, 43, #[.slice none 0 0]), (w.heap.size + 1, 43, #[.slice A' n' c']), (w.heap.size, 43, #[.slice A n c])] := boxes3 w _ _ _ _ _ _
  have CV : Hid (∀ W t, Below w.heap.size w W → tabOk ps = t → Calls Try.prog 63 #[tv A n c] W fun e w' => e = .returned (.bool t) ∧ Below W.heap.size W w') := Lib.hid fun W t hW h => by
    have := validTable_any A n c ps W hn hm (hp.below hW)
    rw [h] at this; exact this
  have CU : Hid (∀ W t, Below w.heap.size w W → tabOk qs = t → Calls Try.prog 63 #[tv A' n' c'] W fun e w' => e = .returned (.bool t) ∧ Below W.heap.size W w') := Lib.hid fun W t hW h => by
    have := validTable_any A' n' c' qs W hn' hm' (hp'.below hW)
    rw [h] at this; exact this
  have HE := Lib.hid hE; have HK := Lib.hid hK
  have hcs : tabOk ps = false ∨ (tabOk ps = true ∧ tabOk qs = false) := by
    cases h1 : tabOk ps
    · exact .inl rfl
    · cases h2 : tabOk qs
      · exact .inr ⟨rfl, rfl⟩
      · exact absurd ⟨h1, h2⟩ h0
  clear hE hK hn hn' hp hp' h0
  rcases hcs with h | ⟨h, h'⟩
  · have HV := Lib.hid h; clear h
    go_enter Try.func60, Try.ntmps60
    go_wp2_with fail
    obtain ⟨W0, hW0⟩ : ∃ W0, (((w.alloc (.cells #[.slice A n c] 43)).alloc (.cells #[.slice A' n' c'] 43)).alloc (.cells #[.slice none 0 0] 43)) = W0 := ⟨_, rfl⟩
    rw [hW0] at HE HK ⊢
    clear hW0
    refine (CV.out _ false HE.out HV.out).mono ?_
    rintro e w1 ⟨rfl, hb1⟩
    have HE1 := Lib.hid (below_then HE.out hb1)
    have q := HK.out.on hb1 _ (.head _)
    have r0 := q.cell 0
    have f0 := q.frozen 0
    have lT := q.lt
    simp at r0
    clear hb1 q
    go_wp2
    refine bodyPost_ret (v := .tuple #[.agg #[.slice none 0 0], .int .i64 11]) (by simp [results, Try.results60, go_sem, r0, lT]) rfl ⟨_, rfl, okPts_bad (by omega) _ _ _, ?_⟩
    exact HE1.out.setCell (p := ⟨w.heap.size + 1 + 1, 0, none⟩) (by show w.heap.size ≤ w.heap.size + 1 + 1; omega) _
  · have HV := Lib.hid h; have HU := Lib.hid h'; clear h h'
    go_enter Try.func60, Try.ntmps60
    go_wp2_with fail
    obtain ⟨W0, hW0⟩ : ∃ W0, (((w.alloc (.cells #[.slice A n c] 43)).alloc (.cells #[.slice A' n' c'] 43)).alloc (.cells #[.slice none 0 0] 43)) = W0 := ⟨_, rfl⟩
    rw [hW0] at HE HK ⊢
    clear hW0
    refine (CV.out _ true HE.out HV.out).mono ?_
    rintro e w1 ⟨rfl, hb1⟩
    have HE1 := Lib.hid (below_then HE.out hb1); have HK1 := Lib.hid (HK.out.on hb1)
    clear hb1 HK
    have q0 := (HK1.out _ (.tail _ (.head _))).cell 0
    simp at q0
    go_wp2_with fail
    refine (CU.out _ false HE1.out HU.out).mono ?_
    rintro e w2 ⟨rfl, hb1⟩
    have HE2 := Lib.hid (below_then HE1.out hb1)
    have q := HK1.out.on hb1 _ (.head _)
    have r0 := q.cell 0
    have f0 := q.frozen 0
    have lT := q.lt
    simp at r0
    clear hb1 q q0
    go_wp2
    refine bodyPost_ret (v := .tuple #[.agg #[.slice none 0 0], .int .i64 11]) (by simp [results, Try.results60, go_sem, r0, lT]) rfl ⟨_, rfl, okPts_bad (by omega) _ _ _, ?_⟩
    exact HE2.out.setCell (p := ⟨w.heap.size + 1 + 1, 0, none⟩) (by show w.heap.size ≤ w.heap.size + 1 + 1; omega) _

set_option maxRecDepth 100000 in
set_option maxHeartbeats 8000000 in
theorem rEither_good (b o n c b' o' n' c' : Nat) (ps qs : List P3) (w : World) (hn : n = ps.length) (hn' : n' = qs.length) (hb : b < w.heap.size) (hb' : b' < w.heap.size)
    (ht : tabOk ps = true) (hu : tabOk qs = true) (hc : PtsAt w b o ps) (hc' : PtsAt w b' o' qs) :
    Calls Try.prog 60 #[tv (some ⟨b, o, none⟩) n c, tv (some ⟨b', o', none⟩) n' c'] w (GivesTabE w (shapedS (built (hullAt ps qs) (placesOf ps qs))) (built (hullAt ps qs) (placesOf ps qs))) := by
  have hlp := tabOk_len ht
  have hlq := tabOk_len hu
  have hll := placesOf_len ps qs
  have hE : Below w.heap.size w (((w.alloc (.cells #[.slice (some ⟨b, o, none⟩) n c] 43)).alloc (.cells #[.slice (some ⟨b', o', none⟩) n' c'] 43)).alloc (.cells #[.slice none 0 0] 43)) := below_a3 (Below.refl _ _)
  have hK : Boxes (((w.alloc (.cells #[.slice (some ⟨b, o, none⟩) n c] 43)).alloc (.cells #[.slice (some ⟨b', o', none⟩) n' c'] 43)).alloc (.cells #[.slice none 0 0] 43)) [(w.heap.size + 1 + 1, 43, #[.slice none 0 0]), (w.heap.size + 1, 43, #[.slice (some ⟨b', o', none⟩) n' c']), (w.heap.size, 43, #[.slice (some ⟨b, o, none⟩) n c])] := boxes3 w _ _ _ _ _ _
  have CV : Hid (∀ W, Below w.heap.size w W → Calls Try.prog 63 #[tv (some ⟨b, o, none⟩) n c] W fun e w' => e = .returned (.bool true) ∧ Below W.heap.size W w') := Lib.hid fun W hW => by
    have := validTable_any _ n c ps W hn (by unfold maxLen; omega) ((hc.below hW hb).pts (Nat.lt_of_lt_of_le hb hW.size))
    rw [ht] at this; exact this
  have CU : Hid (∀ W, Below w.heap.size w W → Calls Try.prog 63 #[tv (some ⟨b', o', none⟩) n' c'] W fun e w' => e = .returned (.bool true) ∧ Below W.heap.size W w') := Lib.hid fun W hW => by
    have := validTable_any _ n' c' qs W hn' (by unfold maxLen; omega) ((hc'.below hW hb').pts (Nat.lt_of_lt_of_le hb' hW.size))
    rw [hu] at this; exact this
  have CP : Hid (∀ W, Below w.heap.size w W → Calls Try.prog 116 #[tv (some ⟨b, o, none⟩) n c, tv (some ⟨b', o', none⟩) n' c'] W (GivesPlaces W (placesOf ps qs))) := Lib.hid fun W hW =>
    places_any b o n c b' o' n' c' ps qs W hn hn' (Nat.lt_of_lt_of_le hb hW.size) (Nat.lt_of_lt_of_le hb' hW.size) ht hu (hc.below hW hb) (hc'.below hW hb')
  obtain ⟨L, hL⟩ : ∃ L, placesOf ps qs = L := ⟨_, rfl⟩
  obtain ⟨f, hf⟩ : ∃ f, hullAt ps qs = f := ⟨_, rfl⟩
  have hx : ∀ x ∈ L, (firstX ps ≤ x ∧ x ≤ lastX ps) ∧ (firstX qs ≤ x ∧ x ≤ lastX qs) ∧ f x = (min (atS ps x).1 (atS qs x).1, max (atS ps x).2 (atS qs x).2, 0) := fun x hx => by
    rw [← hL] at hx
    obtain ⟨h1, h2, _⟩ := placesOf_in ht hx
    exact ⟨h1, h2, by rw [← hf]; exact hullAt_is ht hu hx⟩
  have CA : Hid (∀ W x ra rb, Below w.heap.size w W → firstX ps ≤ x → x ≤ lastX ps → atS ps x = (ra, rb) → Calls Try.prog 93 #[tv (some ⟨b, o, none⟩) n c, .int .i64 x] W fun e w' => e = .returned (rv ra rb) ∧ Below W.heap.size W w') := Lib.hid fun W x ra rb hW h1 h2 h3 =>
    rAt_to b o n c ps x ra rb W hn (Nat.lt_of_lt_of_le hb hW.size) ht h1 h2 (hc.below hW hb) h3
  have CB : Hid (∀ W x ra rb, Below w.heap.size w W → firstX qs ≤ x → x ≤ lastX qs → atS qs x = (ra, rb) → Calls Try.prog 93 #[tv (some ⟨b', o', none⟩) n' c', .int .i64 x] W fun e w' => e = .returned (rv ra rb) ∧ Below W.heap.size W w') := Lib.hid fun W x ra rb hW h1 h2 h3 =>
    rAt_to b' o' n' c' qs x ra rb W hn' (Nat.lt_of_lt_of_le hb' hW.size) hu h1 h2 (hc'.below hW hb') h3
  rw [hL] at hll
  rw [hL] at CP
  rw [hf, hL]
  have hN : L.length ≤ 80 := by omega
  have HE := Lib.hid hE; have HK := Lib.hid hK; have HX := Lib.hid hx; have HTU := Lib.hid (And.intro ht hu)
  clear hE hK hc hc' hn hn' hx hL hf hlp hlq hll ht hu
  obtain ⟨i0, hi, hz0, hz1, hz2⟩ := info_parts Try.infoP
  go_enter Try.func60, Try.ntmps60
  go_wp2_with fail
  obtain ⟨W0, hW0⟩ : ∃ W0, (((w.alloc (.cells #[.slice (some ⟨b, o, none⟩) n c] 43)).alloc (.cells #[.slice (some ⟨b', o', none⟩) n' c'] 43)).alloc (.cells #[.slice none 0 0] 43)) = W0 := ⟨_, rfl⟩
  rw [hW0] at HE HK ⊢
  clear hW0
  obtain ⟨G, hG⟩ : ∃ G, w.heap.size = G := ⟨_, rfl⟩
  rw [hG] at HK ⊢
  have HG := Lib.hid hG; clear hG
  refine (CV.out _ HE.out).mono ?_
  rintro e w1 ⟨rfl, hb1⟩
  have HE1 := Lib.hid (below_then HE.out hb1); have HK1 := Lib.hid (HK.out.on hb1)
  clear hb1 HK HE
  have q0 := (HK1.out _ (.tail _ (.head _))).cell 0
  simp at q0
  go_wp2_with fail
  refine (CU.out _ HE1.out).mono ?_
  rintro e w2 ⟨rfl, hb1⟩
  have HE2 := Lib.hid (below_then HE1.out hb1); have HK2 := Lib.hid (HK1.out.on hb1)
  clear hb1 HK1 HE1 q0
  have q0 := (HK2.out _ (.tail _ (.head _))).cell 0
  have q1 := (HK2.out _ (.tail _ (.tail _ (.head _)))).cell 0
  simp at q0 q1
  go_wp2_with fail
  refine (CP.out _ HE2.out).mono ?_
  rintro e w3 ⟨PA, cap, rfl, hpl, hb1⟩
  have HE3 := Lib.hid (below_then HE2.out hb1); have HK3 := Lib.hid (HK2.out.on hb1)
  clear hb1 HK2 HE2 q0 q1
  have HPL := Lib.hid hpl; clear hpl
  obtain ⟨N, hN'⟩ : ∃ N, L.length = N := ⟨_, rfl⟩
  rw [hN'] at hN ⊢
  have HN := Lib.hid hN'; clear hN'
  go_wp2_with fail
  go_loopw [6, 24] (fun v i wr => ∃ k : Nat, k ≤ N ∧ i = .int .i64 k ∧ OwnPts w3.heap.size wr v (built f (L.take k)) ∧ Below w3.heap.size w3 wr) (fun _ i _ => N - (intOf i).toNat)
  case atStart => exact ⟨0, by omega, rfl, World.ownsRow_nil _ _ _ _, Below.refl _ _⟩
  case round =>
    obtain ⟨k, hk, rfl, hown, hB⟩ := hrel
    by_cases hlt : k < N
    · obtain ⟨x, hp⟩ : ∃ x, L[k]? = some x := ⟨_, List.getElem?_eq_getElem (show k < L.length by rw [HN.out]; exact hlt)⟩
      obtain ⟨pg, po, rfl, hpg, hpm⟩ : ∃ pg po, PA = some ⟨pg, po, none⟩ ∧ pg < w3.heap.size ∧ IntsMem w3 pg po L := by
        rcases HPL.out with h | h
        · rw [h] at hp; cases hp
        · exact h
      have c0 := hpm k x hp
      rw [← hB.cell (p := ⟨pg, po + k, none⟩) hpg] at c0
      obtain ⟨⟨a1, a2⟩, ⟨b1, b2⟩, hfx⟩ := HX.out x (List.mem_of_getElem? hp)
      obtain ⟨⟨ra, rb⟩, hra⟩ : ∃ r, atS ps x = r := ⟨_, rfl⟩
      obtain ⟨⟨rc, rd⟩, hrc⟩ : ∃ r, atS qs x = r := ⟨_, rfl⟩
      have n1 := inB_of (atS_in HTU.out.1 a1 a2)
      have n2 := inB_of (atS_in HTU.out.2 b1 b2)
      rw [hra] at n1
      rw [hrc] at n2
      dsimp only at n1 n2
      have HS : Hid (built f (L.take (k + 1)) = built f (L.take k) ++ [(x, min ra rc, max rb rd)]) := Lib.hid (by unfold built; rw [take_snocP' hp, List.map_append, List.map_cons, List.map_nil, hfx, hra, hrc])
      have hlen : (built f (L.take k)).length = k := by unfold built; rw [List.length_map, List.length_take]; have := HN.out; omega
      have HA := Lib.hid (And.intro (And.intro a1 a2) hra); have HB2 := Lib.hid (And.intro (And.intro b1 b2) hrc)
      have HO := Lib.hid hown; have HB := Lib.hid hB; have HL := Lib.hid hlen
      have hEk := below_then HE3.out hB
      have HEK := Lib.hid hEk
      have hKk := HK3.out.on hB
      have q1 := (hKk _ (.tail _ (.tail _ (.head _)))).cell 0
      simp at q1
      have HKK := Lib.hid hKk
      clear hp hpm hfx hra hrc hown hB hlen hEk hKk a1 a2 b1 b2
      go_wp2_with fail
      refine (CA.out _ x ra rb HEK.out HA.out.1.1 HA.out.1.2 HA.out.2).mono ?_
      rintro e v1 ⟨rfl, hb1⟩
      have HB1 := Lib.hid (below_then HB.out (below_then hb1 (below_alloc1 v1 (.cells #[.int .i64 ra, .int .i64 rb] 23))))
      have HK1 := Lib.hid ((HKK.out.on hb1).new 23 #[.int .i64 ra, .int .i64 rb]); have HE1 := Lib.hid (below_then (below_then HEK.out hb1) (below_alloc1 v1 (.cells #[.int .i64 ra, .int .i64 rb] 23)))
      have HO1 := Lib.hid ((HO.out.below hb1).alloc (.cells #[.int .i64 ra, .int .i64 rb] 23))
      clear hb1 q1 HKK HEK HO HB
      go_upto_region 8 with fail
      obtain ⟨B1, hB1⟩ : ∃ B, v1.heap.size = B := ⟨_, rfl⟩
      obtain ⟨W1, hW1⟩ : ∃ W, v1.alloc (.cells #[.int .i64 ra, .int .i64 rb] 23) = W := ⟨_, rfl⟩
      rw [hW1] at HB1 HK1 HE1 HO1 ⊢
      rw [hB1] at HK1 ⊢
      clear hW1 hB1
      have q1 := (HK1.out _ (.tail _ (.tail _ (.head _)))).cell 0
      simp at q1
      go_wp2_with fail
      refine (CB.out _ x rc rd HE1.out HB2.out.1.1 HB2.out.1.2 HB2.out.2).mono ?_
      rintro e v2 ⟨rfl, hb1⟩
      have HB3 := Lib.hid (below_then HB1.out (below_then hb1 (below_alloc1 v2 (.cells #[.int .i64 rc, .int .i64 rd] 23))))
      have HK2 := Lib.hid ((HK1.out.on hb1).new 23 #[.int .i64 rc, .int .i64 rd])
      have HO2 := Lib.hid ((HO1.out.below hb1).alloc (.cells #[.int .i64 rc, .int .i64 rd] 23))
      clear hb1 q1 HK1 HE1 HO1 HB1
      go_upto_region 9 with fail
      obtain ⟨B2, hB2⟩ : ∃ B, v2.heap.size = B := ⟨_, rfl⟩
      obtain ⟨W2, hW2⟩ : ∃ W, v2.alloc (.cells #[.int .i64 rc, .int .i64 rd] 23) = W := ⟨_, rfl⟩
      rw [hW2] at HB3 HK2 HO2 ⊢
      rw [hB2] at HK2 ⊢
      clear hW2 hB2
      have d0 := (HK2.out _ (.tail _ (.head _))).cell 0
      have d1 := (HK2.out _ (.tail _ (.head _))).cell 1
      have e0 := (HK2.out _ (.head _)).cell 0
      have e1 := (HK2.out _ (.head _)).cell 1
      simp at d0 d1 e0 e1
      have HO3 := Lib.hid (HO2.out.alloc (.cells #[.int .i64 x, .int .i64 (min ra rc), .int .i64 (max rb rd)] 87))
      have HCE := Lib.hid (cell_pt W2 x (min ra rc) (max rb rd))
      have HB4 := Lib.hid (HB3.out.alloc HB3.out.size (.cells #[.int .i64 x, .int .i64 (min ra rc), .int .i64 (max rb rd)] 87))
      have HSZ := Lib.hid HB3.out.size
      clear HK2 HO2
      go_wp2_with (at_builtin; refine wpList_append_own _ rfl (.tmp 34) (.tmp 47) 41 rfl w3.heap.size 87 i0 (.agg #[.int .i64 0, .int .i64 0, .int .i64 0]) 3 24 Try.underlying41 hi hz0 hz1 hz2 rfl (by decide) _ _ _ rfl HO3.out ⟨W2.heap.size, 0, none⟩ 1 1 [.int .i64 x, .int .i64 (min ra rc), .int .i64 (max rb rd)] rfl rfl HCE.out ?c2 ?c3 ?c4 ?c5 ?_)
      case c2 => simp [Value.oneCell']
      case c3 => simp only [maxLen]; rw [HL.out]; omega
      case c4 => rw [HL.out]; omega
      case c5 => have := HSZ.out; simp; omega
      intro v' w5 hown1 hgrow _
      have hrow : ∀ j, Value.ownBlock u6 = some j → w3.heap.size ≤ j := fun j e => (HO3.out.lt j e).1
      have hB5 : Below w3.heap.size w3 w5 := HB4.out.grown hgrow HB4.out.size hrow
      have hown2 : OwnPts w3.heap.size w5 v' (built f (L.take (k + 1))) := by
        unfold OwnPts
        rw [HS.out, List.length_append, ptCells_snoc]
        exact hown1
      clear hown1 hgrow d0 d1 e0 e1
      go_wp2
      go_roundw
      case rel => exact ⟨k + 1, by omega, by go_num, hown2, hB5⟩
      case measure => simp [intOf]; omega
    · have hkn : built f (L.take k) = built f L := by rw [List.take_of_length_le (by have := HN.out; omega)]
      rw [hkn] at hown
      have hlen : (built f L).length = N := by unfold built; rw [List.length_map, HN.out]
      obtain ⟨sp, sn, sc, rfl⟩ := hown.slice
      have hsn := (own_table hown).1
      have HSH := Lib.hid (shaped_any w3.heap.size sp sn sc (built f L) wr (by omega) hown hB.size)
      have HEK := Lib.hid (below_then HE3.out hB)
      have HKK := Lib.hid (HK3.out.on hB)
      have l3 := HK3.out _ (.head _)
      have hl3 := l3.lt
      obtain ⟨E, hE⟩ : ∃ E, shapedS (built f L) = E := ⟨_, rfl⟩
      rw [hE] at HSH ⊢
      have HEE := Lib.hid hE
      clear hown hB hkn hlen hsn l3 hE
      go_wp2_with fail
      refine (HSH.out).mono ?_
      rintro e w4 ⟨v, rfl, ho, hb1⟩
      obtain ⟨rp, rn, rc, rfl⟩ := ho.slice
      have q := HKK.out.on hb1 _ (.head _)
      have r0 := q.cell 0
      have f0 := q.frozen 0
      have lT := q.lt
      simp at r0
      have HO := Lib.hid ho; have HE4 := Lib.hid (below_then HEK.out hb1)
      have HGL : Hid (w.heap.size ≤ w3.heap.size) := Lib.hid HE3.out.size
      clear ho hb1 q
      go_wp2
      refine bodyPost_ret (v := .tuple #[.agg #[.slice rp rn rc], .int .i64 E]) (by simp [results, Try.results60, go_sem, r0, lT]) rfl ⟨_, by rw [HEE.out], ?_, ?_⟩
      · rw [HEE.out]
        refine World.ownsRow.kept (World.ownsRow.mono (show w4.ownsRow _ 87 3 _ _ _ from HO.out) HGL.out) (grownBy_setCell' w4 _ _) (.inr ?_)
        intro e
        have := (World.ownsRow.lt (show w4.ownsRow _ 87 3 _ _ _ from HO.out) _ e).1
        omega
      · exact HE4.out.setCell (p := ⟨G + 1 + 1, 0, none⟩) (by have := HG.out; show w.heap.size ≤ G + 1 + 1; omega) _
theorem rEither_any (A : Option Addr) (n c : Nat) (A' : Option Addr) (n' c' : Nat) (ps qs : List P3) (w : World)
    (hn : n = ps.length) (hm : n ≤ maxLen) (hn' : n' = qs.length) (hm' : n' ≤ maxLen) (hp : Pts w A ps) (hp' : Pts w A' qs) :
    Calls Try.prog 60 #[tv A n c, tv A' n' c'] w (GivesTabE w (joinErr (hullAt ps qs) ps qs) (built (hullAt ps qs) (placesOf ps qs))) := by
  by_cases h : tabOk ps = true ∧ tabOk qs = true
  · obtain ⟨b, o, rfl, hb, hc⟩ := hp.block (tabOk_len h.1).1
    obtain ⟨b', o', rfl, hb', hc'⟩ := hp'.block (tabOk_len h.2).1
    rw [hull_shaped h.1 h.2]
    exact rEither_good b o n c b' o' n' c' ps qs w hn hn' hb hb' h.1 h.2 hc hc'
  · rw [join_bad h]
    exact (rEither_bad A n c A' n' c' ps qs w hn hm hn' hm' hp hp' h).mono fun e w' => givesTab_bad (by omega)
end

section
open Go.RowKit

/-- whether a number of the first k points is too great -/
def bigTo (p q : Int) (ps : List P3) (k : Nat) : Bool := (ps.take k).any fun r => decide ((scaleS r.2.1 r.2.2 p q).2.2 ≠ 0)
theorem bigTo_succ {p q : Int} {ps : List P3} {k : Nat} {r : P3} (h : ps[k]? = some r) : bigTo p q ps (k + 1) = (bigTo p q ps k || decide ((scaleS r.2.1 r.2.2 p q).2.2 ≠ 0)) := by
  unfold bigTo; rw [take_snocP' h, List.any_append]; simp

set_option maxRecDepth 100000 in
set_option maxHeartbeats 4000000 in
theorem rTimes_bad (A : Option Addr) (n c : Nat) (p q : Int) (ps : List P3) (w : World) (hn : n = ps.length) (hm : n ≤ maxLen) (hp : Pts w A ps) (h0 : tabOk ps = false) :
    Calls Try.prog 62 #[tv A n c, .int .i64 p, .int .i64 q] w (GivesTabE w 11 []) := by
  have hE : Below w.heap.size w ((w.alloc (.cells #[.slice A n c] 43)).alloc (.cells #[.slice none 0 0] 43)) := below_a2 (Below.refl _ _)
  have hK := boxes2 w 43 43 #[.slice A n c] #[.slice none 0 0]
  have CV : Hid (∀ W, Below w.heap.size w W → Calls Try.prog 63 #[tv A n c] W fun e w' => e = .returned (.bool false) ∧ Below W.heap.size W w') := Lib.hid fun W hW => by
    have := validTable_any A n c ps W hn hm (hp.below hW)
    rw [h0] at this; exact this
  have HE := Lib.hid hE; have HK := Lib.hid hK
  clear hE hK hn hp h0
  go_enter Try.func62, Try.ntmps62
  go_wp2_with fail
  obtain ⟨W0, hW0⟩ : ∃ W0, ((w.alloc (.cells #[.slice A n c] 43)).alloc (.cells #[.slice none 0 0] 43)) = W0 := ⟨_, rfl⟩
  rw [hW0] at HE HK ⊢
  clear hW0
  refine (CV.out _ HE.out).mono ?_
  rintro e w1 ⟨rfl, hb1⟩
  have HE1 := Lib.hid (below_then HE.out hb1)
  have q := HK.out.on hb1 _ (.head _)
  have r0 := q.cell 0
  have f0 := q.frozen 0
  have lT := q.lt
  simp at r0
  clear hb1 q
  go_wp2
  refine bodyPost_ret (v := .tuple #[.agg #[.slice none 0 0], .int .i64 11]) (by simp [results, Try.results62, go_sem, r0, lT]) rfl ⟨_, rfl, okPts_bad (by omega) _ _ _, ?_⟩
  exact HE1.out.setCell (p := ⟨w.heap.size + 1, 0, none⟩) (by show w.heap.size ≤ w.heap.size + 1; omega) _

set_option maxRecDepth 100000 in
set_option maxHeartbeats 4000000 in
theorem rTimes_args (b o n c : Nat) (p q : Int) (ps : List P3) (w : World) (hn : n = ps.length) (hb : b < w.heap.size) (ht : tabOk ps = true) (hc : PtsAt w b o ps) (h0 : ¬ argsOk p q) :
    Calls Try.prog 62 #[tv (some ⟨b, o, none⟩) n c, .int .i64 p, .int .i64 q] w (GivesTabE w 1 []) := by
  have hl := tabOk_len ht
  have hE : Below w.heap.size w ((w.alloc (.cells #[.slice (some ⟨b, o, none⟩) n c] 43)).alloc (.cells #[.slice none 0 0] 43)) := below_a2 (Below.refl _ _)
  have hK := boxes2 w 43 43 #[.slice (some ⟨b, o, none⟩) n c] #[.slice none 0 0]
  have CV : Hid (∀ W, Below w.heap.size w W → Calls Try.prog 63 #[tv (some ⟨b, o, none⟩) n c] W fun e w' => e = .returned (.bool true) ∧ Below W.heap.size W w') := Lib.hid fun W hW => by
    have := validTable_any _ n c ps W hn (by unfold maxLen; omega) ((hc.below hW hb).pts (Nat.lt_of_lt_of_le hb hW.size))
    rw [ht] at this; exact this
  obtain ⟨⟨x, lo, hi⟩, hp⟩ : ∃ r, ps[0]? = some r := ⟨_, List.getElem?_eq_getElem (show 0 < ps.length by omega)⟩
  have hsc : scaleS lo hi p q = (0, 0, 1) := by
    have := timesAt_bad ht h0 (List.mem_of_getElem? hp)
    rw [timesAt_point ht (List.mem_of_getElem? hp)] at this
    exact this
  have CS : Hid (∀ W, Calls Try.prog 21 #[rv lo hi, .int .i64 p, .int .i64 q] W fun e w' => e = .returned (.tuple #[rv 0 0, .int .i64 1]) ∧ Below W.heap.size W w') := Lib.hid fun W => rt_to (rScale_any lo hi p q W) hsc
  have hc0 := hc 0 _ hp
  have h1 : 1 ≤ n := by omega
  have hn40 : n ≤ 40 := by omega
  have HE := Lib.hid hE; have HK := Lib.hid hK; have HC0 := Lib.hid hc0
  clear hE hK hn hc h0 hp hsc ht hl hc0
  go_enter Try.func62, Try.ntmps62
  go_wp2_with fail
  obtain ⟨W0, hW0⟩ : ∃ W0, ((w.alloc (.cells #[.slice (some ⟨b, o, none⟩) n c] 43)).alloc (.cells #[.slice none 0 0] 43)) = W0 := ⟨_, rfl⟩
  rw [hW0] at HE HK ⊢
  clear hW0
  refine (CV.out _ HE.out).mono ?_
  rintro e w1 ⟨rfl, hb1⟩
  have HE1 := Lib.hid (below_then HE.out hb1); have HK1 := Lib.hid (HK.out.on hb1)
  clear hb1 HE HK
  have q0 := (HK1.out _ (.tail _ (.head _))).cell 0
  simp at q0
  go_wp2_with fail
  go_loopw [21] (fun i wr => i = .int .i64 0 ∧ wr = w1) (fun i _ => 0)
  case atStart => exact ⟨rfl, rfl⟩
  case round =>
    obtain ⟨rfl, rfl⟩ := hrel
    obtain ⟨c0, c1, c2⟩ := HC0.out
    rw [← HE1.out.cell (p := ⟨b, o + 0 * 3, none⟩) hb] at c0
    rw [← HE1.out.cell (p := ⟨b, o + 0 * 3 + 1, none⟩) hb] at c1
    rw [← HE1.out.cell (p := ⟨b, o + 0 * 3 + 2, none⟩) hb] at c2
    simp at c0 c1 c2
    go_wp2_with fail
    refine (CS.out _).mono ?_
    rintro e w2 ⟨rfl, hb1⟩
    have hbp := below_then (below_alloc1 wr (.cells #[.int .i64 x, .int .i64 lo, .int .i64 hi] 87)) hb1
    have HE2 := Lib.hid (below_then HE1.out hbp)
    have q := HK1.out.on hbp _ (.head _)
    have r0 := q.cell 0
    have f0 := q.frozen 0
    have lT := q.lt
    simp at r0
    clear hb1 q hbp q0 c0 c1 c2
    go_wp2
    refine bodyPost_ret (v := .tuple #[.agg #[.slice none 0 0], .int .i64 1]) (by simp [results, Try.results62, go_sem, r0, lT]) rfl ⟨_, rfl, okPts_bad (by omega) _ _ _, ?_⟩
    exact (HE2.out.setCell (p := ⟨w.heap.size + 1, 0, none⟩) (by show w.heap.size ≤ w.heap.size + 1; omega) _).alloc (by have := HE2.out.size; simp [World.setCell]; omega) _
set_option maxRecDepth 100000 in
set_option maxHeartbeats 8000000 in
theorem rTimes_good (b o n c : Nat) (p q : Int) (ps : List P3) (w : World) (hn : n = ps.length) (hb : b < w.heap.size) (ht : tabOk ps = true) (hc : PtsAt w b o ps) (h0 : argsOk p q) :
    Calls Try.prog 62 #[tv (some ⟨b, o, none⟩) n c, .int .i64 p, .int .i64 q] w (GivesTabE w (if bigTo p q ps n = true then 5 else shapedS (built (timesAt p q ps) (ps.map (·.1)))) (built (timesAt p q ps) (ps.map (·.1)))) := by
  have hl := tabOk_len ht
  have hE : Below w.heap.size w ((w.alloc (.cells #[.slice (some ⟨b, o, none⟩) n c] 43)).alloc (.cells #[.slice none 0 0] 43)) := below_a2 (Below.refl _ _)
  have hK := boxes2 w 43 43 #[.slice (some ⟨b, o, none⟩) n c] #[.slice none 0 0]
  have CV : Hid (∀ W, Below w.heap.size w W → Calls Try.prog 63 #[tv (some ⟨b, o, none⟩) n c] W fun e w' => e = .returned (.bool true) ∧ Below W.heap.size W w') := Lib.hid fun W hW => by
    have := validTable_any _ n c ps W hn (by unfold maxLen; omega) ((hc.below hW hb).pts (Nat.lt_of_lt_of_le hb hW.size))
    rw [ht] at this; exact this
  obtain ⟨f, hf⟩ : ∃ f, timesAt p q ps = f := ⟨_, rfl⟩
  have hx : ∀ r ∈ ps, f r.1 = scaleS r.2.1 r.2.2 p q ∧ ((scaleS r.2.1 r.2.2 p q).2.2 = 0 ∨ (scaleS r.2.1 r.2.2 p q).2.2 = 5) := fun r hr => by
    have h1 := timesAt_point (n := p) (d := q) ht hr
    have h2 := timesAt_err ht h0 hr
    rw [h1] at h2
    exact ⟨by rw [← hf]; exact h1, h2⟩
  have CS : Hid (∀ W lo hi x y z, scaleS lo hi p q = (x, y, z) → Calls Try.prog 21 #[rv lo hi, .int .i64 p, .int .i64 q] W fun e w' => e = .returned (.tuple #[rv x y, .int .i64 z]) ∧ Below W.heap.size W w') := Lib.hid fun W lo hi x y z h => rt_to (rScale_any lo hi p q W) h
  obtain ⟨i0, hi, hz0, hz1, hz2⟩ := info_parts Try.infoP
  obtain ⟨X, hX⟩ : ∃ X, ps.map (·.1) = X := ⟨_, rfl⟩
  have hxl : X.length = n := by rw [← hX, List.length_map, hn]
  have hxk : ∀ (k : Nat) (r : P3), ps[k]? = some r → X[k]? = some r.1 := fun k r h => by rw [← hX, List.getElem?_map, h]; rfl
  have HXX := Lib.hid (And.intro hxl hxk)
  rw [hf, hX]
  clear hX hxl hxk
  obtain ⟨EE, hEE⟩ : ∃ E, (if bigTo p q ps n = true then 5 else shapedS (built f X)) = E := ⟨_, rfl⟩
  rw [hEE]
  have HEEE := Lib.hid hEE
  clear hEE
  have hn40 : n ≤ 40 := by omega
  have HE := Lib.hid hE; have HK := Lib.hid hK; have HC := Lib.hid hc; have HX := Lib.hid hx; have HN := Lib.hid hn
  clear hE hK hn hc hx ht hl hf h0
  go_enter Try.func62, Try.ntmps62
  go_wp2_with fail
  obtain ⟨W0, hW0⟩ : ∃ W0, ((w.alloc (.cells #[.slice (some ⟨b, o, none⟩) n c] 43)).alloc (.cells #[.slice none 0 0] 43)) = W0 := ⟨_, rfl⟩
  rw [hW0] at HE HK ⊢
  clear hW0
  refine (CV.out _ HE.out).mono ?_
  rintro e w1 ⟨rfl, hb1⟩
  have HE1 := Lib.hid (below_then HE.out hb1); have HK1 := Lib.hid (HK.out.on hb1)
  clear hb1 HE HK
  have q0 := (HK1.out _ (.tail _ (.head _))).cell 0
  simp at q0
  go_wp2_with fail
  clear q0
  go_loopw [8, 9, 21] (fun v s i wr => ∃ k : Nat, k ≤ n ∧ i = .int .i64 k ∧ s = .bool (bigTo p q ps k) ∧ Hid (OwnPts w1.heap.size wr v (built f (X.take k))) ∧ Below w1.heap.size w1 wr) (fun _ _ i _ => n - (intOf i).toNat)
  case atStart => exact ⟨0, by omega, rfl, rfl, World.ownsRow_nil _ _ _ _, Below.refl _ _⟩
  case round =>
    obtain ⟨k, hk, rfl, rfl, HO, hB⟩ := hrel
    by_cases hlt : k < n
    · obtain ⟨r, hp⟩ : ∃ r, ps[k]? = some r := ⟨_, List.getElem?_eq_getElem (show k < ps.length by rw [← HN.out]; exact hlt)⟩
      have hEk := below_then HE1.out hB
      obtain ⟨c0, c1, c2⟩ := HC.out k r hp
      rw [← hEk.cell (p := ⟨b, o + k * 3, none⟩) hb] at c0
      rw [← hEk.cell (p := ⟨b, o + k * 3 + 1, none⟩) hb] at c1
      rw [← hEk.cell (p := ⟨b, o + k * 3 + 2, none⟩) hb] at c2
      have hfx := HX.out r (List.mem_of_getElem? hp)
      have hbs := bigTo_succ (p := p) (q := q) hp
      have HS : Hid (built f (X.take (k + 1)) = built f (X.take k) ++ [(r.1, (f r.1).1, (f r.1).2.1)]) := Lib.hid (by unfold built; rw [take_snocP' (HXX.out.2 k r hp), List.map_append]; rfl)
      have hlen : (built f (X.take k)).length = k := by unfold built; rw [List.length_map, List.length_take]; have := HXX.out.1; omega
      obtain ⟨x, lo, hi'⟩ := r
      dsimp only at c0 c1 c2 hfx hbs
      obtain ⟨⟨ra, rb, er⟩, hsc⟩ : ∃ r, scaleS lo hi' p q = r := ⟨_, rfl⟩
      obtain ⟨hfx1, hfx2⟩ := hfx
      rw [hsc] at hfx1 hfx2 hbs
      dsimp only at hfx2 hbs
      have HS2 : Hid (built f (X.take (k + 1)) = built f (X.take k) ++ [(x, ra, rb)]) := Lib.hid (by rw [HS.out]; dsimp only; rw [hfx1])
      have HSC := Lib.hid hsc; have HBS := Lib.hid hbs; have HL := Lib.hid hlen
      have HEK := Lib.hid hEk; have HB := Lib.hid hB
      have HP := Lib.hid (Blk.new wr 87 #[.int .i64 x, .int .i64 lo, .int .i64 hi'])
      have HB1 := Lib.hid (hB.alloc hB.size (.cells #[.int .i64 x, .int .i64 lo, .int .i64 hi'] 87))
      have HO1 := Lib.hid (OwnPts.alloc HO.out (.cells #[.int .i64 x, .int .i64 lo, .int .i64 hi'] 87))
      clear hp hB hEk hsc hbs hlen hfx1 HS HO
      go_wp2_with fail
      obtain ⟨G, hG⟩ : ∃ G, wr.heap.size = G := ⟨_, rfl⟩
      obtain ⟨W4, hW4⟩ : ∃ W4, wr.alloc (.cells #[.int .i64 x, .int .i64 lo, .int .i64 hi'] 87) = W4 := ⟨_, rfl⟩
      rw [hW4] at HO1 HB1 HP ⊢
      rw [hG] at HP ⊢
      clear hW4 hG c0 c1 c2
      refine (CS.out _ lo hi' ra rb er HSC.out).mono ?_
      rintro e w5 ⟨rfl, hb1⟩
      have HB5 := Lib.hid (below_then HB1.out hb1)
      have HO5 := Lib.hid (OwnPts.below HO1.out hb1)
      have HP5 := Lib.hid (HP.out.below hb1 HP.out.lt)
      have HR5 := Lib.hid (Blk.new w5 23 #[.int .i64 ra, .int .i64 rb])
      have HB6 := Lib.hid (HB5.out.alloc HB5.out.size (.cells #[.int .i64 ra, .int .i64 rb] 23))
      have HO6 := Lib.hid (OwnPts.alloc HO5.out (.cells #[.int .i64 ra, .int .i64 rb] 23))
      have HP6 := Lib.hid (HP5.out.alloc (.cells #[.int .i64 ra, .int .i64 rb] 23))
      clear hb1 HB1 HO1 HP HB5 HO5 HP5
      go_upto_region 9 with fail
      obtain ⟨B2, hB2⟩ : ∃ B, w5.heap.size = B := ⟨_, rfl⟩
      obtain ⟨W6, hW6⟩ : ∃ W, w5.alloc (.cells #[.int .i64 ra, .int .i64 rb] 23) = W := ⟨_, rfl⟩
      rw [hW6] at HB6 HO6 HP6 HR5 ⊢
      rw [hB2] at HR5 ⊢
      clear hW6 hB2
      have z0 := HP6.out.cell 0
      have d0 := HR5.out.cell 0
      have d1 := HR5.out.cell 1
      simp at z0 d0 d1
      have HO7 := Lib.hid (OwnPts.alloc HO6.out (.cells #[.int .i64 x, .int .i64 ra, .int .i64 rb] 87))
      have HCE := Lib.hid (cell_pt W6 x ra rb)
      have HB7 := Lib.hid (HB6.out.alloc HB6.out.size (.cells #[.int .i64 x, .int .i64 ra, .int .i64 rb] 87))
      have HSZ := Lib.hid HB6.out.size
      clear HO6 HP6 HR5
      obtain ⟨s, hs⟩ : ∃ s, bigTo p q ps k = s := ⟨_, rfl⟩
      rw [hs]
      have HBS2 : Hid (bigTo p q ps (k + 1) = (s || decide (er ≠ 0))) := Lib.hid (by rw [HBS.out, hs])
      clear HBS hs
      rcases hfx2 with rfl | rfl <;> cases s
      all_goals
        go_wp2_with (at_builtin; refine wpList_append_own _ rfl (.tmp 45) (.tmp 53) 41 rfl w1.heap.size 87 i0 (.agg #[.int .i64 0, .int .i64 0, .int .i64 0]) 3 24 Try.underlying41 hi hz0 hz1 hz2 rfl (by decide) _ _ _ rfl HO7.out ⟨W6.heap.size, 0, none⟩ 1 1 [.int .i64 x, .int .i64 ra, .int .i64 rb] rfl rfl HCE.out ?c2 ?c3 ?c4 ?c5 ?_)
        case c2 => simp [Value.oneCell']
        case c3 => simp only [maxLen]; rw [HL.out]; omega
        case c4 => rw [HL.out]; omega
        case c5 => have := HSZ.out; simp; omega
        intro v' w7 hown1 hgrow _
        have hrow : ∀ j, Value.ownBlock u8 = some j → w1.heap.size ≤ j := fun j e => (World.ownsRow.lt HO7.out j e).1
        have HB8 := Lib.hid (HB7.out.grown hgrow HB7.out.size hrow)
        have HO8 : Hid (OwnPts w1.heap.size w7 v' (built f (X.take (k + 1)))) := Lib.hid (by
          unfold OwnPts
          rw [HS2.out, List.length_append, ptCells_snoc]
          exact hown1)
        clear hown1 hgrow hrow z0 d0 d1
        go_wp2
        go_roundw
        case rel => exact ⟨k + 1, by omega, by go_num, by rw [HBS2.out]; rfl, HO8, HB8.out⟩
        case measure => simp [intOf]; omega
    · have hkn : k = n := by omega
      subst hkn
      have hkn : built f (X.take k) = built f X := by rw [List.take_of_length_le (by have := HXX.out.1; omega)]
      have hown : OwnPts w1.heap.size wr u8 (built f X) := by rw [← hkn]; exact HO.out
      have hlen : (built f X).length = k := by unfold built; rw [List.length_map, HXX.out.1]
      obtain ⟨sp, sn, sc, rfl⟩ := hown.slice
      have hsn := (own_table hown).1
      have HSH := Lib.hid (shaped_any w1.heap.size sp sn sc (built f X) wr (by omega) hown hB.size)
      have HEK := Lib.hid (below_then HE1.out hB)
      have HKK := Lib.hid (HK1.out.on hB)
      obtain ⟨E, hE⟩ : ∃ E, shapedS (built f X) = E := ⟨_, rfl⟩
      rw [hE] at HSH
      have HEE := Lib.hid hE
      have HGL : Hid (w.heap.size ≤ w1.heap.size) := Lib.hid HE1.out.size
      have hl3 := (HK1.out _ (.head _)).lt
      cases hs : bigTo p q ps k
      · have HS := Lib.hid hs
        clear hown hB hkn hlen hsn hE HO hs
        go_wp2_with fail
        refine (HSH.out).mono ?_
        rintro e w4 ⟨v, rfl, ho, hb1⟩
        obtain ⟨rp, rn, rc, rfl⟩ := ho.slice
        have q := HKK.out.on hb1 _ (.head _)
        have r0 := q.cell 0
        have f0 := q.frozen 0
        have lT := q.lt
        simp at r0
        have HO := Lib.hid ho; have HE4 := Lib.hid (below_then HEK.out hb1)
        clear ho hb1 q
        go_wp2
        refine bodyPost_ret (v := .tuple #[.agg #[.slice rp rn rc], .int .i64 E]) (by simp [results, Try.results62, go_sem, r0, lT]) rfl ⟨_, by rw [← HEEE.out, HS.out, if_neg (by simp), HEE.out], ?_, ?_⟩
        · rw [← HEEE.out, HS.out, if_neg (by simp), HEE.out]
          refine World.ownsRow.kept (World.ownsRow.mono (show w4.ownsRow _ 87 3 _ _ _ from HO.out) HGL.out) (grownBy_setCell' w4 _ _) (.inr ?_)
          intro e
          have := (World.ownsRow.lt (show w4.ownsRow _ 87 3 _ _ _ from HO.out) _ e).1
          omega
        · exact HE4.out.setCell (p := ⟨w.heap.size + 1, 0, none⟩) (by show w.heap.size ≤ w.heap.size + 1; omega) _
      · have HS := Lib.hid hs
        have q := HKK.out _ (.head _)
        have r0 := q.cell 0
        have f0 := q.frozen 0
        have lT := q.lt
        simp at r0
        clear hown hB hkn hlen hsn hE HO hs q
        go_wp2
        refine bodyPost_ret (v := .tuple #[.agg #[.slice none 0 0], .int .i64 5]) (by simp [results, Try.results62, go_sem, r0, lT]) rfl ⟨_, by rw [← HEEE.out, HS.out, if_pos rfl], by rw [← HEEE.out, HS.out, if_pos rfl]; exact okPts_bad (by omega) _ _ _, ?_⟩
        exact HEK.out.setCell (p := ⟨w.heap.size + 1, 0, none⟩) (by show w.heap.size ≤ w.heap.size + 1; omega) _
theorem bigTo_all {p q : Int} {ps : List P3} {n : Nat} (h : n = ps.length) : bigTo p q ps n = ps.any fun r => decide ((scaleS r.2.1 r.2.2 p q).2.2 ≠ 0) := by
  unfold bigTo; rw [List.take_of_length_le (by omega)]
theorem rTimes_any (A : Option Addr) (n c : Nat) (p q : Int) (ps : List P3) (w : World) (hn : n = ps.length) (hm : n ≤ maxLen) (hp : Pts w A ps) :
    Calls Try.prog 62 #[tv A n c, .int .i64 p, .int .i64 q] w (GivesTabE w (timesErr p q ps) (built (timesAt p q ps) (cornersS ps (firstX ps) (lastX ps)))) := by
  cases ht : tabOk ps
  · have e : timesErr p q ps = 11 := by unfold timesErr; rw [ht]; rfl
    rw [e]
    exact (rTimes_bad A n c p q ps w hn hm hp ht).mono fun e w' => givesTab_bad (by omega)
  · obtain ⟨b, o, rfl, hb, hc⟩ := hp.block (tabOk_len ht).1
    by_cases h0 : argsOk p q
    · rw [times_shaped ht h0, corners_all ht, ← bigTo_all hn]
      exact rTimes_good b o n c p q ps w hn hb ht hc h0
    · rw [times_args ht h0]
      exact (rTimes_args b o n c p q ps w hn hb ht hc h0).mono fun e w' => givesTab_bad (by omega)
end

section
open Go.RowKit

theorem tabE_ofE {w : World} {L : List P3} {E : Int} {e : Ending} {w' : World} (h : GivesTabE w E L e w') (h100 : (okPts E L).length ≤ 100) : TabE w (okPts E L) E e w' := by
  obtain ⟨v, rfl, ho, hb⟩ := h
  obtain ⟨p, n, c, rfl⟩ := ho.slice
  obtain ⟨h1, h2⟩ := own_table ho
  exact ⟨p, n, c, rfl, h1, by unfold maxLen; omega, h2, hb⟩
theorem okPts_len {E : Int} {L : List P3} {k : Nat} (h : E = 0 → L.length ≤ k) : (okPts E L).length ≤ k := by
  unfold okPts; split
  · exact h ‹_›
  · simp
theorem join_len {f : Int → Int × Int × Int} {ps qs : List P3} : (okPts (joinErr f ps qs) (built f (placesOf ps qs))).length ≤ 100 := okPts_len fun h => by
  have := placesOf_len ps qs
  unfold built
  rw [List.length_map]
  by_cases g : tabOk ps = true ∧ tabOk qs = true
  · have h1 := (tabOk_len g.1).2; have h2 := (tabOk_len g.2).2; omega
  · rw [join_bad g] at h; omega
theorem times_len {p q : Int} {ps : List P3} : (okPts (timesErr p q ps) (built (timesAt p q ps) (cornersS ps (firstX ps) (lastX ps)))).length ≤ 100 := okPts_len fun h => by
  unfold built
  rw [List.length_map]
  cases g : tabOk ps
  · unfold timesErr at h; rw [g] at h; simp at h
  · exact corners_len _ _ _ (tabOk_len g).2

set_option maxRecDepth 100000 in
set_option maxHeartbeats 8000000 in
theorem fixMakes_walk (A A' : Option Addr) (n n' c c' : Nat) (ps qs : List P3) (x y : Int) (w : World) (hn : n = ps.length) (hn' : n' = qs.length) (hm : n ≤ maxLen) (hm' : n' ≤ maxLen) (hp : Pts w A ps) (hp' : Pts w A' qs) :
    Calls Try.prog 7 #[tv A n c, tv A' n' c', .agg #[.int .i64 x, .int .i64 y]] w fun e w' => e = .returned (.bool true) ∧ Below w.heap.size w w' := by
  obtain ⟨L1, hL1⟩ : ∃ r, okPts (joinErr (plusAt ps qs) ps qs) (built (plusAt ps qs) (placesOf ps qs)) = r := ⟨_, rfl⟩
  obtain ⟨E1, hE1⟩ : ∃ r, joinErr (plusAt ps qs) ps qs = r := ⟨_, rfl⟩
  obtain ⟨L2, hL2⟩ : ∃ r, okPts (joinErr (hullAt ps qs) ps qs) (built (hullAt ps qs) (placesOf ps qs)) = r := ⟨_, rfl⟩
  obtain ⟨E2, hE2⟩ : ∃ r, joinErr (hullAt ps qs) ps qs = r := ⟨_, rfl⟩
  obtain ⟨L3, hL3⟩ : ∃ r, okPts (timesErr x y ps) (built (timesAt x y ps) (cornersS ps (firstX ps) (lastX ps))) = r := ⟨_, rfl⟩
  obtain ⟨E3, hE3⟩ : ∃ r, timesErr x y ps = r := ⟨_, rfl⟩
  have C1 : Hid (∀ W, Below w.heap.size w W → Calls Try.prog 57 #[tv A n c, tv A' n' c'] W (TabE W L1 E1)) :=
    Lib.hid fun W hW => tabE_to ((plus_any A n c A' n' c' ps qs W hn hm hn' hm' (hp.below hW) (hp'.below hW)).mono fun e w' h => tabE_ofE h join_len) hL1 hE1
  have C2 : Hid (∀ W, Below w.heap.size w W → Calls Try.prog 58 #[tv A n c, tv A' n' c'] W (TabE W L1 E1)) :=
    Lib.hid fun W hW => tabE_to ((rPlus_any A n c A' n' c' ps qs W hn hm hn' hm' (hp.below hW) (hp'.below hW)).mono fun e w' h => tabE_ofE h join_len) hL1 hE1
  have C3 : Hid (∀ W, Below w.heap.size w W → Calls Try.prog 59 #[tv A n c, tv A' n' c'] W (TabE W L2 E2)) :=
    Lib.hid fun W hW => tabE_to ((either_any A n c A' n' c' ps qs W hn hm hn' hm' (hp.below hW) (hp'.below hW)).mono fun e w' h => tabE_ofE h join_len) hL2 hE2
  have C4 : Hid (∀ W, Below w.heap.size w W → Calls Try.prog 60 #[tv A n c, tv A' n' c'] W (TabE W L2 E2)) :=
    Lib.hid fun W hW => tabE_to ((rEither_any A n c A' n' c' ps qs W hn hm hn' hm' (hp.below hW) (hp'.below hW)).mono fun e w' h => tabE_ofE h join_len) hL2 hE2
  have C5 : Hid (∀ W, Below w.heap.size w W → Calls Try.prog 61 #[tv A n c, .int .i64 x, .int .i64 y] W (TabE W L3 E3)) :=
    Lib.hid fun W hW => tabE_to ((times_any A n c x y ps W hn hm (hp.below hW)).mono fun e w' h => tabE_ofE h times_len) hL3 hE3
  have C6 : Hid (∀ W, Below w.heap.size w W → Calls Try.prog 62 #[tv A n c, .int .i64 x, .int .i64 y] W (TabE W L3 E3)) :=
    Lib.hid fun W hW => tabE_to ((rTimes_any A n c x y ps W hn hm (hp.below hW)).mono fun e w' h => tabE_ofE h times_len) hL3 hE3
  clear hL1 hL2 hL3 hE1 hE2 hE3 hn hn' hm hm' hp hp'
  have HK0 := Lib.hid (boxes3 w 43 43 45 #[.slice A n c] #[.slice A' n' c'] #[.int .i64 x, .int .i64 y])
  have HE0 := Lib.hid (show Below w.heap.size w (((w.alloc (.cells #[.slice A n c] 43)).alloc (.cells #[.slice A' n' c'] 43)).alloc (.cells #[.int .i64 x, .int .i64 y] 45)) from below_a3 (Below.refl _ _))
  go_enter Try.func7, Try.ntmps7
  go_wp2_with fail
  obtain ⟨W0, hW⟩ : ∃ W, ((w.alloc (.cells #[.slice A n c] 43)).alloc (.cells #[.slice A' n' c'] 43)).alloc (.cells #[.int .i64 x, .int .i64 y] 45) = W := ⟨_, rfl⟩
  rw [hW] at HK0 HE0 ⊢
  clear hW
  obtain ⟨G, hG⟩ : ∃ G, w.heap.size = G := ⟨_, rfl⟩
  rw [hG] at HK0 ⊢
  have HG := Lib.hid hG; clear hG
  -- 1
  refine (C1.out W0 HE0.out).mono ?_
  rintro e v ⟨P1', m1, k1, rfl, hl, hm, hp, hb⟩
  have HK := Lib.hid (HK0.out.on hb); have HE := Lib.hid (below_then HE0.out hb)
  have HL1 := Lib.hid (And.intro hl hm); clear hl hm
  have HP1 := Lib.hid (hp.below (below_alloc1 v (.cells #[.slice P1' m1 k1] 43)))
  clear hb HK0 HE0 hp
  have q0 := (HK.out _ (.tail _ (.tail _ (.head _)))).cell 0
  have lA := (HK.out _ (.tail _ (.tail _ (.head _)))).lt
  have q1 := (HK.out _ (.tail _ (.head _))).cell 0
  have lB := (HK.out _ (.tail _ (.head _))).lt
  simp at q0 q1 lA lB
  have HK1 := Lib.hid (HK.out.new 43 #[.slice P1' m1 k1]); have HE1 := Lib.hid (below_then HE.out (below_alloc1 v (.cells #[.slice P1' m1 k1] 43)))
  clear HK HE
  go_wp2_with fail
  obtain ⟨B1, hB⟩ : ∃ B, v.heap.size = B := ⟨_, rfl⟩
  obtain ⟨W1, hW⟩ : ∃ W, v.alloc (.cells #[.slice P1' m1 k1] 43) = W := ⟨_, rfl⟩
  rw [hW] at HK1 HE1 HP1 ⊢
  rw [hB] at HK1 ⊢
  clear hW hB v q0 q1 lA lB
  -- 2
  refine (C2.out W1 HE1.out).mono ?_
  rintro e v ⟨P2', m2, k2, rfl, hl, hm, hp, hb⟩
  have HK := Lib.hid (HK1.out.on hb); have HE := Lib.hid (below_then HE1.out hb)
  have HL2 := Lib.hid (And.intro hl hm); clear hl hm
  have HP1 := Lib.hid ((HP1.out.below hb).below (below_alloc1 v (.cells #[.slice P2' m2 k2] 43)))
  have HP2 := Lib.hid (hp.below (below_alloc1 v (.cells #[.slice P2' m2 k2] 43)))
  clear hb HK1 HE1 hp
  have q0 := (HK.out _ (.tail _ (.tail _ (.tail _ (.head _))))).cell 0
  have lA := (HK.out _ (.tail _ (.tail _ (.tail _ (.head _))))).lt
  have q1 := (HK.out _ (.tail _ (.tail _ (.head _)))).cell 0
  have lB := (HK.out _ (.tail _ (.tail _ (.head _)))).lt
  simp at q0 q1 lA lB
  have HK2 := Lib.hid (HK.out.new 43 #[.slice P2' m2 k2]); have HE2 := Lib.hid (below_then HE.out (below_alloc1 v (.cells #[.slice P2' m2 k2] 43)))
  clear HK HE
  go_wp2_with fail
  obtain ⟨B2, hB⟩ : ∃ B, v.heap.size = B := ⟨_, rfl⟩
  obtain ⟨W2, hW⟩ : ∃ W, v.alloc (.cells #[.slice P2' m2 k2] 43) = W := ⟨_, rfl⟩
  rw [hW] at HK2 HE2 HP1 HP2 ⊢
  rw [hB] at HK2 ⊢
  clear hW hB v q0 q1 lA lB
  -- 3
  refine (C3.out W2 HE2.out).mono ?_
  rintro e v ⟨P3', m3, k3, rfl, hl, hm, hp, hb⟩
  have HK := Lib.hid (HK2.out.on hb); have HE := Lib.hid (below_then HE2.out hb)
  have HL3 := Lib.hid (And.intro hl hm); clear hl hm
  have HP1 := Lib.hid ((HP1.out.below hb).below (below_alloc1 v (.cells #[.slice P3' m3 k3] 43)))
  have HP2 := Lib.hid ((HP2.out.below hb).below (below_alloc1 v (.cells #[.slice P3' m3 k3] 43)))
  have HP3 := Lib.hid (hp.below (below_alloc1 v (.cells #[.slice P3' m3 k3] 43)))
  clear hb HK2 HE2 hp
  have q0 := (HK.out _ (.tail _ (.tail _ (.tail _ (.tail _ (.head _)))))).cell 0
  have lA := (HK.out _ (.tail _ (.tail _ (.tail _ (.tail _ (.head _)))))).lt
  have q1 := (HK.out _ (.tail _ (.tail _ (.tail _ (.head _))))).cell 0
  have lB := (HK.out _ (.tail _ (.tail _ (.tail _ (.head _))))).lt
  simp at q0 q1 lA lB
  have HK3 := Lib.hid (HK.out.new 43 #[.slice P3' m3 k3]); have HE3 := Lib.hid (below_then HE.out (below_alloc1 v (.cells #[.slice P3' m3 k3] 43)))
  clear HK HE
  go_wp2_with fail
  obtain ⟨B3, hB⟩ : ∃ B, v.heap.size = B := ⟨_, rfl⟩
  obtain ⟨W3, hW⟩ : ∃ W, v.alloc (.cells #[.slice P3' m3 k3] 43) = W := ⟨_, rfl⟩
  rw [hW] at HK3 HE3 HP1 HP2 HP3 ⊢
  rw [hB] at HK3 ⊢
  clear hW hB v q0 q1 lA lB
  -- 4
  refine (C4.out W3 HE3.out).mono ?_
  rintro e v ⟨P4', m4, k4, rfl, hl, hm, hp, hb⟩
  have HK := Lib.hid (HK3.out.on hb); have HE := Lib.hid (below_then HE3.out hb)
  have HL4 := Lib.hid (And.intro hl hm); clear hl hm
  have HP1 := Lib.hid ((HP1.out.below hb).below (below_alloc1 v (.cells #[.slice P4' m4 k4] 43)))
  have HP2 := Lib.hid ((HP2.out.below hb).below (below_alloc1 v (.cells #[.slice P4' m4 k4] 43)))
  have HP3 := Lib.hid ((HP3.out.below hb).below (below_alloc1 v (.cells #[.slice P4' m4 k4] 43)))
  have HP4 := Lib.hid (hp.below (below_alloc1 v (.cells #[.slice P4' m4 k4] 43)))
  clear hb HK3 HE3 hp
  have q0 := (HK.out _ (.tail _ (.tail _ (.tail _ (.tail _ (.tail _ (.head _))))))).cell 0
  have lA := (HK.out _ (.tail _ (.tail _ (.tail _ (.tail _ (.tail _ (.head _))))))).lt
  have q1 := (HK.out _ (.tail _ (.tail _ (.tail _ (.head _))))).cell 0
  have q2 := (HK.out _ (.tail _ (.tail _ (.tail _ (.head _))))).cell 1
  have lB := (HK.out _ (.tail _ (.tail _ (.tail _ (.head _))))).lt
  simp at q0 q1 q2 lA lB
  have HK4 := Lib.hid (HK.out.new 43 #[.slice P4' m4 k4]); have HE4 := Lib.hid (below_then HE.out (below_alloc1 v (.cells #[.slice P4' m4 k4] 43)))
  clear HK HE
  go_wp2_with fail
  obtain ⟨B4, hB⟩ : ∃ B, v.heap.size = B := ⟨_, rfl⟩
  obtain ⟨W4, hW⟩ : ∃ W, v.alloc (.cells #[.slice P4' m4 k4] 43) = W := ⟨_, rfl⟩
  rw [hW] at HK4 HE4 HP1 HP2 HP3 HP4 ⊢
  rw [hB] at HK4 ⊢
  clear hW hB v q0 q1 q2 lA lB
  -- 5
  refine (C5.out W4 HE4.out).mono ?_
  rintro e v ⟨P5', m5, k5, rfl, hl, hm, hp, hb⟩
  have HK := Lib.hid (HK4.out.on hb); have HE := Lib.hid (below_then HE4.out hb)
  have HL5 := Lib.hid (And.intro hl hm); clear hl hm
  have HP1 := Lib.hid ((HP1.out.below hb).below (below_alloc1 v (.cells #[.slice P5' m5 k5] 43)))
  have HP2 := Lib.hid ((HP2.out.below hb).below (below_alloc1 v (.cells #[.slice P5' m5 k5] 43)))
  have HP3 := Lib.hid ((HP3.out.below hb).below (below_alloc1 v (.cells #[.slice P5' m5 k5] 43)))
  have HP4 := Lib.hid ((HP4.out.below hb).below (below_alloc1 v (.cells #[.slice P5' m5 k5] 43)))
  have HP5 := Lib.hid (hp.below (below_alloc1 v (.cells #[.slice P5' m5 k5] 43)))
  clear hb HK4 HE4 hp
  have q0 := (HK.out _ (.tail _ (.tail _ (.tail _ (.tail _ (.tail _ (.tail _ (.head _)))))))).cell 0
  have lA := (HK.out _ (.tail _ (.tail _ (.tail _ (.tail _ (.tail _ (.tail _ (.head _)))))))).lt
  have q1 := (HK.out _ (.tail _ (.tail _ (.tail _ (.tail _ (.head _)))))).cell 0
  have q2 := (HK.out _ (.tail _ (.tail _ (.tail _ (.tail _ (.head _)))))).cell 1
  have lB := (HK.out _ (.tail _ (.tail _ (.tail _ (.tail _ (.head _)))))).lt
  simp at q0 q1 q2 lA lB
  have HK5 := Lib.hid (HK.out.new 43 #[.slice P5' m5 k5]); have HE5 := Lib.hid (below_then HE.out (below_alloc1 v (.cells #[.slice P5' m5 k5] 43)))
  clear HK HE
  go_wp2_with fail
  obtain ⟨B5, hB⟩ : ∃ B, v.heap.size = B := ⟨_, rfl⟩
  obtain ⟨W5, hW⟩ : ∃ W, v.alloc (.cells #[.slice P5' m5 k5] 43) = W := ⟨_, rfl⟩
  rw [hW] at HK5 HE5 HP1 HP2 HP3 HP4 HP5 ⊢
  rw [hB] at HK5 ⊢
  clear hW hB v q0 q1 q2 lA lB
  -- 6
  refine (C6.out W5 HE5.out).mono ?_
  rintro e v ⟨P6', m6, k6, rfl, hl, hm, hp, hb⟩
  have HK := Lib.hid (HK5.out.on hb); have HE := Lib.hid (below_then HE5.out hb)
  have HL6 := Lib.hid (And.intro hl hm); clear hl hm
  have HP1 := Lib.hid ((HP1.out.below hb).below (below_alloc1 v (.cells #[.slice P6' m6 k6] 43)))
  have HP2 := Lib.hid ((HP2.out.below hb).below (below_alloc1 v (.cells #[.slice P6' m6 k6] 43)))
  have HP3 := Lib.hid ((HP3.out.below hb).below (below_alloc1 v (.cells #[.slice P6' m6 k6] 43)))
  have HP4 := Lib.hid ((HP4.out.below hb).below (below_alloc1 v (.cells #[.slice P6' m6 k6] 43)))
  have HP5 := Lib.hid ((HP5.out.below hb).below (below_alloc1 v (.cells #[.slice P6' m6 k6] 43)))
  have HP6 := Lib.hid (hp.below (below_alloc1 v (.cells #[.slice P6' m6 k6] 43)))
  clear hb HK5 HE5 hp
  have HK6 := Lib.hid (HK.out.new 43 #[.slice P6' m6 k6]); have HE6 := Lib.hid (below_then HE.out (below_alloc1 v (.cells #[.slice P6' m6 k6] 43)))
  clear HK HE
  go_upto_region 7 with fail
  obtain ⟨B6, hB⟩ : ∃ B, v.heap.size = B := ⟨_, rfl⟩
  obtain ⟨W6, hW⟩ : ∃ W, v.alloc (.cells #[.slice P6' m6 k6] 43) = W := ⟨_, rfl⟩
  rw [hW] at HK6 HE6 HP1 HP2 HP3 HP4 HP5 HP6 ⊢
  rw [hB] at HK6 ⊢
  clear hW hB v
  have q0 := (HK6.out _ (.tail _ (.tail _ (.tail _ (.tail _ (.tail _ (.head _))))))).cell 0
  have q1 := (HK6.out _ (.tail _ (.tail _ (.tail _ (.tail _ (.head _)))))).cell 0
  simp at q0 q1
  go_wp2_with fail
  refine (same_all P1' P2' m1 m2 k1 k2 L1 W6 HL1.out.1 HL2.out.1 HL1.out.2 HP1.out HP2.out).mono ?_
  rintro e v1 ⟨rfl, hb⟩
  have HE7 := Lib.hid (below_then HE6.out hb); have HK7 := Lib.hid (HK6.out.on hb)
  have HP3 := Lib.hid (HP3.out.below hb)
  have HP4 := Lib.hid (HP4.out.below hb)
  have HP5 := Lib.hid (HP5.out.below hb)
  have HP6 := Lib.hid (HP6.out.below hb)
  clear hb q0 q1 HK6 HE6
  have q0 := (HK7.out _ (.tail _ (.tail _ (.tail _ (.head _))))).cell 0
  have q1 := (HK7.out _ (.tail _ (.tail _ (.head _)))).cell 0
  simp at q0 q1
  go_wp2_with fail
  refine (same_all P3' P4' m3 m4 k3 k4 L2 v1 HL3.out.1 HL4.out.1 HL3.out.2 HP3.out HP4.out).mono ?_
  rintro e v2 ⟨rfl, hb⟩
  have HE8 := Lib.hid (below_then HE7.out hb); have HK8 := Lib.hid (HK7.out.on hb)
  have HP5 := Lib.hid (HP5.out.below hb)
  have HP6 := Lib.hid (HP6.out.below hb)
  clear hb q0 q1 HK7 HE7
  have q0 := (HK8.out _ (.tail _ (.head _))).cell 0
  have q1 := (HK8.out _ (.head _)).cell 0
  simp at q0 q1
  go_wp2_with fail
  refine (same_all P5' P6' m5 m6 k5 k6 L3 v2 HL5.out.1 HL6.out.1 HL5.out.2 HP5.out HP6.out).mono ?_
  rintro e v3 ⟨rfl, hb⟩
  have HE9 := Lib.hid (below_then HE8.out hb); have HK9 := Lib.hid (HK8.out.on hb)
  clear hb q0 q1 HK8 HE8
  go_wp2_with fail
  refine (sane_any _).mono ?_
  rintro e v4 ⟨rfl, hb⟩
  have HF := Lib.hid (below_then HE9.out hb)
  clear hb HK9 HE9
  go_wp2
  go_ret
  exact ⟨rfl, HF.out⟩
end

end Go.Proofs.Ytmenlaefekkahaa
