/- places of the specification: the places of two tables. Its conditions: both tables are valid and lie in memory. -/
import Derived.Test.YtmenlaefekkahaaG1
import Derived.Test.YtmenlaefekkahaaA9
import Derived.Test.YtmenlaefekkahaaMA
import Derived.Test.YtmenlaefekkahaaG7
import Derived.Test.YtmenlaefekkahaaR1
import Derived.Test.YtmenlaefekkahaaN2
import Derived.Test.YtmenlaefekkahaaU0
import Derived.Test.YtmenlaefekkahaaG2
import Derived.Test.YtmenlaefekkahaaM1
import Derived.Test.YtmenlaefekkahaaI1
import Derived.RegionTactic
import Derived.Deep.RegionLaw
set_option linter.unusedVariables false
set_option linter.unusedSimpArgs false
set_option linter.constructorNameAsVariable false
namespace Go.Proofs.Ytmenlaefekkahaa

section
open Go.RowKit

/-- n / d times a table, at a place -/
def timesAt (p q : Int) (ps : List P3) (x : Int) : Int × Int × Int := scaleS (atS ps x).1 (atS ps x).2 p q

set_option maxRecDepth 100000 in
set_option maxHeartbeats 2000000 in
theorem timesAsk (Bt Bn Bd b o n c : Nat) (p q : Int) (ps : List P3) (x : Int) (w : World) (h : Blk w Bt 43 #[.slice (some ⟨b, o, none⟩) n c] ∧ Blk w Bn 3 #[.int .i64 p] ∧ Blk w Bd 3 #[.int .i64 q] ∧ PtsAt w b o ps ∧ b < w.heap.size)
    (hn : n = ps.length) (h2 : 1 ≤ n) (ht : tabOk ps = true) (hx : 0 ≤ x) (hx' : x ≤ 1000000) :
    Calls Try.prog 119 #[.int .i64 x, .pointer (some ⟨Bt, 0, none⟩), .pointer (some ⟨Bn, 0, none⟩), .pointer (some ⟨Bd, 0, none⟩)] w fun e w' => e = .returned (rt (timesAt p q ps x)) ∧ Below w.heap.size w w' := by
  obtain ⟨⟨ra, rb⟩, hr⟩ : ∃ r, atS ps x = r := ⟨_, rfl⟩
  have hv : timesAt p q ps x = scaleS ra rb p q := by unfold timesAt; rw [hr]
  have hE : Below w.heap.size w (w.alloc (.cells #[.int .i64 0, .int .i64 0] 23)) := (Below.refl _ _).alloc (Nat.le_refl _) _
  have bR := Blk.new w 23 #[.int .i64 0, .int .i64 0]
  have hT := h.1.alloc (.cells #[.int .i64 0, .int .i64 0] 23)
  have hN := h.2.1.alloc (.cells #[.int .i64 0, .int .i64 0] 23)
  have hD := h.2.2.1.alloc (.cells #[.int .i64 0, .int .i64 0] 23)
  have HV := Lib.hid hv
  have HC : Hid (∀ W, Below w.heap.size w W → Calls Try.prog 91 #[tv (some ⟨b, o, none⟩) n c, .int .i64 x] W fun e w' => e = .returned (rv ra rb) ∧ Below W.heap.size W w') :=
    Lib.hid fun W hW => at_to b o n c ps x ra rb W hn h2 (Nat.lt_of_lt_of_le h.2.2.2.2 hW.size) ht hx hx' (h.2.2.2.1.below hW h.2.2.2.2) hr
  have m0 : Bt ≠ w.heap.size := by have := h.1.lt; omega
  have m1 : Bn ≠ w.heap.size := by have := h.2.1.lt; omega
  have m2 : Bd ≠ w.heap.size := by have := h.2.2.1.lt; omega
  have k0 := m0.symm
  have k1 := m1.symm
  have k2 := m2.symm
  have HE := Lib.hid hE; have HR := Lib.hid bR; have HT := Lib.hid hT; have HN := Lib.hid hN; have HD := Lib.hid hD
  clear hv h hn ht hr hE bR hT hN hD
  go_enter Try.func119, Try.ntmps119
  go_wp2_with fail
  obtain ⟨W0, hW0⟩ : ∃ W0, w.alloc (.cells #[.int .i64 0, .int .i64 0] 23) = W0 := ⟨_, rfl⟩
  rw [hW0] at HE HR HT HN HD ⊢
  clear hW0
  have z0 := HT.out.cell 0
  have z1 := HN.out.cell 0
  have z2 := HD.out.cell 0
  simp at z0 z1 z2
  have l0 : Bt < W0.drew.heap.size := HT.out.lt
  have l1 : Bn < W0.drew.heap.size := HN.out.lt
  have l2 : Bd < W0.drew.heap.size := HD.out.lt
  have lR : w.heap.size < W0.drew.heap.size := HR.out.lt
  have f0 := HR.out.drew.frozen 0
  have f1 := HR.out.drew.frozen 1
  have c0 : W0.drew.cell? ⟨w.heap.size, 0, none⟩ = some (.int .i64 0) := HR.out.drew.cell 0
  have c1 : W0.drew.cell? ⟨w.heap.size, 1, none⟩ = some (.int .i64 0) := HR.out.drew.cell 1
  have HC0 := Lib.hid c0; have HC1 := Lib.hid c1; clear c0 c1
  have HED : Below w.heap.size w W0.drew := below_then HE.out (below_d (Below.refl _ W0.drew))
  have C1 := Lib.hid (HC.out W0.drew HED)
  have HE2 := Lib.hid HED; clear HED
  go_region_held3 (fun w' => w'.cell? ⟨Bt, 0, none⟩ = some (.slice (some ⟨b, o, none⟩) n c) ∧ w'.cell? ⟨Bn, 0, none⟩ = some (.int .i64 p) ∧ w'.cell? ⟨Bd, 0, none⟩ = some (.int .i64 q))
    (first | (go_keep; done) | exact keepJ hb3 (by assumption) (Nat.lt_of_lt_of_le l0 hb1.size) (Nat.lt_of_lt_of_le l1 hb1.size) (Nat.lt_of_lt_of_le l2 hb1.size) | exact keepJ hb1 (by assumption) l0 l1 l2)
    (first
      | (go_at_call 91; with_reducible refine (C1.out).mono ?_; rintro e w1 ⟨rfl, hb1⟩)
      | (go_at_call 20; have C3 := scale_any ra rb p q w1; with_reducible refine C3.mono ?_; rintro e w3 ⟨rfl, hb3⟩; have lR1 := Nat.lt_of_lt_of_le lR hb1.size; have lR3 := Nat.lt_of_lt_of_le lR1 hb3.size; have F0 : w3.frozen? ⟨w.heap.size, 0, none⟩ = false := ((bcell hb3).2 w.heap.size 0 lR1).trans (((bcell hb1).2 w.heap.size 0 lR).trans f0); have F1 : w3.frozen? ⟨w.heap.size, 1, none⟩ = false := ((bcell hb3).2 w.heap.size 1 lR1).trans (((bcell hb1).2 w.heap.size 1 lR).trans f1); have D0 : w3.cell? ⟨w.heap.size, 0, none⟩ = some (.int .i64 0) := ((bcell hb3).1 w.heap.size 0 lR1).trans (((bcell hb1).1 w.heap.size 0 lR).trans HC0.out); have D1 : w3.cell? ⟨w.heap.size, 1, none⟩ = some (.int .i64 0) := ((bcell hb3).1 w.heap.size 1 lR1).trans (((bcell hb1).1 w.heap.size 1 lR).trans HC1.out)))
  all_goals
    go_wp2
    refine bodyPost_ret (v := rt (scaleS ra rb p q)) (by simp [results, Try.results119, go_sem, D0, D1]) rfl ⟨by rw [HV.out], ?_⟩
    have hB3 := below_then (below_then HE2.out hb1) hb3
    exact ((hB3.setCell (p := ⟨w.heap.size, 0, none⟩) (by simp) _).setCell (p := ⟨w.heap.size, 1, none⟩) (by simp) _)
end

section
open Go.RowKit

set_option maxRecDepth 100000 in
set_option maxHeartbeats 4000000 in
theorem build_times (b o n c Bw Bt Bu : Nat) (L : List Int) (f : Int → Int × Int × Int) (w : World) (hn : n = L.length) (h1000 : n ≤ 1000) (hb : b < w.heap.size) (hc : IntsMem w b o L)
    (hask : ∀ x ∈ L, ∀ W, Below w.heap.size w W → Calls Try.prog 119 #[.int .i64 x, .pointer (some ⟨Bw, 0, none⟩), .pointer (some ⟨Bt, 0, none⟩), .pointer (some ⟨Bu, 0, none⟩)] W fun e w' => e = .returned (rt (f x)) ∧ Below W.heap.size W w')
    :
    Calls Try.prog 94 #[.slice (some ⟨b, o, none⟩) n c, .func (.func 119) #[] #[.pointer (some ⟨Bw, 0, none⟩), .pointer (some ⟨Bt, 0, none⟩), .pointer (some ⟨Bu, 0, none⟩)]] w fun e w' =>
      ∃ v, e = .returned (.tuple #[.agg #[v], .int .i64 (buildErr f L)]) ∧ OwnPts w.heap.size w' v (okPts (buildErr f L) (built f L)) ∧ Below w.heap.size w w' := by
  obtain ⟨i0, hi, hz0, hz1, hz2⟩ := info_parts Try.infoP
  by_cases h40 : n ≤ 40
  case neg =>
    have he : buildErr f L = 2 := by unfold buildErr; rw [if_pos (by omega)]
    rw [he]
    have t1 : (40 : Int) < (n : Int) := by omega
    have bT := Blk.new w 43 #[.slice none 0 0]
    have r0 := bT.cell 0
    have f0 := bT.frozen 0
    have lT := bT.lt
    simp at r0
    clear hn hc hask he bT
    go_enter Try.func94, Try.ntmps94
    go_wp2
    refine bodyPost_ret (v := .tuple #[.agg #[.slice none 0 0], .int .i64 2]) (by simp [results, Try.results94, go_sem]) rfl ⟨.slice none 0 0, rfl, okPts_bad (by omega) _ _ _, ?_⟩
    first | exact below_alloc1 _ _ | exact (below_alloc1 w _).setCell (p := ⟨w.heap.size, 0, none⟩) (Nat.le_refl _) _
  have hBE : buildErr f L = buildE f L := by unfold buildErr; rw [if_neg (by omega)]
  rw [hBE]
  obtain ⟨E, hE⟩ : ∃ E, buildE f L = E := ⟨_, rfl⟩
  rw [hE]
  have HN := Lib.hid hn; have HC := Lib.hid hc; have HA := Lib.hid hask; have HEE := Lib.hid hE
  clear hn hc hask hBE hE
  have t1 : ¬ (40 : Int) < (n : Int) := by omega
  go_enter Try.func94, Try.ntmps94
  go_wp2_with fail
  go_loopw [6, 17] (fun v i wr => ∃ k : Nat, k ≤ n ∧ i = .int .i64 k ∧ OwnPts (w.heap.size + 1) wr v (built f (L.take k)) ∧ Blk wr w.heap.size 43 #[.slice none 0 0] ∧ Below w.heap.size w wr ∧ Hid (buildE f (L.take k) = 0)) (fun _ i _ => n - (intOf i).toNat)
  case atStart => exact ⟨0, by omega, rfl, World.ownsRow_nil _ _ _ _, Blk.new w 43 _, (Below.refl _ _).alloc (Nat.le_refl _) _, Lib.hid rfl⟩
  case round =>
    obtain ⟨k, hk, rfl, hown, hT, hB, HZ⟩ := hrel
    by_cases hlt : k < n
    · have hp : ∃ p, L[k]? = some p := ⟨_, List.getElem?_eq_getElem (show k < L.length by rw [← HN.out]; exact hlt)⟩
      obtain ⟨x, hp⟩ := hp
      have hxm : x ∈ L := List.mem_of_getElem? hp
      have c0 := HC.out k x hp
      rw [← hB.cell (p := ⟨b, o + k, none⟩) hb] at c0
      have hA := HA.out x hxm
      have hS : built f (L.take (k + 1)) = built f (L.take k) ++ [(x, (f x).1, (f x).2.1)] := by unfold built; rw [take_snocP' hp, List.map_append]; rfl
      have hlen : (built f (L.take k)).length = k := by unfold built; rw [List.length_map, List.length_take]; have := HN.out; omega
      have hstep := buildE_snoc f (L.take k) x HZ.out
      rw [← take_snocP' hp] at hstep
      have hwhole := buildE_take f L (k + 1)
      obtain ⟨⟨lo, hi', er⟩, hr⟩ : ∃ r, f x = r := ⟨_, rfl⟩
      have h1x : buildE f [x] = if er ≠ 0 then er else if inB lo hi' (-1000000000) 1000000000 = true then 0 else 5 := by simp only [buildE, hr]
      rw [hr] at hS hA
      dsimp only at hS
      have HS := Lib.hid hS; have HAx := Lib.hid hA; have HL := Lib.hid hlen; have HW := Lib.hid hown; have HB := Lib.hid hB; have HT := Lib.hid hT
      have HX := Lib.hid (And.intro hstep (And.intro hwhole h1x))
      clear hS hA hlen hown hp hB hT hr hstep hwhole h1x
      by_cases her : er ≠ 0
      · have hEr : E = er := by rw [← HEE.out, HX.out.2.1 (by rw [HX.out.1, HX.out.2.2, if_pos her]; exact her), HX.out.1, HX.out.2.2, if_pos her]
        have hz : (er == 0) = false := beq_eq_false_iff_ne.2 her
        have HER := Lib.hid hEr; have HNE := Lib.hid her
        clear hEr her
        go_wp2_with fail
        refine (HAx.out wr HB.out).mono ?_
        rintro e w1 ⟨rfl, hb1⟩
        have hT1 := blkOn HT.out hb1
        have HB1 := Lib.hid (below_then HB.out hb1)
        have r0 := hT1.cell 0
        have f0 := hT1.frozen 0
        have lT := hT1.lt
        simp at r0
        clear hb1 hT1
        go_wp2
        refine bodyPost_ret (v := .tuple #[.agg #[.slice none 0 0], .int .i64 er]) (by simp [results, Try.results94, go_sem, r0, lT]) rfl ⟨.slice none 0 0, by rw [HER.out], okPts_bad (by rw [HER.out]; exact HNE.out) _ _ _, ?_⟩
        first
          | exact (below_then HB1.out (below_alloc1 w1 _)).setCell (p := ⟨w.heap.size, 0, none⟩) (Nat.le_refl _) _
          | exact (HB1.out.setCell (p := ⟨w.heap.size, 0, none⟩) (Nat.le_refl _) _).alloc (by have := HB1.out.size; simp [World.setCell]; omega) _
      have her0 : er = 0 := by omega
      subst her0
      by_cases hin : inB lo hi' (-1000000000) 1000000000 = true
      case neg =>
        have hE5 : E = 5 := by rw [← HEE.out, HX.out.2.1 (by rw [HX.out.1, HX.out.2.2, if_neg (by omega), if_neg hin]; omega), HX.out.1, HX.out.2.2, if_neg (by omega), if_neg hin]
        have HIN := Lib.hid (Bool.eq_false_iff.2 hin)
        have HE5 := Lib.hid hE5
        clear hin her hE5
        go_wp2_with fail
        refine (HAx.out wr HB.out).mono ?_
        rintro e w1 ⟨rfl, hb1⟩
        have hB1 : Below w.heap.size w w1 := below_then HB.out hb1
        have bR := Blk.new w1 23 #[.int .i64 lo, .int .i64 hi']
        have hB2 : Below w.heap.size w (w1.alloc (.cells #[.int .i64 lo, .int .i64 hi'] 23)) := hB1.alloc hB1.size _
        have hT2 := (HT.out.below hb1 HT.out.lt).alloc (.cells #[.int .i64 lo, .int .i64 hi'] 23)
        have HT2 := Lib.hid hT2; clear hT2
        have HB2 := Lib.hid hB2; have HR := Lib.hid bR
        clear hB1 bR hB2 hb1
        go_wp2_with fail
        obtain ⟨W2, hW2⟩ : ∃ W2, w1.alloc (.cells #[.int .i64 lo, .int .i64 hi'] 23) = W2 := ⟨_, rfl⟩
        rw [hW2] at HB2 HR HT2 ⊢
        clear hW2
        have z0 := HR.out.cell 0
        have z1 := HR.out.cell 1
        simp at z0 z1
        have lR : w1.heap.size < W2.drew.heap.size := HR.out.lt
        go_region_held3 (fun w' => w'.cell? ⟨w1.heap.size, 0, none⟩ = some (.int .i64 lo) ∧ w'.cell? ⟨w1.heap.size, 1, none⟩ = some (.int .i64 hi'))
          (first | (go_keep; done) | exact keepR hb4 ‹_› (Nat.lt_of_lt_of_le lR hb3.size) | exact keepR hb3 ‹_› lR)
          (first
            | (go_at_call 82; refine (around_any 1000000000 W2.drew (by omega) (by omega)).mono ?_; rintro e w3 ⟨rfl, hb3⟩)
            | (go_at_call 87; refine (within_to lo hi' (-1000000000) 1000000000 false w3 HIN.out).mono ?_; rintro e w4 ⟨rfl, hb4⟩))
        all_goals
          have hB4 : Below w.heap.size w w4 := below_then (below_then HB2.out (below_d hb3)) hb4
          have hT4 := (HT2.out.drew.below hb3 (show w.heap.size < W2.drew.heap.size from HT2.out.lt)).below hb4 (Nat.lt_of_lt_of_le (show w.heap.size < W2.drew.heap.size from HT2.out.lt) hb3.size)
          have HB4 := Lib.hid hB4
          have r0 := hT4.cell 0
          have f0 := hT4.frozen 0
          have lT := hT4.lt
          simp at r0
          clear hB4 hT4 hb3 hb4 lR z0 z1
          go_wp2
          refine bodyPost_ret (v := .tuple #[.agg #[.slice none 0 0], .int .i64 5]) (by simp [results, Try.results94, go_sem, r0, lT]) rfl ⟨.slice none 0 0, by rw [HE5.out], okPts_bad (by rw [HE5.out]; omega) _ _ _, ?_⟩
          first
            | exact HB4.out.setCell (p := ⟨w.heap.size, 0, none⟩) (Nat.le_refl _) _
            | exact (below_then HB4.out (below_alloc1 w4 _)).setCell (p := ⟨w.heap.size, 0, none⟩) (Nat.le_refl _) _
            | exact (HB4.out.setCell (p := ⟨w.heap.size, 0, none⟩) (Nat.le_refl _) _).alloc (by have := HB4.out.size; simp [World.setCell]; omega) _
      have HIN := Lib.hid hin
      have HNX : Hid (buildE f (L.take (k + 1)) = 0) := Lib.hid (by rw [HX.out.1, HX.out.2.2, if_neg (by omega), if_pos hin])
      clear hin her
      go_wp2_with fail
      refine (HAx.out wr HB.out).mono ?_
      rintro e w1 ⟨rfl, hb1⟩
      have hB1 : Below w.heap.size w w1 := below_then HB.out hb1
      have hw1 := HW.out.grown (below_grownNone hb1) (fun _ e => by cases e)
      have bR := Blk.new w1 23 #[.int .i64 lo, .int .i64 hi']
      have hB2 : Below w.heap.size w (w1.alloc (.cells #[.int .i64 lo, .int .i64 hi'] 23)) := hB1.alloc hB1.size _
      have hw2 := hw1.grown (World.grownBy_alloc w1 (.cells #[.int .i64 lo, .int .i64 hi'] 23) none) (fun _ e => by cases e)
      have hT2 := (HT.out.below hb1 HT.out.lt).alloc (.cells #[.int .i64 lo, .int .i64 hi'] 23)
      have HT2 := Lib.hid hT2; clear hT2
      have HB2 := Lib.hid hB2; have HW2 := Lib.hid hw2; have HR := Lib.hid bR
      clear hB1 hw1 bR hB2 hw2 hb1
      go_wp2_with fail
      obtain ⟨W2, hW2⟩ : ∃ W2, w1.alloc (.cells #[.int .i64 lo, .int .i64 hi'] 23) = W2 := ⟨_, rfl⟩
      rw [hW2] at HB2 HW2 HR HT2 ⊢
      clear hW2
      have z0 := HR.out.cell 0
      have z1 := HR.out.cell 1
      simp at z0 z1
      have lR : w1.heap.size < W2.drew.heap.size := HR.out.lt
      go_region_held3 (fun w' => w'.cell? ⟨w1.heap.size, 0, none⟩ = some (.int .i64 lo) ∧ w'.cell? ⟨w1.heap.size, 1, none⟩ = some (.int .i64 hi'))
        (first | (go_keep; done) | exact keepR hb4 ‹_› (Nat.lt_of_lt_of_le lR hb3.size) | exact keepR hb3 ‹_› lR)
        (first
          | (go_at_call 82; refine (around_any 1000000000 W2.drew (by omega) (by omega)).mono ?_; rintro e w3 ⟨rfl, hb3⟩)
          | (go_at_call 87; refine (within_to lo hi' (-1000000000) 1000000000 true w3 HIN.out).mono ?_; rintro e w4 ⟨rfl, hb4⟩))
      all_goals
        have hB4 : Below w.heap.size w w4 := below_then (below_then HB2.out (below_d hb3)) hb4
        have hw4 := (HW2.out.grown (below_grownNone (below_d hb3)) (fun _ e => by cases e)).grown (below_grownNone hb4) (fun _ e => by cases e)
        have hT4 := (HT2.out.drew.below hb3 (show w.heap.size < W2.drew.heap.size from HT2.out.lt)).below hb4 (Nat.lt_of_lt_of_le (show w.heap.size < W2.drew.heap.size from HT2.out.lt) hb3.size)
        have HT4 := Lib.hid (hT4.alloc (.cells #[.int .i64 x, .int .i64 lo, .int .i64 hi'] 87))
        have ltT := hT4.lt
        have hR4 := (HR.out.drew.below hb3 lR).below hb4 (Nat.lt_of_lt_of_le lR hb3.size)
        have y0 := hR4.cell 0
        have y1 := hR4.cell 1
        simp at y0 y1
        have HO2 := Lib.hid (World.ownsRow.alloc (o := .cells #[.int .i64 x, .int .i64 lo, .int .i64 hi'] 87) (show w4.ownsRow (w.heap.size + 1) 87 3 _ _ _ from hw4))
        have HB4 := Lib.hid hB4
        have hcell : ∀ (j : Nat) (u : Value), [Value.int .i64 x, .int .i64 lo, .int .i64 hi'][j]? = some u → (w4.alloc (.cells #[.int .i64 x, .int .i64 lo, .int .i64 hi'] 87)).cell? ((⟨w4.heap.size, 0, none⟩ : Addr).add j) = some u :=
          World.news_of_block (cs := #[.int .i64 x, .int .i64 lo, .int .i64 hi']) (t := 87) (fr := (0, 0)) (heap_alloc_new w4 _)
        have HCE := Lib.hid hcell
        have lR4 : w1.heap.size < w4.heap.size := Nat.lt_of_lt_of_le (Nat.lt_of_lt_of_le lR hb3.size) hb4.size
        clear hB4 hw4 hR4 hT4 hcell hb3 hb4 lR z0 z1
        go_wp2_with (at_builtin; refine wpList_append_own _ rfl (.tmp 36) (.tmp 43) 41 rfl (w.heap.size + 1) 87 i0 (.agg #[.int .i64 0, .int .i64 0, .int .i64 0]) 3 24 Try.underlying41 hi hz0 hz1 hz2 rfl (by decide) _ _ _ rfl HO2.out ⟨w4.heap.size, 0, none⟩ 1 1 [.int .i64 x, .int .i64 lo, .int .i64 hi'] rfl rfl HCE.out ?c2 ?c3 ?c4 ?c5 ?_)
        case c2 => simp [Value.oneCell']
        case c3 => simp only [maxLen]; rw [HL.out]; omega
        case c4 => rw [HL.out]; omega
        case c5 => simp; omega
        intro v' w5 hown1 hgrow _
        have hrow : ∀ j, Value.ownBlock u6 = some j → w.heap.size + 1 ≤ j := fun j e => (HO2.out.lt j e).1
        have hB5 : Below w.heap.size w w5 := (HB4.out.alloc HB4.out.size _).grown hgrow (by have := HB4.out.size; simp; omega) (fun j e => Nat.le_trans (Nat.le_succ _) (hrow j e))
        have hT5 := HT4.out.grown hgrow (fun e => absurd (hrow _ e.symm) (by omega))
        have hown2 : OwnPts (w.heap.size + 1) w5 v' (built f (L.take (k + 1))) := by
          unfold OwnPts
          rw [HS.out, List.length_append, ptCells_snoc]
          exact hown1
        clear hown1 hgrow
        go_wp2
        go_roundw
        case rel => exact ⟨k + 1, by omega, by go_num, hown2, hT5, hB5, HNX⟩
        case measure => simp [intOf]; omega
    · have hkl : L.take k = L := List.take_of_length_le (by have := HN.out; omega)
      have hE0 : E = 0 := by have := HZ.out; rw [hkl, HEE.out] at this; exact this
      subst hE0
      have hkn : built f (L.take k) = built f L := by rw [hkl]
      clear hkl
      rw [hkn] at hown
      obtain ⟨sp, sn, sc, rfl⟩ := hown.slice
      have HW := Lib.hid hown
      have r0 := hT.cell 0
      have f0 := hT.frozen 0
      have lT := hT.lt
      simp at r0
      have HT := Lib.hid hT
      clear hown hT hkn
      go_wp2
      have hown2 : OwnPts (w.heap.size + 1) (wr.setCell ⟨w.heap.size, 0, none⟩ (.slice sp sn sc)) (.slice sp sn sc) (built f L) := by
        refine World.ownsRow.kept (show wr.ownsRow (w.heap.size + 1) 87 3 _ _ _ from HW.out) (grownBy_setCell' wr w.heap.size _) (.inr ?_)
        intro e
        have := (World.ownsRow.lt (show wr.ownsRow (w.heap.size + 1) 87 3 _ _ _ from HW.out) _ e).1
        omega
      have hB5 : Below w.heap.size w (wr.setCell ⟨w.heap.size, 0, none⟩ (.slice sp sn sc)) := hB.setCell (p := ⟨w.heap.size, 0, none⟩) (by simp) _
      refine bodyPost_ret (v := .tuple #[.agg #[.slice sp sn sc], .int .i64 0]) (by simp [results, Try.results94, go_sem, r0, lT]) rfl ⟨.slice sp sn sc, rfl, by rw [okPts_ok]; exact World.ownsRow.mono hown2 (by omega), hB5⟩
end

section
open Go.RowKit

set_option maxRecDepth 100000 in
set_option maxHeartbeats 2000000 in
theorem times_bad (A : Option Addr) (n c : Nat) (p q : Int) (ps : List P3) (w : World) (hn : n = ps.length) (hm : n ≤ maxLen) (hp : Pts w A ps) (h0 : tabOk ps = false) :
    Calls Try.prog 61 #[tv A n c, .int .i64 p, .int .i64 q] w (GivesTabE w 11 []) := by
  have hE : Below w.heap.size w ((((w.alloc (.cells #[.slice A n c] 43)).alloc (.cells #[.int .i64 p] 3)).alloc (.cells #[.int .i64 q] 3)).alloc (.cells #[.slice none 0 0] 43)) := below_a2 (below_a2 (Below.refl _ _))
  have hT := Blk.new (((w.alloc (.cells #[.slice A n c] 43)).alloc (.cells #[.int .i64 p] 3)).alloc (.cells #[.int .i64 q] 3)) 43 #[.slice none 0 0]
  simp only [World.size_alloc] at hT
  have HP := Lib.hid (hp.below hE); have HE := Lib.hid hE; have HT := Lib.hid hT; have HN := Lib.hid hn; have HX := Lib.hid h0
  clear hE hT hp hn h0
  go_enter Try.func61, Try.ntmps61
  go_wp2_with fail
  obtain ⟨W0, hW0⟩ : ∃ W0, ((((w.alloc (.cells #[.slice A n c] 43)).alloc (.cells #[.int .i64 p] 3)).alloc (.cells #[.int .i64 q] 3)).alloc (.cells #[.slice none 0 0] 43)) = W0 := ⟨_, rfl⟩
  rw [hW0] at HP HT HE ⊢
  clear hW0
  refine (checkTable_to A n c ps _ _ _ HN.out hm HP.out HX.out rfl).mono ?_
  rintro e w1 ⟨rfl, hb1⟩
  have hT1 := blkOn HT.out hb1
  have HE1 := Lib.hid (below_then HE.out hb1)
  have r0 := hT1.cell 0
  have f0 := hT1.frozen 0
  have lT := hT1.lt
  simp at r0
  clear hb1 hT1
  go_wp2
  refine bodyPost_ret (v := .tuple #[.agg #[.slice none 0 0], .int .i64 11]) (by simp [results, Try.results61, go_sem, r0, lT]) rfl ⟨_, rfl, okPts_bad (by omega) _ _ _, ?_⟩
  first
    | exact HE1.out.setCell (p := ⟨w.heap.size + 1 + 1 + 1, 0, none⟩) (by show w.heap.size ≤ w.heap.size + 1 + 1 + 1; omega) _
    | exact (HE1.out.alloc HE1.out.size _).setCell (p := ⟨w.heap.size + 1 + 1 + 1, 0, none⟩) (by show w.heap.size ≤ w.heap.size + 1 + 1 + 1; omega) _
    | exact (HE1.out.setCell (p := ⟨w.heap.size + 1 + 1 + 1, 0, none⟩) (by show w.heap.size ≤ w.heap.size + 1 + 1 + 1; omega) _).alloc (by have := HE1.out.size; simp [World.setCell]; omega) _
end

section
open Go.RowKit

set_option maxRecDepth 100000 in
set_option maxHeartbeats 4000000 in
theorem times_good (b o n c : Nat) (p q LO HI : Int) (ps : List P3) (w : World) (hn : n = ps.length) (ht : tabOk ps = true) (hb : b < w.heap.size) (hc : PtsAt w b o ps) (hLO : firstX ps = LO) (hHI : lastX ps = HI) :
    Calls Try.prog 61 #[tv (some ⟨b, o, none⟩) n c, .int .i64 p, .int .i64 q] w (GivesTabE w (buildErr (timesAt p q ps) (cornersS ps LO HI)) (built (timesAt p q ps) (cornersS ps LO HI))) := by
  have h1 := (tabOk_len ht).1
  have h40 := (tabOk_len ht).2
  have h2 : 1 ≤ n := by omega
  have hn40 : n ≤ 40 := by omega
  have hml : n ≤ maxLen := by unfold maxLen; omega
  have hle := corners_len ps LO HI h40
  obtain ⟨pl1, pl2⟩ := places_in ht
  have hle0 := first_le_last ht
  have hin : ∀ z ∈ cornersS ps LO HI, 0 ≤ z ∧ z ≤ 1000000 := fun z hz => by
    rcases corners_mem hz with h | h <;> omega
  obtain ⟨E, hEE⟩ : ∃ E, buildErr (timesAt p q ps) (cornersS ps LO HI) = E := ⟨_, rfl⟩
  obtain ⟨R, hRR⟩ : ∃ R, built (timesAt p q ps) (cornersS ps LO HI) = R := ⟨_, rfl⟩
  rw [hEE, hRR]
  have hE : Below w.heap.size w ((((w.alloc (.cells #[.slice (some ⟨b, o, none⟩) n c] 43)).alloc (.cells #[.int .i64 p] 3)).alloc (.cells #[.int .i64 q] 3)).alloc (.cells #[.slice none 0 0] 43)) := below_a2 (below_a2 (Below.refl _ _))
  have hT := Blk.new (((w.alloc (.cells #[.slice (some ⟨b, o, none⟩) n c] 43)).alloc (.cells #[.int .i64 p] 3)).alloc (.cells #[.int .i64 q] 3)) 43 #[.slice none 0 0]
  have hJ := (((Blk.new w 43 #[.slice (some ⟨b, o, none⟩) n c]).alloc (.cells #[.int .i64 p] 3)).alloc (.cells #[.int .i64 q] 3)).alloc (.cells #[.slice none 0 0] 43)
  have hN := ((Blk.new (w.alloc (.cells #[.slice (some ⟨b, o, none⟩) n c] 43)) 3 #[.int .i64 p]).alloc (.cells #[.int .i64 q] 3)).alloc (.cells #[.slice none 0 0] 43)
  have hD := (Blk.new ((w.alloc (.cells #[.slice (some ⟨b, o, none⟩) n c] 43)).alloc (.cells #[.int .i64 p] 3)) 3 #[.int .i64 q]).alloc (.cells #[.slice none 0 0] 43)
  simp only [World.size_alloc] at hT hN hD
  have hP := hc.below hE hb
  have hb2 : b < ((((w.alloc (.cells #[.slice (some ⟨b, o, none⟩) n c] 43)).alloc (.cells #[.int .i64 p] 3)).alloc (.cells #[.int .i64 q] 3)).alloc (.cells #[.slice none 0 0] 43)).heap.size := Nat.lt_of_lt_of_le hb hE.size
  have HE := Lib.hid hE; have HJ := Lib.hid hJ; have HT := Lib.hid hT; have HP := Lib.hid hP; have HB := Lib.hid hb2; have HNB := Lib.hid hN; have HDB := Lib.hid hD
  have HN := Lib.hid (And.intro hn ht); have HIN := Lib.hid hin; have HLE := Lib.hid hle; have HX := Lib.hid (And.intro hLO hHI); have HEE := Lib.hid hEE; have HRR := Lib.hid hRR
  clear hE hJ hT hP hb2 hn ht hin hle hc hLO hHI hEE hRR hN hD pl1 pl2 hle0
  go_enter Try.func61, Try.ntmps61
  go_wp2_with fail
  obtain ⟨W0, hW0⟩ : ∃ W0, ((((w.alloc (.cells #[.slice (some ⟨b, o, none⟩) n c] 43)).alloc (.cells #[.int .i64 p] 3)).alloc (.cells #[.int .i64 q] 3)).alloc (.cells #[.slice none 0 0] 43)) = W0 := ⟨_, rfl⟩
  rw [hW0] at HE HJ HT HP HB HNB HDB ⊢
  clear hW0
  refine (checkTable_to _ n c ps true 0 _ HN.out.1 hml (HP.out.pts HB.out) HN.out.2 rfl).mono ?_
  rintro e w1 ⟨rfl, hb1⟩
  have HE1 := Lib.hid (below_then HE.out hb1); have HJ1 := Lib.hid (blkOn HJ.out hb1); have HT1 := Lib.hid (blkOn HT.out hb1); have HNB1 := Lib.hid (blkOn HNB.out hb1); have HDB1 := Lib.hid (blkOn HDB.out hb1)
  have HP1 := Lib.hid (HP.out.below hb1 HB.out); have HB1 := Lib.hid (Nat.lt_of_lt_of_le HB.out hb1.size)
  clear hb1
  have c0 := HJ1.out.cell 0
  simp at c0
  go_wp2_with fail
  refine (domain_tab _ n c ps _ HN.out.1 (HP1.out.pts HB1.out) HN.out.2).mono ?_
  rintro e w1' ⟨rfl, hb1'⟩
  have HE1' := Lib.hid (below_then HE1.out hb1'); have HJ1' := Lib.hid (blkOn HJ1.out hb1'); have HT1' := Lib.hid (blkOn HT1.out hb1'); have HNB1' := Lib.hid (blkOn HNB1.out hb1'); have HDB1' := Lib.hid (blkOn HDB1.out hb1')
  have HP1' := Lib.hid (HP1.out.below hb1' HB1.out); have HB1' := Lib.hid (Nat.lt_of_lt_of_le HB1.out hb1'.size)
  rw [HX.out.1, HX.out.2]
  clear hb1' c0
  have c0 := HJ1'.out.cell 0
  simp at c0
  have lJ : w.heap.size < w1'.heap.size := HJ1'.out.lt
  have mJ : w.heap.size ≠ w1'.heap.size := by omega
  have mJ' := mJ.symm
  have hA : Below w1'.heap.size w1' (w1'.alloc (.cells #[.int .i64 LO, .int .i64 HI] 23)) := (Below.refl _ _).alloc (Nat.le_refl _) _
  have HE4 := Lib.hid (below_then HE1'.out hA); have HJ4 := Lib.hid (blkOn HJ1'.out hA); have HT4 := Lib.hid (blkOn HT1'.out hA); have HNB4 := Lib.hid (blkOn HNB1'.out hA); have HDB4 := Lib.hid (blkOn HDB1'.out hA)
  have HP4 := Lib.hid (HP1'.out.below hA HB1'.out); have HB4 := Lib.hid (Nat.lt_of_lt_of_le HB1'.out hA.size)
  clear hA
  go_wp2_with fail
  obtain ⟨W3, hW3⟩ : ∃ W3, w1'.alloc (.cells #[.int .i64 LO, .int .i64 HI] 23) = W3 := ⟨_, rfl⟩
  rw [hW3] at HE4 HJ4 HT4 HNB4 HDB4 HP4 HB4 ⊢
  clear hW3
  refine (corners_any b o n c ps LO HI _ HN.out.1 h2 hn40 HB4.out HP4.out).mono ?_
  intro e w2 hgi
  obtain ⟨pg, cap, rfl, hpg1, hpg2, hpc, hb2⟩ := gives_form hgi (corners_ne ps LO HI)
  have HE2 := Lib.hid (below_then HE4.out hb2); have HJ2 := Lib.hid (blkOn HJ4.out hb2); have HT2 := Lib.hid (blkOn HT4.out hb2); have HNB2 := Lib.hid (blkOn HNB4.out hb2); have HDB2 := Lib.hid (blkOn HDB4.out hb2)
  have HP2 := Lib.hid (HP4.out.below hb2 HB4.out); have HB2 := Lib.hid (Nat.lt_of_lt_of_le HB4.out hb2.size)
  have HPC := Lib.hid hpc
  clear hb2 hgi hpc c0
  go_wp2_with fail
  refine (build_times pg 0 (cornersS ps LO HI).length cap w.heap.size (w.heap.size + 1) (w.heap.size + 1 + 1) (cornersS ps LO HI) (timesAt p q ps) w2 rfl (by have := HLE.out; omega) hpg2 (fun k z hz => by rw [Nat.zero_add]; exact HPC.out k z hz)
    (fun z hz W hW => timesAsk w.heap.size (w.heap.size + 1) (w.heap.size + 1 + 1) b o n c p q ps z W ⟨HJ2.out.below hW HJ2.out.lt, HNB2.out.below hW HNB2.out.lt, HDB2.out.below hW HDB2.out.lt, HP2.out.below hW HB2.out, Nat.lt_of_lt_of_le HB2.out hW.size⟩ HN.out.1 h2 HN.out.2 (HIN.out z hz).1 (HIN.out z hz).2)).mono ?_
  rintro e w3 ⟨v, rfl, ho, hb3⟩
  rw [HEE.out, HRR.out] at ho
  rw [HEE.out]
  obtain ⟨sp, sn, sc, rfl⟩ := ho.slice
  have hT3 := blkOn HT2.out hb3
  have r0 := hT3.cell 0
  have f0 := hT3.frozen 0
  have lT := hT3.lt
  simp at r0
  have HO := Lib.hid ho; have HE3 := Lib.hid (below_then HE2.out hb3)
  have HLe := Lib.hid HE2.out.size
  have lT0 := HT2.out.lt
  clear ho hb3 hT3
  go_wp2
  have hB5 := HE3.out.setCell (p := ⟨w.heap.size + 1 + 1 + 1, 0, none⟩) (by show w.heap.size ≤ w.heap.size + 1 + 1 + 1; omega) (.slice sp sn sc)
  refine bodyPost_ret (v := .tuple #[.agg #[.slice sp sn sc], .int .i64 E]) (by simp [results, Try.results61, go_sem, r0, lT]) rfl ⟨_, rfl, ?_, hB5⟩
  refine World.ownsRow.kept (World.ownsRow.mono (show w3.ownsRow _ 87 3 _ _ _ from HO.out) HLe.out) (grownBy_setCell' w3 _ _) (.inr ?_)
  intro e
  have := (World.ownsRow.lt (show w3.ownsRow _ 87 3 _ _ _ from HO.out) _ e).1
  omega
end

section
open Go.RowKit

def timesErr (p q : Int) (ps : List P3) : Int := if tabOk ps = true then buildErr (timesAt p q ps) (cornersS ps (firstX ps) (lastX ps)) else 11
theorem times_any (A : Option Addr) (n c : Nat) (p q : Int) (ps : List P3) (w : World) (hn : n = ps.length) (hm : n ≤ maxLen) (hp : Pts w A ps) :
    Calls Try.prog 61 #[tv A n c, .int .i64 p, .int .i64 q] w (GivesTabE w (timesErr p q ps) (built (timesAt p q ps) (cornersS ps (firstX ps) (lastX ps)))) := by
  unfold timesErr
  cases h : tabOk ps
  · rw [if_neg (by simp)]
    exact (times_bad A n c p q ps w hn hm hp h).mono fun e w' => givesTab_bad (by omega)
  · rw [if_pos rfl]
    have h1 := (tabOk_len h).1
    obtain ⟨b, o, rfl, hb, hc⟩ := hp.block h1
    exact times_good b o n c p q _ _ ps w hn h hb hc rfl rfl
end

section
/-- the error of a list of points as a table -/
def shapedS (p : List P3) : Int := if p.length = 0 then 4 else if 40 < p.length then 2 else if tabOk p = true then 0 else 5
theorem ptsOk_built (f : Int → Int × Int × Int) : ∀ (L : List Int) (last : Int), (last :: L).Pairwise (· < ·) → (∀ x ∈ L, x ≤ 1000000) → ptsOk last (built f L) = L.all fun x => inB (f x).1 (f x).2.1 (-1000000000) 1000000000
  | [], _, _, _ => rfl
  | x :: L, last, h, hm => by
    rw [List.pairwise_cons] at h
    have h1 := h.1 x (by simp)
    have h2 := hm x (by simp)
    have ih := ptsOk_built f L x h.2 (fun y hy => hm y (by simp [hy]))
    unfold built at ih ⊢
    simp only [List.map_cons, ptsOk, List.all_cons, ptOk]
    rw [ih]
    simp [h1, h2]
theorem buildE_all (f : Int → Int × Int × Int) : ∀ (L : List Int), (∀ x ∈ L, (f x).2.2 = 0 ∨ (f x).2.2 = 5) → buildE f L = if (L.all fun x => decide ((f x).2.2 = 0) && inB (f x).1 (f x).2.1 (-1000000000) 1000000000) = true then 0 else 5
  | [], _ => rfl
  | x :: L, h => by
    have ih := buildE_all f L fun y hy => h y (by simp [hy])
    unfold buildE
    rw [ih, List.all_cons]
    rcases h x (by simp) with e | e
    · by_cases c : inB (f x).1 (f x).2.1 (-1000000000) 1000000000 = true
      · simp [e, c]
      · simp [e, c]
    · simp [e]
theorem shaped_built {f : Int → Int × Int × Int} {L : List Int} (hL : L.Pairwise (· < ·)) (h0 : ∀ x ∈ L, 0 ≤ x ∧ x ≤ 1000000) (he : ∀ x ∈ L, (f x).2.2 = 0) : shapedS (built f L) = if L = [] then 4 else buildErr f L := by
  have hl : (built f L).length = L.length := by simp [built]
  unfold shapedS
  rw [hl]
  by_cases c : L = []
  · rw [if_pos c, if_pos (by simp [c])]
  have c' : L.length ≠ 0 := fun h => c (List.eq_nil_of_length_eq_zero h)
  rw [if_neg c, if_neg c']
  unfold buildErr
  by_cases d : 40 < L.length
  · rw [if_pos d, if_pos d]
  rw [if_neg d, if_neg d, buildE_all f L fun x hx => .inl (he x hx)]
  have e : tabOk (built f L) = (L.all fun x => decide ((f x).2.2 = 0) && inB (f x).1 (f x).2.1 (-1000000000) 1000000000) := by
    unfold tabOk
    rw [hl, ptsOk_built f L (-1) (List.pairwise_cons.2 ⟨fun x hx => by have := h0 x hx; omega, hL⟩) (fun x hx => (h0 x hx).2), decide_eq_true (show 1 ≤ L.length ∧ L.length ≤ 40 by omega), Bool.true_and]
    rw [Bool.eq_iff_iff, List.all_eq_true, List.all_eq_true]
    constructor
    · intro h x hx; simp [he x hx, h x hx]
    · intro h x hx; have := h x hx; simp at this; exact this.2
  rw [e]
theorem placesOf_in {ps qs : List P3} (ht : tabOk ps = true) {x : Int} (hx : x ∈ placesOf ps qs) : (firstX ps ≤ x ∧ x ≤ lastX ps) ∧ (firstX qs ≤ x ∧ x ≤ lastX qs) ∧ 0 ≤ x ∧ x ≤ 1000000 := by
  obtain ⟨p, _, _, h⟩ := (placesOf_mem ps qs x).1 hx
  have := places_in ht
  simp [inBoth] at h
  omega
theorem inB_of {a b : Int} (h : inB a b (-1000000000) 1000000000 = true) : a ≤ b ∧ -1000000000 ≤ a ∧ b ≤ 1000000000 := by simpa [inB] using h
theorem plusAt_is {ps qs : List P3} (ht : tabOk ps = true) (hu : tabOk qs = true) {x : Int} (hx : x ∈ placesOf ps qs) : plusAt ps qs x = ((atS ps x).1 + (atS qs x).1, (atS ps x).2 + (atS qs x).2, 0) := by
  obtain ⟨⟨a, b⟩, ⟨c, d⟩, _⟩ := placesOf_in ht hx
  have h1 := inB_of (atS_in ht a b)
  have h2 := inB_of (atS_in hu c d)
  unfold plusAt addS twoS bigS
  have v1 : vR (atS ps x).1 (atS ps x).2 = true := by simp [vR, inB]; omega
  have v2 : vR (atS qs x).1 (atS qs x).2 = true := by simp [vR, inB]; omega
  have v3 : vR ((atS ps x).1 + (atS qs x).1) ((atS ps x).2 + (atS qs x).2) = true := by simp [vR, inB]; omega
  simp [v1, v2, v3]
theorem hullAt_is {ps qs : List P3} (ht : tabOk ps = true) (hu : tabOk qs = true) {x : Int} (hx : x ∈ placesOf ps qs) : hullAt ps qs x = (min (atS ps x).1 (atS qs x).1, max (atS ps x).2 (atS qs x).2, 0) := by
  obtain ⟨⟨a, b⟩, ⟨c, d⟩, _⟩ := placesOf_in ht hx
  have h1 := inB_of (atS_in ht a b)
  have h2 := inB_of (atS_in hu c d)
  unfold hullAt hullS twoS
  have v1 : vR (atS ps x).1 (atS ps x).2 = true := by simp [vR, inB]; omega
  have v2 : vR (atS qs x).1 (atS qs x).2 = true := by simp [vR, inB]; omega
  simp [v1, v2]
theorem places_ne {ps qs : List P3} (h1 : 1 ≤ ps.length) (h2 : 1 ≤ qs.length) (h : max (firstX ps) (firstX qs) ≤ min (lastX ps) (lastX qs)) : placesOf ps qs ≠ [] := by
  intro e
  have := (places_corners h1 h2 h (max (firstX ps) (firstX qs))).2 (by rw [List.mem_append, cornersS_mem h]; exact .inl (.inl rfl))
  rw [e] at this; simp at this
/-- what a table made of two has as its error, by the specification's order -/
theorem join_shaped {f : Int → Int × Int × Int} {ps qs : List P3} (ht : tabOk ps = true) (hu : tabOk qs = true) (he : ∀ x ∈ placesOf ps qs, (f x).2.2 = 0) : joinErr f ps qs = shapedS (built f (placesOf ps qs)) := by
  have h := shaped_built (f := f) (placesOf_rising ps qs) (fun x hx => (placesOf_in ht hx).2.2) he
  rw [h]
  unfold joinErr
  rw [if_pos ⟨ht, hu⟩]
  by_cases c : max (firstX ps) (firstX qs) ≤ min (lastX ps) (lastX qs)
  · rw [if_pos c, if_neg (places_ne (tabOk_len ht).1 (tabOk_len hu).1 c)]
  · rw [if_neg c, if_pos (places_none c)]
theorem join_bad {f : Int → Int × Int × Int} {ps qs : List P3} (h : ¬ (tabOk ps = true ∧ tabOk qs = true)) : joinErr f ps qs = 11 := by unfold joinErr; rw [if_neg h]
theorem plus_shaped {ps qs : List P3} (ht : tabOk ps = true) (hu : tabOk qs = true) : joinErr (plusAt ps qs) ps qs = shapedS (built (plusAt ps qs) (placesOf ps qs)) := join_shaped ht hu fun x hx => by rw [plusAt_is ht hu hx]
theorem hull_shaped {ps qs : List P3} (ht : tabOk ps = true) (hu : tabOk qs = true) : joinErr (hullAt ps qs) ps qs = shapedS (built (hullAt ps qs) (placesOf ps qs)) := join_shaped ht hu fun x hx => by rw [hullAt_is ht hu hx]
theorem corners_rising {ps : List P3} {a b : Int} (ht : tabOk ps = true) : (cornersS ps a b).Pairwise (· < ·) := by
  have hr := rising_pts ps (-1) (tabOk_pts ht) (by omega)
  unfold cornersS
  rw [List.cons_append, List.pairwise_cons, List.pairwise_append]
  refine ⟨fun x hx => ?_, ?_, ?_, fun x hx y hy => ?_⟩
  · rcases List.mem_append.1 hx with h | h
    · obtain ⟨p, hp, rfl⟩ := List.mem_map.1 h
      have := (List.mem_filter.1 hp).2
      simp at this; exact this.1
    · by_cases c : a < b
      · rw [if_pos c] at h; simp at h; omega
      · rw [if_neg c] at h; simp at h
  · rw [List.pairwise_map]
    exact hr.filter _
  · by_cases c : a < b
    · rw [if_pos c]; simp
    · rw [if_neg c]; simp
  · by_cases c : a < b
    · rw [if_pos c] at hy; simp at hy
      obtain ⟨p, hp, rfl⟩ := List.mem_map.1 hx
      have := (List.mem_filter.1 hp).2
      simp at this; omega
    · rw [if_neg c] at hy; simp at hy
theorem first_le {ps : List P3} (ht : tabOk ps = true) {p : P3} (hp : p ∈ ps) : firstX ps ≤ p.1 := by
  cases ps with
  | nil => simp at hp
  | cons q r =>
    have hr := rising_pts (q :: r) (-1) (tabOk_pts ht) (by omega)
    rw [List.pairwise_cons] at hr
    have e : firstX (q :: r) = q.1 := rfl
    rw [e]
    rcases List.mem_cons.1 hp with rfl | h
    · exact Int.le_refl _
    · exact Int.le_of_lt (hr.1 p h)
/-- the corners of the whole domain are the places of the points -/
theorem corners_all {ps : List P3} (ht : tabOk ps = true) : cornersS ps (firstX ps) (lastX ps) = ps.map (·.1) := by
  have hf := first_le_last ht
  refine rising_ext _ _ (corners_rising ht) ?_ fun x => ?_
  · rw [List.pairwise_map]; exact rising_pts ps (-1) (tabOk_pts ht) (by omega)
  · rw [cornersS_mem hf, List.mem_map]
    constructor
    · rintro (rfl | rfl | ⟨_, _, p, hp, rfl⟩)
      · obtain ⟨p, hp, e⟩ := first_mem (tabOk_len ht).1; exact ⟨p, hp, e⟩
      · obtain ⟨p, hp, e⟩ := last_mem (tabOk_len ht).1; exact ⟨p, hp, e⟩
      · exact ⟨p, hp, rfl⟩
    · rintro ⟨p, hp, rfl⟩
      have h1 := first_le ht hp
      have h2 := rising_last ht hp
      by_cases e1 : p.1 = firstX ps
      · exact .inl e1
      · by_cases e2 : p.1 = lastX ps
        · exact .inr (.inl e2)
        · exact .inr (.inr ⟨by omega, by omega, p, hp, rfl⟩)
abbrev argsOk (n d : Int) : Prop := -1000000000 ≤ n ∧ n ≤ 1000000000 ∧ 1 ≤ d ∧ d ≤ 1000000000
theorem bigS_err (a b : Int) : (bigS a b).2.2 = 0 ∨ (bigS a b).2.2 = 5 := by
  unfold bigS; split
  · exact .inl rfl
  · exact .inr rfl
theorem point_v {ps : List P3} (ht : tabOk ps = true) {p : P3} (hp : p ∈ ps) : vR p.2.1 p.2.2 = true := by
  have h := inB_of (atS_in ht (first_le ht hp) (rising_last ht hp))
  rw [atS_point ht hp] at h
  simp [vR, inB]; omega
theorem timesAt_bad {n d : Int} {ps : List P3} (ht : tabOk ps = true) (h : ¬ argsOk n d) {p : P3} (hp : p ∈ ps) : timesAt n d ps p.1 = (0, 0, 1) := by
  unfold timesAt scaleS
  rw [atS_point ht hp, if_pos (point_v ht hp), if_neg h]
theorem timesAt_err {n d : Int} {ps : List P3} (ht : tabOk ps = true) (h : argsOk n d) {p : P3} (hp : p ∈ ps) : (timesAt n d ps p.1).2.2 = 0 ∨ (timesAt n d ps p.1).2.2 = 5 := by
  unfold timesAt scaleS
  rw [atS_point ht hp, if_pos (point_v ht hp), if_pos h]
  by_cases c : n < 0
  · rw [if_pos c]; exact bigS_err _ _
  · rw [if_neg c]; exact bigS_err _ _
theorem timesAt_point {n d : Int} {ps : List P3} (ht : tabOk ps = true) {p : P3} (hp : p ∈ ps) : timesAt n d ps p.1 = scaleS p.2.1 p.2.2 n d := by
  unfold timesAt; rw [atS_point ht hp]
theorem times_args {n d : Int} {ps : List P3} (ht : tabOk ps = true) (h : ¬ argsOk n d) : timesErr n d ps = 1 := by
  unfold timesErr
  rw [if_pos ht, corners_all ht]
  unfold buildErr
  rw [if_neg (by have := (tabOk_len ht).2; simp; omega)]
  cases ps with
  | nil => have := (tabOk_len ht).1; simp at this
  | cons p r =>
    have h1 := timesAt_bad ht h (p := p) (by simp)
    rw [List.map_cons]
    unfold buildE
    rw [h1]; rfl
/-- what Times has as its error, by the specification's order -/
theorem times_shaped {n d : Int} {ps : List P3} (ht : tabOk ps = true) (h : argsOk n d) :
    timesErr n d ps = if (ps.any fun p => decide ((scaleS p.2.1 p.2.2 n d).2.2 ≠ 0)) = true then 5 else shapedS (built (timesAt n d ps) (ps.map (·.1))) := by
  have hlen := tabOk_len ht
  have h40 : ¬ 40 < (ps.map (·.1)).length := by simp; omega
  have hp0 : ∀ x ∈ ps.map (·.1), 0 ≤ x ∧ x ≤ 1000000 := by
    intro x hx
    obtain ⟨p, hp, rfl⟩ := List.mem_map.1 hx
    have := places_in ht; have := first_le ht hp; have := rising_last ht hp
    omega
  by_cases c : (ps.any fun p => decide ((scaleS p.2.1 p.2.2 n d).2.2 ≠ 0)) = true
  · rw [if_pos c]
    unfold timesErr buildErr
    rw [if_pos ht, corners_all ht, if_neg h40, buildE_all _ _ (by intro x hx; obtain ⟨p, hp, rfl⟩ := List.mem_map.1 hx; exact timesAt_err ht h hp)]
    rw [if_neg]
    intro hh
    obtain ⟨p, hp, hc⟩ := List.any_eq_true.1 c
    have := List.all_eq_true.1 hh p.1 (List.mem_map.2 ⟨p, hp, rfl⟩)
    rw [timesAt_point ht hp] at this
    simp at this hc
    exact hc this.1
  · rw [if_neg c]
    have h0 : ∀ x ∈ ps.map (·.1), (timesAt n d ps x).2.2 = 0 := by
      intro x hx
      obtain ⟨p, hp, rfl⟩ := List.mem_map.1 hx
      rw [timesAt_point ht hp]
      refine Decidable.byContradiction fun hc => c (List.any_eq_true.2 ⟨p, hp, by simpa using hc⟩)
    rw [shaped_built (by rw [List.pairwise_map]; exact rising_pts ps (-1) (tabOk_pts ht) (by omega)) hp0 h0, if_neg (by intro e; have := congrArg List.length e; simp at this; rw [this] at hlen; simp at hlen)]
    unfold timesErr
    rw [if_pos ht, corners_all ht]
end

section
/-- where put stops: behind all numbers below n -/
def StopsAt (l : List Int) (n : Int) (i : Nat) : Prop := (∀ j y, i ≤ j → l[j]? = some y → n ≤ y) ∧ (∀ j y, j < i → l[j]? = some y → y < n)
theorem stops_start (l : List Int) (n : Int) (i : Nat) (hl : l.length ≤ i) : ∀ j y, i ≤ j → l[j]? = some y → n ≤ y := by
  intro j y hj hy
  have := (List.getElem?_eq_some_iff.1 hy).1
  omega
theorem stops_step {l : List Int} {n y : Int} {i : Nat} (h : ∀ j z, i + 1 ≤ j → l[j]? = some z → n ≤ z) (hy : l[i]? = some y) (hn : n ≤ y) : ∀ j z, i ≤ j → l[j]? = some z → n ≤ z := by
  intro j z hj hz
  by_cases c : j = i
  · subst c; rw [hy] at hz; injection hz with hz; omega
  · exact h j z (by omega) hz
theorem stops_at {l : List Int} {n y : Int} {i : Nat} (hl : l.Pairwise (· < ·)) (h : ∀ j z, i + 1 ≤ j → l[j]? = some z → n ≤ z) (hy : l[i]? = some y) (hn : y < n) : StopsAt l n (i + 1) := by
  refine ⟨h, fun j z hj hz => ?_⟩
  by_cases c : j = i
  · subst c; rw [hy] at hz; injection hz with hz; omega
  · obtain ⟨l1, rfl⟩ := List.getElem?_eq_some_iff.1 hz
    obtain ⟨l2, rfl⟩ := List.getElem?_eq_some_iff.1 hy
    have := List.pairwise_iff_getElem.1 hl j i l1 l2 (by omega)
    omega
theorem stops_zero {l : List Int} {n : Int} (h : ∀ j z, 0 ≤ j → l[j]? = some z → n ≤ z) : StopsAt l n 0 := ⟨h, fun j z hj => by omega⟩
theorem put_found {l : List Int} {n : Int} {i : Nat} (h : l[i]? = some n) : insS l n = l := by
  unfold insS; rw [if_pos (List.mem_iff_getElem?.2 ⟨i, h⟩)]
theorem put_new {l : List Int} {n : Int} {i : Nat} (hl : l.Pairwise (· < ·)) (h : StopsAt l n i) (hn : ∀ y, l[i]? = some y → y ≠ n) : insS l n = l.take i ++ n :: l.drop i := by
  have h1 : ∀ y ∈ l.take i, y < n := by
    intro y hy
    obtain ⟨j, hj⟩ := List.mem_iff_getElem?.1 hy
    rw [List.getElem?_take] at hj
    split at hj
    · rename_i c; exact h.2 j y c hj
    · cases hj
  have h2 : ∀ y ∈ l.drop i, n < y := by
    intro y hy
    obtain ⟨j, hj⟩ := List.mem_iff_getElem?.1 hy
    rw [List.getElem?_drop] at hj
    have c := h.1 (i + j) y (by omega) hj
    cases j with
    | zero => have := hn y hj; omega
    | succ j =>
      obtain ⟨l1, e1⟩ := List.getElem?_eq_some_iff.1 hj
      have e2 : l[i]? = some (l[i]'(by omega)) := List.getElem?_eq_getElem (by omega)
      have c2 := h.1 i _ (by omega) e2
      have c3 := List.pairwise_iff_getElem.1 hl i (i + (j + 1)) (by omega) l1 (by omega)
      omega
  have hni : n ∉ l := by
    intro hm
    rw [← List.take_append_drop i l, List.mem_append] at hm
    rcases hm with hm | hm
    · have := h1 n hm; omega
    · have := h2 n hm; omega
  unfold insS
  rw [if_neg hni]
  have f1 : l.filter (fun x => decide (x < n)) = l.take i := by
    conv => lhs; rw [← List.take_append_drop i l]
    rw [List.filter_append, List.filter_eq_self.2 (fun y hy => by simpa using h1 y hy), List.filter_eq_nil_iff.2 (fun y hy => by have := h2 y hy; simp; omega), List.append_nil]
  have f2 : l.filter (fun x => decide (n < x)) = l.drop i := by
    conv => lhs; rw [← List.take_append_drop i l]
    rw [List.filter_append, List.filter_eq_nil_iff.2 (fun y hy => by have := h1 y hy; simp; omega), List.filter_eq_self.2 (fun y hy => by simpa using h2 y hy), List.nil_append]
  rw [f1, f2]
theorem insS_len (l : List Int) (n : Int) : (insS l n).length ≤ l.length + 1 := by
  unfold insS
  split
  · omega
  · rename_i hni
    rw [List.length_append, List.length_cons]
    have : ∀ k : List Int, n ∉ k → (k.filter fun x => decide (x < n)).length + (k.filter fun x => decide (n < x)).length ≤ k.length := by
      intro k
      induction k with
      | nil => intro _; simp
      | cons y k ih =>
        intro hk
        have := ih (fun h => hk (by simp [h]))
        have hy : y ≠ n := fun e => hk (by simp [e])
        rw [List.filter_cons, List.filter_cons]
        rcases Int.lt_trichotomy y n with c | c | c
        · have c' : ¬ n < y := by omega
          simp [c, c']; omega
        · exact absurd c hy
        · have c' : ¬ y < n := by omega
          simp [c, c']; omega
    have := this l hni
    omega
/-- the places behind k points of both tables -/
def placesTo (ps qs : List P3) (k : Nat) : List Int := ((ps ++ qs).take k).foldl (placeStep ps qs) []
theorem placesTo_succ {ps qs : List P3} {k : Nat} {p : P3} (h : (ps ++ qs)[k]? = some p) : placesTo ps qs (k + 1) = if inBoth ps qs p.1 = true then insS (placesTo ps qs k) p.1 else placesTo ps qs k := by
  unfold placesTo
  rw [List.take_add_one, h]
  show ((List.take k (ps ++ qs)) ++ [p]).foldl (placeStep ps qs) [] = _
  rw [List.foldl_append]; rfl
theorem placesTo_all {ps qs : List P3} {k : Nat} (h : (ps ++ qs).length ≤ k) : placesTo ps qs k = placesOf ps qs := by
  unfold placesTo placesOf; rw [List.take_of_length_le h]
theorem placesTo_rising (ps qs : List P3) (k : Nat) : (placesTo ps qs k).Pairwise (· < ·) := (places_fold ps qs _ [] .nil).1
theorem placesTo_len (ps qs : List P3) : ∀ k, (placesTo ps qs k).length ≤ k
  | 0 => by simp [placesTo]
  | k + 1 => by
    have ih := placesTo_len ps qs k
    cases h : (ps ++ qs)[k]? with
    | none =>
      have e := List.getElem?_eq_none_iff.1 h
      have e1 := placesTo_all (ps := ps) (qs := qs) (k := k + 1) (by omega)
      have e2 := placesTo_all (ps := ps) (qs := qs) (k := k) e
      rw [e1, ← e2]; omega
    | some p =>
      rw [placesTo_succ h]
      split
      · have := insS_len (placesTo ps qs k) p.1; omega
      · omega
theorem placesOf_len (ps qs : List P3) : (placesOf ps qs).length ≤ ps.length + qs.length := by
  have := placesTo_len ps qs (ps ++ qs).length
  rw [placesTo_all (Nat.le_refl _), List.length_append] at this
  exact this
end

section
open Go.RowKit

/-- What put gives. -/
def GivesPut (base : Nat) (w : World) (l : List Int) (e : Ending) (w' : World) : Prop := ∃ v, e = .returned v ∧ OwnInts base w' v l ∧ Below w.heap.size w w'
theorem own_cap {base g n cap : Nat} {w : World} {l : List Int} (h : OwnInts base w (.slice (some ⟨g, 0, none⟩) n cap) l) : n ≤ cap ∧ cap ≤ maxLen ∧ g < w.heap.size := by
  rcases (show w.ownsRow base 3 1 _ _ _ from h).2 with ⟨h', _⟩ | ⟨g', cap', cur, h', _, hg, hnc, hcm, _⟩
  · simp at h'
  · simp only [Value.slice.injEq, Option.some.injEq, Addr.mk.injEq, and_true, true_and] at h'
    obtain ⟨rfl, rfl, rfl⟩ := h'
    exact ⟨hnc, hcm, (Array.getElem?_eq_some_iff.1 hg).1⟩

theorem newsAt {W : World} {g i : Nat} {M : List Int} (h : ∀ j x, M[j]? = some x → W.cell? ⟨g, i + j, none⟩ = some (.int .i64 x)) : ∀ j u, (ints M)[j]? = some u → W.cell? ((⟨g, i, none⟩ : Addr).add j) = some u := fun j u hu => by
  rw [List.getElem?_map] at hu
  obtain ⟨y, hy, rfl⟩ := Option.map_eq_some_iff.1 hu
  rw [Addr.add_lit]
  exact h j y hy
/-- the numbers ahead of the k-th one, and those from it on, where a row has the list -/
theorem news_take {W : World} {g k : Nat} {l : List Int} (h : IntsMem W g 0 l) : ∀ j u, (ints (l.take k))[j]? = some u → W.cell? ((⟨g, 0, none⟩ : Addr).add j) = some u := newsAt fun j x hx => by
  rw [List.getElem?_take] at hx
  split at hx
  · exact h j x hx
  · cases hx
theorem news_drop {W : World} {g k : Nat} {l : List Int} (h : IntsMem W g 0 l) : ∀ j u, (ints (l.drop k))[j]? = some u → W.cell? ((⟨g, k, none⟩ : Addr).add j) = some u := newsAt fun j x hx => by
  rw [List.getElem?_drop] at hx
  have := h (k + j) x hx
  rwa [Nat.zero_add] at this

theorem own_three {base n k m : Nat} {w w' : World} {v : Value} {l : List Int} {x : Int} {xs : List Value} (hn : n = l.length) (hk : k ≤ n) (hb : base ≤ w.heap.size) (h : w'.ownsRow w.heap.size 3 1 v m xs) (hm : m = n + 1) (hx : xs = ints (l.take k ++ x :: l.drop k)) : OwnInts base w' v (l.take k ++ x :: l.drop k) := by
  have e2 : (ints (l.take k ++ x :: l.drop k)).length = m := by simp [ints]; omega
  unfold OwnInts
  rw [e2, ← hx]
  exact World.ownsRow.mono h hb

set_option maxRecDepth 100000 in
set_option maxHeartbeats 4000000 in
theorem put_row (base g n cap : Nat) (l : List Int) (x : Int) (w : World) (hn : n = l.length) (h1n : 1 ≤ n) (h200 : n ≤ 200) (hl : l.Pairwise (· < ·)) (ho : OwnInts base w (.slice (some ⟨g, 0, none⟩) n cap) l) (hbase : base ≤ w.heap.size) (hc : IntsMem w g 0 l) :
    Calls Try.prog 137 #[.slice (some ⟨g, 0, none⟩) n cap, .int .i64 x] w (GivesPut base w (insS l x)) := by
  obtain ⟨i0, hi, hz0, hz1, hz2⟩ := info_parts Try.info3
  obtain ⟨hcap, hcm, hg⟩ := own_cap ho
  unfold maxLen at hcm
  have HN := Lib.hid hn; have HC := Lib.hid hc; have HO := Lib.hid ho; have HLR := Lib.hid hl
  clear hn hc ho hl
  go_enter Try.func137, Try.ntmps137
  go_wp2_with fail
  go_loop [5] (fun i => ∃ k : Nat, k ≤ n ∧ i = .int .i64 k ∧ Hid (∀ j y, k ≤ j → l[j]? = some y → x ≤ y)) (fun i => (intOf i).toNat)
  case atStart => exact ⟨n, Nat.le_refl _, rfl, Lib.hid (stops_start l x n (by rw [HN.out]; exact Nat.le_refl _))⟩
  case round =>
    obtain ⟨k, hk, rfl, HS⟩ := hrel
    by_cases hgo : ∃ y, 1 ≤ k ∧ l[k - 1]? = some y ∧ x ≤ y
    · obtain ⟨y, h1, hy, hxy⟩ := hgo
      obtain ⟨m, rfl⟩ : ∃ m, k = m + 1 := ⟨k - 1, by omega⟩
      rw [Nat.add_sub_cancel] at hy
      have c0 := HC.out m y hy
      rw [Nat.zero_add] at c0
      have HS2 := Lib.hid (stops_step HS.out hy hxy)
      clear hy HS
      have hmn : m < n := by omega
      go_wp2
      go_round
      case rel => exact ⟨m, by omega, by go_num, HS2⟩
      case measure => simp [intOf]
    · have hst : StopsAt l x k := by
        by_cases h0 : k = 0
        · subst h0; exact stops_zero HS.out
        · obtain ⟨y, hy⟩ : ∃ y, l[k - 1]? = some y := ⟨_, List.getElem?_eq_getElem (by rw [← HN.out]; omega)⟩
          have := stops_at (i := k - 1) HLR.out (by rw [show k - 1 + 1 = k by omega]; exact HS.out) hy (Int.not_le.1 fun h => hgo ⟨y, by omega, hy, h⟩)
          rwa [show k - 1 + 1 = k by omega] at this
      have hex : k = 0 ∨ ∃ m y, k = m + 1 ∧ l[m]? = some y ∧ ¬ x ≤ y := by
        by_cases h0 : k = 0
        · exact .inl h0
        · obtain ⟨y, hy⟩ : ∃ y, l[k - 1]? = some y := ⟨_, List.getElem?_eq_getElem (by rw [← HN.out]; omega)⟩
          exact .inr ⟨k - 1, y, by omega, hy, fun h => hgo ⟨y, by omega, hy, h⟩⟩
      have HST := Lib.hid hst
      clear hst hgo HS
      by_cases hfd : l[k]? = some x
      · have hkn : k < n := by rw [HN.out]; exact (List.getElem?_eq_some_iff.1 hfd).1
        have c1 := HC.out k x hfd
        rw [Nat.zero_add] at c1
        have HF := Lib.hid hfd; clear hfd
        rcases hex with rfl | ⟨m, y, rfl, hy, hxy⟩
        · go_wp2
          go_ret
          exact ⟨_, rfl, by rw [put_found HF.out]; exact HO.out, Below.refl _ _⟩
        · have c0 := HC.out m y hy
          rw [Nat.zero_add] at c0
          clear hy
          go_wp2
          go_ret
          exact ⟨_, rfl, by rw [put_found HF.out]; exact HO.out, Below.refl _ _⟩
      · have hne : k = n ∨ ∃ z, k < n ∧ l[k]? = some z ∧ (z == x) = false := by
          by_cases h : k = n
          · exact .inl h
          · obtain ⟨z, hz⟩ : ∃ z, l[k]? = some z := ⟨_, List.getElem?_eq_getElem (by rw [← HN.out]; omega)⟩
            exact .inr ⟨z, by omega, hz, beq_eq_false_iff_ne.2 fun e => hfd (by rw [hz, e])⟩
        have hins := put_new HLR.out HST.out (fun y hy e => hfd (by rw [hy, e]))
        have HIN := Lib.hid hins
        clear hfd hins HST
        -- the row that is made
        have hB0 := below_alloc1 w (.cells #[] 3)
        have HNEW := Lib.hid (World.ownsRow_made (base := w.heap.size) (size := 1) (e := 3) w #[] 0 (Nat.le_refl _) (by unfold maxLen; omega) rfl)
        have HN1 := Lib.hid (news_take (k := k) (IntsMem.below (show IntsMem w g 0 l from HC.out) hB0 hg))
        have HL1 := Lib.hid (show (ints (l.take k)).length = k * 1 by rw [List.length_map, List.length_take]; have := HN.out; omega)
        have HB0 := Lib.hid hB0
        clear hB0
        have hex2 : (k = 0 ∨ ∃ m y, k = m + 1 ∧ w.cell? ⟨g, m, none⟩ = some (.int .i64 y) ∧ ¬ x ≤ y) := by
          rcases hex with h | ⟨m, y, h1, h2, h3⟩
          · exact .inl h
          · have := HC.out m y h2; rw [Nat.zero_add] at this; exact .inr ⟨m, y, h1, this, h3⟩
        have hne2 : k = n ∨ ∃ z, k < n ∧ w.cell? ⟨g, k, none⟩ = some (.int .i64 z) ∧ (z == x) = false := by
          rcases hne with h | ⟨z, h1, h2, h3⟩
          · exact .inl h
          · have := HC.out k z h2; rw [Nat.zero_add] at this; exact .inr ⟨z, h1, this, h3⟩
        clear hex hne
        have hdr : (ints (l.drop k)).length = (n - k) * 1 := by rw [List.length_map, List.length_drop]; have := HN.out; omega
        have HDR := Lib.hid hdr; clear hdr
        have hkc : k < cap ∨ k = cap := by omega
        rcases hex2 with rfl | ⟨m, y, rfl, c0, hxy⟩ <;> rcases hne2 with hkn | ⟨z, hkn, c1, hzx⟩
        case inr.inr =>
          have hkc : m + 1 < cap := by omega
          have hkc2 : m + 1 ≠ cap := by omega
          go_wp2_with (at_builtin; refine wpList_append_own _ rfl (.tmp 35) (.tmp 38) 44 rfl w.heap.size 3 i0 (.int .i64 0) 1 8 Try.underlying44 hi hz0 hz1 hz2 rfl (by decide) _ _ _ rfl HNEW.out ⟨g, 0, none⟩ _ cap (ints (l.take _)) rfl HL1.out HN1.out (ints_one _) (by unfold maxLen; omega) (by omega) HB0.out.size ?_)
          intro v1 w1 ho1 hg1 _
          have HB1 := Lib.hid (HB0.out.grown hg1 HB0.out.size (fun j e => (World.ownsRow.lt HNEW.out j e).1))
          have HO1 := Lib.hid (ho1.alloc (.cells #[.int .i64 x] 3))
          have HCE := Lib.hid (cell_one w1 x 3)
          clear ho1 hg1
          go_wp2_with (at_builtin; refine wpList_append_own _ rfl (.tmp 40) (.tmp 42) 44 rfl w.heap.size 3 i0 (.int .i64 0) 1 8 Try.underlying44 hi hz0 hz1 hz2 rfl (by decide) _ _ _ rfl HO1.out ⟨w1.heap.size, 0, none⟩ 1 1 [.int .i64 x] rfl rfl HCE.out (by simp [Value.oneCell']) (by unfold maxLen; omega) (by omega) (by have := HB1.out.size; simp; omega) ?_)
          intro v2 w2 ho2 hg2 _
          have HB2 := Lib.hid ((HB1.out.alloc HB1.out.size (.cells #[.int .i64 x] 3)).grown hg2 (by have := HB1.out.size; simp; omega) (fun j e => (World.ownsRow.lt HO1.out j e).1))
          have HO2 := Lib.hid ho2
          clear ho2 hg2
          have HN2 := Lib.hid (news_drop (k := m + 1) (IntsMem.below (show IntsMem w g 0 l from HC.out) HB2.out hg))
          go_wp2_with (at_builtin; refine wpList_append_own _ rfl (.tmp 44) (.tmp 47) 44 rfl w.heap.size 3 i0 (.int .i64 0) 1 8 Try.underlying44 hi hz0 hz1 hz2 rfl (by decide) _ _ _ rfl HO2.out ⟨g, _, none⟩ _ _ (ints (l.drop _)) rfl HDR.out HN2.out (ints_one _) (by unfold maxLen; omega) (by omega) HB2.out.size ?_)
          intro v3 w3 ho3 hg3 _
          have HB3 := Lib.hid (HB2.out.grown hg3 HB2.out.size (fun j e => (World.ownsRow.lt HO2.out j e).1))
          have HO3 := Lib.hid ho3
          clear ho3 hg3
          go_wp2
          go_ret
          exact ⟨_, rfl, by rw [HIN.out]; exact own_three HN.out (by omega) hbase HO3.out (by omega) (by simp [ints]), HB3.out⟩
        case inl.inr =>
          rw [show ((0 : Nat) : Int) = 0 from rfl]
          have hkc : 0 < cap := by omega
          have hkc2 : 0 ≠ cap := by omega
          go_wp2_with (at_builtin; refine wpList_append_own _ rfl (.tmp 35) (.tmp 38) 44 rfl w.heap.size 3 i0 (.int .i64 0) 1 8 Try.underlying44 hi hz0 hz1 hz2 rfl (by decide) _ _ _ rfl HNEW.out ⟨g, 0, none⟩ _ cap (ints (l.take _)) rfl HL1.out HN1.out (ints_one _) (by unfold maxLen; omega) (by omega) HB0.out.size ?_)
          intro v1 w1 ho1 hg1 _
          have HB1 := Lib.hid (HB0.out.grown hg1 HB0.out.size (fun j e => (World.ownsRow.lt HNEW.out j e).1))
          have HO1 := Lib.hid (ho1.alloc (.cells #[.int .i64 x] 3))
          have HCE := Lib.hid (cell_one w1 x 3)
          clear ho1 hg1
          go_wp2_with (at_builtin; refine wpList_append_own _ rfl (.tmp 40) (.tmp 42) 44 rfl w.heap.size 3 i0 (.int .i64 0) 1 8 Try.underlying44 hi hz0 hz1 hz2 rfl (by decide) _ _ _ rfl HO1.out ⟨w1.heap.size, 0, none⟩ 1 1 [.int .i64 x] rfl rfl HCE.out (by simp [Value.oneCell']) (by unfold maxLen; omega) (by omega) (by have := HB1.out.size; simp; omega) ?_)
          intro v2 w2 ho2 hg2 _
          have HB2 := Lib.hid ((HB1.out.alloc HB1.out.size (.cells #[.int .i64 x] 3)).grown hg2 (by have := HB1.out.size; simp; omega) (fun j e => (World.ownsRow.lt HO1.out j e).1))
          have HO2 := Lib.hid ho2
          clear ho2 hg2
          have HN2 := Lib.hid (news_drop (k := 0) (IntsMem.below (show IntsMem w g 0 l from HC.out) HB2.out hg))
          go_wp2_with (at_builtin; refine wpList_append_own _ rfl (.tmp 44) (.tmp 47) 44 rfl w.heap.size 3 i0 (.int .i64 0) 1 8 Try.underlying44 hi hz0 hz1 hz2 rfl (by decide) _ _ _ rfl HO2.out ⟨g, _, none⟩ _ _ (ints (l.drop _)) rfl HDR.out HN2.out (ints_one _) (by unfold maxLen; omega) (by omega) HB2.out.size ?_)
          intro v3 w3 ho3 hg3 _
          have HB3 := Lib.hid (HB2.out.grown hg3 HB2.out.size (fun j e => (World.ownsRow.lt HO2.out j e).1))
          have HO3 := Lib.hid ho3
          clear ho3 hg3
          go_wp2
          go_ret
          exact ⟨_, rfl, by rw [HIN.out]; exact own_three HN.out (by omega) hbase HO3.out (by omega) (by simp [ints]), HB3.out⟩
        case inl.inl => omega
        case inr.inl =>
          subst hkn
          rcases hkc with hkc | hkc
          case inl =>
            have hkc2 : m + 1 ≠ cap := by omega
            go_wp2_with (at_builtin; refine wpList_append_own _ rfl (.tmp 35) (.tmp 38) 44 rfl w.heap.size 3 i0 (.int .i64 0) 1 8 Try.underlying44 hi hz0 hz1 hz2 rfl (by decide) _ _ _ rfl HNEW.out ⟨g, 0, none⟩ _ cap (ints (l.take _)) rfl HL1.out HN1.out (ints_one _) (by unfold maxLen; omega) (by omega) HB0.out.size ?_)
            intro v1 w1 ho1 hg1 _
            have HB1 := Lib.hid (HB0.out.grown hg1 HB0.out.size (fun j e => (World.ownsRow.lt HNEW.out j e).1))
            have HO1 := Lib.hid (ho1.alloc (.cells #[.int .i64 x] 3))
            have HCE := Lib.hid (cell_one w1 x 3)
            clear ho1 hg1
            go_wp2_with (at_builtin; refine wpList_append_own _ rfl (.tmp 40) (.tmp 42) 44 rfl w.heap.size 3 i0 (.int .i64 0) 1 8 Try.underlying44 hi hz0 hz1 hz2 rfl (by decide) _ _ _ rfl HO1.out ⟨w1.heap.size, 0, none⟩ 1 1 [.int .i64 x] rfl rfl HCE.out (by simp [Value.oneCell']) (by unfold maxLen; omega) (by omega) (by have := HB1.out.size; simp; omega) ?_)
            intro v2 w2 ho2 hg2 _
            have HB2 := Lib.hid ((HB1.out.alloc HB1.out.size (.cells #[.int .i64 x] 3)).grown hg2 (by have := HB1.out.size; simp; omega) (fun j e => (World.ownsRow.lt HO1.out j e).1))
            have HO2 := Lib.hid ho2
            clear ho2 hg2
            go_wp2_with (at_builtin; refine wpList_append_own _ rfl (.tmp 44) (.tmp 47) 44 rfl w.heap.size 3 i0 (.int .i64 0) 1 8 Try.underlying44 hi hz0 hz1 hz2 rfl (by decide) _ _ _ rfl HO2.out _ 0 _ [] rfl rfl (fun j u h => by cases h) (by simp) (by unfold maxLen; omega) (by omega) HB2.out.size ?_)
            intro v3 w3 ho3 hg3 _
            have HB3 := Lib.hid (HB2.out.grown hg3 HB2.out.size (fun j e => (World.ownsRow.lt HO2.out j e).1))
            have HO3 := Lib.hid ho3
            clear ho3 hg3
            go_wp2
            go_ret
            exact ⟨_, rfl, by rw [HIN.out]; exact own_three HN.out (by omega) hbase HO3.out (by omega) (by have := HN.out; simp [ints]; omega), HB3.out⟩
          case inr =>
            subst hkc
            go_wp2_with (at_builtin; refine wpList_append_own _ rfl (.tmp 35) (.tmp 38) 44 rfl w.heap.size 3 i0 (.int .i64 0) 1 8 Try.underlying44 hi hz0 hz1 hz2 rfl (by decide) _ _ _ rfl HNEW.out ⟨g, 0, none⟩ _ _ (ints (l.take _)) rfl HL1.out HN1.out (ints_one _) (by unfold maxLen; omega) (by omega) HB0.out.size ?_)
            intro v1 w1 ho1 hg1 _
            have HB1 := Lib.hid (HB0.out.grown hg1 HB0.out.size (fun j e => (World.ownsRow.lt HNEW.out j e).1))
            have HO1 := Lib.hid (ho1.alloc (.cells #[.int .i64 x] 3))
            have HCE := Lib.hid (cell_one w1 x 3)
            clear ho1 hg1
            go_wp2_with (at_builtin; refine wpList_append_own _ rfl (.tmp 40) (.tmp 42) 44 rfl w.heap.size 3 i0 (.int .i64 0) 1 8 Try.underlying44 hi hz0 hz1 hz2 rfl (by decide) _ _ _ rfl HO1.out ⟨w1.heap.size, 0, none⟩ 1 1 [.int .i64 x] rfl rfl HCE.out (by simp [Value.oneCell']) (by unfold maxLen; omega) (by omega) (by have := HB1.out.size; simp; omega) ?_)
            intro v2 w2 ho2 hg2 _
            have HB2 := Lib.hid ((HB1.out.alloc HB1.out.size (.cells #[.int .i64 x] 3)).grown hg2 (by have := HB1.out.size; simp; omega) (fun j e => (World.ownsRow.lt HO1.out j e).1))
            have HO2 := Lib.hid ho2
            clear ho2 hg2
            go_wp2_with (at_builtin; refine wpList_append_own _ rfl (.tmp 44) (.tmp 47) 44 rfl w.heap.size 3 i0 (.int .i64 0) 1 8 Try.underlying44 hi hz0 hz1 hz2 rfl (by decide) _ _ _ rfl HO2.out _ 0 _ [] rfl rfl (fun j u h => by cases h) (by simp) (by unfold maxLen; omega) (by omega) HB2.out.size ?_)
            intro v3 w3 ho3 hg3 _
            have HB3 := Lib.hid (HB2.out.grown hg3 HB2.out.size (fun j e => (World.ownsRow.lt HO2.out j e).1))
            have HO3 := Lib.hid ho3
            clear ho3 hg3
            go_wp2
            go_ret
            exact ⟨_, rfl, by rw [HIN.out]; exact own_three HN.out (by omega) hbase HO3.out (by omega) (by have := HN.out; simp [ints]; omega), HB3.out⟩
set_option maxRecDepth 100000 in
set_option maxHeartbeats 4000000 in
theorem put_nil (x : Int) (w : World) :
    Calls Try.prog 137 #[.slice none 0 0, .int .i64 x] w (GivesPut w.heap.size w (insS [] x)) := by
  obtain ⟨i0, hi, hz0, hz1, hz2⟩ := info_parts Try.info3
  have hB0 := below_alloc1 w (.cells #[] 3)
  have HNEW := Lib.hid (World.ownsRow_made (base := w.heap.size) (size := 1) (e := 3) w #[] 0 (Nat.le_refl _) (by unfold maxLen; omega) rfl)
  have HB0 := Lib.hid hB0; clear hB0
  go_enter Try.func137, Try.ntmps137
  go_wp2_with fail
  go_loop [5] (fun i => i = .int .i64 0) (fun i => 0)
  case atStart => rfl
  case round =>
    subst hrel
    have HO1 := Lib.hid (HNEW.out.alloc (.cells #[.int .i64 x] 3))
    have HCE := Lib.hid (cell_one (w.alloc (.cells #[] 3)) x 3)
    go_wp2_with (at_builtin; refine wpList_append_lies _ rfl (.tmp 40) (.tmp 42) 44 rfl w.heap.size 3 i0 (.int .i64 0) 1 8 Try.underlying44 hi hz0 hz1 hz2 rfl (by decide) _ _ _ rfl HO1.out ⟨w.heap.size + 1, 0, none⟩ 1 1 [.int .i64 x] rfl rfl (by have := HCE.out; rw [World.size_alloc] at this; exact this) (by simp [Value.oneCell']) (by omega) (by unfold maxLen; omega) (by omega) (by simp; omega) _ rfl ?_)
    intro g2 cap2 w2 ho2 hg2 _ _
    have HB2 := Lib.hid ((HB0.out.alloc (by simp) (.cells #[.int .i64 x] 3)).grown hg2 (by simp; omega) (fun j e => (World.ownsRow.lt HO1.out j e).1))
    have HO2 : Hid (OwnInts w.heap.size w2 (.slice (some ⟨g2, 0, none⟩) 1 cap2) [x]) := Lib.hid ho2
    clear ho2 hg2
    obtain ⟨hc1, hc2, hc3⟩ := own_cap HO2.out
    go_wp2
    go_ret
    exact ⟨_, rfl, HO2.out, HB2.out⟩
end

section
open Go.RowKit

/-- What places gives: a list in memory, nil where it is empty. -/
def GivesPlaces (w : World) (L : List Int) (e : Ending) (w' : World) : Prop := ∃ A c, e = .returned (.slice A L.length c) ∧ IntsP w' A L ∧ Below w.heap.size w w'
theorem boxes2 (w : World) (t1 t2 : TypeId) (c1 c2 : Array Value) : Boxes ((w.alloc (.cells c1 t1)).alloc (.cells c2 t2)) [(w.heap.size + 1, t2, c2), (w.heap.size, t1, c1)] := by
  have h1 : Boxes (w.alloc (.cells c1 t1)) [(w.heap.size, t1, c1)] := fun p hp => by
    have := List.mem_singleton.1 hp; subst this; exact Blk.new w _ _
  have h2 := h1.new t2 c2
  simp only [World.size_alloc] at h2
  exact h2
theorem boxes3 (w : World) (t1 t2 t3 : TypeId) (c1 c2 c3 : Array Value) : Boxes (((w.alloc (.cells c1 t1)).alloc (.cells c2 t2)).alloc (.cells c3 t3)) [(w.heap.size + 1 + 1, t3, c3), (w.heap.size + 1, t2, c2), (w.heap.size, t1, c1)] := by
  have h2 := (boxes2 w t1 t2 c1 c2).new t3 c3
  simp only [World.size_alloc] at h2
  exact h2
/-- points of a table, as news -/
theorem pts_news {w : World} {b o : Nat} {ps : List P3} (h : PtsAt w b o ps) : ∀ j u, (ptCells ps)[j]? = some u → w.cell? ((⟨b, o, none⟩ : Addr).add j) = some u := by
  intro j u hu
  rw [Addr.add_lit]
  have hlt : j < ps.length * 3 := by rw [← ptCells_len]; exact (List.getElem?_eq_some_iff.1 hu).1
  obtain ⟨p, hp⟩ : ∃ p, ps[j / 3]? = some p := ⟨_, List.getElem?_eq_getElem (by omega)⟩
  have hcell : ∀ (L : List P3) (k i : Nat) (p : P3), L[k]? = some p → i < 3 → (ptCells L)[k * 3 + i]? = [Value.int .i64 p.1, .int .i64 p.2.1, .int .i64 p.2.2][i]? := by
    intro L
    induction L with
    | nil => intro k i p hp; cases hp
    | cons q L ih =>
      intro k i p hp hi
      have e : ptCells (q :: L) = [Value.int .i64 q.1, .int .i64 q.2.1, .int .i64 q.2.2] ++ ptCells L := by simp [ptCells]
      cases k with
      | zero =>
        simp at hp; subst hp
        rw [e]
        have : i = 0 ∨ i = 1 ∨ i = 2 := by omega
        rcases this with rfl | rfl | rfl <;> simp
      | succ k =>
        rw [e, List.getElem?_append_right (by simp; omega)]
        rw [← ih k i p (by simpa using hp) hi]
        congr 1
        simp; omega
  obtain ⟨c0, c1, c2⟩ := h (j / 3) p hp
  have hm : j % 3 = 0 ∨ j % 3 = 1 ∨ j % 3 = 2 := by omega
  have hj : j = j / 3 * 3 + j % 3 := by omega
  have hv := hcell ps (j / 3) (j % 3) p hp (by omega)
  rw [← hj, hu] at hv
  rcases hm with m | m | m
  · rw [m] at hv hj
    simp at hv
    rw [hj, Nat.add_zero, c0, hv]
  · rw [m] at hv hj
    simp at hv
    rw [hj, ← Nat.add_assoc, c1, hv]
  · rw [m] at hv hj
    simp at hv
    rw [hj, ← Nat.add_assoc, c2, hv]
theorem ptCells_app (L M : List P3) : ptCells (L ++ M) = ptCells L ++ ptCells M := by simp [ptCells]
theorem ptCells_one (L : List P3) : ∀ u ∈ ptCells L, u.oneCell' = true := by
  intro u hu
  obtain ⟨p, _, h⟩ := List.mem_flatMap.1 hu
  simp at h
  rcases h with rfl | rfl | rfl <;> rfl

theorem own_pts_at {base g n c : Nat} {w : World} {L : List P3} (h : OwnPts base w (.slice (some ⟨g, 0, none⟩) n c) L) (hl : 0 < L.length) : g < w.heap.size ∧ PtsAt w g 0 L := by
  obtain ⟨g', cap', e, _, h2, h3⟩ := h.pts hl
  injection e with e1 e2 e3
  injection e1 with e1
  injection e1 with e1
  subst e1
  exact ⟨h2, h3⟩
/-- a rising list of the call's own, nil where it is empty -/
def PutRow (base : Nat) (w : World) (v : Value) (l : List Int) : Prop := OwnInts base w v l ∧ (l = [] → v = .slice none 0 0)
theorem put_any (base : Nat) (v : Value) (l : List Int) (x : Int) (w : World) (h : PutRow base w v l) (hbase : base ≤ w.heap.size) (h200 : l.length ≤ 200) (hl : l.Pairwise (· < ·)) :
    Calls Try.prog 137 #[v, .int .i64 x] w fun e w' => ∃ v', e = .returned v' ∧ PutRow base w' v' (insS l x) ∧ Below w.heap.size w w' := by
  have hne : insS l x ≠ [] := fun e => by have := (insS_mem l x x).2 (.inr rfl); rw [e] at this; cases this
  by_cases h0 : l = []
  · subst h0
    rw [h.2 rfl]
    refine (put_nil x w).mono ?_
    rintro e w' ⟨v', rfl, ho, hb⟩
    exact ⟨v', rfl, ⟨World.ownsRow.mono (show w'.ownsRow _ 3 1 v' _ _ from ho) hbase, fun e => absurd e hne⟩, hb⟩
  · obtain ⟨g, cap, rfl, _, hg, hm⟩ := OwnInts.cells h.1 h0
    refine (put_row base g l.length cap l x w rfl (List.length_pos_iff.2 h0) h200 hl h.1 hbase hm).mono ?_
    rintro e w' ⟨v', rfl, ho, hb⟩
    exact ⟨v', rfl, ⟨ho, fun e => absurd e hne⟩, hb⟩

theorem putRow_gives {base : Nat} {w w' : World} {v : Value} {l : List Int} (h : PutRow base w' v l) (hb : Below w.heap.size w w') : GivesPlaces w l (.returned v) w' := by
  by_cases h0 : l = []
  · subst h0
    rw [h.2 rfl]
    exact ⟨none, 0, rfl, .inl rfl, hb⟩
  · obtain ⟨g, cap, rfl, _, hg, hm⟩ := OwnInts.cells h.1 h0
    exact ⟨_, _, rfl, .inr ⟨g, 0, rfl, hg, hm⟩, hb⟩

set_option maxRecDepth 100000 in
set_option maxHeartbeats 4000000 in
theorem places_any (b o n c b' o' n' c' : Nat) (ps qs : List P3) (w : World) (hn : n = ps.length) (hn' : n' = qs.length) (hb : b < w.heap.size) (hb' : b' < w.heap.size)
    (ht : tabOk ps = true) (hu : tabOk qs = true) (hc : PtsAt w b o ps) (hc' : PtsAt w b' o' qs) :
    Calls Try.prog 116 #[tv (some ⟨b, o, none⟩) n c, tv (some ⟨b', o', none⟩) n' c'] w (GivesPlaces w (placesOf ps qs)) := by
  obtain ⟨j0, hj, hj0, hj1, hj2⟩ := info_parts Try.infoP
  have hlp := tabOk_len ht
  have hlq := tabOk_len hu
  have hE : Below w.heap.size w ((w.alloc (.cells #[.slice (some ⟨b, o, none⟩) n c] 43)).alloc (.cells #[.slice (some ⟨b', o', none⟩) n' c'] 43)) := below_a2 (Below.refl _ _)
  have hK := boxes2 w 43 43 #[.slice (some ⟨b, o, none⟩) n c] #[.slice (some ⟨b', o', none⟩) n' c']
  have HE := Lib.hid hE; have HK := Lib.hid hK
  have hn0 : 1 ≤ n := by omega
  have hn0' : 1 ≤ n' := by omega
  have hn40 : n ≤ 40 := by omega
  have hn40' : n' ≤ 40 := by omega
  have HC := Lib.hid hc; have HC' := Lib.hid hc'; have HN := Lib.hid (And.intro hn (And.intro hn' (And.intro ht hu)))
  clear hE hK hn hn' ht hu hc hc' hlp hlq
  go_enter Try.func116, Try.ntmps116
  go_wp2_with fail
  obtain ⟨W0, hW0⟩ : ∃ W0, ((w.alloc (.cells #[.slice (some ⟨b, o, none⟩) n c] 43)).alloc (.cells #[.slice (some ⟨b', o', none⟩) n' c'] 43)) = W0 := ⟨_, rfl⟩
  rw [hW0] at HE HK ⊢
  clear hW0
  have q0 := (HK.out _ (.tail _ (.head _))).cell 0
  have q1 := (HK.out _ (.head _)).cell 0
  have l0 := (HK.out _ (.tail _ (.head _))).lt
  have l1 := (HK.out _ (.head _)).lt
  simp at q0 q1 l0 l1
  have hB0 : Below W0.heap.size W0 ((W0.alloc (.cells #[] 87)).drew) := ((Below.refl _ _).alloc (Nat.le_refl _) _).drew
  have HNEW := Lib.hid (show World.ownsRow ((W0.alloc (.cells #[] 87)).drew) W0.heap.size 87 3 (.slice (some ⟨W0.heap.size, 0, none⟩) 0 0) 0 [] from World.ownsRow_made (base := W0.heap.size) (size := 3) (e := 87) W0 #[] 0 (Nat.le_refl _) (by unfold maxLen; omega) rfl)
  have hE1 := below_then HE.out hB0
  have HN1 := Lib.hid (pts_news ((show PtsAt w b o ps from HC.out).below hE1 hb))
  have HB0 := Lib.hid hB0
  have HL1 := Lib.hid (show (ptCells ps).length = n * 3 by rw [ptCells_len, HN.out.1])
  have HL2 := Lib.hid (show (ptCells qs).length = n' * 3 by rw [ptCells_len, HN.out.2.1])
  clear hB0 hE1
  go_cut [14, 15, 16] (fun s14 s15 s16 wx => ∃ g2 cap2, s14 = .slice (some ⟨g2, 0, none⟩) (n + n') cap2 ∧ s15 = .int .i64 ((n + n' : Nat) : Int) ∧ s16 = .int .i64 0 ∧ Hid (OwnPts W0.heap.size wx (.slice (some ⟨g2, 0, none⟩) (n + n') cap2) (ps ++ qs)) ∧ Hid (Below W0.heap.size W0 wx))
  case first =>
    go_region_law (first
      | (refine step_append_lies _ (by rfl) _ _ _ (by rfl) W0.heap.size 87 j0 _ 3 24 Try.underlying41 hj hj0 hj1 hj2 rfl (by omega) (.slice (some ⟨W0.heap.size, 0, none⟩) 0 0) 0 [] (by rfl) (by exact HNEW.out) ⟨b, o, none⟩ n c (ptCells ps) (by rfl) HL1.out (by exact HN1.out) (ptCells_one _) (by omega) (by unfold maxLen; omega) (by omega) (by exact HB0.out.size) _ rfl ?_
         intro g1 cap1 w1 hown1 hgrow1 hat1 hlt1
         have HO1 : Hid (w1.ownsRow W0.heap.size 87 3 (.slice (some ⟨g1, 0, none⟩) n cap1) n (ptCells ps)) := Lib.hid (by simpa using hown1)
         have HB1 := Lib.hid (HB0.out.grown hgrow1 HB0.out.size (fun j e => (World.ownsRow.lt HNEW.out j e).1))
         have HN2 := Lib.hid (pts_news ((show PtsAt w b' o' qs from HC'.out).below (below_then HE.out HB1.out) hb'))
         have q1 := ((HK.out.on HB1.out) _ (.head _)).cell 0
         simp at q1
         clear hown1 hgrow1)
      | (refine step_append_lies _ (by rfl) _ _ _ (by rfl) W0.heap.size 87 j0 _ 3 24 Try.underlying41 hj hj0 hj1 hj2 rfl (by omega) (.slice (some ⟨g1, 0, none⟩) n cap1) n (ptCells ps) (by rfl) (by exact HO1.out) ⟨b', o', none⟩ n' c' (ptCells qs) (by rfl) HL2.out (by exact HN2.out) (ptCells_one _) (by omega) (by unfold maxLen; omega) (by omega) (by exact HB1.out.size) _ rfl ?_
         intro g2 cap2 w2 hown2 hgrow2 hat2 hlt2)
      | fail)
    all_goals
      have HO2 : Hid (OwnPts W0.heap.size w2 (.slice (some ⟨g2, 0, none⟩) (n + n') cap2) (ps ++ qs)) := Lib.hid (by
        unfold OwnPts
        rw [ptCells_app, List.length_append, ← HN.out.1, ← HN.out.2.1]
        exact hown2)
      have HB2 := Lib.hid (HB1.out.grown hgrow2 HB1.out.size (fun j e => (World.ownsRow.lt HO1.out j e).1))
      clear hown2 hgrow2 q0 q1
      try clear hat2
      try go_wp2_with fail
      go_meet
      exact ⟨g2, cap2, rfl, by go_num, rfl, HO2, HB2⟩
  case rest =>
    obtain ⟨g2, cap2, rfl, rfl, rfl, HO2, HB2⟩ := hcut
    clear HNEW HN1 HB0 HL1 HL2 q0 q1 l0 l1
    rename World => W3
    obtain ⟨hg2, hpt⟩ := own_pts_at HO2.out (by rw [List.length_append]; have := HN.out; omega)
    have HPT := Lib.hid hpt; clear hpt
    have HE3 := Lib.hid (below_then HE.out HB2.out); have HK3 := Lib.hid (HK.out.on HB2.out)
    have CI : Hid (∀ W z t, Below w.heap.size w W → insideS ps z = t → Calls Try.prog 92 #[tv (some ⟨b, o, none⟩) n c, .int .i64 z] W fun e w' => e = .returned (.bool t) ∧ Below W.heap.size W w') := Lib.hid fun W z t hW h =>
      bool_to (inside_any b o n c ps z W HN.out.1 hn0 hn40 (Nat.lt_of_lt_of_le hb hW.size) ((show PtsAt w b o ps from HC.out).below hW hb)) h
    have CJ : Hid (∀ W z t, Below w.heap.size w W → insideS qs z = t → Calls Try.prog 92 #[tv (some ⟨b', o', none⟩) n' c', .int .i64 z] W fun e w' => e = .returned (.bool t) ∧ Below W.heap.size W w') := Lib.hid fun W z t hW h =>
      bool_to (inside_any b' o' n' c' qs z W HN.out.2.1 hn0' hn40' (Nat.lt_of_lt_of_le hb' hW.size) ((show PtsAt w b' o' qs from HC'.out).below hW hb')) h
    clear HC HC' HE HK HO2 HB2
    have hst : Hid (PutRow W3.heap.size W3 (.slice none 0 0) (placesTo ps qs 0)) := Lib.hid ⟨World.ownsRow_nil _ _ _ _, fun _ => rfl⟩
    obtain ⟨N, hN⟩ : ∃ N, n + n' = N := ⟨_, rfl⟩
    have HNN := Lib.hid hN
    rw [hN]
    have hN80 : N ≤ 80 := by omega
    clear hN
    go_wp2_with fail
    go_loopw [5, 16] (fun v i wr => ∃ k : Nat, k ≤ N ∧ i = .int .i64 k ∧ Hid (PutRow W3.heap.size wr v (placesTo ps qs k)) ∧ Below W3.heap.size W3 wr) (fun _ i _ => N - (intOf i).toNat)
    case atStart => exact ⟨0, by omega, rfl, hst, Below.refl _ _⟩
    case round =>
      obtain ⟨k, hk, rfl, HV, hB⟩ := hrel
      by_cases hlt : k < N
      · obtain ⟨p, hp⟩ : ∃ p, (ps ++ qs)[k]? = some p := ⟨_, List.getElem?_eq_getElem (show k < (ps ++ qs).length by rw [List.length_append, ← HN.out.1, ← HN.out.2.1, HNN.out]; exact hlt)⟩
        obtain ⟨c0, c1, c2⟩ := HPT.out k p hp
        rw [← hB.cell (p := ⟨g2, 0 + k * 3, none⟩) hg2] at c0
        rw [← hB.cell (p := ⟨g2, 0 + k * 3 + 1, none⟩) hg2] at c1
        rw [← hB.cell (p := ⟨g2, 0 + k * 3 + 2, none⟩) hg2] at c2
        rw [Nat.zero_add] at c0 c1 c2
        have HSU := Lib.hid (placesTo_succ hp)
        obtain ⟨x, lo, hi'⟩ := p
        dsimp only at c0 c1 c2
        have HL := Lib.hid (And.intro (placesTo_rising ps qs k) (placesTo_len ps qs k))
        have HP := Lib.hid (Blk.new wr 87 #[.int .i64 x, .int .i64 lo, .int .i64 hi'])
        have HV1 : Hid (PutRow W3.heap.size (wr.alloc (.cells #[.int .i64 x, .int .i64 lo, .int .i64 hi'] 87)) u5 (placesTo ps qs k)) := Lib.hid ⟨OwnInts.alloc HV.out.1 _, HV.out.2⟩
        have HB1 := Lib.hid (hB.alloc hB.size (.cells #[.int .i64 x, .int .i64 lo, .int .i64 hi'] 87))
        have q0 := ((HK3.out.on hB) _ (.tail _ (.head _))).cell 0
        have l0 := ((HK3.out.on hB) _ (.tail _ (.head _))).lt
        simp at q0 l0
        clear hp hB HV
        go_upto_region 5 with fail
        obtain ⟨G, hG⟩ : ∃ G, wr.heap.size = G := ⟨_, rfl⟩
        obtain ⟨W4, hW4⟩ : ∃ W4, wr.alloc (.cells #[.int .i64 x, .int .i64 lo, .int .i64 hi'] 87) = W4 := ⟨_, rfl⟩
        rw [hW4] at HV1 HB1 HP ⊢
        rw [hG] at HP ⊢
        clear hW4 hG q0 l0 c0 c1 c2
        have hE4 := below_then HE3.out HB1.out
        have HE4 := Lib.hid hE4
        have q0 := ((HK3.out.on HB1.out) _ (.tail _ (.head _))).cell 0
        have z0 := HP.out.cell 0
        simp at q0 z0
        clear hE4
        have hbt : inBoth ps qs x = (insideS ps x && insideS qs x) := rfl
        have HBT := Lib.hid hbt; clear hbt
        cases h1 : insideS ps x
        · have HS2 := Lib.hid (show placesTo ps qs (k + 1) = placesTo ps qs k by rw [HSU.out, HBT.out, h1]; rfl)
          have H1 := Lib.hid h1; clear h1
          go_wp2_with fail
          refine (CI.out _ x false HE4.out H1.out).mono ?_
          rintro e w5 ⟨rfl, hb1⟩
          have HV2 : Hid (PutRow W3.heap.size w5 u5 (placesTo ps qs (k + 1))) := Lib.hid (by rw [HS2.out]; exact ⟨OwnInts.below HV1.out.1 hb1, HV1.out.2⟩)
          have HB2 := Lib.hid (below_then HB1.out hb1)
          clear hb1 q0 z0
          go_wp2
          go_roundw
          case rel => exact ⟨k + 1, by omega, by go_num, HV2, HB2.out⟩
          case measure => simp [intOf]; omega
        · have H1 := Lib.hid h1
          clear h1
          cases h2 : insideS qs x
          · have HS2 := Lib.hid (show placesTo ps qs (k + 1) = placesTo ps qs k by rw [HSU.out, HBT.out, H1.out, h2]; rfl)
            have H2 := Lib.hid h2; clear h2
            go_wp2_with fail
            refine (CI.out _ x true HE4.out H1.out).mono ?_
            rintro e w5 ⟨rfl, hb1⟩
            have HV2 : Hid (PutRow W3.heap.size w5 u5 (placesTo ps qs (k + 1))) := Lib.hid (by rw [HS2.out]; exact ⟨OwnInts.below HV1.out.1 hb1, HV1.out.2⟩)
            have HB2 := Lib.hid (below_then HB1.out hb1)
            have HE5 := Lib.hid (below_then HE4.out hb1)
            clear q0 z0
            have q1 := ((HK3.out.on HB2.out) _ (.head _)).cell 0
            have z0 := (HP.out.below hb1 HP.out.lt).cell 0
            simp at q1 z0
            clear hb1
            go_wp2_with fail
            refine (CJ.out _ x false HE5.out H2.out).mono ?_
            rintro e w6 ⟨rfl, hb2⟩
            have HV3 : Hid (PutRow W3.heap.size w6 u5 (placesTo ps qs (k + 1))) := Lib.hid ⟨OwnInts.below HV2.out.1 hb2, HV2.out.2⟩
            have HB3 := Lib.hid (below_then HB2.out hb2)
            clear hb2 q1 z0
            go_wp2
            go_roundw
            case rel => exact ⟨k + 1, by omega, by go_num, HV3, HB3.out⟩
            case measure => simp [intOf]; omega
          · have HS2 := Lib.hid (show placesTo ps qs (k + 1) = insS (placesTo ps qs k) x by rw [HSU.out, HBT.out, H1.out, h2]; rfl)
            have H2 := Lib.hid h2; clear h2
            go_wp2_with fail
            refine (CI.out _ x true HE4.out H1.out).mono ?_
            rintro e w5 ⟨rfl, hb1⟩
            have HV2 : Hid (PutRow W3.heap.size w5 u5 (placesTo ps qs k)) := Lib.hid ⟨OwnInts.below HV1.out.1 hb1, HV1.out.2⟩
            have HB2 := Lib.hid (below_then HB1.out hb1)
            have HE5 := Lib.hid (below_then HE4.out hb1)
            clear q0 z0
            have q1 := ((HK3.out.on HB2.out) _ (.head _)).cell 0
            have HP5 := Lib.hid (HP.out.below hb1 HP.out.lt)
            have z0 := HP5.out.cell 0
            simp at q1 z0
            clear hb1
            go_wp2_with fail
            refine (CJ.out _ x true HE5.out H2.out).mono ?_
            rintro e w6 ⟨rfl, hb2⟩
            have HV3 : Hid (PutRow W3.heap.size w6 u5 (placesTo ps qs k)) := Lib.hid ⟨OwnInts.below HV2.out.1 hb2, HV2.out.2⟩
            have HB3 := Lib.hid (below_then HB2.out hb2)
            clear q1 z0
            have z0 := (HP5.out.below hb2 HP5.out.lt).cell 0
            simp at z0
            clear hb2
            go_wp2_with fail
            refine (put_any W3.heap.size u5 (placesTo ps qs k) x w6 HV3.out HB3.out.size (by have := HL.out.2; omega) HL.out.1).mono ?_
            rintro e w7 ⟨v', rfl, hv, hb3⟩
            have HV4 : Hid (PutRow W3.heap.size w7 v' (placesTo ps qs (k + 1))) := Lib.hid (by rw [HS2.out]; exact hv)
            have HB4 := Lib.hid (below_then HB3.out hb3)
            clear hv hb3 z0
            go_wp2
            go_roundw
            case rel => exact ⟨k + 1, by omega, by go_num, HV4, HB4.out⟩
            case measure => simp [intOf]; omega
      · have hkn : placesTo ps qs k = placesOf ps qs := placesTo_all (by rw [List.length_append, ← HN.out.1, ← HN.out.2.1, HNN.out]; omega)
        have HV2 : Hid (PutRow W3.heap.size wr u5 (placesOf ps qs)) := Lib.hid (by rw [← hkn]; exact HV.out)
        have HB2 := Lib.hid hB
        clear hB hkn HV
        go_wp2
        go_ret
        refine putRow_gives HV2.out (below_then HE3.out HB2.out)
end

end Go.Proofs.Ytmenlaefekkahaa
