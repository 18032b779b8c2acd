/- The contract of Twice (the specification): the exact area, rounded down, and whether there is more. Its conditions: both rows lie in memory, 40 numbers at most; the places rise; the numbers are those of tables. -/
import Derived.Test.YthhcejcpopgkiaaR1
import Derived.Deep.RegionHeld3
import Derived.Deep.DeepCutAuto
set_option linter.unusedVariables false
set_option linter.unusedSimpArgs false
set_option linter.constructorNameAsVariable false
namespace Go.Proofs.Ythhcejcpopgkiaa
open Go.RowKit
attribute [local go_sem ↓] run_minI run_maxI

theorem keepQ {W2 w0 w1 : World} {x0 x1 x2 x3 : Value} {b o1 o2 b' o3 o4 : Nat} (hb : Below w0.heap.size w0 w1)
    (h : w0.cell? ⟨b, o1, none⟩ = some x0 ∧ w0.cell? ⟨b, o2, none⟩ = some x1 ∧ w0.cell? ⟨b', o3, none⟩ = some x2 ∧ w0.cell? ⟨b', o4, none⟩ = some x3 ∧ Below W2.heap.size W2 w0) (h1 : b < W2.heap.size) (h2 : b' < W2.heap.size) :
    w1.cell? ⟨b, o1, none⟩ = some x0 ∧ w1.cell? ⟨b, o2, none⟩ = some x1 ∧ w1.cell? ⟨b', o3, none⟩ = some x2 ∧ w1.cell? ⟨b', o4, none⟩ = some x3 ∧ Below W2.heap.size W2 w1 := by
  obtain ⟨q0, q1, q2, q3, q6⟩ := h
  have hl := Nat.lt_of_lt_of_le h1 q6.size
  have hl2 := Nat.lt_of_lt_of_le h2 q6.size
  obtain ⟨p, _⟩ := bcell hb
  exact ⟨(p _ _ hl).trans q0, (p _ _ hl).trans q1, (p _ _ hl2).trans q2, (p _ _ hl2).trans q3, below_then q6 hb⟩
theorem keepQs {W2 w0 : World} {x0 x1 x2 x3 y : Value} {b o1 o2 b' o3 o4 g i : Nat}
    (h : w0.cell? ⟨b, o1, none⟩ = some x0 ∧ w0.cell? ⟨b, o2, none⟩ = some x1 ∧ w0.cell? ⟨b', o3, none⟩ = some x2 ∧ w0.cell? ⟨b', o4, none⟩ = some x3 ∧ Below W2.heap.size W2 w0) (h1 : b < W2.heap.size) (h2 : b' < W2.heap.size) (hg : W2.heap.size ≤ g) :
    (w0.setCell ⟨g, i, none⟩ y).cell? ⟨b, o1, none⟩ = some x0 ∧ (w0.setCell ⟨g, i, none⟩ y).cell? ⟨b, o2, none⟩ = some x1 ∧ (w0.setCell ⟨g, i, none⟩ y).cell? ⟨b', o3, none⟩ = some x2 ∧ (w0.setCell ⟨g, i, none⟩ y).cell? ⟨b', o4, none⟩ = some x3 ∧ Below W2.heap.size W2 (w0.setCell ⟨g, i, none⟩ y) := by
  obtain ⟨q0, q1, q2, q3, q6⟩ := h
  have hB := q6.setCell (p := ⟨g, i, none⟩) hg y
  have e : ∀ c o, c < W2.heap.size → (w0.setCell ⟨g, i, none⟩ y).cell? ⟨c, o, none⟩ = w0.cell? ⟨c, o, none⟩ := fun c o hc => ((bcell hB).1 _ _ hc).trans ((bcell q6).1 _ _ hc).symm
  exact ⟨(e _ _ h1).trans q0, (e _ _ h1).trans q1, (e _ _ h2).trans q2, (e _ _ h2).trans q3, hB⟩

abbrev fCells (W N D : Int) : Array Value := #[.int .i64 W, .int .i64 N, .int .i64 D]
theorem blkF {w : World} {g : Nat} {t : TypeId} {a b c : Value} (h : Blk w g t #[a, b, c]) (W N D : Int) :
    Blk (((w.setCell ⟨g, 0, none⟩ (.int .i64 W)).setCell ⟨g, 1, none⟩ (.int .i64 N)).setCell ⟨g, 2, none⟩ (.int .i64 D)) g t (fCells W N D) := by
  have h3 := ((h.set_ 0 (.int .i64 W)).set_ 1 (.int .i64 N)).set_ 2 (.int .i64 D)
  simpa using h3
theorem drop_two {L : List Int} {k : Nat} {x y : Int} (h1 : L[k]? = some x) (h2 : L[k + 1]? = some y) : L.drop k = x :: y :: L.drop (k + 2) ∧ L.drop (k + 1) = y :: L.drop (k + 2) := by
  obtain ⟨l1, e1⟩ := List.getElem?_eq_some_iff.1 h1
  obtain ⟨l2, e2⟩ := List.getElem?_eq_some_iff.1 h2
  have d2 : L.drop (k + 1) = y :: L.drop (k + 2) := by rw [List.drop_eq_getElem_cons l2, e2]
  exact ⟨by rw [List.drop_eq_getElem_cons l1, e1, d2], d2⟩
theorem rtXY_one (a b : Int) (s : Int × Int × Int × Int) (xs ys : List Int) (h : xs.length ≤ 1) : rtXY a b s xs ys = s := by
  match xs, h with
  | [], _ => simp [rtXY]
  | [x], _ => simp [rtXY]

theorem under4_small {a b x0 x1 l0 l1 N D : Int} {s : Int × Int × Int × Int} (h : Under4 a b x0 s N D) (h1 : x0 < x1) (hc : ¬ min b x1 ≤ max a x0) (hne : ¬ arE x0 x1 l0 l1 (max a x0) (min b x1) % (x1 - x0) = 0) : s.2.2.2 ≤ 1000000 := by
  obtain ⟨_, hd, _, _, _, k0, k1, _⟩ := h
  have hwh := arE_whole x0 x1 l0 l1
  have : x0 < a ∨ b < x1 := by
    rcases Int.lt_or_le x0 a with c | c
    · exact .inl c
    · rcases Int.lt_or_le b x1 with c' | c'
      · exact .inr c'
      · exact absurd (by rw [show max a x0 = x0 by omega, show min b x1 = x1 by omega]; exact hwh) hne
  have hK : arK a b x0 ≤ 1 := by
    unfold arK
    repeat' split <;> omega
  have := arK_in a b x0
  rcases (show arK a b x0 = 0 ∨ arK a b x0 = 1 by omega) with z | z
  · have := k0 z; omega
  · exact k1 z

set_option maxRecDepth 100000 in
set_option maxHeartbeats 8000000 in
theorem twice_any (b o b' o' n c c' : Nat) (xs ys : List Int) (a z x0 : Int) (w : World) (hn : n = xs.length) (hn' : n = ys.length) (h1 : 1 ≤ n) (h40 : n ≤ 40) (hb : b < w.heap.size) (hb' : b' < w.heap.size) (hc : IntsMem w b o xs) (hc' : IntsMem w b' o' ys)
    (hp : xs.Pairwise (· < ·)) (hxs : ∀ x ∈ xs, 0 ≤ x ∧ x ≤ 1000000) (hys : InY ys) (hh : xs.head? = some x0) (ha : x0 ≤ a) (haz : a ≤ z) (hz : z ≤ 1000000) :
    Calls Try.prog 75 #[.slice (some ⟨b, o, none⟩) n c, .slice (some ⟨b', o', none⟩) n c', .int .i64 a, .int .i64 z] w fun e w' =>
      e = .returned (.tuple #[.int .i64 ((exXY a z (0, 1) xs ys).1 / (exXY a z (0, 1) xs ys).2), .bool (decide (0 < (exXY a z (0, 1) xs ys).1 % (exXY a z (0, 1) xs ys).2))]) ∧ Below w.heap.size w w' := by
  have hx0 : 0 ≤ x0 := (hxs x0 (List.mem_of_head? hh)).1
  have hst := under4_start (x := x0) ha haz hx0
  have hF := rtXY_under haz xs ys x0 _ 0 1 hh hst hp hxs hys
  obtain ⟨N0, hN0⟩ : ∃ r, (exXY a z (0, 1) xs ys).1 = r := ⟨_, rfl⟩
  obtain ⟨D0, hD0⟩ : ∃ r, (exXY a z (0, 1) xs ys).2 = r := ⟨_, rfl⟩
  rw [hN0, hD0] at hF ⊢
  obtain ⟨F, hFF⟩ : ∃ r, rtXY a z (0, 0, 0, 1) xs ys = r := ⟨_, rfl⟩
  rw [hFF] at hF
  have hv := hF.floor
  obtain ⟨_, _, _, _, f1, f2, f3, f4, _⟩ := hF
  have hfirst : xs[0]? = some x0 := by rw [← List.head?_eq_getElem?]; exact hh
  have HF := Lib.hid (And.intro hv (And.intro f1 (And.intro f2 (And.intro f3 f4))))
  have HFF : Hid (rtXY a z (0, 0, 0, 1) (xs.drop 0) (ys.drop 0) = F) := Lib.hid hFF
  have HN := Lib.hid (And.intro hn hn'); have HC := Lib.hid hc; have HC' := Lib.hid hc'
  have HX := Lib.hid (And.intro hxs (And.intro hys hp))
  have HST := Lib.hid hst; have HFI := Lib.hid hfirst
  have HAZ := Lib.hid (And.intro haz (And.intro hz (And.intro hx0 ha)))
  clear hx0 hst hN0 hD0 hFF hv f1 f2 f3 f4 hfirst hn hn' hc hc' hxs hys hp hh haz hz ha
  have HB0 := Lib.hid (Blk.new w 71 (fCells 0 0 1)); have HE0 := Lib.hid (below_alloc1 w (.cells (fCells 0 0 1) 71))
  go_enter Try.func75, Try.ntmps75
  go_wp2_with fail
  obtain ⟨R, hR⟩ : ∃ R, w.heap.size = R := ⟨_, rfl⟩
  obtain ⟨W0, hW0⟩ : ∃ W0, w.alloc (.cells (fCells 0 0 1) 71) = W0 := ⟨_, rfl⟩
  rw [hW0] at HB0 HE0 ⊢
  rw [hR] at HB0 ⊢
  clear hW0
  have HRR := Lib.hid hR
  have hbR : b < R := by omega
  have hbR' : b' < R := by omega
  clear hR
  go_loopw [10, 12] (fun v i wr => ∃ (k : Nat) (s : Int × Int × Int × Int) (xk N D : Int), k < n ∧ i = .int .i64 k ∧ v = .int .i64 s.1 ∧ Blk wr R 71 (fCells s.2.1 s.2.2.1 s.2.2.2) ∧ Below w.heap.size w wr ∧ Hid (xs[k]? = some xk ∧ Under4 a z xk s N D ∧ rtXY a z s (xs.drop k) (ys.drop k) = F)) (fun _ i _ => n - (intOf i).toNat)
  case atStart => exact ⟨0, (0, 0, 0, 1), x0, 0, 1, by omega, rfl, rfl, HB0.out, HE0.out, HFI.out, HST.out, HFF.out⟩
  case round =>
    obtain ⟨k, ⟨sv, sw, sn, sd⟩, xk, N, D, hk, rfl, rfl, hR, hB, HK⟩ := hrel
    dsimp only at hR HK ⊢
    obtain ⟨yk, hyk⟩ : ∃ y, ys[k]? = some y := ⟨_, List.getElem?_eq_getElem (show k < ys.length by rw [← HN.out.2]; exact hk)⟩
    have c0 := HC.out k xk HK.out.1
    have d0 := HC'.out k yk hyk
    rw [← hB.cell (p := ⟨b, o + k, none⟩) hb] at c0
    rw [← hB.cell (p := ⟨b', o' + k, none⟩) hb'] at d0
    have s2 : IntKind.i64.wrap ((k : Int) + 1) = (k : Int) + 1 := IntWalk.i64_in _ ⟨by omega, by omega⟩
    by_cases hlt : k + 1 < n
    · have s1 : (k : Int) + 1 < (n : Int) := by omega
      obtain ⟨x1, hx1⟩ : ∃ x, xs[k + 1]? = some x := ⟨_, List.getElem?_eq_getElem (show k + 1 < xs.length by rw [← HN.out.1]; exact hlt)⟩
      obtain ⟨y1, hy1⟩ : ∃ y, ys[k + 1]? = some y := ⟨_, List.getElem?_eq_getElem (show k + 1 < ys.length by rw [← HN.out.2]; exact hlt)⟩
      have c1 := HC.out (k + 1) x1 hx1
      have d1 := HC'.out (k + 1) y1 hy1
      rw [← hB.cell (p := ⟨b, o + (k + 1), none⟩) hb] at c1
      rw [← hB.cell (p := ⟨b', o' + (k + 1), none⟩) hb'] at d1
      have bx0 := HX.out.1 xk (List.mem_of_getElem? HK.out.1)
      have bx1 := HX.out.1 x1 (List.mem_of_getElem? hx1)
      have by0 := HX.out.2.1 yk (List.mem_of_getElem? hyk)
      have by1 := HX.out.2.1 y1 (List.mem_of_getElem? hy1)
      have hlt01 : xk < x1 := by
        obtain ⟨l0, e0⟩ := List.getElem?_eq_some_iff.1 HK.out.1
        obtain ⟨l1, e1⟩ := List.getElem?_eq_some_iff.1 hx1
        have := List.pairwise_iff_getElem.1 HX.out.2.2 k (k + 1) l0 l1 (by omega)
        rw [e0, e1] at this; exact this
      have hU := under4_step HK.out.2.1 HAZ.out.1 bx0.1 hlt01 bx1.2 by0.1 by0.2 by1.1 by1.2
      have hD := HK.out.2.2
      rw [(drop_two HK.out.1 hx1).1, (drop_two hyk hy1).1, rtXY, ← (drop_two HK.out.1 hx1).2, ← (drop_two hyk hy1).2] at hD
      obtain ⟨u, hu⟩ : ∃ r, max a xk = r := ⟨_, rfl⟩
      obtain ⟨v, hv⟩ : ∃ r, min z x1 = r := ⟨_, rfl⟩
      have hst : rtStep a z (sv, sw, sn, sd) xk x1 yk y1 = if v ≤ u then (sv, sw, sn, sd) else
          if arE xk x1 yk y1 u v % (x1 - xk) = 0 then (sv + arE xk x1 yk y1 u v / (x1 - xk), sw, sn, sd)
          else (sv, sw + arE xk x1 yk y1 u v / (x1 - xk) + (sn * (x1 - xk) + arE xk x1 yk y1 u v % (x1 - xk) * sd) / (sd * (x1 - xk)), (sn * (x1 - xk) + arE xk x1 yk y1 u v % (x1 - xk) * sd) % (sd * (x1 - xk)), sd * (x1 - xk)) := by
        unfold rtStep; rw [hu, hv]
      by_cases hvu : v ≤ u
      · rw [hst, if_pos hvu] at hU hD
        have HK2 := Lib.hid (And.intro hx1 (And.intro hU hD))
        have HR := Lib.hid hR; have HB := Lib.hid hB
        clear HK hyk hx1 hy1 bx0 bx1 by0 by1 hlt01 hU hD hst hR hB
        go_wp2
        go_roundw
        case rel => exact ⟨k + 1, (sv, sw, sn, sd), x1, _, _, by omega, by go_num, rfl, HR.out, HB.out, HK2⟩
        case measure => simp [intOf]; omega
      · rw [hst, if_neg hvu] at hU hD
        have hxu : xk ≤ u := by omega
        have hux : v ≤ x1 := by omega
        have CP : Hid (∀ W, Calls Try.prog 121 #[.int .i64 xk, .int .i64 yk, .int .i64 x1, .int .i64 y1, .int .i64 u, .int .i64 v] W fun e w' => e = .returned (fv (arE xk x1 yk y1 u v / (x1 - xk)) (arE xk x1 yk y1 u v % (x1 - xk)) (x1 - xk)) ∧ Below W.heap.size W w') :=
          Lib.hid fun W => piece_any xk yk x1 y1 u v W bx0.1 bx1.2 hxu (by omega) hux by0.1 by0.2 by1.1 by1.2
        have hbd := arE_bound (x0 := xk) (x1 := x1) (l0 := yk) (l1 := y1) (u := u) (v := v) hxu (by omega) hux by0.1 by0.2 by1.1 by1.2
        have hqb := ediv_within (B := 2000000000 * (x1 - xk)) (show 1 ≤ x1 - xk by omega) hbd.1 hbd.2
        have hr0 := Int.emod_nonneg (arE xk x1 yk y1 u v) (show x1 - xk ≠ 0 by omega)
        have hr1 := Int.emod_lt_of_pos (arE xk x1 yk y1 u v) (show 0 < x1 - xk by omega)
        have hsm : ¬ arE xk x1 yk y1 u v % (x1 - xk) = 0 → sd ≤ 1000000 := fun hne => under4_small HK.out.2.1 hlt01 (by rw [hu, hv]; exact hvu) (by rw [hu, hv]; exact hne)
        obtain ⟨_, g1, _, g2, g3, _, _, _, g4, g5, g6, g7⟩ := HK.out.2.1
        dsimp only at g1 g2 g3 g4 g5 g6 g7
        clear hbd
        generalize arE xk x1 yk y1 u v / (x1 - xk) = q at *
        generalize arE xk x1 yk y1 u v % (x1 - xk) = r at *
        generalize hdd : x1 - xk = d at *
        have lb : b < wr.heap.size := Nat.lt_of_lt_of_le hb hB.size
        have lb' : b' < wr.heap.size := Nat.lt_of_lt_of_le hb' hB.size
        have HR := Lib.hid hR; have HB := Lib.hid hB
        have t1 : ¬ v ≤ u := hvu
        have HI := Lib.hid (And.intro HK.out (And.intro hU (And.intro hD (And.intro hx1 (And.intro hsm (And.intro hqb (And.intro hr0 hr1)))))))
        have HG := Lib.hid (And.intro g1 (And.intro g2 (And.intro g3 (And.intro g4 (And.intro g5 (And.intro g6 (And.intro g7 (And.intro bx0 (And.intro bx1 (And.intro hlt01 hdd))))))))))
        clear HK hyk hx1 hy1 bx0 bx1 by0 by1 hlt01 hU hD hst hR hB hvu hxu hux hqb hr0 hr1 hsm g1 g2 g3 g4 g5 g6 g7 hdd
        go_upto_region 9 with fail
        go_cut [15] (fun s15 wx => ∃ B, s15 = .pointer (some ⟨B, 0, none⟩) ∧ Blk wx B 71 (fCells q r d) ∧ wr.heap.size ≤ B ∧ Below wr.heap.size wr wx)
        case first =>
          have ne1 : b ≠ wr.heap.size := by omega
          have ne2 : wr.heap.size ≠ b := by omega
          have ne3 : b' ≠ wr.heap.size := by omega
          have ne4 : wr.heap.size ≠ b' := by omega
          have s3 : (0 : Int) ≤ (k : Int) + 1 := by omega
          have s4 : ((k : Int) + 1).toNat = k + 1 := by omega
          go_region_held3 (fun w' => w'.cell? ⟨b, o + k, none⟩ = some (.int .i64 xk) ∧ w'.cell? ⟨b, o + (k + 1), none⟩ = some (.int .i64 x1) ∧ w'.cell? ⟨b', o' + k, none⟩ = some (.int .i64 yk) ∧ w'.cell? ⟨b', o' + (k + 1), none⟩ = some (.int .i64 y1) ∧ Below wr.heap.size wr w')
            (first | exact ⟨c0, c1, d0, d1, (Below.refl _ _).drew⟩ | exact keepQ (by assumption) (by assumption) lb lb' | exact keepQ (below_alloc1 _ _) (by assumption) lb lb' | exact keepQs (by assumption) lb lb' (Nat.le_refl _) | exact keepQs (keepQs (by assumption) lb lb' (Nat.le_refl _)) lb lb' (Nat.le_refl _) | exact keepQs (keepQs (keepQs (by assumption) lb lb' (Nat.le_refl _)) lb lb' (Nat.le_refl _)) lb lb' (Nat.le_refl _))
            (first
              | (go_at_call 121; (with_reducible refine (CP.out _).mono ?_); rintro e w3 ⟨rfl, hb3⟩; have T3 := keepQ (W2 := wr) hb3 (by assumption) lb lb';
                 (first
                   | (with_reducible have N1 := blkNewD hb3; have n0 := N1.cell 0; have n1 := N1.cell 1; have n2 := N1.cell 2; have m0 := N1.frozen 0; have m1 := N1.frozen 1; have m2 := N1.frozen 2; simp at n0 n1 n2)
                   | (with_reducible have N1 := blkNew hb3; have n0 := N1.cell 0; have n1 := N1.cell 1; have n2 := N1.cell 2; have m0 := N1.frozen 0; have m1 := N1.frozen 1; have m2 := N1.frozen 2; simp at n0 n1 n2)
                   | skip))
              | fail)
          all_goals go_wp2_with fail
          all_goals go_meet
          all_goals (first
            | exact ⟨_, rfl, Blk.new _ _ _, T3.2.2.2.2.size, T3.2.2.2.2.alloc T3.2.2.2.2.size _⟩
            | exact ⟨_, rfl, blkF N1 q r d, Nat.le_refl _, ((T3.2.2.2.2.setCell (p := ⟨_, 0, none⟩) (Nat.le_refl _) _).setCell (p := ⟨_, 1, none⟩) (Nat.le_refl _) _).setCell (p := ⟨_, 2, none⟩) (Nat.le_refl _) _⟩)
        case rest =>
          obtain ⟨B, rfl, hBk, hB2, hbc⟩ := hcut
          obtain ⟨hKo, hU, hD, hx1, hsm, hqb, hr0, hr1⟩ := HI.out
          obtain ⟨g1, g2, g3, g4, g5, g6, g7, bx0, bx1, hlt01, hdd⟩ := HG.out
          have lR := HR.out.lt
          have y0 := hBk.cell 0
          have y1 := hBk.cell 1
          have y2 := hBk.cell 2
          simp at y0 y1 y2
          have HR2 := Lib.hid (blkOn HR.out hbc); have HB2 := Lib.hid (below_then HB.out hbc)
          have HBk := Lib.hid hBk
          clear hBk hbc c0 c1 d0 d1 t1
          by_cases hz : r = 0
          · rw [if_pos hz] at hU hD
            obtain ⟨sv', w1⟩ : ∃ x, IntKind.i64.wrap (sv + q) = x := ⟨_, rfl⟩
            have e1 : sv + q = sv' := by rw [← w1, IntWalk.i64_in _ ⟨by omega, by omega⟩]
            rw [e1] at hU hD
            subst hz
            have HK2 := Lib.hid (And.intro hx1 (And.intro hU hD))
            clear hKo hU hD hx1 hsm hqb hr0 hr1 g1 g2 g3 g4 g5 g6 g7 bx0 bx1 hlt01 hdd e1 y2 HI HG
            go_wp2
            go_roundw
            case rel => exact ⟨k + 1, (sv', sw, sn, sd), x1, _, _, by omega, by go_num, rfl, HR2.out, HB2.out, HK2⟩
            case measure => simp [intOf]; omega
          · rw [if_neg hz] at hU hD
            have PL := Lib.hid (fun W => plain_any sw sn sd q r d W (by omega) (by omega) (by omega) (by omega) g2 g3 hr0 hr1 (by omega) (hsm hz))
            generalize sw + q + (sn * d + r * sd) / (sd * d) = P at *
            generalize (sn * d + r * sd) % (sd * d) = Q at *
            generalize sd * d = S at *
            have HK2 := Lib.hid (And.intro hx1 (And.intro hU hD))
            have x0' := HR2.out.cell 0
            have x1' := HR2.out.cell 1
            have x2' := HR2.out.cell 2
            simp at x0' x1' x2'
            have zr : (r == 0) = false := beq_eq_false_iff_ne.2 hz
            clear hKo hU hD hx1 hsm hqb hr0 hr1 g1 g2 g3 g4 g5 g6 g7 bx0 bx1 hlt01 hdd HI HG
            go_wp2_with fail
            refine (PL.out _).mono ?_
            rintro e w5 ⟨rfl, hb5⟩
            have hR5 := blkOn HR2.out hb5
            have HB5 := Lib.hid (below_then HB2.out hb5)
            clear x0' x1' x2' y0 y1 y2
            have x0' := hR5.cell 0
            have x1' := hR5.cell 1
            have x2' := hR5.cell 2
            have f0' := hR5.frozen 0
            have f1' := hR5.frozen 1
            have f2' := hR5.frozen 2
            simp at x0' x1' x2'
            have HR5 := Lib.hid hR5
            clear hb5 hR5
            go_wp2
            go_roundw
            case rel =>
              refine ⟨k + 1, (sv, P, Q, S), x1, _, _, by omega, by go_num, rfl, blkF HR5.out P Q S, ?_, HK2⟩
              exact ((HB5.out.setCell (p := ⟨R, 0, none⟩) (by rw [HRR.out]; exact Nat.le_refl _) _).setCell (p := ⟨R, 1, none⟩) (by rw [HRR.out]; exact Nat.le_refl _) _).setCell (p := ⟨R, 2, none⟩) (by rw [HRR.out]; exact Nat.le_refl _) _
            case measure => simp [intOf]; omega
    · have hD := HK.out.2.2
      rw [rtXY_one _ _ _ _ _ (by rw [List.length_drop]; have := HN.out.1; omega)] at hD
      subst hD
      obtain ⟨⟨hv1, hv2⟩, f1, f2, f3, f4⟩ := HF.out
      dsimp only at hv1 hv2 f1 f2 f3 f4
      obtain ⟨T, w1⟩ : ∃ x, IntKind.i64.wrap (sv + sw) = x := ⟨_, rfl⟩
      have e1 : sv + sw = T := by rw [← w1, IntWalk.i64_in _ ⟨by omega, by omega⟩]
      have HV : Hid (T = N0 / D0 ∧ decide (0 < sn) = decide (0 < N0 % D0)) := Lib.hid ⟨by omega, hv2⟩
      have s1 : ¬ (k : Int) + 1 < (n : Int) := by omega
      have r0 := hR.cell 0
      have r1 := hR.cell 1
      simp at r0 r1
      have HB := Lib.hid hB
      clear hv1 hv2 f1 f2 f3 f4 e1 HK hyk hR hB c0 d0 HF
      go_wp2_with fail
      go_quiet (fail)
      go_wp2
      go_ret2
      exact ⟨by rw [← HV.out.1, ← HV.out.2]; rfl, below_drewM HB.out _⟩
end Go.Proofs.Ythhcejcpopgkiaa
