/- The contract of sane (the law package of hold): the chapter's examples are so. No conditions. -/
import Derived.Test.YtemlaaipnhmcoaaGreatR34
import Derived.Test.YtemlaaipnhmcoaaGreatR42
set_option linter.unusedVariables false
set_option linter.unusedSimpArgs false
set_option linter.constructorNameAsVariable false
namespace Go.Proofs.YtemlaaipnhmcoaaGreat

section
open Go.RowKit
attribute [local go_sem ↓] eqlRange neqRange
theorem example_lit (w : World) : Calls Tryz.prog 71 #[] w fun e w' => ∃ g1 g2 g3, e = .returned (.tuple #[.agg #[.int .i64 1, .int .i64 0, .int .i64 0, .slice (some ⟨g1, 0, none⟩) 2 2, .slice (some ⟨g2, 0, none⟩) 3 3, .slice (some ⟨g3, 0, none⟩) 2 2, .int .i64 10, .int .i64 20, .int .i64 50, .int .i64 60, .int .i64 1000, .int .i64 1010, .int .i64 300, .int .i64 300], .agg #[.int .i64 1, .int .i64 3, .int .i64 40, .int .i64 60, .int .i64 800, .int .i64 800]]) ∧ HoldIn w' exH (exM g1 g2 g3) ∧ Below w.heap.size w w' := example_any w

set_option maxRecDepth 100000 in
set_option maxHeartbeats 4000000 in
theorem msane_any (w : World) : Calls Tryz.prog 26 #[] w fun e w' => e = .returned (.bool true) ∧ Below w.heap.size w w' := by
 go_enter Tryz.func26, Tryz.ntmps26
 go_wp2_with fail
 refine (example_lit w).mono ?_
 rintro e w1 ⟨g1, g2, g3, rfl, hi, hb⟩
 have CE : Hid (∀ W, Below w1.heap.size w1 W → HoldIn W exH (exM g1 g2 g3)) := Lib.hid fun W hW => hi.below hW
 have HE0 := Lib.hid hb
 clear hb hi
 have CM : Hid (∀ W, Below w1.heap.size w1 W → Calls Tryz.prog 44 #[.agg #[.int .i64 1, .int .i64 0, .int .i64 0, .slice (some ⟨g1, 0, none⟩) 2 2, .slice (some ⟨g2, 0, none⟩) 3 3, .slice (some ⟨g3, 0, none⟩) 2 2, .int .i64 10, .int .i64 20, .int .i64 50, .int .i64 60, .int .i64 1000, .int .i64 1010, .int .i64 300, .int .i64 300], .agg #[.int .i64 1, .int .i64 3, .int .i64 40, .int .i64 60, .int .i64 800, .int .i64 800]] W fun e w' => e = .returned (.tuple #[rv 320 480, .int .i64 0]) ∧ Below W.heap.size W w') := Lib.hid fun W hW => rt_to (hMass_any exH (exM g1 g2 g3) exF W (CE.out W hW)) ex_mass
 have CH : Hid (∀ W, Below w1.heap.size w1 W → Calls Tryz.prog 38 #[.agg #[.int .i64 1, .int .i64 0, .int .i64 0, .slice (some ⟨g1, 0, none⟩) 2 2, .slice (some ⟨g2, 0, none⟩) 3 3, .slice (some ⟨g3, 0, none⟩) 2 2, .int .i64 10, .int .i64 20, .int .i64 50, .int .i64 60, .int .i64 1000, .int .i64 1010, .int .i64 300, .int .i64 300], .agg #[.int .i64 1, .int .i64 3, .int .i64 40, .int .i64 60, .int .i64 800, .int .i64 800]] W fun e w' => e = .returned (.tuple #[rv 256 400, .int .i64 0]) ∧ Below W.heap.size W w') := Lib.hid fun W hW => rt_to (hHeel_any exH (exM g1 g2 g3) exF W (CE.out W hW)) ex_heel
 have CU : Hid (∀ W, Below w1.heap.size w1 W → Calls Tryz.prog 24 #[.agg #[.int .i64 1, .int .i64 0, .int .i64 0, .slice (some ⟨g1, 0, none⟩) 2 2, .slice (some ⟨g2, 0, none⟩) 3 3, .slice (some ⟨g3, 0, none⟩) 2 2, .int .i64 10, .int .i64 20, .int .i64 50, .int .i64 60, .int .i64 1000, .int .i64 1010, .int .i64 300, .int .i64 300], rv 400 400, rv 800 800] W fun e w' => e = .returned (.tuple #[rv 49 51, .int .i64 0]) ∧ Below W.heap.size W w') := Lib.hid fun W hW => rt_to (hUllage_any exH (exM g1 g2 g3) 400 400 800 800 W (CE.out W hW)) ex_ullage
 have CP : Hid (∀ W, Below w1.heap.size w1 W → Calls Tryz.prog 28 #[.agg #[.int .i64 1, .int .i64 0, .int .i64 0, .slice (some ⟨g1, 0, none⟩) 2 2, .slice (some ⟨g2, 0, none⟩) 3 3, .slice (some ⟨g3, 0, none⟩) 2 2, .int .i64 10, .int .i64 20, .int .i64 50, .int .i64 60, .int .i64 1000, .int .i64 1010, .int .i64 300, .int .i64 300], .agg #[.int .i64 1, .int .i64 3, .int .i64 40, .int .i64 60, .int .i64 800, .int .i64 800], rv 80 80, rv 800 800] W fun e w' => e = .returned (.tuple #[.agg #[.int .i64 1, .int .i64 3, .int .i64 29, .int .i64 51, .int .i64 800, .int .i64 800], .int .i64 0]) ∧ Below W.heap.size W w') := Lib.hid fun W hW => by
  have h := pour_three exH.vol exH.mom exH.hei 1 0 0 10 20 50 60 1000 1010 300 300 (some ⟨g1, 0, none⟩) (some ⟨g2, 0, none⟩) (some ⟨g3, 0, none⟩) 2 2 3 3 2 2 1 40 60 800 800 80 80 800 800 400 600 100 100 500 700 W (CE.out W hW) ex_fill ex_massErr (by omega) ex_tab ex_le ex_over ex_litres (IntWalk.i64_in _ ⟨by omega, by omega⟩) (IntWalk.i64_in _ ⟨by omega, by omega⟩)
  rw [ex_mix, show firstX exH.vol = 0 from by decide +kernel] at h
  dsimp only at h
  rw [ex_moved] at h
  exact h
 have CW : Hid (∀ W, Below w1.heap.size w1 W → Calls Tryz.prog 72 #[.agg #[.int .i64 1, .int .i64 0, .int .i64 0, .slice (some ⟨g1, 0, none⟩) 2 2, .slice (some ⟨g2, 0, none⟩) 3 3, .slice (some ⟨g3, 0, none⟩) 2 2, .int .i64 10, .int .i64 20, .int .i64 50, .int .i64 60, .int .i64 1000, .int .i64 1010, .int .i64 300, .int .i64 300], .agg #[.int .i64 1, .int .i64 3, .int .i64 40, .int .i64 60, .int .i64 800, .int .i64 800]] W fun e w' => e = .returned (.tuple #[.int .i64 50, .int .i64 500, .int .i64 0]) ∧ Below W.heap.size W w') := Lib.hid fun W hW => by
  have h := worst_of exH (exM g1 g2 g3) exF [(50, 50)] 0 (50, 50) W (CE.out W hW) (fun _ _ => by
   rw [ex_mom]
   exact ⟨by decide, ex_where, ex_runs, rfl, by decide, fun j z hj => by omega⟩)
  rw [ex_worst] at h
  exact h
 clear CE
 have HE1 := Lib.hid (show Below w1.heap.size w1 ((w1.alloc (.cells #[.int .i64 1, .int .i64 0, .int .i64 0, .slice (some ⟨g1, 0, none⟩) 2 2, .slice (some ⟨g2, 0, none⟩) 3 3, .slice (some ⟨g3, 0, none⟩) 2 2, .int .i64 10, .int .i64 20, .int .i64 50, .int .i64 60, .int .i64 1000, .int .i64 1010, .int .i64 300, .int .i64 300] 35)).alloc (.cells #[.int .i64 1, .int .i64 3, .int .i64 40, .int .i64 60, .int .i64 800, .int .i64 800] 55)) from below_a2 (Below.refl _ _))
 have HK1 := Lib.hid (boxes2' w1 35 55 #[.int .i64 1, .int .i64 0, .int .i64 0, .slice (some ⟨g1, 0, none⟩) 2 2, .slice (some ⟨g2, 0, none⟩) 3 3, .slice (some ⟨g3, 0, none⟩) 2 2, .int .i64 10, .int .i64 20, .int .i64 50, .int .i64 60, .int .i64 1000, .int .i64 1010, .int .i64 300, .int .i64 300] #[.int .i64 1, .int .i64 3, .int .i64 40, .int .i64 60, .int .i64 800, .int .i64 800])
 go_upto_region 2 with fail
 obtain ⟨W1, hW1⟩ : ∃ W1, (w1.alloc (.cells #[.int .i64 1, .int .i64 0, .int .i64 0, .slice (some ⟨g1, 0, none⟩) 2 2, .slice (some ⟨g2, 0, none⟩) 3 3, .slice (some ⟨g3, 0, none⟩) 2 2, .int .i64 10, .int .i64 20, .int .i64 50, .int .i64 60, .int .i64 1000, .int .i64 1010, .int .i64 300, .int .i64 300] 35)).alloc (.cells #[.int .i64 1, .int .i64 3, .int .i64 40, .int .i64 60, .int .i64 800, .int .i64 800] 55) = W1 := ⟨_, rfl⟩
 rw [hW1] at HE1 HK1 ⊢
 clear hW1
 obtain ⟨G, hG⟩ : ∃ G, w1.heap.size = G := ⟨_, rfl⟩
 rw [hG] at HK1 ⊢
 have HG := Lib.hid hG; clear hG
 have f := HK1.out _ (.head _)
 have f4 := f.cell 4
 have f5 := f.cell 5
 simp at f4 f5
 clear f
 have HE2 := Lib.hid (below_then HE1.out (below_alloc1 W1 (.cells #[.int .i64 800, .int .i64 800] 30))); have HK2 := Lib.hid (HK1.out.new 30 #[.int .i64 800, .int .i64 800])
 clear HE1 HK1
 go_upto_region 3 with fail
 obtain ⟨W2, hW⟩ : ∃ W2, W1.alloc (.cells #[.int .i64 800, .int .i64 800] 30) = W2 := ⟨_, rfl⟩
 rw [hW] at HE2 HK2 ⊢
 clear hW f4 f5
 obtain ⟨N2, hN⟩ : ∃ N, W1.heap.size = N := ⟨_, rfl⟩
 rw [hN] at HK2 ⊢
 clear hN
 have h := HK2.out _ (.tail _ (.tail _ (.head _)))
 have h0 := h.cell 0
 have h1 := h.cell 1
 have h2 := h.cell 2
 have h3 := h.cell 3
 have h4 := h.cell 4
 have h5 := h.cell 5
 have h6 := h.cell 6
 have h7 := h.cell 7
 have h8 := h.cell 8
 have h9 := h.cell 9
 have h10 := h.cell 10
 have h11 := h.cell 11
 have h12 := h.cell 12
 have h13 := h.cell 13
 simp at h0 h1 h2 h3 h4 h5 h6 h7 h8 h9 h10 h11 h12 h13
 clear h
 have f := HK2.out _ (.tail _ (.head _))
 have f0 := f.cell 0
 have f1 := f.cell 1
 have f2 := f.cell 2
 have f3 := f.cell 3
 have f4 := f.cell 4
 have f5 := f.cell 5
 simp at f0 f1 f2 f3 f4 f5
 clear f
 go_wp2_with fail
 refine (CM.out _ HE2.out).mono ?_
 rintro e y2 ⟨rfl, hb⟩
 have HE3 := Lib.hid (below_then (below_then HE2.out hb) (below_alloc1 y2 (.cells #[.int .i64 320, .int .i64 480] 30))); have HK3 := Lib.hid ((HK2.out.on hb).new 30 #[.int .i64 320, .int .i64 480])
 clear hb HE2 HK2 h0 h1 h2 h3 h4 h5 h6 h7 h8 h9 h10 h11 h12 h13 f0 f1 f2 f3 f4 f5
 go_upto_region 4 with fail
 obtain ⟨W3, hW⟩ : ∃ W3, y2.alloc (.cells #[.int .i64 320, .int .i64 480] 30) = W3 := ⟨_, rfl⟩
 rw [hW] at HE3 HK3 ⊢
 clear hW
 obtain ⟨N3, hN⟩ : ∃ N, y2.heap.size = N := ⟨_, rfl⟩
 rw [hN] at HK3 ⊢
 clear hN
 have h := HK3.out _ (.tail _ (.tail _ (.tail _ (.head _))))
 have h0 := h.cell 0
 have h1 := h.cell 1
 have h2 := h.cell 2
 have h3 := h.cell 3
 have h4 := h.cell 4
 have h5 := h.cell 5
 have h6 := h.cell 6
 have h7 := h.cell 7
 have h8 := h.cell 8
 have h9 := h.cell 9
 have h10 := h.cell 10
 have h11 := h.cell 11
 have h12 := h.cell 12
 have h13 := h.cell 13
 simp at h0 h1 h2 h3 h4 h5 h6 h7 h8 h9 h10 h11 h12 h13
 clear h
 have f := HK3.out _ (.tail _ (.tail _ (.head _)))
 have f0 := f.cell 0
 have f1 := f.cell 1
 have f2 := f.cell 2
 have f3 := f.cell 3
 have f4 := f.cell 4
 have f5 := f.cell 5
 simp at f0 f1 f2 f3 f4 f5
 clear f
 go_wp2_with fail
 refine (CH.out _ HE3.out).mono ?_
 rintro e y3 ⟨rfl, hb⟩
 have HE4 := Lib.hid (below_then (below_then HE3.out hb) (below_alloc1 y3 (.cells #[.int .i64 256, .int .i64 400] 30))); have HK4 := Lib.hid ((HK3.out.on hb).new 30 #[.int .i64 256, .int .i64 400])
 clear hb HE3 HK3 h0 h1 h2 h3 h4 h5 h6 h7 h8 h9 h10 h11 h12 h13 f0 f1 f2 f3 f4 f5
 go_upto_region 5 with fail
 obtain ⟨W4, hW⟩ : ∃ W4, y3.alloc (.cells #[.int .i64 256, .int .i64 400] 30) = W4 := ⟨_, rfl⟩
 rw [hW] at HE4 HK4 ⊢
 clear hW
 obtain ⟨N4, hN⟩ : ∃ N, y3.heap.size = N := ⟨_, rfl⟩
 rw [hN] at HK4 ⊢
 clear hN
 have h := HK4.out _ (.tail _ (.tail _ (.tail _ (.tail _ (.head _)))))
 have h0 := h.cell 0
 have h1 := h.cell 1
 have h2 := h.cell 2
 have h3 := h.cell 3
 have h4 := h.cell 4
 have h5 := h.cell 5
 have h6 := h.cell 6
 have h7 := h.cell 7
 have h8 := h.cell 8
 have h9 := h.cell 9
 have h10 := h.cell 10
 have h11 := h.cell 11
 have h12 := h.cell 12
 have h13 := h.cell 13
 simp at h0 h1 h2 h3 h4 h5 h6 h7 h8 h9 h10 h11 h12 h13
 clear h
 have d := HK4.out _ (.tail _ (.tail _ (.head _)))
 have d0 := d.cell 0
 have d1 := d.cell 1
 simp at d0 d1
 clear d
 go_wp2_with fail
 refine (CU.out _ HE4.out).mono ?_
 rintro e y4 ⟨rfl, hb⟩
 have HE5 := Lib.hid (below_then (below_then HE4.out hb) (below_alloc1 y4 (.cells #[.int .i64 49, .int .i64 51] 30))); have HK5 := Lib.hid ((HK4.out.on hb).new 30 #[.int .i64 49, .int .i64 51])
 clear hb HE4 HK4 h0 h1 h2 h3 h4 h5 h6 h7 h8 h9 h10 h11 h12 h13 d0 d1
 go_upto_region 6 with fail
 obtain ⟨W5, hW⟩ : ∃ W5, y4.alloc (.cells #[.int .i64 49, .int .i64 51] 30) = W5 := ⟨_, rfl⟩
 rw [hW] at HE5 HK5 ⊢
 clear hW
 obtain ⟨N5, hN⟩ : ∃ N, y4.heap.size = N := ⟨_, rfl⟩
 rw [hN] at HK5 ⊢
 clear hN
 have h := HK5.out _ (.tail _ (.tail _ (.tail _ (.tail _ (.tail _ (.head _))))))
 have h0 := h.cell 0
 have h1 := h.cell 1
 have h2 := h.cell 2
 have h3 := h.cell 3
 have h4 := h.cell 4
 have h5 := h.cell 5
 have h6 := h.cell 6
 have h7 := h.cell 7
 have h8 := h.cell 8
 have h9 := h.cell 9
 have h10 := h.cell 10
 have h11 := h.cell 11
 have h12 := h.cell 12
 have h13 := h.cell 13
 simp at h0 h1 h2 h3 h4 h5 h6 h7 h8 h9 h10 h11 h12 h13
 clear h
 have f := HK5.out _ (.tail _ (.tail _ (.tail _ (.tail _ (.head _)))))
 have f0 := f.cell 0
 have f1 := f.cell 1
 have f2 := f.cell 2
 have f3 := f.cell 3
 have f4 := f.cell 4
 have f5 := f.cell 5
 simp at f0 f1 f2 f3 f4 f5
 clear f
 have d := HK5.out _ (.tail _ (.tail _ (.tail _ (.head _))))
 have d0 := d.cell 0
 have d1 := d.cell 1
 simp at d0 d1
 clear d
 go_wp2_with fail
 refine (CP.out _ HE5.out).mono ?_
 rintro e y5 ⟨rfl, hb⟩
 have HE6 := Lib.hid (below_then (below_then HE5.out hb) (below_alloc1 y5 (.cells #[.int .i64 1, .int .i64 3, .int .i64 29, .int .i64 51, .int .i64 800, .int .i64 800] 55))); have HK6 := Lib.hid ((HK5.out.on hb).new 55 #[.int .i64 1, .int .i64 3, .int .i64 29, .int .i64 51, .int .i64 800, .int .i64 800])
 clear hb HE5 HK5 h0 h1 h2 h3 h4 h5 h6 h7 h8 h9 h10 h11 h12 h13 f0 f1 f2 f3 f4 f5 d0 d1
 go_upto_region 7 with fail
 obtain ⟨W6, hW⟩ : ∃ W6, y5.alloc (.cells #[.int .i64 1, .int .i64 3, .int .i64 29, .int .i64 51, .int .i64 800, .int .i64 800] 55) = W6 := ⟨_, rfl⟩
 rw [hW] at HE6 HK6 ⊢
 clear hW
 obtain ⟨N6, hN⟩ : ∃ N, y5.heap.size = N := ⟨_, rfl⟩
 rw [hN] at HK6 ⊢
 clear hN
 have h := HK6.out _ (.tail _ (.tail _ (.tail _ (.tail _ (.tail _ (.tail _ (.head _)))))))
 have h0 := h.cell 0
 have h1 := h.cell 1
 have h2 := h.cell 2
 have h3 := h.cell 3
 have h4 := h.cell 4
 have h5 := h.cell 5
 have h6 := h.cell 6
 have h7 := h.cell 7
 have h8 := h.cell 8
 have h9 := h.cell 9
 have h10 := h.cell 10
 have h11 := h.cell 11
 have h12 := h.cell 12
 have h13 := h.cell 13
 simp at h0 h1 h2 h3 h4 h5 h6 h7 h8 h9 h10 h11 h12 h13
 clear h
 have f := HK6.out _ (.tail _ (.tail _ (.tail _ (.tail _ (.tail _ (.head _))))))
 have f0 := f.cell 0
 have f1 := f.cell 1
 have f2 := f.cell 2
 have f3 := f.cell 3
 have f4 := f.cell 4
 have f5 := f.cell 5
 simp at f0 f1 f2 f3 f4 f5
 clear f
 go_wp2_with fail
 refine (CW.out _ HE6.out).mono ?_
 rintro e y6 ⟨rfl, hb⟩
 have HE7 := Lib.hid (below_then HE6.out hb); have HK7 := Lib.hid (HK6.out.on hb)
 clear hb HE6 HK6 h0 h1 h2 h3 h4 h5 h6 h7 h8 h9 h10 h11 h12 h13 f0 f1 f2 f3 f4 f5
 have m := HK7.out _ (.tail _ (.tail _ (.tail _ (.head _))))
 have m0 := m.cell 0
 have m1 := m.cell 1
 simp at m0 m1
 clear m
 have x := HK7.out _ (.tail _ (.tail _ (.head _)))
 have x0 := x.cell 0
 have x1 := x.cell 1
 simp at x0 x1
 clear x
 have u := HK7.out _ (.tail _ (.head _))
 have u0 := u.cell 0
 have u1 := u.cell 1
 simp at u0 u1
 clear u
 have q := HK7.out _ (.head _)
 have q2 := q.cell 2
 have q3 := q.cell 3
 simp at q2 q3
 clear q
 go_wp2
 go_ret
 exact ⟨rfl, below_then HE0.out HE7.out⟩
end

end Go.Proofs.YtemlaaipnhmcoaaGreat
