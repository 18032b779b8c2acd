/- The contracts of ullage and Between (the specification of layer 2). Their condition: the hold's tables lie in memory. -/
import Derived.Test.YtbcefdaflnlhoaaGreatQ39
import Derived.Test.YtbcefdaflnlhoaaGreatQ32
set_option linter.unusedVariables false
set_option linter.unusedSimpArgs false
set_option linter.constructorNameAsVariable false
namespace Go.Proofs.YtbcefdaflnlhoaaGreat

section
open Go.RowKit


set_option maxRecDepth 100000 in
set_option maxHeartbeats 4000000 in
theorem sullage_zero (vol mom hei : List P3) (id al ah t0 t1 u0 u1 v0 v1 h0 h1 : Int) (A B C : Option Addr) (n c mm d l ee : Nat) (fh x0 x1 d0 d1 : Int) (w : World) (hp : TabIn w A n vol) (ht : tabOk vol = true) :
    Calls Tryz.prog 84 #[.agg #[.int .i64 id, .int .i64 al, .int .i64 ah, .slice A n c, .slice B mm d, .slice C l ee, .int .i64 t0, .int .i64 t1, .int .i64 u0, .int .i64 u1, .int .i64 v0, .int .i64 v1, .int .i64 h0, .int .i64 h1], .agg #[.int .i64 fh, .int .i64 0, .int .i64 x0, .int .i64 x1, .int .i64 d0, .int .i64 d1]] w fun e w' => e = .returned (rv (lastX vol) (lastX vol)) ∧ Below w.heap.size w w' := by
  have C1 : Hid (∀ W, Below w.heap.size w W → Calls Tryz.prog 60 #[tv A n c] W fun e w' => e = .returned (.int .i64 (lastX vol)) ∧ Below W.heap.size W w') := Lib.hid fun W hW => sLast_tab A n c vol W (hp.below hW) ht
  clear hp ht
  generalize lastX vol = f1 at *
  have HE := Lib.hid (show Below w.heap.size w (((w.alloc (.cells #[.int .i64 id, .int .i64 al, .int .i64 ah, .slice A n c, .slice B mm d, .slice C l ee, .int .i64 t0, .int .i64 t1, .int .i64 u0, .int .i64 u1, .int .i64 v0, .int .i64 v1, .int .i64 h0, .int .i64 h1] 45)).alloc (.cells #[.int .i64 fh, .int .i64 0, .int .i64 x0, .int .i64 x1, .int .i64 d0, .int .i64 d1] 47)).alloc (.cells #[.int .i64 0, .int .i64 0] 23)) from below_a3 (Below.refl _ _))
  have HK := Lib.hid (boxes3' w 45 47 23 #[.int .i64 id, .int .i64 al, .int .i64 ah, .slice A n c, .slice B mm d, .slice C l ee, .int .i64 t0, .int .i64 t1, .int .i64 u0, .int .i64 u1, .int .i64 v0, .int .i64 v1, .int .i64 h0, .int .i64 h1] #[.int .i64 fh, .int .i64 0, .int .i64 x0, .int .i64 x1, .int .i64 d0, .int .i64 d1] #[.int .i64 0, .int .i64 0])
  go_enter Tryz.func84, Tryz.ntmps84
  go_upto_region 2 with fail
  obtain ⟨W0, hW0⟩ : ∃ W0, (((w.alloc (.cells #[.int .i64 id, .int .i64 al, .int .i64 ah, .slice A n c, .slice B mm d, .slice C l ee, .int .i64 t0, .int .i64 t1, .int .i64 u0, .int .i64 u1, .int .i64 v0, .int .i64 v1, .int .i64 h0, .int .i64 h1] 45)).alloc (.cells #[.int .i64 fh, .int .i64 0, .int .i64 x0, .int .i64 x1, .int .i64 d0, .int .i64 d1] 47)).alloc (.cells #[.int .i64 0, .int .i64 0] 23)) = W0 := ⟨_, rfl⟩
  rw [hW0] at HE HK ⊢
  clear hW0
  obtain ⟨G, hG⟩ : ∃ G, w.heap.size = G := ⟨_, rfl⟩
  rw [hG] at HK ⊢
  have HG := Lib.hid hG; clear hG
  have HKs : Hid (Boxes W0 ([(G + 1, 47, #[.int .i64 fh, .int .i64 0, .int .i64 x0, .int .i64 x1, .int .i64 d0, .int .i64 d1]), (G, 45, #[.int .i64 id, .int .i64 al, .int .i64 ah, .slice A n c, .slice B mm d, .slice C l ee, .int .i64 t0, .int .i64 t1, .int .i64 u0, .int .i64 u1, .int .i64 v0, .int .i64 v1, .int .i64 h0, .int .i64 h1])] : List (Nat × TypeId × Array Value))) := Lib.hid (HK.out.sub (fun x hx => .tail _ hx))
  have HK9 : Hid (Blk W0 (G + 1 + 1) 23 #[.int .i64 0, .int .i64 0]) := Lib.hid (HK.out _ (.head _))
  clear HK
  have hne : ∀ zz ∈ ([(G + 1, 47, #[.int .i64 fh, .int .i64 0, .int .i64 x0, .int .i64 x1, .int .i64 d0, .int .i64 d1]), (G, 45, #[.int .i64 id, .int .i64 al, .int .i64 ah, .slice A n c, .slice B mm d, .slice C l ee, .int .i64 t0, .int .i64 t1, .int .i64 u0, .int .i64 u1, .int .i64 v0, .int .i64 v1, .int .i64 h0, .int .i64 h1])] : List (Nat × TypeId × Array Value)), zz.1 ≠ G + 1 + 1 := by
    intro zz hz
    simp only [List.mem_cons, List.not_mem_nil, or_false] at hz
    rcases hz with h | h <;> (rw [h]; dsimp only at *; omega)
  have HNE := Lib.hid hne
  clear hne
  have hS0 : Boxes W0.drew ([(G + 1, 47, #[.int .i64 fh, .int .i64 0, .int .i64 x0, .int .i64 x1, .int .i64 d0, .int .i64 d1]), (G, 45, #[.int .i64 id, .int .i64 al, .int .i64 ah, .slice A n c, .slice B mm d, .slice C l ee, .int .i64 t0, .int .i64 t1, .int .i64 u0, .int .i64 u1, .int .i64 v0, .int .i64 v1, .int .i64 h0, .int .i64 h1])] : List (Nat × TypeId × Array Value)) := HKs.out
  have HEd := Lib.hid HE.out.drew
  have HKd : Hid (Blk W0.drew (G + 1 + 1) 23 #[.int .i64 0, .int .i64 0]) := Lib.hid HK9.out.drew
  refine wp_region_held_drew (S := fun w' => Boxes w' ([(G + 1, 47, #[.int .i64 fh, .int .i64 0, .int .i64 x0, .int .i64 x1, .int .i64 d0, .int .i64 d1]), (G, 45, #[.int .i64 id, .int .i64 al, .int .i64 ah, .slice A n c, .slice B mm d, .slice C l ee, .int .i64 t0, .int .i64 t1, .int .i64 u0, .int .i64 u1, .int .i64 v0, .int .i64 v1, .int .i64 h0, .int .i64 h1])] : List (Nat × TypeId × Array Value))) (by kernel_rfl) hS0 (fun hHeld => ?_)
  obtain ⟨W3, hW⟩ : ∃ W', W0.drew = W' := ⟨_, rfl⟩
  rw [hW] at HEd HKd hHeld ⊢
  clear hW hS0 HE HKs
  clear HK9
  refine wpAnyH_take (i := 0) (v := .pointer (some ⟨G, 3, none⟩)) rfl (by kernel_rfl) (by kernel_rfl) (by kernel_rfl) (fun _ _ _ h => h) (Or.inl ⟨by kernel_rfl, ?_⟩) hHeld ?_
  · intro w hSw; clear hSw; go_simp; try with_reducible rfl
  change wpAnyH _ _ _ _ _ _ _ (Act.put _ (some 8) _) _
  try simp only [Act.put, List.setIfInBounds_toArray, List.set_cons_zero, List.set_cons_succ]
  refine wpAnyH_take (i := 1) (v := tv A n c) rfl (by kernel_rfl) (by kernel_rfl) (by kernel_rfl) (fun _ _ _ h => h) (Or.inl ⟨by kernel_rfl, ?_⟩) hHeld ?_
  · intro w hSw; have hz := (hSw _ (.tail _ (.head _))); have c3 := hz.cell 3; simp at c3; clear hz hSw; go_simp; try with_reducible rfl
  change wpAnyH _ _ _ _ _ _ _ (Act.put _ (some 9) _) _
  try simp only [Act.put, List.setIfInBounds_toArray, List.set_cons_zero, List.set_cons_succ]
  refine wpAnyH_take (i := 3) (v := .pointer (some ⟨G, 3, none⟩)) rfl (by kernel_rfl) (by kernel_rfl) (by kernel_rfl) (fun _ _ _ h => h) (Or.inl ⟨by kernel_rfl, ?_⟩) hHeld ?_
  · intro w hSw; clear hSw; go_simp; try with_reducible rfl
  change wpAnyH _ _ _ _ _ _ _ (Act.put _ (some 11) _) _
  try simp only [Act.put, List.setIfInBounds_toArray, List.set_cons_zero, List.set_cons_succ]
  refine wpAnyH_take (i := 4) (v := tv A n c) rfl (by kernel_rfl) (by kernel_rfl) (by kernel_rfl) (fun _ _ _ h => h) (Or.inl ⟨by kernel_rfl, ?_⟩) hHeld ?_
  · intro w hSw; have hz := (hSw _ (.tail _ (.head _))); have c3 := hz.cell 3; simp at c3; clear hz hSw; go_simp; try with_reducible rfl
  change wpAnyH _ _ _ _ _ _ _ (Act.put _ (some 12) _) _
  try simp only [Act.put, List.setIfInBounds_toArray, List.set_cons_zero, List.set_cons_succ]
  refine wpAnyH_ready (rs := [2]) (by kernel_rfl) (by simp) ?_
  refine AllReadyH.cons rfl (fun K hK => ?_) AllReadyH.nil
  go_simp
  (with_reducible refine (C1.out _ HEd.out).mono ?_)
  rintro e z1 ⟨rfl, hq⟩
  have HEz1 := Lib.hid (below_then HEd.out hq); have HKz1 := Lib.hid (blkOn HKd.out hq)
  have hS := hHeld.on hq
  clear hq
  refine hK.out _ _ (hS) (fun hHeld2 => ?_)
  try simp only [Act.put, List.setIfInBounds_toArray, List.set_cons_zero, List.set_cons_succ]
  clear hK K hHeld
  have hHeld := hHeld2
  clear hHeld2
  clear hS HEd HKd
  refine wpAnyH_ready (rs := [5]) (by kernel_rfl) (by simp) ?_
  refine AllReadyH.cons rfl (fun K hK => ?_) AllReadyH.nil
  go_simp
  (with_reducible refine (C1.out _ HEz1.out).mono ?_)
  rintro e z2 ⟨rfl, hq⟩
  have HEz2 := Lib.hid (below_then HEz1.out hq); have HKz2 := Lib.hid (blkOn HKz1.out hq)
  have hS := hHeld.on hq
  clear hq
  refine hK.out _ _ (hS) (fun hHeld2 => ?_)
  try simp only [Act.put, List.setIfInBounds_toArray, List.set_cons_zero, List.set_cons_succ]
  clear hK K hHeld
  have hHeld := hHeld2
  clear hHeld2
  clear hS HEz1 HKz1
  refine wpAnyH_take (i := 6) (v := rv f1 f1) rfl (by kernel_rfl) (by kernel_rfl) (by kernel_rfl) (fun _ _ _ h => h) (Or.inl ⟨by kernel_rfl, ?_⟩) hHeld ?_
  · intro w hSw; clear hSw; go_simp; try with_reducible rfl
  change wpAnyH _ _ _ _ _ _ _ (Act.put _ (some 14) _) _
  try simp only [Act.put, List.setIfInBounds_toArray, List.set_cons_zero, List.set_cons_succ]
  refine wpAnyH_ready (rs := [7]) (by kernel_rfl) (by simp) ?_
  refine AllReadyH.cons rfl (fun K hK => ?_) AllReadyH.nil
  rw [if_pos (by kernel_rfl)]
  have HKR : Hid (Blk (z2.setRow (G + 1 + 1) #[.int .i64 f1, .int .i64 f1]) (G + 1 + 1) 23 #[.int .i64 f1, .int .i64 f1]) := Lib.hid (setRow_heap z2 (G + 1 + 1) _ _ 23 _ HKz2.out)
  have HE9 := Lib.hid (below_setRow HEz2.out (show w.heap.size ≤ G + 1 + 1 by have := HG.out; omega) #[.int .i64 f1, .int .i64 f1])
  have hS := hHeld.farRow (g := (G + 1 + 1)) HNE.out #[.int .i64 f1, .int .i64 f1]
  refine wp_store_row 23 (.tmp 4) (.tmp 14) rfl (G + 1 + 1) #[.int .i64 f1, .int .i64 f1] rfl rfl 23 _ HKz2.out (by kernel_rfl) rfl (by kernel_rfl) ?_
  obtain ⟨Wz, hW⟩ : ∃ W', z2.setRow (G + 1 + 1) #[.int .i64 f1, .int .i64 f1] = W' := ⟨_, rfl⟩
  rw [hW] at HKR HE9 hS ⊢
  refine hK.out _ _ hS (fun hHeld2 => ?_)
  try simp only [Act.put, List.setIfInBounds_toArray, List.set_cons_zero, List.set_cons_succ]
  clear hW hS hK K hHeld HKz2 HEz2
  have hHeld := hHeld2
  clear hHeld2
  refine wpAnyH_done (by kernel_rfl) ?_ _
  clear hHeld
  go_wp2
  exact bodyPost_ret (v := .agg #[.int .i64 f1, .int .i64 f1]) (results_cell_row Tryz.results84 _ _ (G + 1 + 1) 23 #[.int .i64 f1, .int .i64 f1] (0, 0) _ rfl HKR.out Tryz.underlying23 rfl (by kernel_rfl)) rfl ⟨rfl, HE9.out⟩

set_option maxRecDepth 100000 in
set_option maxHeartbeats 4000000 in
theorem sullage_one (vol mom hei : List P3) (id al ah t0 t1 u0 u1 v0 v1 h0 h1 : Int) (A B C : Option Addr) (n c mm d l ee : Nat) (fh x0 x1 d0 d1 : Int) (w : World) (hp : TabIn w A n vol) (ht : tabOk vol = true) :
    Calls Tryz.prog 84 #[.agg #[.int .i64 id, .int .i64 al, .int .i64 ah, .slice A n c, .slice B mm d, .slice C l ee, .int .i64 t0, .int .i64 t1, .int .i64 u0, .int .i64 u1, .int .i64 v0, .int .i64 v1, .int .i64 h0, .int .i64 h1], .agg #[.int .i64 fh, .int .i64 1, .int .i64 x0, .int .i64 x1, .int .i64 d0, .int .i64 d1]] w fun e w' => e = .returned (rv (firstX vol) (firstX vol)) ∧ Below w.heap.size w w' := by
  have C1 : Hid (∀ W, Below w.heap.size w W → Calls Tryz.prog 101 #[tv A n c] W fun e w' => e = .returned (.int .i64 (firstX vol)) ∧ Below W.heap.size W w') := Lib.hid fun W hW => sFirst_tab A n c vol W (hp.below hW) ht
  have C2 : Hid (∀ W, Calls Tryz.prog 71 #[.int .i64 1] W fun e w' => e = .returned (.bool true) ∧ Below W.heap.size W w') := Lib.hid fun W => sFilled_to 1 true W (by decide)
  clear hp ht
  generalize firstX vol = f1 at *
  have HE := Lib.hid (show Below w.heap.size w (((w.alloc (.cells #[.int .i64 id, .int .i64 al, .int .i64 ah, .slice A n c, .slice B mm d, .slice C l ee, .int .i64 t0, .int .i64 t1, .int .i64 u0, .int .i64 u1, .int .i64 v0, .int .i64 v1, .int .i64 h0, .int .i64 h1] 45)).alloc (.cells #[.int .i64 fh, .int .i64 1, .int .i64 x0, .int .i64 x1, .int .i64 d0, .int .i64 d1] 47)).alloc (.cells #[.int .i64 0, .int .i64 0] 23)) from below_a3 (Below.refl _ _))
  have HK := Lib.hid (boxes3' w 45 47 23 #[.int .i64 id, .int .i64 al, .int .i64 ah, .slice A n c, .slice B mm d, .slice C l ee, .int .i64 t0, .int .i64 t1, .int .i64 u0, .int .i64 u1, .int .i64 v0, .int .i64 v1, .int .i64 h0, .int .i64 h1] #[.int .i64 fh, .int .i64 1, .int .i64 x0, .int .i64 x1, .int .i64 d0, .int .i64 d1] #[.int .i64 0, .int .i64 0])
  go_enter Tryz.func84, Tryz.ntmps84
  go_wp2_with fail
  obtain ⟨W0, hW0⟩ : ∃ W0, (((w.alloc (.cells #[.int .i64 id, .int .i64 al, .int .i64 ah, .slice A n c, .slice B mm d, .slice C l ee, .int .i64 t0, .int .i64 t1, .int .i64 u0, .int .i64 u1, .int .i64 v0, .int .i64 v1, .int .i64 h0, .int .i64 h1] 45)).alloc (.cells #[.int .i64 fh, .int .i64 1, .int .i64 x0, .int .i64 x1, .int .i64 d0, .int .i64 d1] 47)).alloc (.cells #[.int .i64 0, .int .i64 0] 23)) = W0 := ⟨_, rfl⟩
  rw [hW0] at HE HK ⊢
  clear hW0
  obtain ⟨G, hG⟩ : ∃ G, w.heap.size = G := ⟨_, rfl⟩
  rw [hG] at HK ⊢
  have HG := Lib.hid hG; clear hG
  refine (C2.out _).mono ?_
  rintro e w1 ⟨rfl, hq⟩
  have HE1 := Lib.hid (below_then HE.out hq); have HK1 := Lib.hid (HK.out.on hq)
  clear hq HE HK C2
  go_upto_region 4 with fail
  have HKs : Hid (Boxes w1 ([(G + 1, 47, #[.int .i64 fh, .int .i64 1, .int .i64 x0, .int .i64 x1, .int .i64 d0, .int .i64 d1]), (G, 45, #[.int .i64 id, .int .i64 al, .int .i64 ah, .slice A n c, .slice B mm d, .slice C l ee, .int .i64 t0, .int .i64 t1, .int .i64 u0, .int .i64 u1, .int .i64 v0, .int .i64 v1, .int .i64 h0, .int .i64 h1])] : List (Nat × TypeId × Array Value))) := Lib.hid (HK1.out.sub (fun x hx => .tail _ hx))
  have HK9 : Hid (Blk w1 (G + 1 + 1) 23 #[.int .i64 0, .int .i64 0]) := Lib.hid (HK1.out _ (.head _))
  clear HK1
  have hne : ∀ zz ∈ ([(G + 1, 47, #[.int .i64 fh, .int .i64 1, .int .i64 x0, .int .i64 x1, .int .i64 d0, .int .i64 d1]), (G, 45, #[.int .i64 id, .int .i64 al, .int .i64 ah, .slice A n c, .slice B mm d, .slice C l ee, .int .i64 t0, .int .i64 t1, .int .i64 u0, .int .i64 u1, .int .i64 v0, .int .i64 v1, .int .i64 h0, .int .i64 h1])] : List (Nat × TypeId × Array Value)), zz.1 ≠ G + 1 + 1 := by
    intro zz hz
    simp only [List.mem_cons, List.not_mem_nil, or_false] at hz
    rcases hz with h | h <;> (rw [h]; dsimp only at *; omega)
  have HNE := Lib.hid hne
  clear hne
  have hS0 : Boxes w1.drew ([(G + 1, 47, #[.int .i64 fh, .int .i64 1, .int .i64 x0, .int .i64 x1, .int .i64 d0, .int .i64 d1]), (G, 45, #[.int .i64 id, .int .i64 al, .int .i64 ah, .slice A n c, .slice B mm d, .slice C l ee, .int .i64 t0, .int .i64 t1, .int .i64 u0, .int .i64 u1, .int .i64 v0, .int .i64 v1, .int .i64 h0, .int .i64 h1])] : List (Nat × TypeId × Array Value)) := HKs.out
  have HEd := Lib.hid HE1.out.drew
  have HKd : Hid (Blk w1.drew (G + 1 + 1) 23 #[.int .i64 0, .int .i64 0]) := Lib.hid HK9.out.drew
  refine wp_region_held_drew (S := fun w' => Boxes w' ([(G + 1, 47, #[.int .i64 fh, .int .i64 1, .int .i64 x0, .int .i64 x1, .int .i64 d0, .int .i64 d1]), (G, 45, #[.int .i64 id, .int .i64 al, .int .i64 ah, .slice A n c, .slice B mm d, .slice C l ee, .int .i64 t0, .int .i64 t1, .int .i64 u0, .int .i64 u1, .int .i64 v0, .int .i64 v1, .int .i64 h0, .int .i64 h1])] : List (Nat × TypeId × Array Value))) (by kernel_rfl) hS0 (fun hHeld => ?_)
  obtain ⟨W3, hW⟩ : ∃ W', w1.drew = W' := ⟨_, rfl⟩
  rw [hW] at HEd HKd hHeld ⊢
  clear hW hS0 HE1 HKs
  clear HK9
  refine wpAnyH_take (i := 0) (v := .pointer (some ⟨G, 3, none⟩)) rfl (by kernel_rfl) (by kernel_rfl) (by kernel_rfl) (fun _ _ _ h => h) (Or.inl ⟨by kernel_rfl, ?_⟩) hHeld ?_
  · intro w hSw; clear hSw; go_simp; try with_reducible rfl
  change wpAnyH _ _ _ _ _ _ _ (Act.put _ (some 18) _) _
  try simp only [Act.put, List.setIfInBounds_toArray, List.set_cons_zero, List.set_cons_succ]
  refine wpAnyH_take (i := 1) (v := tv A n c) rfl (by kernel_rfl) (by kernel_rfl) (by kernel_rfl) (fun _ _ _ h => h) (Or.inl ⟨by kernel_rfl, ?_⟩) hHeld ?_
  · intro w hSw; have hz := (hSw _ (.tail _ (.head _))); have c3 := hz.cell 3; simp at c3; clear hz hSw; go_simp; try with_reducible rfl
  change wpAnyH _ _ _ _ _ _ _ (Act.put _ (some 19) _) _
  try simp only [Act.put, List.setIfInBounds_toArray, List.set_cons_zero, List.set_cons_succ]
  refine wpAnyH_take (i := 3) (v := .pointer (some ⟨G, 3, none⟩)) rfl (by kernel_rfl) (by kernel_rfl) (by kernel_rfl) (fun _ _ _ h => h) (Or.inl ⟨by kernel_rfl, ?_⟩) hHeld ?_
  · intro w hSw; clear hSw; go_simp; try with_reducible rfl
  change wpAnyH _ _ _ _ _ _ _ (Act.put _ (some 21) _) _
  try simp only [Act.put, List.setIfInBounds_toArray, List.set_cons_zero, List.set_cons_succ]
  refine wpAnyH_take (i := 4) (v := tv A n c) rfl (by kernel_rfl) (by kernel_rfl) (by kernel_rfl) (fun _ _ _ h => h) (Or.inl ⟨by kernel_rfl, ?_⟩) hHeld ?_
  · intro w hSw; have hz := (hSw _ (.tail _ (.head _))); have c3 := hz.cell 3; simp at c3; clear hz hSw; go_simp; try with_reducible rfl
  change wpAnyH _ _ _ _ _ _ _ (Act.put _ (some 22) _) _
  try simp only [Act.put, List.setIfInBounds_toArray, List.set_cons_zero, List.set_cons_succ]
  refine wpAnyH_ready (rs := [2]) (by kernel_rfl) (by simp) ?_
  refine AllReadyH.cons rfl (fun K hK => ?_) AllReadyH.nil
  go_simp
  (with_reducible refine (C1.out _ HEd.out).mono ?_)
  rintro e z1 ⟨rfl, hq⟩
  have HEz1 := Lib.hid (below_then HEd.out hq); have HKz1 := Lib.hid (blkOn HKd.out hq)
  have hS := hHeld.on hq
  clear hq
  refine hK.out _ _ (hS) (fun hHeld2 => ?_)
  try simp only [Act.put, List.setIfInBounds_toArray, List.set_cons_zero, List.set_cons_succ]
  clear hK K hHeld
  have hHeld := hHeld2
  clear hHeld2
  clear hS HEd HKd
  refine wpAnyH_ready (rs := [5]) (by kernel_rfl) (by simp) ?_
  refine AllReadyH.cons rfl (fun K hK => ?_) AllReadyH.nil
  go_simp
  (with_reducible refine (C1.out _ HEz1.out).mono ?_)
  rintro e z2 ⟨rfl, hq⟩
  have HEz2 := Lib.hid (below_then HEz1.out hq); have HKz2 := Lib.hid (blkOn HKz1.out hq)
  have hS := hHeld.on hq
  clear hq
  refine hK.out _ _ (hS) (fun hHeld2 => ?_)
  try simp only [Act.put, List.setIfInBounds_toArray, List.set_cons_zero, List.set_cons_succ]
  clear hK K hHeld
  have hHeld := hHeld2
  clear hHeld2
  clear hS HEz1 HKz1
  refine wpAnyH_take (i := 6) (v := rv f1 f1) rfl (by kernel_rfl) (by kernel_rfl) (by kernel_rfl) (fun _ _ _ h => h) (Or.inl ⟨by kernel_rfl, ?_⟩) hHeld ?_
  · intro w hSw; clear hSw; go_simp; try with_reducible rfl
  change wpAnyH _ _ _ _ _ _ _ (Act.put _ (some 24) _) _
  try simp only [Act.put, List.setIfInBounds_toArray, List.set_cons_zero, List.set_cons_succ]
  refine wpAnyH_ready (rs := [7]) (by kernel_rfl) (by simp) ?_
  refine AllReadyH.cons rfl (fun K hK => ?_) AllReadyH.nil
  rw [if_pos (by kernel_rfl)]
  have HKR : Hid (Blk (z2.setRow (G + 1 + 1) #[.int .i64 f1, .int .i64 f1]) (G + 1 + 1) 23 #[.int .i64 f1, .int .i64 f1]) := Lib.hid (setRow_heap z2 (G + 1 + 1) _ _ 23 _ HKz2.out)
  have HE9 := Lib.hid (below_setRow HEz2.out (show w.heap.size ≤ G + 1 + 1 by have := HG.out; omega) #[.int .i64 f1, .int .i64 f1])
  have hS := hHeld.farRow (g := (G + 1 + 1)) HNE.out #[.int .i64 f1, .int .i64 f1]
  refine wp_store_row 23 (.tmp 4) (.tmp 24) rfl (G + 1 + 1) #[.int .i64 f1, .int .i64 f1] rfl rfl 23 _ HKz2.out (by kernel_rfl) rfl (by kernel_rfl) ?_
  obtain ⟨Wz, hW⟩ : ∃ W', z2.setRow (G + 1 + 1) #[.int .i64 f1, .int .i64 f1] = W' := ⟨_, rfl⟩
  rw [hW] at HKR HE9 hS ⊢
  refine hK.out _ _ hS (fun hHeld2 => ?_)
  try simp only [Act.put, List.setIfInBounds_toArray, List.set_cons_zero, List.set_cons_succ]
  clear hW hS hK K hHeld HKz2 HEz2
  have hHeld := hHeld2
  clear hHeld2
  refine wpAnyH_done (by kernel_rfl) ?_ _
  clear hHeld
  go_wp2
  exact bodyPost_ret (v := .agg #[.int .i64 f1, .int .i64 f1]) (results_cell_row Tryz.results84 _ _ (G + 1 + 1) 23 #[.int .i64 f1, .int .i64 f1] (0, 0) _ rfl HKR.out Tryz.underlying23 rfl (by kernel_rfl)) rfl ⟨rfl, HE9.out⟩

set_option maxRecDepth 100000 in
set_option maxHeartbeats 4000000 in
theorem sullage_two (vol mom hei : List P3) (id al ah t0 t1 u0 u1 v0 v1 h0 h1 : Int) (A B C : Option Addr) (n c mm d l ee : Nat) (fh x0 x1 d0 d1 : Int) (w : World) (hp : TabIn w A n vol) (ht : tabOk vol = true) :
    Calls Tryz.prog 84 #[.agg #[.int .i64 id, .int .i64 al, .int .i64 ah, .slice A n c, .slice B mm d, .slice C l ee, .int .i64 t0, .int .i64 t1, .int .i64 u0, .int .i64 u1, .int .i64 v0, .int .i64 v1, .int .i64 h0, .int .i64 h1], .agg #[.int .i64 fh, .int .i64 2, .int .i64 x0, .int .i64 x1, .int .i64 d0, .int .i64 d1]] w fun e w' => e = .returned (rv (firstX vol) (firstX vol)) ∧ Below w.heap.size w w' := by
  have C1 : Hid (∀ W, Below w.heap.size w W → Calls Tryz.prog 101 #[tv A n c] W fun e w' => e = .returned (.int .i64 (firstX vol)) ∧ Below W.heap.size W w') := Lib.hid fun W hW => sFirst_tab A n c vol W (hp.below hW) ht
  have C2 : Hid (∀ W, Calls Tryz.prog 71 #[.int .i64 2] W fun e w' => e = .returned (.bool true) ∧ Below W.heap.size W w') := Lib.hid fun W => sFilled_to 2 true W (by decide)
  clear hp ht
  generalize firstX vol = f1 at *
  have HE := Lib.hid (show Below w.heap.size w (((w.alloc (.cells #[.int .i64 id, .int .i64 al, .int .i64 ah, .slice A n c, .slice B mm d, .slice C l ee, .int .i64 t0, .int .i64 t1, .int .i64 u0, .int .i64 u1, .int .i64 v0, .int .i64 v1, .int .i64 h0, .int .i64 h1] 45)).alloc (.cells #[.int .i64 fh, .int .i64 2, .int .i64 x0, .int .i64 x1, .int .i64 d0, .int .i64 d1] 47)).alloc (.cells #[.int .i64 0, .int .i64 0] 23)) from below_a3 (Below.refl _ _))
  have HK := Lib.hid (boxes3' w 45 47 23 #[.int .i64 id, .int .i64 al, .int .i64 ah, .slice A n c, .slice B mm d, .slice C l ee, .int .i64 t0, .int .i64 t1, .int .i64 u0, .int .i64 u1, .int .i64 v0, .int .i64 v1, .int .i64 h0, .int .i64 h1] #[.int .i64 fh, .int .i64 2, .int .i64 x0, .int .i64 x1, .int .i64 d0, .int .i64 d1] #[.int .i64 0, .int .i64 0])
  go_enter Tryz.func84, Tryz.ntmps84
  go_wp2_with fail
  obtain ⟨W0, hW0⟩ : ∃ W0, (((w.alloc (.cells #[.int .i64 id, .int .i64 al, .int .i64 ah, .slice A n c, .slice B mm d, .slice C l ee, .int .i64 t0, .int .i64 t1, .int .i64 u0, .int .i64 u1, .int .i64 v0, .int .i64 v1, .int .i64 h0, .int .i64 h1] 45)).alloc (.cells #[.int .i64 fh, .int .i64 2, .int .i64 x0, .int .i64 x1, .int .i64 d0, .int .i64 d1] 47)).alloc (.cells #[.int .i64 0, .int .i64 0] 23)) = W0 := ⟨_, rfl⟩
  rw [hW0] at HE HK ⊢
  clear hW0
  obtain ⟨G, hG⟩ : ∃ G, w.heap.size = G := ⟨_, rfl⟩
  rw [hG] at HK ⊢
  have HG := Lib.hid hG; clear hG
  refine (C2.out _).mono ?_
  rintro e w1 ⟨rfl, hq⟩
  have HE1 := Lib.hid (below_then HE.out hq); have HK1 := Lib.hid (HK.out.on hq)
  clear hq HE HK C2
  go_upto_region 4 with fail
  have HKs : Hid (Boxes w1 ([(G + 1, 47, #[.int .i64 fh, .int .i64 2, .int .i64 x0, .int .i64 x1, .int .i64 d0, .int .i64 d1]), (G, 45, #[.int .i64 id, .int .i64 al, .int .i64 ah, .slice A n c, .slice B mm d, .slice C l ee, .int .i64 t0, .int .i64 t1, .int .i64 u0, .int .i64 u1, .int .i64 v0, .int .i64 v1, .int .i64 h0, .int .i64 h1])] : List (Nat × TypeId × Array Value))) := Lib.hid (HK1.out.sub (fun x hx => .tail _ hx))
  have HK9 : Hid (Blk w1 (G + 1 + 1) 23 #[.int .i64 0, .int .i64 0]) := Lib.hid (HK1.out _ (.head _))
  clear HK1
  have hne : ∀ zz ∈ ([(G + 1, 47, #[.int .i64 fh, .int .i64 2, .int .i64 x0, .int .i64 x1, .int .i64 d0, .int .i64 d1]), (G, 45, #[.int .i64 id, .int .i64 al, .int .i64 ah, .slice A n c, .slice B mm d, .slice C l ee, .int .i64 t0, .int .i64 t1, .int .i64 u0, .int .i64 u1, .int .i64 v0, .int .i64 v1, .int .i64 h0, .int .i64 h1])] : List (Nat × TypeId × Array Value)), zz.1 ≠ G + 1 + 1 := by
    intro zz hz
    simp only [List.mem_cons, List.not_mem_nil, or_false] at hz
    rcases hz with h | h <;> (rw [h]; dsimp only at *; omega)
  have HNE := Lib.hid hne
  clear hne
  have hS0 : Boxes w1.drew ([(G + 1, 47, #[.int .i64 fh, .int .i64 2, .int .i64 x0, .int .i64 x1, .int .i64 d0, .int .i64 d1]), (G, 45, #[.int .i64 id, .int .i64 al, .int .i64 ah, .slice A n c, .slice B mm d, .slice C l ee, .int .i64 t0, .int .i64 t1, .int .i64 u0, .int .i64 u1, .int .i64 v0, .int .i64 v1, .int .i64 h0, .int .i64 h1])] : List (Nat × TypeId × Array Value)) := HKs.out
  have HEd := Lib.hid HE1.out.drew
  have HKd : Hid (Blk w1.drew (G + 1 + 1) 23 #[.int .i64 0, .int .i64 0]) := Lib.hid HK9.out.drew
  refine wp_region_held_drew (S := fun w' => Boxes w' ([(G + 1, 47, #[.int .i64 fh, .int .i64 2, .int .i64 x0, .int .i64 x1, .int .i64 d0, .int .i64 d1]), (G, 45, #[.int .i64 id, .int .i64 al, .int .i64 ah, .slice A n c, .slice B mm d, .slice C l ee, .int .i64 t0, .int .i64 t1, .int .i64 u0, .int .i64 u1, .int .i64 v0, .int .i64 v1, .int .i64 h0, .int .i64 h1])] : List (Nat × TypeId × Array Value))) (by kernel_rfl) hS0 (fun hHeld => ?_)
  obtain ⟨W3, hW⟩ : ∃ W', w1.drew = W' := ⟨_, rfl⟩
  rw [hW] at HEd HKd hHeld ⊢
  clear hW hS0 HE1 HKs
  clear HK9
  refine wpAnyH_take (i := 0) (v := .pointer (some ⟨G, 3, none⟩)) rfl (by kernel_rfl) (by kernel_rfl) (by kernel_rfl) (fun _ _ _ h => h) (Or.inl ⟨by kernel_rfl, ?_⟩) hHeld ?_
  · intro w hSw; clear hSw; go_simp; try with_reducible rfl
  change wpAnyH _ _ _ _ _ _ _ (Act.put _ (some 18) _) _
  try simp only [Act.put, List.setIfInBounds_toArray, List.set_cons_zero, List.set_cons_succ]
  refine wpAnyH_take (i := 1) (v := tv A n c) rfl (by kernel_rfl) (by kernel_rfl) (by kernel_rfl) (fun _ _ _ h => h) (Or.inl ⟨by kernel_rfl, ?_⟩) hHeld ?_
  · intro w hSw; have hz := (hSw _ (.tail _ (.head _))); have c3 := hz.cell 3; simp at c3; clear hz hSw; go_simp; try with_reducible rfl
  change wpAnyH _ _ _ _ _ _ _ (Act.put _ (some 19) _) _
  try simp only [Act.put, List.setIfInBounds_toArray, List.set_cons_zero, List.set_cons_succ]
  refine wpAnyH_take (i := 3) (v := .pointer (some ⟨G, 3, none⟩)) rfl (by kernel_rfl) (by kernel_rfl) (by kernel_rfl) (fun _ _ _ h => h) (Or.inl ⟨by kernel_rfl, ?_⟩) hHeld ?_
  · intro w hSw; clear hSw; go_simp; try with_reducible rfl
  change wpAnyH _ _ _ _ _ _ _ (Act.put _ (some 21) _) _
  try simp only [Act.put, List.setIfInBounds_toArray, List.set_cons_zero, List.set_cons_succ]
  refine wpAnyH_take (i := 4) (v := tv A n c) rfl (by kernel_rfl) (by kernel_rfl) (by kernel_rfl) (fun _ _ _ h => h) (Or.inl ⟨by kernel_rfl, ?_⟩) hHeld ?_
  · intro w hSw; have hz := (hSw _ (.tail _ (.head _))); have c3 := hz.cell 3; simp at c3; clear hz hSw; go_simp; try with_reducible rfl
  change wpAnyH _ _ _ _ _ _ _ (Act.put _ (some 22) _) _
  try simp only [Act.put, List.setIfInBounds_toArray, List.set_cons_zero, List.set_cons_succ]
  refine wpAnyH_ready (rs := [2]) (by kernel_rfl) (by simp) ?_
  refine AllReadyH.cons rfl (fun K hK => ?_) AllReadyH.nil
  go_simp
  (with_reducible refine (C1.out _ HEd.out).mono ?_)
  rintro e z1 ⟨rfl, hq⟩
  have HEz1 := Lib.hid (below_then HEd.out hq); have HKz1 := Lib.hid (blkOn HKd.out hq)
  have hS := hHeld.on hq
  clear hq
  refine hK.out _ _ (hS) (fun hHeld2 => ?_)
  try simp only [Act.put, List.setIfInBounds_toArray, List.set_cons_zero, List.set_cons_succ]
  clear hK K hHeld
  have hHeld := hHeld2
  clear hHeld2
  clear hS HEd HKd
  refine wpAnyH_ready (rs := [5]) (by kernel_rfl) (by simp) ?_
  refine AllReadyH.cons rfl (fun K hK => ?_) AllReadyH.nil
  go_simp
  (with_reducible refine (C1.out _ HEz1.out).mono ?_)
  rintro e z2 ⟨rfl, hq⟩
  have HEz2 := Lib.hid (below_then HEz1.out hq); have HKz2 := Lib.hid (blkOn HKz1.out hq)
  have hS := hHeld.on hq
  clear hq
  refine hK.out _ _ (hS) (fun hHeld2 => ?_)
  try simp only [Act.put, List.setIfInBounds_toArray, List.set_cons_zero, List.set_cons_succ]
  clear hK K hHeld
  have hHeld := hHeld2
  clear hHeld2
  clear hS HEz1 HKz1
  refine wpAnyH_take (i := 6) (v := rv f1 f1) rfl (by kernel_rfl) (by kernel_rfl) (by kernel_rfl) (fun _ _ _ h => h) (Or.inl ⟨by kernel_rfl, ?_⟩) hHeld ?_
  · intro w hSw; clear hSw; go_simp; try with_reducible rfl
  change wpAnyH _ _ _ _ _ _ _ (Act.put _ (some 24) _) _
  try simp only [Act.put, List.setIfInBounds_toArray, List.set_cons_zero, List.set_cons_succ]
  refine wpAnyH_ready (rs := [7]) (by kernel_rfl) (by simp) ?_
  refine AllReadyH.cons rfl (fun K hK => ?_) AllReadyH.nil
  rw [if_pos (by kernel_rfl)]
  have HKR : Hid (Blk (z2.setRow (G + 1 + 1) #[.int .i64 f1, .int .i64 f1]) (G + 1 + 1) 23 #[.int .i64 f1, .int .i64 f1]) := Lib.hid (setRow_heap z2 (G + 1 + 1) _ _ 23 _ HKz2.out)
  have HE9 := Lib.hid (below_setRow HEz2.out (show w.heap.size ≤ G + 1 + 1 by have := HG.out; omega) #[.int .i64 f1, .int .i64 f1])
  have hS := hHeld.farRow (g := (G + 1 + 1)) HNE.out #[.int .i64 f1, .int .i64 f1]
  refine wp_store_row 23 (.tmp 4) (.tmp 24) rfl (G + 1 + 1) #[.int .i64 f1, .int .i64 f1] rfl rfl 23 _ HKz2.out (by kernel_rfl) rfl (by kernel_rfl) ?_
  obtain ⟨Wz, hW⟩ : ∃ W', z2.setRow (G + 1 + 1) #[.int .i64 f1, .int .i64 f1] = W' := ⟨_, rfl⟩
  rw [hW] at HKR HE9 hS ⊢
  refine hK.out _ _ hS (fun hHeld2 => ?_)
  try simp only [Act.put, List.setIfInBounds_toArray, List.set_cons_zero, List.set_cons_succ]
  clear hW hS hK K hHeld HKz2 HEz2
  have hHeld := hHeld2
  clear hHeld2
  refine wpAnyH_done (by kernel_rfl) ?_ _
  clear hHeld
  go_wp2
  exact bodyPost_ret (v := .agg #[.int .i64 f1, .int .i64 f1]) (results_cell_row Tryz.results84 _ _ (G + 1 + 1) 23 #[.int .i64 f1, .int .i64 f1] (0, 0) _ rfl HKR.out Tryz.underlying23 rfl (by kernel_rfl)) rfl ⟨rfl, HE9.out⟩

set_option maxRecDepth 100000 in
set_option maxHeartbeats 4000000 in
theorem sullage_part (vol mom hei : List P3) (id al ah t0 t1 u0 u1 v0 v1 h0 h1 : Int) (A B C : Option Addr) (n c mm d l ee : Nat) (fh st x0 x1 d0 d1 : Int) (w : World) (q3 : 3 ≤ st) :
    Calls Tryz.prog 84 #[.agg #[.int .i64 id, .int .i64 al, .int .i64 ah, .slice A n c, .slice B mm d, .slice C l ee, .int .i64 t0, .int .i64 t1, .int .i64 u0, .int .i64 u1, .int .i64 v0, .int .i64 v1, .int .i64 h0, .int .i64 h1], .agg #[.int .i64 fh, .int .i64 st, .int .i64 x0, .int .i64 x1, .int .i64 d0, .int .i64 d1]] w fun e w' => e = .returned (rv x0 x1) ∧ Below w.heap.size w w' := by
  have b0 : (st == 0) = false := beq_eq_false_iff_ne.2 (by omega)
  have C2 : Hid (∀ W, Calls Tryz.prog 71 #[.int .i64 st] W fun e w' => e = .returned (.bool false) ∧ Below W.heap.size W w') := Lib.hid fun W => sFilled_to st false W (decide_eq_false (by omega))
  clear q3
  have HE := Lib.hid (show Below w.heap.size w (((w.alloc (.cells #[.int .i64 id, .int .i64 al, .int .i64 ah, .slice A n c, .slice B mm d, .slice C l ee, .int .i64 t0, .int .i64 t1, .int .i64 u0, .int .i64 u1, .int .i64 v0, .int .i64 v1, .int .i64 h0, .int .i64 h1] 45)).alloc (.cells #[.int .i64 fh, .int .i64 st, .int .i64 x0, .int .i64 x1, .int .i64 d0, .int .i64 d1] 47)).alloc (.cells #[.int .i64 0, .int .i64 0] 23)) from below_a3 (Below.refl _ _))
  have HK := Lib.hid (boxes3' w 45 47 23 #[.int .i64 id, .int .i64 al, .int .i64 ah, .slice A n c, .slice B mm d, .slice C l ee, .int .i64 t0, .int .i64 t1, .int .i64 u0, .int .i64 u1, .int .i64 v0, .int .i64 v1, .int .i64 h0, .int .i64 h1] #[.int .i64 fh, .int .i64 st, .int .i64 x0, .int .i64 x1, .int .i64 d0, .int .i64 d1] #[.int .i64 0, .int .i64 0])
  go_enter Tryz.func84, Tryz.ntmps84
  go_wp2_with fail
  obtain ⟨W0, hW0⟩ : ∃ W0, (((w.alloc (.cells #[.int .i64 id, .int .i64 al, .int .i64 ah, .slice A n c, .slice B mm d, .slice C l ee, .int .i64 t0, .int .i64 t1, .int .i64 u0, .int .i64 u1, .int .i64 v0, .int .i64 v1, .int .i64 h0, .int .i64 h1] 45)).alloc (.cells #[.int .i64 fh, .int .i64 st, .int .i64 x0, .int .i64 x1, .int .i64 d0, .int .i64 d1] 47)).alloc (.cells #[.int .i64 0, .int .i64 0] 23)) = W0 := ⟨_, rfl⟩
  rw [hW0] at HE HK ⊢
  clear hW0
  obtain ⟨G, hG⟩ : ∃ G, w.heap.size = G := ⟨_, rfl⟩
  rw [hG] at HK ⊢
  have HG := Lib.hid hG; clear hG
  refine (C2.out _).mono ?_
  rintro e w1 ⟨rfl, hq⟩
  have HE1 := Lib.hid (below_then HE.out hq); have HK1 := Lib.hid (HK.out.on hq)
  clear hq HE HK C2 b0
  have fa := HK1.out _ (.tail _ (.head _))
  have fa2 := fa.cell 2
  have fa3 := fa.cell 3
  simp at fa2 fa3
  clear fa
  have za := HK1.out _ (.head _)
  have za0 := za.cell 0
  have zaf0 := za.frozen 0
  have za1 := za.cell 1
  have zaf1 := za.frozen 1
  have zal := za.lt
  simp at za0 zaf0 za1 zaf1
  clear za
  go_wp2
  refine bodyPost_ret (v := rv x0 x1) (by simp [results, Tryz.results84, go_sem, za0, za1]) rfl ⟨rfl, ?_⟩
  have hg := HG.out
  repeat (first | exact HE1.out | refine Below.setCell ?_ (by simp <;> omega) _)
theorem sullage_any (vol mom hei : List P3) (id al ah t0 t1 u0 u1 v0 v1 h0 h1 : Int) (A B C : Option Addr) (n c mm d l ee : Nat) (fh st x0 x1 d0 d1 : Int) (w : World) (hp : TabIn w A n vol) (ht : tabOk vol = true) (q0 : 0 ≤ st) (q5 : st ≤ 5) (su su' : Int) (hs : surS ⟨id, al, ah, vol, mom, hei, t0, t1, u0, u1, v0, v1, h0, h1⟩ ⟨fh, st, x0, x1, d0, d1⟩ = (su, su')) :
    Calls Tryz.prog 84 #[.agg #[.int .i64 id, .int .i64 al, .int .i64 ah, .slice A n c, .slice B mm d, .slice C l ee, .int .i64 t0, .int .i64 t1, .int .i64 u0, .int .i64 u1, .int .i64 v0, .int .i64 v1, .int .i64 h0, .int .i64 h1], .agg #[.int .i64 fh, .int .i64 st, .int .i64 x0, .int .i64 x1, .int .i64 d0, .int .i64 d1]] w fun e w' => e = .returned (rv su su') ∧ Below w.heap.size w w' := by
  rcases st_cases q0 q5 with rfl | rfl | rfl | rfl | rfl | rfl
  · have e : (lastX vol, lastX vol) = (su, su') := hs
    injection e with e1 e2
    subst e1 e2
    exact sullage_zero vol mom hei id al ah t0 t1 u0 u1 v0 v1 h0 h1 A B C n c mm d l ee fh x0 x1 d0 d1 w hp ht
  · have e : (firstX vol, firstX vol) = (su, su') := hs
    injection e with e1 e2
    subst e1 e2
    exact sullage_one vol mom hei id al ah t0 t1 u0 u1 v0 v1 h0 h1 A B C n c mm d l ee fh x0 x1 d0 d1 w hp ht
  · have e : (firstX vol, firstX vol) = (su, su') := hs
    injection e with e1 e2
    subst e1 e2
    exact sullage_two vol mom hei id al ah t0 t1 u0 u1 v0 v1 h0 h1 A B C n c mm d l ee fh x0 x1 d0 d1 w hp ht
  · have e : (x0, x1) = (su, su') := hs
    injection e with e1 e2
    subst e1 e2
    exact sullage_part vol mom hei id al ah t0 t1 u0 u1 v0 v1 h0 h1 A B C n c mm d l ee fh 3 x0 x1 d0 d1 w (by omega)
  · have e : (x0, x1) = (su, su') := hs
    injection e with e1 e2
    subst e1 e2
    exact sullage_part vol mom hei id al ah t0 t1 u0 u1 v0 v1 h0 h1 A B C n c mm d l ee fh 4 x0 x1 d0 d1 w (by omega)
  · have e : (x0, x1) = (su, su') := hs
    injection e with e1 e2
    subst e1 e2
    exact sullage_part vol mom hei id al ah t0 t1 u0 u1 v0 v1 h0 h1 A B C n c mm d l ee fh 5 x0 x1 d0 d1 w (by omega)

set_option maxRecDepth 100000 in
set_option maxHeartbeats 4000000 in
theorem sBetween_e1 (vol mom hei : List P3) (id al ah t0 t1 u0 u1 v0 v1 h0 h1 : Int) (A B C : Option Addr) (n c mm d l ee : Nat) (fh st x0 x1 d0 d1 gh gt y0 y1 k0 k1 : Int) (E1 : Int) (g1 : fillErr ⟨id, al, ah, vol, mom, hei, t0, t1, u0, u1, v0, v1, h0, h1⟩ ⟨fh, st, x0, x1, d0, d1⟩ = E1) (gE : ¬ E1 = 0) (w : World) (hi : HoldIn w ⟨id, al, ah, vol, mom, hei, t0, t1, u0, u1, v0, v1, h0, h1⟩ ⟨A, n, c, B, mm, d, C, l, ee⟩) :
    Calls Tryz.prog 32 #[.agg #[.int .i64 id, .int .i64 al, .int .i64 ah, .slice A n c, .slice B mm d, .slice C l ee, .int .i64 t0, .int .i64 t1, .int .i64 u0, .int .i64 u1, .int .i64 v0, .int .i64 v1, .int .i64 h0, .int .i64 h1], .agg #[.int .i64 fh, .int .i64 st, .int .i64 x0, .int .i64 x1, .int .i64 d0, .int .i64 d1], .agg #[.int .i64 gh, .int .i64 gt, .int .i64 y0, .int .i64 y1, .int .i64 k0, .int .i64 k1]] w fun e w' => e = .returned (.tuple #[.slice none 0 0, .int .i64 E1]) ∧ Below w.heap.size w w' := by
  have C1 : Hid (∀ W, Below w.heap.size w W → Calls Tryz.prog 69 #[.agg #[.int .i64 id, .int .i64 al, .int .i64 ah, .slice A n c, .slice B mm d, .slice C l ee, .int .i64 t0, .int .i64 t1, .int .i64 u0, .int .i64 u1, .int .i64 v0, .int .i64 v1, .int .i64 h0, .int .i64 h1], .agg #[.int .i64 fh, .int .i64 st, .int .i64 x0, .int .i64 x1, .int .i64 d0, .int .i64 d1]] W fun e w' => e = .returned (.int .i64 E1) ∧ Below W.heap.size W w') := Lib.hid fun W hW => int_to (sCheckFill_any ⟨id, al, ah, vol, mom, hei, t0, t1, u0, u1, v0, v1, h0, h1⟩ ⟨A, n, c, B, mm, d, C, l, ee⟩ ⟨fh, st, x0, x1, d0, d1⟩ W (hi.below hW)) g1
  have HGE := Lib.hid gE
  have b0 : (E1 == 0) = false := beq_eq_false_iff_ne.2 gE
  clear g1 hi
  have HE := Lib.hid (show Below w.heap.size w (((w.alloc (.cells #[.int .i64 id, .int .i64 al, .int .i64 ah, .slice A n c, .slice B mm d, .slice C l ee, .int .i64 t0, .int .i64 t1, .int .i64 u0, .int .i64 u1, .int .i64 v0, .int .i64 v1, .int .i64 h0, .int .i64 h1] 45)).alloc (.cells #[.int .i64 fh, .int .i64 st, .int .i64 x0, .int .i64 x1, .int .i64 d0, .int .i64 d1] 47)).alloc (.cells #[.int .i64 gh, .int .i64 gt, .int .i64 y0, .int .i64 y1, .int .i64 k0, .int .i64 k1] 47)) from below_a3 (Below.refl _ _))
  have HK := Lib.hid (boxes3' w 45 47 47 #[.int .i64 id, .int .i64 al, .int .i64 ah, .slice A n c, .slice B mm d, .slice C l ee, .int .i64 t0, .int .i64 t1, .int .i64 u0, .int .i64 u1, .int .i64 v0, .int .i64 v1, .int .i64 h0, .int .i64 h1] #[.int .i64 fh, .int .i64 st, .int .i64 x0, .int .i64 x1, .int .i64 d0, .int .i64 d1] #[.int .i64 gh, .int .i64 gt, .int .i64 y0, .int .i64 y1, .int .i64 k0, .int .i64 k1])
  go_enter Tryz.func32, Tryz.ntmps32
  go_wp2_with fail
  obtain ⟨W0, hW0⟩ : ∃ W0, (((w.alloc (.cells #[.int .i64 id, .int .i64 al, .int .i64 ah, .slice A n c, .slice B mm d, .slice C l ee, .int .i64 t0, .int .i64 t1, .int .i64 u0, .int .i64 u1, .int .i64 v0, .int .i64 v1, .int .i64 h0, .int .i64 h1] 45)).alloc (.cells #[.int .i64 fh, .int .i64 st, .int .i64 x0, .int .i64 x1, .int .i64 d0, .int .i64 d1] 47)).alloc (.cells #[.int .i64 gh, .int .i64 gt, .int .i64 y0, .int .i64 y1, .int .i64 k0, .int .i64 k1] 47)) = W0 := ⟨_, rfl⟩
  rw [hW0] at HE HK ⊢
  clear hW0
  obtain ⟨G, hG⟩ : ∃ G, w.heap.size = G := ⟨_, rfl⟩
  rw [hG] at HK ⊢
  have HG := Lib.hid hG; clear hG
  refine (C1.out _ HE.out).mono ?_
  rintro e w1 ⟨rfl, hq⟩
  have HE1 := Lib.hid (below_then HE.out hq); have HK1 := Lib.hid (HK.out.on hq)
  clear hq HE HK C1
  go_wp2
  exact bodyPost_ret (v := .tuple #[.slice none 0 0, .int .i64 E1]) (by simp [results, Tryz.results32, go_sem]) rfl ⟨rfl, HE1.out⟩

set_option maxRecDepth 100000 in
set_option maxHeartbeats 4000000 in
theorem sBetween_e2 (vol mom hei : List P3) (id al ah t0 t1 u0 u1 v0 v1 h0 h1 : Int) (A B C : Option Addr) (n c mm d l ee : Nat) (fh st x0 x1 d0 d1 gh gt y0 y1 k0 k1 : Int) (E2 : Int) (g1 : fillErr ⟨id, al, ah, vol, mom, hei, t0, t1, u0, u1, v0, v1, h0, h1⟩ ⟨fh, st, x0, x1, d0, d1⟩ = 0) (g2 : fillErr ⟨id, al, ah, vol, mom, hei, t0, t1, u0, u1, v0, v1, h0, h1⟩ ⟨gh, gt, y0, y1, k0, k1⟩ = E2) (gE : ¬ E2 = 0) (w : World) (hi : HoldIn w ⟨id, al, ah, vol, mom, hei, t0, t1, u0, u1, v0, v1, h0, h1⟩ ⟨A, n, c, B, mm, d, C, l, ee⟩) :
    Calls Tryz.prog 32 #[.agg #[.int .i64 id, .int .i64 al, .int .i64 ah, .slice A n c, .slice B mm d, .slice C l ee, .int .i64 t0, .int .i64 t1, .int .i64 u0, .int .i64 u1, .int .i64 v0, .int .i64 v1, .int .i64 h0, .int .i64 h1], .agg #[.int .i64 fh, .int .i64 st, .int .i64 x0, .int .i64 x1, .int .i64 d0, .int .i64 d1], .agg #[.int .i64 gh, .int .i64 gt, .int .i64 y0, .int .i64 y1, .int .i64 k0, .int .i64 k1]] w fun e w' => e = .returned (.tuple #[.slice none 0 0, .int .i64 E2]) ∧ Below w.heap.size w w' := by
  have C1 : Hid (∀ W, Below w.heap.size w W → Calls Tryz.prog 69 #[.agg #[.int .i64 id, .int .i64 al, .int .i64 ah, .slice A n c, .slice B mm d, .slice C l ee, .int .i64 t0, .int .i64 t1, .int .i64 u0, .int .i64 u1, .int .i64 v0, .int .i64 v1, .int .i64 h0, .int .i64 h1], .agg #[.int .i64 fh, .int .i64 st, .int .i64 x0, .int .i64 x1, .int .i64 d0, .int .i64 d1]] W fun e w' => e = .returned (.int .i64 0) ∧ Below W.heap.size W w') := Lib.hid fun W hW => int_to (sCheckFill_any ⟨id, al, ah, vol, mom, hei, t0, t1, u0, u1, v0, v1, h0, h1⟩ ⟨A, n, c, B, mm, d, C, l, ee⟩ ⟨fh, st, x0, x1, d0, d1⟩ W (hi.below hW)) g1
  have C2 : Hid (∀ W, Below w.heap.size w W → Calls Tryz.prog 69 #[.agg #[.int .i64 id, .int .i64 al, .int .i64 ah, .slice A n c, .slice B mm d, .slice C l ee, .int .i64 t0, .int .i64 t1, .int .i64 u0, .int .i64 u1, .int .i64 v0, .int .i64 v1, .int .i64 h0, .int .i64 h1], .agg #[.int .i64 gh, .int .i64 gt, .int .i64 y0, .int .i64 y1, .int .i64 k0, .int .i64 k1]] W fun e w' => e = .returned (.int .i64 E2) ∧ Below W.heap.size W w') := Lib.hid fun W hW => int_to (sCheckFill_any ⟨id, al, ah, vol, mom, hei, t0, t1, u0, u1, v0, v1, h0, h1⟩ ⟨A, n, c, B, mm, d, C, l, ee⟩ ⟨gh, gt, y0, y1, k0, k1⟩ W (hi.below hW)) g2
  clear g1 g2 hi
  have HE := Lib.hid (show Below w.heap.size w (((w.alloc (.cells #[.int .i64 id, .int .i64 al, .int .i64 ah, .slice A n c, .slice B mm d, .slice C l ee, .int .i64 t0, .int .i64 t1, .int .i64 u0, .int .i64 u1, .int .i64 v0, .int .i64 v1, .int .i64 h0, .int .i64 h1] 45)).alloc (.cells #[.int .i64 fh, .int .i64 st, .int .i64 x0, .int .i64 x1, .int .i64 d0, .int .i64 d1] 47)).alloc (.cells #[.int .i64 gh, .int .i64 gt, .int .i64 y0, .int .i64 y1, .int .i64 k0, .int .i64 k1] 47)) from below_a3 (Below.refl _ _))
  have HK := Lib.hid (boxes3' w 45 47 47 #[.int .i64 id, .int .i64 al, .int .i64 ah, .slice A n c, .slice B mm d, .slice C l ee, .int .i64 t0, .int .i64 t1, .int .i64 u0, .int .i64 u1, .int .i64 v0, .int .i64 v1, .int .i64 h0, .int .i64 h1] #[.int .i64 fh, .int .i64 st, .int .i64 x0, .int .i64 x1, .int .i64 d0, .int .i64 d1] #[.int .i64 gh, .int .i64 gt, .int .i64 y0, .int .i64 y1, .int .i64 k0, .int .i64 k1])
  go_enter Tryz.func32, Tryz.ntmps32
  go_wp2_with fail
  obtain ⟨W0, hW0⟩ : ∃ W0, (((w.alloc (.cells #[.int .i64 id, .int .i64 al, .int .i64 ah, .slice A n c, .slice B mm d, .slice C l ee, .int .i64 t0, .int .i64 t1, .int .i64 u0, .int .i64 u1, .int .i64 v0, .int .i64 v1, .int .i64 h0, .int .i64 h1] 45)).alloc (.cells #[.int .i64 fh, .int .i64 st, .int .i64 x0, .int .i64 x1, .int .i64 d0, .int .i64 d1] 47)).alloc (.cells #[.int .i64 gh, .int .i64 gt, .int .i64 y0, .int .i64 y1, .int .i64 k0, .int .i64 k1] 47)) = W0 := ⟨_, rfl⟩
  rw [hW0] at HE HK ⊢
  clear hW0
  obtain ⟨G, hG⟩ : ∃ G, w.heap.size = G := ⟨_, rfl⟩
  rw [hG] at HK ⊢
  have HG := Lib.hid hG; clear hG
  refine (C1.out _ HE.out).mono ?_
  rintro e w1 ⟨rfl, hq⟩
  have HE1 := Lib.hid (below_then HE.out hq); have HK1 := Lib.hid (HK.out.on hq)
  clear hq HE HK C1
  have sa := HK1.out _ (.tail _ (.tail _ (.head _)))
  have sa0 := sa.cell 0
  have sa1 := sa.cell 1
  have sa2 := sa.cell 2
  have sa3 := sa.cell 3
  have sa4 := sa.cell 4
  have sa5 := sa.cell 5
  have sa6 := sa.cell 6
  have sa7 := sa.cell 7
  have sa8 := sa.cell 8
  have sa9 := sa.cell 9
  have sa10 := sa.cell 10
  have sa11 := sa.cell 11
  have sa12 := sa.cell 12
  have sa13 := sa.cell 13
  simp at sa0 sa1 sa2 sa3 sa4 sa5 sa6 sa7 sa8 sa9 sa10 sa11 sa12 sa13
  clear sa
  have sb := HK1.out _ (.head _)
  have sb0 := sb.cell 0
  have sb1 := sb.cell 1
  have sb2 := sb.cell 2
  have sb3 := sb.cell 3
  have sb4 := sb.cell 4
  have sb5 := sb.cell 5
  simp at sb0 sb1 sb2 sb3 sb4 sb5
  clear sb
  go_wp2_with fail
  refine (C2.out _ HE1.out).mono ?_
  rintro e w2 ⟨rfl, hq⟩
  have HE2 := Lib.hid (below_then HE1.out hq); have HK2 := Lib.hid (HK1.out.on hq)
  clear hq HE1 HK1 C2 sa0 sa1 sa2 sa3 sa4 sa5 sa6 sa7 sa8 sa9 sa10 sa11 sa12 sa13 sb0 sb1 sb2 sb3 sb4 sb5
  go_wp2
  exact bodyPost_ret (v := .tuple #[.slice none 0 0, .int .i64 E2]) (by simp [results, Tryz.results32, go_sem]) rfl ⟨rfl, HE2.out⟩

set_option maxRecDepth 100000 in
set_option maxHeartbeats 4000000 in
theorem sBetween_same (vol mom hei : List P3) (id al ah t0 t1 u0 u1 v0 v1 h0 h1 : Int) (A B C : Option Addr) (n c mm d l ee : Nat) (fh st x0 x1 d0 d1 gh gt y0 y1 k0 k1 : Int) (ia ib ma mb : Int) (g1 : fillErr ⟨id, al, ah, vol, mom, hei, t0, t1, u0, u1, v0, v1, h0, h1⟩ ⟨fh, st, x0, x1, d0, d1⟩ = 0) (g2 : fillErr ⟨id, al, ah, vol, mom, hei, t0, t1, u0, u1, v0, v1, h0, h1⟩ ⟨gh, gt, y0, y1, k0, k1⟩ = 0) (hi1 : (if st = 0 then (k0, k1) else (min d0 k0, max d1 k1)) = (ia, ib)) (hi2 : (if gt = 0 then (d0, d1) else (ia, ib)) = (ma, mb)) (hs : st = gt) (w : World) (hi : HoldIn w ⟨id, al, ah, vol, mom, hei, t0, t1, u0, u1, v0, v1, h0, h1⟩ ⟨A, n, c, B, mm, d, C, l, ee⟩) :
    Calls Tryz.prog 32 #[.agg #[.int .i64 id, .int .i64 al, .int .i64 ah, .slice A n c, .slice B mm d, .slice C l ee, .int .i64 t0, .int .i64 t1, .int .i64 u0, .int .i64 u1, .int .i64 v0, .int .i64 v1, .int .i64 h0, .int .i64 h1], .agg #[.int .i64 fh, .int .i64 st, .int .i64 x0, .int .i64 x1, .int .i64 d0, .int .i64 d1], .agg #[.int .i64 gh, .int .i64 gt, .int .i64 y0, .int .i64 y1, .int .i64 k0, .int .i64 k1]] w fun e w' => ∃ v, e = .returned (.tuple #[v, .int .i64 0]) ∧ SlFills w' v [⟨id, st, min x0 y0, max x1 y1, ma, mb⟩] ∧ (v = .slice none 0 0 ↔ ([⟨id, st, min x0 y0, max x1 y1, ma, mb⟩] : List FillD) = []) ∧ Below w.heap.size w w' := by
  have C1 : Hid (∀ W, Below w.heap.size w W → Calls Tryz.prog 69 #[.agg #[.int .i64 id, .int .i64 al, .int .i64 ah, .slice A n c, .slice B mm d, .slice C l ee, .int .i64 t0, .int .i64 t1, .int .i64 u0, .int .i64 u1, .int .i64 v0, .int .i64 v1, .int .i64 h0, .int .i64 h1], .agg #[.int .i64 fh, .int .i64 st, .int .i64 x0, .int .i64 x1, .int .i64 d0, .int .i64 d1]] W fun e w' => e = .returned (.int .i64 0) ∧ Below W.heap.size W w') := Lib.hid fun W hW => int_to (sCheckFill_any ⟨id, al, ah, vol, mom, hei, t0, t1, u0, u1, v0, v1, h0, h1⟩ ⟨A, n, c, B, mm, d, C, l, ee⟩ ⟨fh, st, x0, x1, d0, d1⟩ W (hi.below hW)) g1
  have C2 : Hid (∀ W, Below w.heap.size w W → Calls Tryz.prog 69 #[.agg #[.int .i64 id, .int .i64 al, .int .i64 ah, .slice A n c, .slice B mm d, .slice C l ee, .int .i64 t0, .int .i64 t1, .int .i64 u0, .int .i64 u1, .int .i64 v0, .int .i64 v1, .int .i64 h0, .int .i64 h1], .agg #[.int .i64 gh, .int .i64 gt, .int .i64 y0, .int .i64 y1, .int .i64 k0, .int .i64 k1]] W fun e w' => e = .returned (.int .i64 0) ∧ Below W.heap.size W w') := Lib.hid fun W hW => int_to (sCheckFill_any ⟨id, al, ah, vol, mom, hei, t0, t1, u0, u1, v0, v1, h0, h1⟩ ⟨A, n, c, B, mm, d, C, l, ee⟩ ⟨gh, gt, y0, y1, k0, k1⟩ W (hi.below hW)) g2
  have C3 : Hid (∀ W, Calls Tryz.prog 73 #[rv d0 d1, rv k0 k1] W fun e w' => e = .returned (rv (min d0 k0) (max d1 k1)) ∧ Below W.heap.size W w') := Lib.hid fun W => shull_any d0 d1 k0 k1 W
  have HSE := Lib.hid hs
  clear hs
  have C5 : Hid (∀ W, Calls Tryz.prog 73 #[rv x0 x1, rv y0 y1] W fun e w' => e = .returned (rv (min x0 y0) (max x1 y1)) ∧ Below W.heap.size W w') := Lib.hid fun W => shull_any x0 x1 y0 y1 W
  have H1 := Lib.hid hi1
  have H2 := Lib.hid hi2
  clear g1 g2 hi hi1 hi2
  have HE := Lib.hid (show Below w.heap.size w (((w.alloc (.cells #[.int .i64 id, .int .i64 al, .int .i64 ah, .slice A n c, .slice B mm d, .slice C l ee, .int .i64 t0, .int .i64 t1, .int .i64 u0, .int .i64 u1, .int .i64 v0, .int .i64 v1, .int .i64 h0, .int .i64 h1] 45)).alloc (.cells #[.int .i64 fh, .int .i64 st, .int .i64 x0, .int .i64 x1, .int .i64 d0, .int .i64 d1] 47)).alloc (.cells #[.int .i64 gh, .int .i64 gt, .int .i64 y0, .int .i64 y1, .int .i64 k0, .int .i64 k1] 47)) from below_a3 (Below.refl _ _))
  have HK := Lib.hid (boxes3' w 45 47 47 #[.int .i64 id, .int .i64 al, .int .i64 ah, .slice A n c, .slice B mm d, .slice C l ee, .int .i64 t0, .int .i64 t1, .int .i64 u0, .int .i64 u1, .int .i64 v0, .int .i64 v1, .int .i64 h0, .int .i64 h1] #[.int .i64 fh, .int .i64 st, .int .i64 x0, .int .i64 x1, .int .i64 d0, .int .i64 d1] #[.int .i64 gh, .int .i64 gt, .int .i64 y0, .int .i64 y1, .int .i64 k0, .int .i64 k1])
  go_enter Tryz.func32, Tryz.ntmps32
  go_wp2_with fail
  obtain ⟨W0, hW0⟩ : ∃ W0, (((w.alloc (.cells #[.int .i64 id, .int .i64 al, .int .i64 ah, .slice A n c, .slice B mm d, .slice C l ee, .int .i64 t0, .int .i64 t1, .int .i64 u0, .int .i64 u1, .int .i64 v0, .int .i64 v1, .int .i64 h0, .int .i64 h1] 45)).alloc (.cells #[.int .i64 fh, .int .i64 st, .int .i64 x0, .int .i64 x1, .int .i64 d0, .int .i64 d1] 47)).alloc (.cells #[.int .i64 gh, .int .i64 gt, .int .i64 y0, .int .i64 y1, .int .i64 k0, .int .i64 k1] 47)) = W0 := ⟨_, rfl⟩
  rw [hW0] at HE HK ⊢
  clear hW0
  obtain ⟨G, hG⟩ : ∃ G, w.heap.size = G := ⟨_, rfl⟩
  rw [hG] at HK ⊢
  have HG := Lib.hid hG; clear hG
  refine (C1.out _ HE.out).mono ?_
  rintro e w1 ⟨rfl, hq⟩
  have HE1 := Lib.hid (below_then HE.out hq); have HK1 := Lib.hid (HK.out.on hq)
  clear hq HE HK C1
  have sa := HK1.out _ (.tail _ (.tail _ (.head _)))
  have sa0 := sa.cell 0
  have sa1 := sa.cell 1
  have sa2 := sa.cell 2
  have sa3 := sa.cell 3
  have sa4 := sa.cell 4
  have sa5 := sa.cell 5
  have sa6 := sa.cell 6
  have sa7 := sa.cell 7
  have sa8 := sa.cell 8
  have sa9 := sa.cell 9
  have sa10 := sa.cell 10
  have sa11 := sa.cell 11
  have sa12 := sa.cell 12
  have sa13 := sa.cell 13
  simp at sa0 sa1 sa2 sa3 sa4 sa5 sa6 sa7 sa8 sa9 sa10 sa11 sa12 sa13
  clear sa
  have sb := HK1.out _ (.head _)
  have sb0 := sb.cell 0
  have sb1 := sb.cell 1
  have sb2 := sb.cell 2
  have sb3 := sb.cell 3
  have sb4 := sb.cell 4
  have sb5 := sb.cell 5
  simp at sb0 sb1 sb2 sb3 sb4 sb5
  clear sb
  go_wp2_with fail
  refine (C2.out _ HE1.out).mono ?_
  rintro e w2 ⟨rfl, hq⟩
  have HE2 := Lib.hid (below_then HE1.out hq); have HK2 := Lib.hid (HK1.out.on hq)
  clear hq HE1 HK1 C2 sa0 sa1 sa2 sa3 sa4 sa5 sa6 sa7 sa8 sa9 sa10 sa11 sa12 sa13 sb0 sb1 sb2 sb3 sb4 sb5
  have fa := HK2.out _ (.tail _ (.head _))
  have fa4 := fa.cell 4
  have fa5 := fa.cell 5
  simp at fa4 fa5
  clear fa
  have ga := HK2.out _ (.head _)
  have ga4 := ga.cell 4
  have ga5 := ga.cell 5
  simp at ga4 ga5
  clear ga
  go_wp2_with fail
  refine (C3.out _).mono ?_
  rintro e y3 ⟨rfl, hq⟩
  have HE3 := Lib.hid (below_then (below_then HE2.out hq) (below_alloc1 y3 (.cells #[.int .i64 (min d0 k0), .int .i64 (max d1 k1)] 23))); have HK3 := Lib.hid ((HK2.out.on hq).new 23 #[.int .i64 (min d0 k0), .int .i64 (max d1 k1)])
  have HD3 := Lib.hid (boxes_lt (HK2.out.on hq))
  have HZ3 := Lib.hid (below_then HE2.out hq).size
  clear hq HE2 HK2 C3 fa4 fa5 ga4 ga5
  go_upto_region 7 with fail
  obtain ⟨W3, hW⟩ : ∃ W', y3.alloc (.cells #[.int .i64 (min d0 k0), .int .i64 (max d1 k1)] 23) = W' := ⟨_, rfl⟩
  rw [hW] at HE3 HK3 ⊢
  clear hW
  obtain ⟨N, hN⟩ : ∃ N, y3.heap.size = N := ⟨_, rfl⟩
  rw [hN] at HK3 HD3 HZ3 ⊢
  clear hN
  have fa := HK3.out _ (.tail _ (.tail _ (.head _)))
  have fa1 := fa.cell 1
  simp at fa1
  clear fa
  go_upto_if 29 with fail
  clear fa1
  go_cut [] (fun wx => Boxes wx ((N, 23, #[.int .i64 ia, .int .i64 ib]) :: ([(G + 1 + 1, 47, #[.int .i64 gh, .int .i64 gt, .int .i64 y0, .int .i64 y1, .int .i64 k0, .int .i64 k1]), (G + 1, 47, #[.int .i64 fh, .int .i64 st, .int .i64 x0, .int .i64 x1, .int .i64 d0, .int .i64 d1]), (G, 45, #[.int .i64 id, .int .i64 al, .int .i64 ah, .slice A n c, .slice B mm d, .slice C l ee, .int .i64 t0, .int .i64 t1, .int .i64 u0, .int .i64 u1, .int .i64 v0, .int .i64 v1, .int .i64 h0, .int .i64 h1])] : List (Nat × TypeId × Array Value))) ∧ Below w.heap.size w wx)
  case first =>
    by_cases h : st = 0
    · have e : (k0, k1) = (ia, ib) := by have q := H1.out; rwa [if_pos h] at q
      injection e with e1 e2
      have b0 : (st == 0) = true := by simp [h]
      have HB := Lib.hid h
      clear h
      have ga := HK3.out _ (.tail _ (.head _))
      have ga4 := ga.cell 4
      have ga5 := ga.cell 5
      simp at ga4 ga5
      clear ga
      have da := HK3.out _ (.head _)
      have da0 := da.cell 0
      have daf0 := da.frozen 0
      have da1 := da.cell 1
      have daf1 := da.frozen 1
      have dal := da.lt
      simp at da0 daf0 da1 daf1
      clear da
      subst e1 e2
      go_wp2_with fail
      go_meet
      exact ⟨Boxes.set2 HK3.out HD3.out _ _, (HE3.out.setCell (p := ⟨N, 0, none⟩) (show w.heap.size ≤ N from HZ3.out) _).setCell (p := ⟨N, 1, none⟩) (show w.heap.size ≤ N from HZ3.out) _⟩
    · have e : (min d0 k0, max d1 k1) = (ia, ib) := by have q := H1.out; rwa [if_neg h] at q
      injection e with e1 e2
      have b0 : (st == 0) = false := beq_eq_false_iff_ne.2 h
      have HB := Lib.hid h
      clear h
      have HK4 := HK3
      rw [e1, e2] at HK4
      have He1 := Lib.hid e1
      have He2 := Lib.hid e2
      clear e1 e2
      go_wp2_with fail
      go_meet
      exact ⟨HK4.out, HE3.out⟩
  case rest =>
    obtain ⟨hB, hE⟩ := hcut
    rename World => W4
    have HE4 := Lib.hid hE
    have HK4 := Lib.hid hB
    clear hB hE HE3 HK3
    have ga := HK4.out _ (.tail _ (.head _))
    have ga1 := ga.cell 1
    simp at ga1
    clear ga
    go_upto_if 34 with fail
    clear ga1
    go_cut [] (fun wx => Boxes wx ((N, 23, #[.int .i64 ma, .int .i64 mb]) :: ([(G + 1 + 1, 47, #[.int .i64 gh, .int .i64 gt, .int .i64 y0, .int .i64 y1, .int .i64 k0, .int .i64 k1]), (G + 1, 47, #[.int .i64 fh, .int .i64 st, .int .i64 x0, .int .i64 x1, .int .i64 d0, .int .i64 d1]), (G, 45, #[.int .i64 id, .int .i64 al, .int .i64 ah, .slice A n c, .slice B mm d, .slice C l ee, .int .i64 t0, .int .i64 t1, .int .i64 u0, .int .i64 u1, .int .i64 v0, .int .i64 v1, .int .i64 h0, .int .i64 h1])] : List (Nat × TypeId × Array Value))) ∧ Below w.heap.size w wx)
    case first =>
      by_cases h : gt = 0
      · have e : (d0, d1) = (ma, mb) := by have q := H2.out; rwa [if_pos h] at q
        injection e with e1 e2
        have b0 : (gt == 0) = true := by simp [h]
        have HB := Lib.hid h
        clear h
        have fa := HK4.out _ (.tail _ (.tail _ (.head _)))
        have fa4 := fa.cell 4
        have fa5 := fa.cell 5
        simp at fa4 fa5
        clear fa
        have da := HK4.out _ (.head _)
        have da0 := da.cell 0
        have daf0 := da.frozen 0
        have da1 := da.cell 1
        have daf1 := da.frozen 1
        have dal := da.lt
        simp at da0 daf0 da1 daf1
        clear da
        subst e1 e2
        go_wp2_with fail
        go_meet
        exact ⟨Boxes.set2 HK4.out HD3.out _ _, (HE4.out.setCell (p := ⟨N, 0, none⟩) (show w.heap.size ≤ N from HZ3.out) _).setCell (p := ⟨N, 1, none⟩) (show w.heap.size ≤ N from HZ3.out) _⟩
      · have e : (ia, ib) = (ma, mb) := by have q := H2.out; rwa [if_neg h] at q
        injection e with e1 e2
        have b0 : (gt == 0) = false := beq_eq_false_iff_ne.2 h
        have HB := Lib.hid h
        clear h
        have HK6 := HK4
        rw [e1, e2] at HK6
        have He1 := Lib.hid e1
        have He2 := Lib.hid e2
        clear e1 e2
        go_wp2_with fail
        go_meet
        exact ⟨HK6.out, HE4.out⟩
    case rest =>
      obtain ⟨hB, hE⟩ := hcut
      rename World => W5
      have HE5 := Lib.hid hE
      have HK5 := Lib.hid hB
      clear hB hE HE4 HK4
      have fa := HK5.out _ (.tail _ (.tail _ (.head _)))
      have fa1 := fa.cell 1
      simp at fa1
      clear fa
      have ga := HK5.out _ (.tail _ (.head _))
      have ga1 := ga.cell 1
      simp at ga1
      clear ga
      have b0 : (st == gt) = true := by simp [HSE.out]
      go_upto_region 12 with fail
      clear fa1 ga1 b0
      have hS0 : Boxes W5.drew ((N, 23, #[.int .i64 ma, .int .i64 mb]) :: [(G + 1 + 1, 47, #[.int .i64 gh, .int .i64 gt, .int .i64 y0, .int .i64 y1, .int .i64 k0, .int .i64 k1]), (G + 1, 47, #[.int .i64 fh, .int .i64 st, .int .i64 x0, .int .i64 x1, .int .i64 d0, .int .i64 d1]), (G, 45, #[.int .i64 id, .int .i64 al, .int .i64 ah, .slice A n c, .slice B mm d, .slice C l ee, .int .i64 t0, .int .i64 t1, .int .i64 u0, .int .i64 u1, .int .i64 v0, .int .i64 v1, .int .i64 h0, .int .i64 h1])] : List (Nat × TypeId × Array Value)) := HK5.out
      have HEd := Lib.hid HE5.out.drew
      have HKd := Lib.hid hS0
      refine wp_region_held_drew (S := fun w' => Boxes w' ((N, 23, #[.int .i64 ma, .int .i64 mb]) :: [(G + 1 + 1, 47, #[.int .i64 gh, .int .i64 gt, .int .i64 y0, .int .i64 y1, .int .i64 k0, .int .i64 k1]), (G + 1, 47, #[.int .i64 fh, .int .i64 st, .int .i64 x0, .int .i64 x1, .int .i64 d0, .int .i64 d1]), (G, 45, #[.int .i64 id, .int .i64 al, .int .i64 ah, .slice A n c, .slice B mm d, .slice C l ee, .int .i64 t0, .int .i64 t1, .int .i64 u0, .int .i64 u1, .int .i64 v0, .int .i64 v1, .int .i64 h0, .int .i64 h1])] : List (Nat × TypeId × Array Value))) (by kernel_rfl) hS0 (fun hHeld => ?_)
      obtain ⟨W6, hW⟩ : ∃ W', W5.drew = W' := ⟨_, rfl⟩
      rw [hW] at HEd HKd hHeld ⊢
      clear hW hS0 HE5 HK5
      refine wpAnyH_take (i := 0) (v := .pointer (some ⟨G, 0, none⟩)) rfl (by kernel_rfl) (by kernel_rfl) (by kernel_rfl) (fun _ _ _ h => h) (Or.inl ⟨by kernel_rfl, ?_⟩) hHeld ?_
      · intro w hSw; clear hSw; go_simp; try with_reducible rfl
      change wpAnyH _ _ _ _ _ _ _ (Act.put _ (some 42) _) _
      try simp only [Act.put, List.setIfInBounds_toArray, List.set_cons_zero, List.set_cons_succ]
      refine wpAnyH_take (i := 1) (v := .int .i64 id) rfl (by kernel_rfl) (by kernel_rfl) (by kernel_rfl) (fun _ _ _ h => h) (Or.inl ⟨by kernel_rfl, ?_⟩) hHeld ?_
      · intro w hSw; have hz := (hSw _ (.tail _ (.tail _ (.tail _ (.head _))))); have c0 := hz.cell 0; simp at c0; clear hz hSw; go_simp; try with_reducible rfl
      change wpAnyH _ _ _ _ _ _ _ (Act.put _ (some 43) _) _
      try simp only [Act.put, List.setIfInBounds_toArray, List.set_cons_zero, List.set_cons_succ]
      refine wpAnyH_take (i := 2) (v := .pointer (some ⟨G + 1, 1, none⟩)) rfl (by kernel_rfl) (by kernel_rfl) (by kernel_rfl) (fun _ _ _ h => h) (Or.inl ⟨by kernel_rfl, ?_⟩) hHeld ?_
      · intro w hSw; clear hSw; go_simp; try with_reducible rfl
      change wpAnyH _ _ _ _ _ _ _ (Act.put _ (some 44) _) _
      try simp only [Act.put, List.setIfInBounds_toArray, List.set_cons_zero, List.set_cons_succ]
      refine wpAnyH_take (i := 3) (v := .int .i64 st) rfl (by kernel_rfl) (by kernel_rfl) (by kernel_rfl) (fun _ _ _ h => h) (Or.inl ⟨by kernel_rfl, ?_⟩) hHeld ?_
      · intro w hSw; have hz := (hSw _ (.tail _ (.tail _ (.head _)))); have c1 := hz.cell 1; simp at c1; clear hz hSw; go_simp; try with_reducible rfl
      change wpAnyH _ _ _ _ _ _ _ (Act.put _ (some 45) _) _
      try simp only [Act.put, List.setIfInBounds_toArray, List.set_cons_zero, List.set_cons_succ]
      refine wpAnyH_take (i := 4) (v := .pointer (some ⟨G + 1, 2, none⟩)) rfl (by kernel_rfl) (by kernel_rfl) (by kernel_rfl) (fun _ _ _ h => h) (Or.inl ⟨by kernel_rfl, ?_⟩) hHeld ?_
      · intro w hSw; clear hSw; go_simp; try with_reducible rfl
      change wpAnyH _ _ _ _ _ _ _ (Act.put _ (some 46) _) _
      try simp only [Act.put, List.setIfInBounds_toArray, List.set_cons_zero, List.set_cons_succ]
      refine wpAnyH_take (i := 5) (v := rv x0 x1) rfl (by kernel_rfl) (by kernel_rfl) (by kernel_rfl) (fun _ _ _ h => h) (Or.inl ⟨by kernel_rfl, ?_⟩) hHeld ?_
      · intro w hSw; have hz := (hSw _ (.tail _ (.tail _ (.head _)))); have c2 := hz.cell 2; have c3 := hz.cell 3; simp at c2 c3; clear hz hSw; go_simp; try with_reducible rfl
      change wpAnyH _ _ _ _ _ _ _ (Act.put _ (some 47) _) _
      try simp only [Act.put, List.setIfInBounds_toArray, List.set_cons_zero, List.set_cons_succ]
      refine wpAnyH_take (i := 6) (v := .pointer (some ⟨G + 1 + 1, 2, none⟩)) rfl (by kernel_rfl) (by kernel_rfl) (by kernel_rfl) (fun _ _ _ h => h) (Or.inl ⟨by kernel_rfl, ?_⟩) hHeld ?_
      · intro w hSw; clear hSw; go_simp; try with_reducible rfl
      change wpAnyH _ _ _ _ _ _ _ (Act.put _ (some 48) _) _
      try simp only [Act.put, List.setIfInBounds_toArray, List.set_cons_zero, List.set_cons_succ]
      refine wpAnyH_take (i := 7) (v := rv y0 y1) rfl (by kernel_rfl) (by kernel_rfl) (by kernel_rfl) (fun _ _ _ h => h) (Or.inl ⟨by kernel_rfl, ?_⟩) hHeld ?_
      · intro w hSw; have hz := (hSw _ (.tail _ (.head _))); have c2 := hz.cell 2; have c3 := hz.cell 3; simp at c2 c3; clear hz hSw; go_simp; try with_reducible rfl
      change wpAnyH _ _ _ _ _ _ _ (Act.put _ (some 49) _) _
      try simp only [Act.put, List.setIfInBounds_toArray, List.set_cons_zero, List.set_cons_succ]
      refine wpAnyH_take (i := 9) (v := rv ma mb) rfl (by kernel_rfl) (by kernel_rfl) (by kernel_rfl) (fun _ _ _ h => h) (Or.inl ⟨by kernel_rfl, ?_⟩) hHeld ?_
      · intro w hSw; have hz := (hSw _ (.head _)); have c0 := hz.cell 0; have c1 := hz.cell 1; simp at c0 c1; clear hz hSw; go_simp; try with_reducible rfl
      change wpAnyH _ _ _ _ _ _ _ (Act.put _ (some 51) _) _
      try simp only [Act.put, List.setIfInBounds_toArray, List.set_cons_zero, List.set_cons_succ]
      refine wpAnyH_ready (rs := [8]) (by kernel_rfl) (by simp) ?_
      refine AllReadyH.cons rfl (fun K hK => ?_) AllReadyH.nil
      go_simp
      (with_reducible refine (C5.out _).mono ?_)
      rintro e z1 ⟨rfl, hq⟩
      have HEz := Lib.hid (below_then HEd.out hq); have HKz := Lib.hid (HKd.out.on hq)
      have hS := hHeld.on hq
      clear hq
      refine hK.out _ _ (hS) (fun hHeld2 => ?_)
      try simp only [Act.put, List.setIfInBounds_toArray, List.set_cons_zero, List.set_cons_succ]
      clear hK K hHeld
      have hHeld := hHeld2
      clear hHeld2
      clear hS HEd HKd
      refine wpAnyH_take (i := 10) (v := .agg #[.int .i64 id, .int .i64 st, .int .i64 (min x0 y0), .int .i64 (max x1 y1), .int .i64 ma, .int .i64 mb]) rfl (by kernel_rfl) (by kernel_rfl) (by kernel_rfl) (fun _ _ _ h => h) (Or.inl ⟨by kernel_rfl, ?_⟩) hHeld ?_
      · intro w hSw; clear hSw; go_simp; try with_reducible rfl
      change wpAnyH _ _ _ _ _ _ _ (Act.put _ (some 52) _) _
      try simp only [Act.put, List.setIfInBounds_toArray, List.set_cons_zero, List.set_cons_succ]
      refine wpAnyH_ready (rs := [11]) (by kernel_rfl) (by simp) ?_
      refine AllReadyH.cons rfl (fun K hK => ?_) AllReadyH.nil
      go_simp
      have hS := hHeld.on (below_alloc1 z1 (.cells #[.int .i64 id, .int .i64 st, .int .i64 (min x0 y0), .int .i64 (max x1 y1), .int .i64 ma, .int .i64 mb] 47))
      refine hK.out _ _ hS (fun hHeld2 => ?_)
      try simp only [Act.put, List.setIfInBounds_toArray, List.set_cons_zero, List.set_cons_succ]
      clear hS hK K hHeld
      have hHeld := hHeld2
      clear hHeld2
      refine wpAnyH_take (i := 12) (v := .slice (some ⟨z1.heap.size, 0, none⟩) 1 1) rfl (by kernel_rfl) (by kernel_rfl) (by kernel_rfl) (fun _ _ _ h => h) (Or.inl ⟨by kernel_rfl, ?_⟩) hHeld ?_
      · intro w hSw; clear hSw; go_simp; try with_reducible rfl
      change wpAnyH _ _ _ _ _ _ _ (Act.put _ (some 6) _) _
      try simp only [Act.put, List.setIfInBounds_toArray, List.set_cons_zero, List.set_cons_succ]
      refine wpAnyH_take (i := 13) (v := .int .i64 0) rfl (by kernel_rfl) (by kernel_rfl) (by kernel_rfl) (fun _ _ _ h => h) (Or.inl ⟨by kernel_rfl, ?_⟩) hHeld ?_
      · intro w hSw; clear hSw; go_simp; try with_reducible rfl
      change wpAnyH _ _ _ _ _ _ _ (Act.put _ (some 7) _) _
      try simp only [Act.put, List.setIfInBounds_toArray, List.set_cons_zero, List.set_cons_succ]
      refine wpAnyH_done (by kernel_rfl) ?_ _
      clear hHeld
      go_wp2
      refine bodyPost_ret (v := .tuple #[.slice (some ⟨z1.heap.size, 0, none⟩) 1 1, .int .i64 0]) (by simp [results, Tryz.results32, go_sem]) rfl ⟨_, rfl, .inr ⟨_, _, rfl, by simp, ?_⟩, by simp, ?_⟩
      · intro k r hr
        obtain ⟨rfl, rfl⟩ := one_fill hr
        simp
      · exact below_then HEz.out (below_alloc1 _ _)

set_option maxRecDepth 100000 in
set_option maxHeartbeats 4000000 in
theorem sBetween_two (vol mom hei : List P3) (id al ah t0 t1 u0 u1 v0 v1 h0 h1 : Int) (A B C : Option Addr) (n c mm d l ee : Nat) (fh st x0 x1 d0 d1 gh gt y0 y1 k0 k1 : Int) (ia ib ma mb : Int) (g1 : fillErr ⟨id, al, ah, vol, mom, hei, t0, t1, u0, u1, v0, v1, h0, h1⟩ ⟨fh, st, x0, x1, d0, d1⟩ = 0) (g2 : fillErr ⟨id, al, ah, vol, mom, hei, t0, t1, u0, u1, v0, v1, h0, h1⟩ ⟨gh, gt, y0, y1, k0, k1⟩ = 0) (hi1 : (if st = 0 then (k0, k1) else (min d0 k0, max d1 k1)) = (ia, ib)) (hi2 : (if gt = 0 then (d0, d1) else (ia, ib)) = (ma, mb)) (su su' sv sv' : Int) (hs : ¬ st = gt) (q0 : 0 ≤ st) (q5 : st ≤ 5) (p0 : 0 ≤ gt) (p5 : gt ≤ 5) (ht : tabOk vol = true) (hsf : surS ⟨id, al, ah, vol, mom, hei, t0, t1, u0, u1, v0, v1, h0, h1⟩ ⟨fh, st, x0, x1, d0, d1⟩ = (su, su')) (hsg : surS ⟨id, al, ah, vol, mom, hei, t0, t1, u0, u1, v0, v1, h0, h1⟩ ⟨gh, gt, y0, y1, k0, k1⟩ = (sv, sv')) (w : World) (hi : HoldIn w ⟨id, al, ah, vol, mom, hei, t0, t1, u0, u1, v0, v1, h0, h1⟩ ⟨A, n, c, B, mm, d, C, l, ee⟩) :
    Calls Tryz.prog 32 #[.agg #[.int .i64 id, .int .i64 al, .int .i64 ah, .slice A n c, .slice B mm d, .slice C l ee, .int .i64 t0, .int .i64 t1, .int .i64 u0, .int .i64 u1, .int .i64 v0, .int .i64 v1, .int .i64 h0, .int .i64 h1], .agg #[.int .i64 fh, .int .i64 st, .int .i64 x0, .int .i64 x1, .int .i64 d0, .int .i64 d1], .agg #[.int .i64 gh, .int .i64 gt, .int .i64 y0, .int .i64 y1, .int .i64 k0, .int .i64 k1]] w fun e w' => ∃ v, e = .returned (.tuple #[v, .int .i64 0]) ∧ SlFills w' v [⟨fh, st, x0, x1, d0, d1⟩, ⟨id, 3, min su sv, max su' sv', ma, mb⟩, ⟨gh, gt, y0, y1, k0, k1⟩] ∧ (v = .slice none 0 0 ↔ ([⟨fh, st, x0, x1, d0, d1⟩, ⟨id, 3, min su sv, max su' sv', ma, mb⟩, ⟨gh, gt, y0, y1, k0, k1⟩] : List FillD) = []) ∧ Below w.heap.size w w' := by
  have C1 : Hid (∀ W, Below w.heap.size w W → Calls Tryz.prog 69 #[.agg #[.int .i64 id, .int .i64 al, .int .i64 ah, .slice A n c, .slice B mm d, .slice C l ee, .int .i64 t0, .int .i64 t1, .int .i64 u0, .int .i64 u1, .int .i64 v0, .int .i64 v1, .int .i64 h0, .int .i64 h1], .agg #[.int .i64 fh, .int .i64 st, .int .i64 x0, .int .i64 x1, .int .i64 d0, .int .i64 d1]] W fun e w' => e = .returned (.int .i64 0) ∧ Below W.heap.size W w') := Lib.hid fun W hW => int_to (sCheckFill_any ⟨id, al, ah, vol, mom, hei, t0, t1, u0, u1, v0, v1, h0, h1⟩ ⟨A, n, c, B, mm, d, C, l, ee⟩ ⟨fh, st, x0, x1, d0, d1⟩ W (hi.below hW)) g1
  have C2 : Hid (∀ W, Below w.heap.size w W → Calls Tryz.prog 69 #[.agg #[.int .i64 id, .int .i64 al, .int .i64 ah, .slice A n c, .slice B mm d, .slice C l ee, .int .i64 t0, .int .i64 t1, .int .i64 u0, .int .i64 u1, .int .i64 v0, .int .i64 v1, .int .i64 h0, .int .i64 h1], .agg #[.int .i64 gh, .int .i64 gt, .int .i64 y0, .int .i64 y1, .int .i64 k0, .int .i64 k1]] W fun e w' => e = .returned (.int .i64 0) ∧ Below W.heap.size W w') := Lib.hid fun W hW => int_to (sCheckFill_any ⟨id, al, ah, vol, mom, hei, t0, t1, u0, u1, v0, v1, h0, h1⟩ ⟨A, n, c, B, mm, d, C, l, ee⟩ ⟨gh, gt, y0, y1, k0, k1⟩ W (hi.below hW)) g2
  have C3 : Hid (∀ W, Calls Tryz.prog 73 #[rv d0 d1, rv k0 k1] W fun e w' => e = .returned (rv (min d0 k0) (max d1 k1)) ∧ Below W.heap.size W w') := Lib.hid fun W => shull_any d0 d1 k0 k1 W
  have HSE := Lib.hid hs
  clear hs
  have C5 : Hid (∀ W, Calls Tryz.prog 73 #[rv su su', rv sv sv'] W fun e w' => e = .returned (rv (min su sv) (max su' sv')) ∧ Below W.heap.size W w') := Lib.hid fun W => shull_any su su' sv sv' W
  have C6 : Hid (∀ W, Below w.heap.size w W → Calls Tryz.prog 84 #[.agg #[.int .i64 id, .int .i64 al, .int .i64 ah, .slice A n c, .slice B mm d, .slice C l ee, .int .i64 t0, .int .i64 t1, .int .i64 u0, .int .i64 u1, .int .i64 v0, .int .i64 v1, .int .i64 h0, .int .i64 h1], .agg #[.int .i64 fh, .int .i64 st, .int .i64 x0, .int .i64 x1, .int .i64 d0, .int .i64 d1]] W fun e w' => e = .returned (rv su su') ∧ Below W.heap.size W w') := Lib.hid fun W hW => sullage_any vol mom hei id al ah t0 t1 u0 u1 v0 v1 h0 h1 A B C n c mm d l ee fh st x0 x1 d0 d1 W (hi.1.below hW) ht q0 q5 su su' hsf
  have C7 : Hid (∀ W, Below w.heap.size w W → Calls Tryz.prog 84 #[.agg #[.int .i64 id, .int .i64 al, .int .i64 ah, .slice A n c, .slice B mm d, .slice C l ee, .int .i64 t0, .int .i64 t1, .int .i64 u0, .int .i64 u1, .int .i64 v0, .int .i64 v1, .int .i64 h0, .int .i64 h1], .agg #[.int .i64 gh, .int .i64 gt, .int .i64 y0, .int .i64 y1, .int .i64 k0, .int .i64 k1]] W fun e w' => e = .returned (rv sv sv') ∧ Below W.heap.size W w') := Lib.hid fun W hW => sullage_any vol mom hei id al ah t0 t1 u0 u1 v0 v1 h0 h1 A B C n c mm d l ee gh gt y0 y1 k0 k1 W (hi.1.below hW) ht p0 p5 sv sv' hsg
  clear hsf hsg ht q0 q5 p0 p5
  have H1 := Lib.hid hi1
  have H2 := Lib.hid hi2
  clear g1 g2 hi hi1 hi2
  have HE := Lib.hid (show Below w.heap.size w (((w.alloc (.cells #[.int .i64 id, .int .i64 al, .int .i64 ah, .slice A n c, .slice B mm d, .slice C l ee, .int .i64 t0, .int .i64 t1, .int .i64 u0, .int .i64 u1, .int .i64 v0, .int .i64 v1, .int .i64 h0, .int .i64 h1] 45)).alloc (.cells #[.int .i64 fh, .int .i64 st, .int .i64 x0, .int .i64 x1, .int .i64 d0, .int .i64 d1] 47)).alloc (.cells #[.int .i64 gh, .int .i64 gt, .int .i64 y0, .int .i64 y1, .int .i64 k0, .int .i64 k1] 47)) from below_a3 (Below.refl _ _))
  have HK := Lib.hid (boxes3' w 45 47 47 #[.int .i64 id, .int .i64 al, .int .i64 ah, .slice A n c, .slice B mm d, .slice C l ee, .int .i64 t0, .int .i64 t1, .int .i64 u0, .int .i64 u1, .int .i64 v0, .int .i64 v1, .int .i64 h0, .int .i64 h1] #[.int .i64 fh, .int .i64 st, .int .i64 x0, .int .i64 x1, .int .i64 d0, .int .i64 d1] #[.int .i64 gh, .int .i64 gt, .int .i64 y0, .int .i64 y1, .int .i64 k0, .int .i64 k1])
  go_enter Tryz.func32, Tryz.ntmps32
  go_wp2_with fail
  obtain ⟨W0, hW0⟩ : ∃ W0, (((w.alloc (.cells #[.int .i64 id, .int .i64 al, .int .i64 ah, .slice A n c, .slice B mm d, .slice C l ee, .int .i64 t0, .int .i64 t1, .int .i64 u0, .int .i64 u1, .int .i64 v0, .int .i64 v1, .int .i64 h0, .int .i64 h1] 45)).alloc (.cells #[.int .i64 fh, .int .i64 st, .int .i64 x0, .int .i64 x1, .int .i64 d0, .int .i64 d1] 47)).alloc (.cells #[.int .i64 gh, .int .i64 gt, .int .i64 y0, .int .i64 y1, .int .i64 k0, .int .i64 k1] 47)) = W0 := ⟨_, rfl⟩
  rw [hW0] at HE HK ⊢
  clear hW0
  obtain ⟨G, hG⟩ : ∃ G, w.heap.size = G := ⟨_, rfl⟩
  rw [hG] at HK ⊢
  have HG := Lib.hid hG; clear hG
  refine (C1.out _ HE.out).mono ?_
  rintro e w1 ⟨rfl, hq⟩
  have HE1 := Lib.hid (below_then HE.out hq); have HK1 := Lib.hid (HK.out.on hq)
  clear hq HE HK C1
  have sa := HK1.out _ (.tail _ (.tail _ (.head _)))
  have sa0 := sa.cell 0
  have sa1 := sa.cell 1
  have sa2 := sa.cell 2
  have sa3 := sa.cell 3
  have sa4 := sa.cell 4
  have sa5 := sa.cell 5
  have sa6 := sa.cell 6
  have sa7 := sa.cell 7
  have sa8 := sa.cell 8
  have sa9 := sa.cell 9
  have sa10 := sa.cell 10
  have sa11 := sa.cell 11
  have sa12 := sa.cell 12
  have sa13 := sa.cell 13
  simp at sa0 sa1 sa2 sa3 sa4 sa5 sa6 sa7 sa8 sa9 sa10 sa11 sa12 sa13
  clear sa
  have sb := HK1.out _ (.head _)
  have sb0 := sb.cell 0
  have sb1 := sb.cell 1
  have sb2 := sb.cell 2
  have sb3 := sb.cell 3
  have sb4 := sb.cell 4
  have sb5 := sb.cell 5
  simp at sb0 sb1 sb2 sb3 sb4 sb5
  clear sb
  go_wp2_with fail
  refine (C2.out _ HE1.out).mono ?_
  rintro e w2 ⟨rfl, hq⟩
  have HE2 := Lib.hid (below_then HE1.out hq); have HK2 := Lib.hid (HK1.out.on hq)
  clear hq HE1 HK1 C2 sa0 sa1 sa2 sa3 sa4 sa5 sa6 sa7 sa8 sa9 sa10 sa11 sa12 sa13 sb0 sb1 sb2 sb3 sb4 sb5
  have fa := HK2.out _ (.tail _ (.head _))
  have fa4 := fa.cell 4
  have fa5 := fa.cell 5
  simp at fa4 fa5
  clear fa
  have ga := HK2.out _ (.head _)
  have ga4 := ga.cell 4
  have ga5 := ga.cell 5
  simp at ga4 ga5
  clear ga
  go_wp2_with fail
  refine (C3.out _).mono ?_
  rintro e y3 ⟨rfl, hq⟩
  have HE3 := Lib.hid (below_then (below_then HE2.out hq) (below_alloc1 y3 (.cells #[.int .i64 (min d0 k0), .int .i64 (max d1 k1)] 23))); have HK3 := Lib.hid ((HK2.out.on hq).new 23 #[.int .i64 (min d0 k0), .int .i64 (max d1 k1)])
  have HD3 := Lib.hid (boxes_lt (HK2.out.on hq))
  have HZ3 := Lib.hid (below_then HE2.out hq).size
  clear hq HE2 HK2 C3 fa4 fa5 ga4 ga5
  go_upto_region 7 with fail
  obtain ⟨W3, hW⟩ : ∃ W', y3.alloc (.cells #[.int .i64 (min d0 k0), .int .i64 (max d1 k1)] 23) = W' := ⟨_, rfl⟩
  rw [hW] at HE3 HK3 ⊢
  clear hW
  obtain ⟨N, hN⟩ : ∃ N, y3.heap.size = N := ⟨_, rfl⟩
  rw [hN] at HK3 HD3 HZ3 ⊢
  clear hN
  have fa := HK3.out _ (.tail _ (.tail _ (.head _)))
  have fa1 := fa.cell 1
  simp at fa1
  clear fa
  go_upto_if 29 with fail
  clear fa1
  go_cut [] (fun wx => Boxes wx ((N, 23, #[.int .i64 ia, .int .i64 ib]) :: ([(G + 1 + 1, 47, #[.int .i64 gh, .int .i64 gt, .int .i64 y0, .int .i64 y1, .int .i64 k0, .int .i64 k1]), (G + 1, 47, #[.int .i64 fh, .int .i64 st, .int .i64 x0, .int .i64 x1, .int .i64 d0, .int .i64 d1]), (G, 45, #[.int .i64 id, .int .i64 al, .int .i64 ah, .slice A n c, .slice B mm d, .slice C l ee, .int .i64 t0, .int .i64 t1, .int .i64 u0, .int .i64 u1, .int .i64 v0, .int .i64 v1, .int .i64 h0, .int .i64 h1])] : List (Nat × TypeId × Array Value))) ∧ Below w.heap.size w wx)
  case first =>
    by_cases h : st = 0
    · have e : (k0, k1) = (ia, ib) := by have q := H1.out; rwa [if_pos h] at q
      injection e with e1 e2
      have b0 : (st == 0) = true := by simp [h]
      have HB := Lib.hid h
      clear h
      have ga := HK3.out _ (.tail _ (.head _))
      have ga4 := ga.cell 4
      have ga5 := ga.cell 5
      simp at ga4 ga5
      clear ga
      have da := HK3.out _ (.head _)
      have da0 := da.cell 0
      have daf0 := da.frozen 0
      have da1 := da.cell 1
      have daf1 := da.frozen 1
      have dal := da.lt
      simp at da0 daf0 da1 daf1
      clear da
      subst e1 e2
      go_wp2_with fail
      go_meet
      exact ⟨Boxes.set2 HK3.out HD3.out _ _, (HE3.out.setCell (p := ⟨N, 0, none⟩) (show w.heap.size ≤ N from HZ3.out) _).setCell (p := ⟨N, 1, none⟩) (show w.heap.size ≤ N from HZ3.out) _⟩
    · have e : (min d0 k0, max d1 k1) = (ia, ib) := by have q := H1.out; rwa [if_neg h] at q
      injection e with e1 e2
      have b0 : (st == 0) = false := beq_eq_false_iff_ne.2 h
      have HB := Lib.hid h
      clear h
      have HK4 := HK3
      rw [e1, e2] at HK4
      have He1 := Lib.hid e1
      have He2 := Lib.hid e2
      clear e1 e2
      go_wp2_with fail
      go_meet
      exact ⟨HK4.out, HE3.out⟩
  case rest =>
    obtain ⟨hB, hE⟩ := hcut
    rename World => W4
    have HE4 := Lib.hid hE
    have HK4 := Lib.hid hB
    clear hB hE HE3 HK3
    have ga := HK4.out _ (.tail _ (.head _))
    have ga1 := ga.cell 1
    simp at ga1
    clear ga
    go_upto_if 34 with fail
    clear ga1
    go_cut [] (fun wx => Boxes wx ((N, 23, #[.int .i64 ma, .int .i64 mb]) :: ([(G + 1 + 1, 47, #[.int .i64 gh, .int .i64 gt, .int .i64 y0, .int .i64 y1, .int .i64 k0, .int .i64 k1]), (G + 1, 47, #[.int .i64 fh, .int .i64 st, .int .i64 x0, .int .i64 x1, .int .i64 d0, .int .i64 d1]), (G, 45, #[.int .i64 id, .int .i64 al, .int .i64 ah, .slice A n c, .slice B mm d, .slice C l ee, .int .i64 t0, .int .i64 t1, .int .i64 u0, .int .i64 u1, .int .i64 v0, .int .i64 v1, .int .i64 h0, .int .i64 h1])] : List (Nat × TypeId × Array Value))) ∧ Below w.heap.size w wx)
    case first =>
      by_cases h : gt = 0
      · have e : (d0, d1) = (ma, mb) := by have q := H2.out; rwa [if_pos h] at q
        injection e with e1 e2
        have b0 : (gt == 0) = true := by simp [h]
        have HB := Lib.hid h
        clear h
        have fa := HK4.out _ (.tail _ (.tail _ (.head _)))
        have fa4 := fa.cell 4
        have fa5 := fa.cell 5
        simp at fa4 fa5
        clear fa
        have da := HK4.out _ (.head _)
        have da0 := da.cell 0
        have daf0 := da.frozen 0
        have da1 := da.cell 1
        have daf1 := da.frozen 1
        have dal := da.lt
        simp at da0 daf0 da1 daf1
        clear da
        subst e1 e2
        go_wp2_with fail
        go_meet
        exact ⟨Boxes.set2 HK4.out HD3.out _ _, (HE4.out.setCell (p := ⟨N, 0, none⟩) (show w.heap.size ≤ N from HZ3.out) _).setCell (p := ⟨N, 1, none⟩) (show w.heap.size ≤ N from HZ3.out) _⟩
      · have e : (ia, ib) = (ma, mb) := by have q := H2.out; rwa [if_neg h] at q
        injection e with e1 e2
        have b0 : (gt == 0) = false := beq_eq_false_iff_ne.2 h
        have HB := Lib.hid h
        clear h
        have HK6 := HK4
        rw [e1, e2] at HK6
        have He1 := Lib.hid e1
        have He2 := Lib.hid e2
        clear e1 e2
        go_wp2_with fail
        go_meet
        exact ⟨HK6.out, HE4.out⟩
    case rest =>
      obtain ⟨hB, hE⟩ := hcut
      rename World => W5
      have HE5 := Lib.hid hE
      have HK5 := Lib.hid hB
      clear hB hE HE4 HK4
      have fa := HK5.out _ (.tail _ (.tail _ (.head _)))
      have fa1 := fa.cell 1
      simp at fa1
      clear fa
      have ga := HK5.out _ (.tail _ (.head _))
      have ga1 := ga.cell 1
      simp at ga1
      clear ga
      have b0 : (st == gt) = false := beq_eq_false_iff_ne.2 HSE.out
      go_upto_region 13 with fail
      clear fa1 ga1 b0
      go_cut [10] (fun s10 wx => ∃ M, s10 = .pointer (some ⟨M, 0, none⟩) ∧ Boxes wx ((M, 23, #[.int .i64 (min su sv), .int .i64 (max su' sv')]) :: ((N, 23, #[.int .i64 ma, .int .i64 mb]) :: [(G + 1 + 1, 47, #[.int .i64 gh, .int .i64 gt, .int .i64 y0, .int .i64 y1, .int .i64 k0, .int .i64 k1]), (G + 1, 47, #[.int .i64 fh, .int .i64 st, .int .i64 x0, .int .i64 x1, .int .i64 d0, .int .i64 d1]), (G, 45, #[.int .i64 id, .int .i64 al, .int .i64 ah, .slice A n c, .slice B mm d, .slice C l ee, .int .i64 t0, .int .i64 t1, .int .i64 u0, .int .i64 u1, .int .i64 v0, .int .i64 v1, .int .i64 h0, .int .i64 h1])] : List (Nat × TypeId × Array Value))) ∧ Below w.heap.size w wx)
      case first =>
        have hS0 : Boxes W5.drew ((N, 23, #[.int .i64 ma, .int .i64 mb]) :: [(G + 1 + 1, 47, #[.int .i64 gh, .int .i64 gt, .int .i64 y0, .int .i64 y1, .int .i64 k0, .int .i64 k1]), (G + 1, 47, #[.int .i64 fh, .int .i64 st, .int .i64 x0, .int .i64 x1, .int .i64 d0, .int .i64 d1]), (G, 45, #[.int .i64 id, .int .i64 al, .int .i64 ah, .slice A n c, .slice B mm d, .slice C l ee, .int .i64 t0, .int .i64 t1, .int .i64 u0, .int .i64 u1, .int .i64 v0, .int .i64 v1, .int .i64 h0, .int .i64 h1])] : List (Nat × TypeId × Array Value)) := HK5.out
        have HEd := Lib.hid HE5.out.drew
        have HKd := Lib.hid hS0
        refine wp_region_held_drew (S := fun w' => Boxes w' ((N, 23, #[.int .i64 ma, .int .i64 mb]) :: [(G + 1 + 1, 47, #[.int .i64 gh, .int .i64 gt, .int .i64 y0, .int .i64 y1, .int .i64 k0, .int .i64 k1]), (G + 1, 47, #[.int .i64 fh, .int .i64 st, .int .i64 x0, .int .i64 x1, .int .i64 d0, .int .i64 d1]), (G, 45, #[.int .i64 id, .int .i64 al, .int .i64 ah, .slice A n c, .slice B mm d, .slice C l ee, .int .i64 t0, .int .i64 t1, .int .i64 u0, .int .i64 u1, .int .i64 v0, .int .i64 v1, .int .i64 h0, .int .i64 h1])] : List (Nat × TypeId × Array Value))) (by kernel_rfl) hS0 (fun hHeld => ?_)
        obtain ⟨W6, hW⟩ : ∃ W', W5.drew = W' := ⟨_, rfl⟩
        rw [hW] at HEd HKd hHeld ⊢
        clear hW hS0 HE5 HK5
        refine wpAnyH_take (i := 0) (v := .agg #[.int .i64 id, .int .i64 al, .int .i64 ah, .slice A n c, .slice B mm d, .slice C l ee, .int .i64 t0, .int .i64 t1, .int .i64 u0, .int .i64 u1, .int .i64 v0, .int .i64 v1, .int .i64 h0, .int .i64 h1]) rfl (by kernel_rfl) (by kernel_rfl) (by kernel_rfl) (fun _ _ _ h => h) (Or.inl ⟨by kernel_rfl, ?_⟩) hHeld ?_
        · intro w hSw; have hz := (hSw _ (.tail _ (.tail _ (.tail _ (.head _))))); have c0 := hz.cell 0; have c1 := hz.cell 1; have c2 := hz.cell 2; have c3 := hz.cell 3; have c4 := hz.cell 4; have c5 := hz.cell 5; have c6 := hz.cell 6; have c7 := hz.cell 7; have c8 := hz.cell 8; have c9 := hz.cell 9; have c10 := hz.cell 10; have c11 := hz.cell 11; have c12 := hz.cell 12; have c13 := hz.cell 13; simp at c0 c1 c2 c3 c4 c5 c6 c7 c8 c9 c10 c11 c12 c13; clear hz hSw; go_simp; try with_reducible rfl
        change wpAnyH _ _ _ _ _ _ _ (Act.put _ (some 54) _) _
        try simp only [Act.put, List.setIfInBounds_toArray, List.set_cons_zero, List.set_cons_succ]
        refine wpAnyH_take (i := 1) (v := .agg #[.int .i64 fh, .int .i64 st, .int .i64 x0, .int .i64 x1, .int .i64 d0, .int .i64 d1]) rfl (by kernel_rfl) (by kernel_rfl) (by kernel_rfl) (fun _ _ _ h => h) (Or.inl ⟨by kernel_rfl, ?_⟩) hHeld ?_
        · intro w hSw; have hz := (hSw _ (.tail _ (.tail _ (.head _)))); have c0 := hz.cell 0; have c1 := hz.cell 1; have c2 := hz.cell 2; have c3 := hz.cell 3; have c4 := hz.cell 4; have c5 := hz.cell 5; simp at c0 c1 c2 c3 c4 c5; clear hz hSw; go_simp; try with_reducible rfl
        change wpAnyH _ _ _ _ _ _ _ (Act.put _ (some 55) _) _
        try simp only [Act.put, List.setIfInBounds_toArray, List.set_cons_zero, List.set_cons_succ]
        refine wpAnyH_take (i := 3) (v := .agg #[.int .i64 id, .int .i64 al, .int .i64 ah, .slice A n c, .slice B mm d, .slice C l ee, .int .i64 t0, .int .i64 t1, .int .i64 u0, .int .i64 u1, .int .i64 v0, .int .i64 v1, .int .i64 h0, .int .i64 h1]) rfl (by kernel_rfl) (by kernel_rfl) (by kernel_rfl) (fun _ _ _ h => h) (Or.inl ⟨by kernel_rfl, ?_⟩) hHeld ?_
        · intro w hSw; have hz := (hSw _ (.tail _ (.tail _ (.tail _ (.head _))))); have c0 := hz.cell 0; have c1 := hz.cell 1; have c2 := hz.cell 2; have c3 := hz.cell 3; have c4 := hz.cell 4; have c5 := hz.cell 5; have c6 := hz.cell 6; have c7 := hz.cell 7; have c8 := hz.cell 8; have c9 := hz.cell 9; have c10 := hz.cell 10; have c11 := hz.cell 11; have c12 := hz.cell 12; have c13 := hz.cell 13; simp at c0 c1 c2 c3 c4 c5 c6 c7 c8 c9 c10 c11 c12 c13; clear hz hSw; go_simp; try with_reducible rfl
        change wpAnyH _ _ _ _ _ _ _ (Act.put _ (some 57) _) _
        try simp only [Act.put, List.setIfInBounds_toArray, List.set_cons_zero, List.set_cons_succ]
        refine wpAnyH_take (i := 4) (v := .agg #[.int .i64 gh, .int .i64 gt, .int .i64 y0, .int .i64 y1, .int .i64 k0, .int .i64 k1]) rfl (by kernel_rfl) (by kernel_rfl) (by kernel_rfl) (fun _ _ _ h => h) (Or.inl ⟨by kernel_rfl, ?_⟩) hHeld ?_
        · intro w hSw; have hz := (hSw _ (.tail _ (.head _))); have c0 := hz.cell 0; have c1 := hz.cell 1; have c2 := hz.cell 2; have c3 := hz.cell 3; have c4 := hz.cell 4; have c5 := hz.cell 5; simp at c0 c1 c2 c3 c4 c5; clear hz hSw; go_simp; try with_reducible rfl
        change wpAnyH _ _ _ _ _ _ _ (Act.put _ (some 58) _) _
        try simp only [Act.put, List.setIfInBounds_toArray, List.set_cons_zero, List.set_cons_succ]
        have HEq := HEd
        have HKq := HKd
        clear HEd HKd
        rename World => yq
        refine wpAnyH_ready (rs := [2, 7]) (by kernel_rfl) (by simp) ?_
        refine AllReadyH.cons rfl (fun K hK => ?_) (AllReadyH.cons rfl (fun K hK => ?_) AllReadyH.nil)
        all_goals
          go_simp
          first
          | (
            (with_reducible refine (C6.out _ HEq.out).mono ?_)
            rintro e yn ⟨rfl, hb⟩
            have HEr := Lib.hid (below_then HEq.out hb)
            have HKr := Lib.hid (HKq.out.on hb)
            have hS := hHeld.on hb
            clear hb
            refine hK.out _ _ hS (fun hHeld2 => ?_)
            try simp only [Act.put, List.setIfInBounds_toArray, List.set_cons_zero, List.set_cons_succ]
            clear hS hK K hHeld HEq HKq
            have hHeld := hHeld2
            clear hHeld2
            have HEq := HEr
            clear HEr
            have HKq := HKr
            clear HKr
            rename World => yq)
          | (
            (with_reducible refine (C7.out _ HEq.out).mono ?_)
            rintro e yn ⟨rfl, hb⟩
            have HEr := Lib.hid (below_then HEq.out hb)
            have HKr := Lib.hid (HKq.out.on hb)
            have hS := hHeld.on hb
            clear hb
            refine hK.out _ _ hS (fun hHeld2 => ?_)
            try simp only [Act.put, List.setIfInBounds_toArray, List.set_cons_zero, List.set_cons_succ]
            clear hS hK K hHeld HEq HKq
            have hHeld := hHeld2
            clear hHeld2
            have HEq := HEr
            clear HEr
            have HKq := HKr
            clear HKr
            rename World => yq)
          | (
            (with_reducible refine (C5.out _).mono ?_)
            rintro e yn ⟨rfl, hb⟩
            have HEr := Lib.hid (below_then HEq.out hb)
            have HKr := Lib.hid (HKq.out.on hb)
            have hS := hHeld.on hb
            clear hb
            refine hK.out _ _ hS (fun hHeld2 => ?_)
            try simp only [Act.put, List.setIfInBounds_toArray, List.set_cons_zero, List.set_cons_succ]
            clear hS hK K hHeld HEq HKq
            have hHeld := hHeld2
            clear hHeld2
            have HEq := HEr
            clear HEr
            have HKq := HKr
            clear HKr
            rename World => yq)
          | (
            have HEr := Lib.hid (below_then HEq.out (below_alloc1 yq (.cells #[.int .i64 0, .int .i64 0] 23)))
            have HKr := Lib.hid (HKq.out.new 23 #[.int .i64 0, .int .i64 0])
            have hS := hHeld.on (below_alloc1 yq (.cells #[.int .i64 0, .int .i64 0] 23))
            have HDA := Lib.hid (boxes_lt HKq.out)
            have HZA := Lib.hid HEq.out.size
            refine hK.out _ _ hS (fun hHeld2 => ?_)
            try simp only [Act.put, List.setIfInBounds_toArray, List.set_cons_zero, List.set_cons_succ]
            clear hS hK K hHeld HEq HKq
            have hHeld := hHeld2
            clear hHeld2
            have HEq := HEr
            clear HEr
            have HKq := HKr
            clear HKr
            obtain ⟨y2, hW⟩ : ∃ W', yq.alloc (.cells #[.int .i64 0, .int .i64 0] 23) = W' := ⟨_, rfl⟩
            rw [hW] at HEq HKq hHeld ⊢
            clear hW
            obtain ⟨NA, hN⟩ : ∃ N, yq.heap.size = N := ⟨_, rfl⟩
            rw [hN] at HKq HDA HZA ⊢
            clear hN
            rename World => yq)
        refine wpAnyH_ready (rs := [5, 7]) (by kernel_rfl) (by simp) ?_
        refine AllReadyH.cons rfl (fun K hK => ?_) (AllReadyH.cons rfl (fun K hK => ?_) AllReadyH.nil)
        rotate_left 2
        refine wpAnyH_ready (rs := [2]) (by kernel_rfl) (by simp) ?_
        refine AllReadyH.cons rfl (fun K hK => ?_) AllReadyH.nil
        rotate_left 1
        all_goals
          go_simp
          first
          | (
            (with_reducible refine (C6.out _ HEq.out).mono ?_)
            rintro e yn ⟨rfl, hb⟩
            have HEr := Lib.hid (below_then HEq.out hb)
            have HKr := Lib.hid (HKq.out.on hb)
            have hS := hHeld.on hb
            clear hb
            refine hK.out _ _ hS (fun hHeld2 => ?_)
            try simp only [Act.put, List.setIfInBounds_toArray, List.set_cons_zero, List.set_cons_succ]
            clear hS hK K hHeld HEq HKq
            have hHeld := hHeld2
            clear hHeld2
            have HEq := HEr
            clear HEr
            have HKq := HKr
            clear HKr
            rename World => yq)
          | (
            (with_reducible refine (C7.out _ HEq.out).mono ?_)
            rintro e yn ⟨rfl, hb⟩
            have HEr := Lib.hid (below_then HEq.out hb)
            have HKr := Lib.hid (HKq.out.on hb)
            have hS := hHeld.on hb
            clear hb
            refine hK.out _ _ hS (fun hHeld2 => ?_)
            try simp only [Act.put, List.setIfInBounds_toArray, List.set_cons_zero, List.set_cons_succ]
            clear hS hK K hHeld HEq HKq
            have hHeld := hHeld2
            clear hHeld2
            have HEq := HEr
            clear HEr
            have HKq := HKr
            clear HKr
            rename World => yq)
          | (
            (with_reducible refine (C5.out _).mono ?_)
            rintro e yn ⟨rfl, hb⟩
            have HEr := Lib.hid (below_then HEq.out hb)
            have HKr := Lib.hid (HKq.out.on hb)
            have hS := hHeld.on hb
            clear hb
            refine hK.out _ _ hS (fun hHeld2 => ?_)
            try simp only [Act.put, List.setIfInBounds_toArray, List.set_cons_zero, List.set_cons_succ]
            clear hS hK K hHeld HEq HKq
            have hHeld := hHeld2
            clear hHeld2
            have HEq := HEr
            clear HEr
            have HKq := HKr
            clear HKr
            rename World => yq)
          | (
            have HEr := Lib.hid (below_then HEq.out (below_alloc1 yq (.cells #[.int .i64 0, .int .i64 0] 23)))
            have HKr := Lib.hid (HKq.out.new 23 #[.int .i64 0, .int .i64 0])
            have hS := hHeld.on (below_alloc1 yq (.cells #[.int .i64 0, .int .i64 0] 23))
            have HDA := Lib.hid (boxes_lt HKq.out)
            have HZA := Lib.hid HEq.out.size
            refine hK.out _ _ hS (fun hHeld2 => ?_)
            try simp only [Act.put, List.setIfInBounds_toArray, List.set_cons_zero, List.set_cons_succ]
            clear hS hK K hHeld HEq HKq
            have hHeld := hHeld2
            clear hHeld2
            have HEq := HEr
            clear HEr
            have HKq := HKr
            clear HKr
            obtain ⟨y2, hW⟩ : ∃ W', yq.alloc (.cells #[.int .i64 0, .int .i64 0] 23) = W' := ⟨_, rfl⟩
            rw [hW] at HEq HKq hHeld ⊢
            clear hW
            obtain ⟨NA, hN⟩ : ∃ N, yq.heap.size = N := ⟨_, rfl⟩
            rw [hN] at HKq HDA HZA ⊢
            clear hN
            rename World => yq)
        refine wpAnyH_ready (rs := [6, 7]) (by kernel_rfl) (by simp) ?_
        refine AllReadyH.cons rfl (fun K hK => ?_) (AllReadyH.cons rfl (fun K hK => ?_) AllReadyH.nil)
        rotate_left 2
        refine wpAnyH_ready (rs := [5]) (by kernel_rfl) (by simp) ?_
        refine AllReadyH.cons rfl (fun K hK => ?_) AllReadyH.nil
        rotate_left 1
        refine wpAnyH_ready (rs := [5]) (by kernel_rfl) (by simp) ?_
        refine AllReadyH.cons rfl (fun K hK => ?_) AllReadyH.nil
        rotate_left 1
        all_goals
          go_simp
          first
          | (
            (with_reducible refine (C6.out _ HEq.out).mono ?_)
            rintro e yn ⟨rfl, hb⟩
            have HEr := Lib.hid (below_then HEq.out hb)
            have HKr := Lib.hid (HKq.out.on hb)
            have hS := hHeld.on hb
            clear hb
            refine hK.out _ _ hS (fun hHeld2 => ?_)
            try simp only [Act.put, List.setIfInBounds_toArray, List.set_cons_zero, List.set_cons_succ]
            clear hS hK K hHeld HEq HKq
            have hHeld := hHeld2
            clear hHeld2
            have HEq := HEr
            clear HEr
            have HKq := HKr
            clear HKr
            rename World => yq)
          | (
            (with_reducible refine (C7.out _ HEq.out).mono ?_)
            rintro e yn ⟨rfl, hb⟩
            have HEr := Lib.hid (below_then HEq.out hb)
            have HKr := Lib.hid (HKq.out.on hb)
            have hS := hHeld.on hb
            clear hb
            refine hK.out _ _ hS (fun hHeld2 => ?_)
            try simp only [Act.put, List.setIfInBounds_toArray, List.set_cons_zero, List.set_cons_succ]
            clear hS hK K hHeld HEq HKq
            have hHeld := hHeld2
            clear hHeld2
            have HEq := HEr
            clear HEr
            have HKq := HKr
            clear HKr
            rename World => yq)
          | (
            (with_reducible refine (C5.out _).mono ?_)
            rintro e yn ⟨rfl, hb⟩
            have HEr := Lib.hid (below_then HEq.out hb)
            have HKr := Lib.hid (HKq.out.on hb)
            have hS := hHeld.on hb
            clear hb
            refine hK.out _ _ hS (fun hHeld2 => ?_)
            try simp only [Act.put, List.setIfInBounds_toArray, List.set_cons_zero, List.set_cons_succ]
            clear hS hK K hHeld HEq HKq
            have hHeld := hHeld2
            clear hHeld2
            have HEq := HEr
            clear HEr
            have HKq := HKr
            clear HKr
            rename World => yq)
          | (
            have HEr := Lib.hid (below_then HEq.out (below_alloc1 yq (.cells #[.int .i64 0, .int .i64 0] 23)))
            have HKr := Lib.hid (HKq.out.new 23 #[.int .i64 0, .int .i64 0])
            have hS := hHeld.on (below_alloc1 yq (.cells #[.int .i64 0, .int .i64 0] 23))
            have HDA := Lib.hid (boxes_lt HKq.out)
            have HZA := Lib.hid HEq.out.size
            refine hK.out _ _ hS (fun hHeld2 => ?_)
            try simp only [Act.put, List.setIfInBounds_toArray, List.set_cons_zero, List.set_cons_succ]
            clear hS hK K hHeld HEq HKq
            have hHeld := hHeld2
            clear hHeld2
            have HEq := HEr
            clear HEr
            have HKq := HKr
            clear HKr
            obtain ⟨y2, hW⟩ : ∃ W', yq.alloc (.cells #[.int .i64 0, .int .i64 0] 23) = W' := ⟨_, rfl⟩
            rw [hW] at HEq HKq hHeld ⊢
            clear hW
            obtain ⟨NA, hN⟩ : ∃ N, yq.heap.size = N := ⟨_, rfl⟩
            rw [hN] at HKq HDA HZA ⊢
            clear hN
            rename World => yq)
        refine wpAnyH_ready (rs := [7]) (by kernel_rfl) (by simp) ?_
        refine AllReadyH.cons rfl (fun K hK => ?_) AllReadyH.nil
        rotate_left 1
        refine wpAnyH_ready (rs := [6]) (by kernel_rfl) (by simp) ?_
        refine AllReadyH.cons rfl (fun K hK => ?_) AllReadyH.nil
        rotate_left 1
        refine wpAnyH_ready (rs := [6]) (by kernel_rfl) (by simp) ?_
        refine AllReadyH.cons rfl (fun K hK => ?_) AllReadyH.nil
        rotate_left 1
        refine wpAnyH_ready (rs := [6]) (by kernel_rfl) (by simp) ?_
        refine AllReadyH.cons rfl (fun K hK => ?_) AllReadyH.nil
        rotate_left 1
        all_goals
          go_simp
          first
          | (
            (with_reducible refine (C6.out _ HEq.out).mono ?_)
            rintro e yn ⟨rfl, hb⟩
            have HEr := Lib.hid (below_then HEq.out hb)
            have HKr := Lib.hid (HKq.out.on hb)
            have hS := hHeld.on hb
            clear hb
            refine hK.out _ _ hS (fun hHeld2 => ?_)
            try simp only [Act.put, List.setIfInBounds_toArray, List.set_cons_zero, List.set_cons_succ]
            clear hS hK K hHeld HEq HKq
            have hHeld := hHeld2
            clear hHeld2
            have HEq := HEr
            clear HEr
            have HKq := HKr
            clear HKr
            rename World => yq)
          | (
            (with_reducible refine (C7.out _ HEq.out).mono ?_)
            rintro e yn ⟨rfl, hb⟩
            have HEr := Lib.hid (below_then HEq.out hb)
            have HKr := Lib.hid (HKq.out.on hb)
            have hS := hHeld.on hb
            clear hb
            refine hK.out _ _ hS (fun hHeld2 => ?_)
            try simp only [Act.put, List.setIfInBounds_toArray, List.set_cons_zero, List.set_cons_succ]
            clear hS hK K hHeld HEq HKq
            have hHeld := hHeld2
            clear hHeld2
            have HEq := HEr
            clear HEr
            have HKq := HKr
            clear HKr
            rename World => yq)
          | (
            (with_reducible refine (C5.out _).mono ?_)
            rintro e yn ⟨rfl, hb⟩
            have HEr := Lib.hid (below_then HEq.out hb)
            have HKr := Lib.hid (HKq.out.on hb)
            have hS := hHeld.on hb
            clear hb
            refine hK.out _ _ hS (fun hHeld2 => ?_)
            try simp only [Act.put, List.setIfInBounds_toArray, List.set_cons_zero, List.set_cons_succ]
            clear hS hK K hHeld HEq HKq
            have hHeld := hHeld2
            clear hHeld2
            have HEq := HEr
            clear HEr
            have HKq := HKr
            clear HKr
            rename World => yq)
          | (
            have HEr := Lib.hid (below_then HEq.out (below_alloc1 yq (.cells #[.int .i64 0, .int .i64 0] 23)))
            have HKr := Lib.hid (HKq.out.new 23 #[.int .i64 0, .int .i64 0])
            have hS := hHeld.on (below_alloc1 yq (.cells #[.int .i64 0, .int .i64 0] 23))
            have HDA := Lib.hid (boxes_lt HKq.out)
            have HZA := Lib.hid HEq.out.size
            refine hK.out _ _ hS (fun hHeld2 => ?_)
            try simp only [Act.put, List.setIfInBounds_toArray, List.set_cons_zero, List.set_cons_succ]
            clear hS hK K hHeld HEq HKq
            have hHeld := hHeld2
            clear hHeld2
            have HEq := HEr
            clear HEr
            have HKq := HKr
            clear HKr
            obtain ⟨y2, hW⟩ : ∃ W', yq.alloc (.cells #[.int .i64 0, .int .i64 0] 23) = W' := ⟨_, rfl⟩
            rw [hW] at HEq HKq hHeld ⊢
            clear hW
            obtain ⟨NA, hN⟩ : ∃ N, yq.heap.size = N := ⟨_, rfl⟩
            rw [hN] at HKq HDA HZA ⊢
            clear hN
            rename World => yq)
        all_goals
          first
          | (
            refine wpAnyH_ready (rs := [8]) (by kernel_rfl) (by simp) ?_
            refine AllReadyH.cons rfl (fun K hK => ?_) AllReadyH.nil
            rw [if_pos (by kernel_rfl)]
            have ne1 : ∀ zz ∈ (((N, 23, #[.int .i64 ma, .int .i64 mb]) :: [(G + 1 + 1, 47, #[.int .i64 gh, .int .i64 gt, .int .i64 y0, .int .i64 y1, .int .i64 k0, .int .i64 k1]), (G + 1, 47, #[.int .i64 fh, .int .i64 st, .int .i64 x0, .int .i64 x1, .int .i64 d0, .int .i64 d1]), (G, 45, #[.int .i64 id, .int .i64 al, .int .i64 ah, .slice A n c, .slice B mm d, .slice C l ee, .int .i64 t0, .int .i64 t1, .int .i64 u0, .int .i64 u1, .int .i64 v0, .int .i64 v1, .int .i64 h0, .int .i64 h1])] : List (Nat × TypeId × Array Value)) : List (Nat × TypeId × Array Value)), zz.1 ≠ NA := HDA.out
            have HK1 : Hid (Boxes (yq.setRow NA #[.int .i64 (min su sv), .int .i64 (max su' sv')]) ((NA, 23, #[.int .i64 (min su sv), .int .i64 (max su' sv')]) :: ((N, 23, #[.int .i64 ma, .int .i64 mb]) :: [(G + 1 + 1, 47, #[.int .i64 gh, .int .i64 gt, .int .i64 y0, .int .i64 y1, .int .i64 k0, .int .i64 k1]), (G + 1, 47, #[.int .i64 fh, .int .i64 st, .int .i64 x0, .int .i64 x1, .int .i64 d0, .int .i64 d1]), (G, 45, #[.int .i64 id, .int .i64 al, .int .i64 ah, .slice A n c, .slice B mm d, .slice C l ee, .int .i64 t0, .int .i64 t1, .int .i64 u0, .int .i64 u1, .int .i64 v0, .int .i64 v1, .int .i64 h0, .int .i64 h1])] : List (Nat × TypeId × Array Value)))) := Lib.hid (Boxes.row HKq.out (.head _) (fun p hp => ⟨.tail _ hp, ne1 p hp⟩) #[.int .i64 (min su sv), .int .i64 (max su' sv')])
            have HE1 := Lib.hid (below_setRow HEq.out (show w.heap.size ≤ NA from HZA.out) #[.int .i64 (min su sv), .int .i64 (max su' sv')])
            have hS := hHeld.farRow (g := NA) (fun p hp => ne1 p (hp)) #[.int .i64 (min su sv), .int .i64 (max su' sv')]
            refine wp_store_row 23 (.tmp 10) (.tmp 60) rfl NA #[.int .i64 (min su sv), .int .i64 (max su' sv')] rfl rfl 23 _ (HKq.out _ (.head _)) (by kernel_rfl) rfl (by kernel_rfl) ?_
            obtain ⟨y1, hW⟩ : ∃ W', yq.setRow NA #[.int .i64 (min su sv), .int .i64 (max su' sv')] = W' := ⟨_, rfl⟩
            rw [hW] at HE1 HK1 hS ⊢
            refine hK.out _ _ hS (fun hHeld2 => ?_)
            try simp only [Act.put, List.setIfInBounds_toArray, List.set_cons_zero, List.set_cons_succ]
            clear hW hS hK K hHeld ne1 HEq HKq
            have hHeld := hHeld2
            clear hHeld2
            refine wpAnyH_done (by kernel_rfl) ?_ _
            go_wp2_with fail
            go_meet
            exact ⟨NA, rfl, HK1.out, HE1.out⟩)
      case rest =>
        obtain ⟨M, rfl, hB, hE⟩ := hcut
        rename World => W8
        have HE8 := Lib.hid hE
        have HK8 := Lib.hid hB
        clear hB hE HE5 HK5 C5 C6 C7
        have fa := HK8.out _ (.tail _ (.tail _ (.tail _ (.head _))))
        have fa0 := fa.cell 0
        have fa1 := fa.cell 1
        have fa2 := fa.cell 2
        have fa3 := fa.cell 3
        have fa4 := fa.cell 4
        have fa5 := fa.cell 5
        simp at fa0 fa1 fa2 fa3 fa4 fa5
        clear fa
        have ga := HK8.out _ (.tail _ (.tail _ (.head _)))
        have ga0 := ga.cell 0
        have ga1 := ga.cell 1
        have ga2 := ga.cell 2
        have ga3 := ga.cell 3
        have ga4 := ga.cell 4
        have ga5 := ga.cell 5
        simp at ga0 ga1 ga2 ga3 ga4 ga5
        clear ga
        have ia := HK8.out _ (.tail _ (.tail _ (.tail _ (.tail _ (.head _)))))
        have ia0 := ia.cell 0
        simp at ia0
        clear ia
        have wa := HK8.out _ (.head _)
        have wa0 := wa.cell 0
        have wa1 := wa.cell 1
        simp at wa0 wa1
        clear wa
        have za := HK8.out _ (.tail _ (.head _))
        have za0 := za.cell 0
        have za1 := za.cell 1
        simp at za0 za1
        clear za
        go_wp2
        refine bodyPost_ret (v := .tuple #[.slice (some ⟨W8.heap.size, 0, none⟩) 3 3, .int .i64 0]) (by simp [results, Tryz.results32, go_sem]) rfl ⟨_, rfl, .inr ⟨_, _, rfl, by simp, ?_⟩, by simp, ?_⟩
        · intro k r hr
          rcases three_fills hr with ⟨rfl, rfl⟩ | ⟨rfl, rfl⟩ | ⟨rfl, rfl⟩ <;> simp
        · exact below_then HE8.out (below_alloc1 _ _)
end

end Go.Proofs.YtbcefdaflnlhoaaGreat
