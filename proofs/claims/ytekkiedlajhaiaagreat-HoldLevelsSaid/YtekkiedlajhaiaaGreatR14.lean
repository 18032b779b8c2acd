/- The exact area between a line over points and 0, as a numerator over the product of the widths: pure numbers. -/
import Derived.Laws.EntriesVeiled
import Derived.Test.YtekkiedlajhaiaaGreatR13
import Derived.Test.YtekkiedlajhaiaaGreatR09
import Derived.Test.YtekkiedlajhaiaaGreatR06
import Derived.Test.YtekkiedlajhaiaaGreatQ98
set_option linter.unusedVariables false
set_option linter.unusedSimpArgs false
set_option linter.constructorNameAsVariable false
namespace Go.Proofs.YtekkiedlajhaiaaGreat

section
open Go.RowKit

theorem wpList_act {P : Program} {ops : Array Oper} {Q : Exit → Act → World → Prop} {rest : List Oper} {a b : Act} {w : World} (h : a = b) (k : wpList P ops Q rest b w) : wpList P ops Q rest a w := h ▸ k
theorem below_setRow {n : Nat} {w w' : World} {g : Nat} (hb : Below n w w') (hg : n ≤ g) (cs : Array Value) : Below n w (w'.setRow g cs) :=
  ⟨hb.os, hb.tape, hb.output, by simpa [World.setRow] using hb.size, fun i hi => by
    rw [show (w'.setRow g cs).heap[i]? = w'.heap[i]? by
      simp only [World.setRow, Array.getElem?_modify]
      rw [if_neg (by omega)]]
    exact hb.block i hi⟩
abbrev fnV (n : Nat) : Value := .func (.func n) #[] #[]
abbrev emptyM : Array Value := #[fnV 175, fnV 176, fnV 176, fnV 176, fnV 177, .int .i64 0, .int .i64 22, .int .i64 22]
abbrev filledM (n : Nat) : Array Value := #[fnV 178, fnV 179, fnV n, fnV 180, fnV 181, .int .i64 24, .int .i64 0, .int .i64 22]
abbrev partlyM (n : Nat) : Array Value := #[fnV 182, fnV 183, fnV n, fnV 184, fnV 185, .int .i64 0, .int .i64 0, .int .i64 0]
abbrev heldM : Array Value := #[fnV 182, fnV 183, fnV 176, fnV 184, fnV 185, .int .i64 22, .int .i64 22, .int .i64 0]
abbrev allM : Array Value := #[fnV 175, fnV 176, fnV 176, fnV 176, fnV 177, .int .i64 0, .int .i64 22, .int .i64 22, fnV 178, fnV 179, fnV 137, fnV 180, fnV 181, .int .i64 24, .int .i64 0, .int .i64 22, fnV 178, fnV 179, fnV 138, fnV 180, fnV 181, .int .i64 24, .int .i64 0, .int .i64 22, fnV 182, fnV 183, fnV 140, fnV 184, fnV 185, .int .i64 0, .int .i64 0, .int .i64 0, fnV 182, fnV 183, fnV 176, fnV 184, fnV 185, .int .i64 22, .int .i64 22, .int .i64 0, fnV 182, fnV 183, fnV 176, fnV 184, fnV 185, .int .i64 22, .int .i64 22, .int .i64 0]

set_option maxRecDepth 100000 in
set_option maxHeartbeats 2000000 in
theorem hempty_any (w : World) : Calls Tryz.prog 135 #[] w fun e w' => e = .returned (.agg emptyM) ∧ Below w.heap.size w w' := by
 go_enter Tryz.func135, Tryz.ntmps135
 go_wp2
 refine bodyPost_ret (v := .agg emptyM) (by simp [results, Tryz.results135, go_sem]) rfl ⟨rfl, ?_⟩
 repeat (first | exact Below.refl _ _ | refine Below.alloc ?_ (by simp <;> omega) _ | refine Below.setCell ?_ (by simp <;> omega) _)

set_option maxRecDepth 100000 in
set_option maxHeartbeats 2000000 in
theorem filled_any (n : Nat) (w : World) : Calls Tryz.prog 136 #[fnV n] w fun e w' => e = .returned (.agg (filledM n)) ∧ Below w.heap.size w w' := by
 go_enter Tryz.func136, Tryz.ntmps136
 go_wp2
 refine bodyPost_ret (v := .agg (filledM n)) (by simp [results, Tryz.results136, go_sem]) rfl ⟨rfl, ?_⟩
 repeat (first | exact Below.refl _ _ | refine Below.alloc ?_ (by simp <;> omega) _ | refine Below.setCell ?_ (by simp <;> omega) _)

set_option maxRecDepth 100000 in
set_option maxHeartbeats 2000000 in
theorem partly_any (n : Nat) (w : World) : Calls Tryz.prog 139 #[fnV n] w fun e w' => e = .returned (.agg (partlyM n)) ∧ Below w.heap.size w w' := by
 go_enter Tryz.func139, Tryz.ntmps139
 go_wp2
 refine bodyPost_ret (v := .agg (partlyM n)) (by simp [results, Tryz.results139, go_sem]) rfl ⟨rfl, ?_⟩
 repeat (first | exact Below.refl _ _ | refine Below.alloc ?_ (by simp <;> omega) _ | refine Below.setCell ?_ (by simp <;> omega) _)

set_option maxRecDepth 100000 in
set_option maxHeartbeats 4000000 in
theorem held_any (w : World) : Calls Tryz.prog 141 #[] w fun e w' => e = .returned (.agg heldM) ∧ Below w.heap.size w w' := by
 have C : Hid (∀ W, Calls Tryz.prog 139 #[fnV 176] W fun e w' => e = .returned (.agg (partlyM 176)) ∧ Below W.heap.size W w') := Lib.hid fun W => partly_any _ W
 have HE := Lib.hid (below_alloc1 w (.cells #[.nilFunc, .nilFunc, .nilFunc, .nilFunc, .nilFunc, .int .i64 0, .int .i64 0, .int .i64 0] 101))
 have HK := Lib.hid (boxes1' w 101 #[.nilFunc, .nilFunc, .nilFunc, .nilFunc, .nilFunc, .int .i64 0, .int .i64 0, .int .i64 0])
 go_enter Tryz.func141, Tryz.ntmps141
 go_wp2_with fail
 obtain ⟨W0, hW0⟩ : ∃ W0, w.alloc (.cells #[.nilFunc, .nilFunc, .nilFunc, .nilFunc, .nilFunc, .int .i64 0, .int .i64 0, .int .i64 0] 101) = W0 := ⟨_, rfl⟩
 rw [hW0] at HE HK ⊢
 clear hW0
 obtain ⟨G, hG⟩ : ∃ G, w.heap.size = G := ⟨_, rfl⟩
 rw [hG] at HK ⊢
 have HG := Lib.hid hG; clear hG
 refine (C.out _).mono ?_
 rintro e w1 ⟨rfl, hb⟩
 have HE1 := Lib.hid (below_then (below_then HE.out hb) (below_alloc1 w1 (.cells heldM 101)))
 have HKN := Lib.hid ((HK.out.on hb).new 101 heldM)
 clear hb HE HK C
 go_upto_region 3 with fail
 obtain ⟨W2, hW2⟩ : ∃ W2, w1.alloc (.cells heldM 101) = W2 := ⟨_, rfl⟩
 rw [show w1.alloc (.cells #[.func (.func 182) #[] #[], .func (.func 183) #[] #[], .func (.func 176) #[] #[], .func (.func 184) #[] #[], .func (.func 185) #[] #[], .int .i64 22, .int .i64 22, .int .i64 0] 101) = W2 from hW2]
 rw [hW2] at HE1 HKN
 clear hW2
 obtain ⟨N, hN⟩ : ∃ N, w1.heap.size = N := ⟨_, rfl⟩
 rw [hN] at HKN ⊢
 clear hN
 refine wp_region_lit ?_
 refine wpList_load_row rfl 101 (.tmp 1) rfl N rfl 101 heldM (0, 0) _ (HKN.out _ (.head _)) Tryz.underlying101 rfl (by kernel_rfl) ?_
 refine wpList_act (b := { tmps := #[.pointer (some ⟨G, 0, none⟩), .pointer (some ⟨N, 0, none⟩), .agg (partlyM 176), .pointer (some ⟨N, 5, none⟩), .pointer (some ⟨N, 6, none⟩), .agg heldM], defers := [] }) (by kernel_rfl) ?_
 refine wpList_store_row rfl 101 (.tmp 0) (.tmp 5) rfl G heldM rfl rfl 101 _ (HKN.out _ (.tail _ (.head _))) (by kernel_rfl) rfl (by kernel_rfl) ?_
 have HKR : Hid (Blk (W2.setRow G heldM) G 101 heldM) := Lib.hid (setRow_heap W2 G _ _ 101 _ (HKN.out _ (.tail _ (.head _))))
 have HE6 := Lib.hid (below_setRow HE1.out (show w.heap.size ≤ G by have := HG.out; omega) heldM)
 obtain ⟨W6, hW6⟩ : ∃ W6, W2.setRow G heldM = W6 := ⟨_, rfl⟩
 rw [hW6] at HKR HE6 ⊢
 clear hW6 HKN HE1
 go_wp2
 exact bodyPost_ret (v := .agg heldM) (results_cell_row Tryz.results141 _ _ G 101 heldM (0, 0) _ rfl HKR.out Tryz.underlying101 rfl (by kernel_rfl)) rfl ⟨rfl, HE6.out⟩

set_option maxRecDepth 100000 in
set_option maxHeartbeats 8000000 in
theorem meanings_any (w : World) : Calls Tryz.prog 93 #[] w fun e w' => e = .returned (.agg allM) ∧ Below w.heap.size w w' := by
 have HE := Lib.hid (below_alloc1 w (.cells #[.nilFunc, .nilFunc, .nilFunc, .nilFunc, .nilFunc, .int .i64 0, .int .i64 0, .int .i64 0, .nilFunc, .nilFunc, .nilFunc, .nilFunc, .nilFunc, .int .i64 0, .int .i64 0, .int .i64 0, .nilFunc, .nilFunc, .nilFunc, .nilFunc, .nilFunc, .int .i64 0, .int .i64 0, .int .i64 0, .nilFunc, .nilFunc, .nilFunc, .nilFunc, .nilFunc, .int .i64 0, .int .i64 0, .int .i64 0, .nilFunc, .nilFunc, .nilFunc, .nilFunc, .nilFunc, .int .i64 0, .int .i64 0, .int .i64 0, .nilFunc, .nilFunc, .nilFunc, .nilFunc, .nilFunc, .int .i64 0, .int .i64 0, .int .i64 0] 129))
 have HK := Lib.hid (boxes1' w 129 #[.nilFunc, .nilFunc, .nilFunc, .nilFunc, .nilFunc, .int .i64 0, .int .i64 0, .int .i64 0, .nilFunc, .nilFunc, .nilFunc, .nilFunc, .nilFunc, .int .i64 0, .int .i64 0, .int .i64 0, .nilFunc, .nilFunc, .nilFunc, .nilFunc, .nilFunc, .int .i64 0, .int .i64 0, .int .i64 0, .nilFunc, .nilFunc, .nilFunc, .nilFunc, .nilFunc, .int .i64 0, .int .i64 0, .int .i64 0, .nilFunc, .nilFunc, .nilFunc, .nilFunc, .nilFunc, .int .i64 0, .int .i64 0, .int .i64 0, .nilFunc, .nilFunc, .nilFunc, .nilFunc, .nilFunc, .int .i64 0, .int .i64 0, .int .i64 0])
 go_enter Tryz.func93, Tryz.ntmps93
 go_wp2_with fail
 obtain ⟨W0, hW0⟩ : ∃ W0, w.alloc (.cells #[.nilFunc, .nilFunc, .nilFunc, .nilFunc, .nilFunc, .int .i64 0, .int .i64 0, .int .i64 0, .nilFunc, .nilFunc, .nilFunc, .nilFunc, .nilFunc, .int .i64 0, .int .i64 0, .int .i64 0, .nilFunc, .nilFunc, .nilFunc, .nilFunc, .nilFunc, .int .i64 0, .int .i64 0, .int .i64 0, .nilFunc, .nilFunc, .nilFunc, .nilFunc, .nilFunc, .int .i64 0, .int .i64 0, .int .i64 0, .nilFunc, .nilFunc, .nilFunc, .nilFunc, .nilFunc, .int .i64 0, .int .i64 0, .int .i64 0, .nilFunc, .nilFunc, .nilFunc, .nilFunc, .nilFunc, .int .i64 0, .int .i64 0, .int .i64 0] 129) = W0 := ⟨_, rfl⟩
 rw [hW0] at HE HK ⊢
 clear hW0
 obtain ⟨G, hG⟩ : ∃ G, w.heap.size = G := ⟨_, rfl⟩
 rw [hG] at HK ⊢
 have HG := Lib.hid hG; clear hG
 refine (hempty_any _).mono ?_
 rintro e y0 ⟨rfl, hb⟩
 have HE0 := Lib.hid (below_then HE.out hb); have HK0 := Lib.hid (HK.out.on hb)
 clear hb HE HK
 go_wp2_with fail
 refine (filled_any _ _).mono ?_
 rintro e y1 ⟨rfl, hb⟩
 have HE1 := Lib.hid (below_then HE0.out hb); have HK1 := Lib.hid (HK0.out.on hb)
 clear hb HE0 HK0
 go_wp2_with fail
 refine (filled_any _ _).mono ?_
 rintro e y2 ⟨rfl, hb⟩
 have HE2 := Lib.hid (below_then HE1.out hb); have HK2 := Lib.hid (HK1.out.on hb)
 clear hb HE1 HK1
 go_wp2_with fail
 refine (partly_any _ _).mono ?_
 rintro e y3 ⟨rfl, hb⟩
 have HE3 := Lib.hid (below_then HE2.out hb); have HK3 := Lib.hid (HK2.out.on hb)
 clear hb HE2 HK2
 go_wp2_with fail
 refine (held_any _).mono ?_
 rintro e y4 ⟨rfl, hb⟩
 have HE4 := Lib.hid (below_then HE3.out hb); have HK4 := Lib.hid (HK3.out.on hb)
 clear hb HE3 HK3
 go_wp2_with fail
 refine (held_any _).mono ?_
 rintro e y5 ⟨rfl, hb⟩
 have HE5 := Lib.hid (below_then HE4.out hb); have HK5 := Lib.hid (HK4.out.on hb)
 clear hb HE4 HK4
 rename_i hK
 refine hK _ _ ?_
 refine wpList_build rfl 129 _ rfl (by kernel_rfl) ?_
 have HROW := Lib.hid (show y5.heap[G]? = some (.cells _ 129 (0, 0)) from HK5.out _ (.head _))
 refine wpList_act (b := { tmps := #[.pointer (some ⟨G, 0, none⟩), .agg emptyM, .agg (filledM 137), .agg (filledM 138), .agg (partlyM 140), .agg heldM, .agg heldM, .agg allM], defers := [] }) (by kernel_rfl) ?_
 refine wpList_store_row rfl 129 (.tmp 0) (.tmp 7) rfl G allM rfl rfl 129 _ HROW.out (by kernel_rfl) rfl (by kernel_rfl) ?_
 have HKR : Hid (Blk (y5.setRow G allM) G 129 allM) := Lib.hid (setRow_heap y5 G _ _ 129 _ HROW.out)
 have HE6 := Lib.hid (below_setRow HE5.out (show w.heap.size ≤ G by have := HG.out; omega) allM)
 obtain ⟨W6, hW6⟩ : ∃ W6, y5.setRow G allM = W6 := ⟨_, rfl⟩
 rw [hW6] at HKR HE6 ⊢
 clear hW6 HROW HK5 HE5 hK
 go_wp2
 exact bodyPost_ret (v := .agg allM) (results_cell_row Tryz.results93 _ _ G 129 allM (0, 0) _ rfl HKR.out Tryz.underlying129 rfl (by kernel_rfl)) rfl ⟨rfl, HE6.out⟩
end

section
open Go.RowKit

theorem Blk.farRow {w : World} {g g' : Nat} {t : TypeId} {cs : Array Value} (h : Blk w g t cs) (hg : g ≠ g') (cs' : Array Value) : Blk (w.setRow g' cs') g t cs := by
  unfold Blk at h ⊢
  simp only [World.setRow, Array.getElem?_modify]
  rw [if_neg (fun e => hg e.symm)]; exact h
def mM (st : Int) : Array Value := if st = 0 then emptyM else if st = 1 then filledM 137 else if st = 2 then filledM 138 else if st = 3 then partlyM 140 else heldM
theorem st_cases {st : Int} (h0 : 0 ≤ st) (h5 : st ≤ 5) : st = 0 ∨ st = 1 ∨ st = 2 ∨ st = 3 ∨ st = 4 ∨ st = 5 := by omega
theorem idxM {st : Int} (h0 : 0 ≤ st) (h5 : st ≤ 5) (w : World) : (Instr.index 129 (.agg allM) (.int .i64 st)).run Tryz.prog w = .ok (.agg (mM st)) w := by
  rcases st_cases h0 h5 with rfl | rfl | rfl | rfl | rfl | rfl <;> kernel_rfl
theorem mM_size {st : Int} (h0 : 0 ≤ st) (h5 : st ≤ 5) : (Tryz.prog.info? 101).map (·.size) = some (mM st).size ∧ Array.size (#[.nilFunc, .nilFunc, .nilFunc, .nilFunc, .nilFunc, .int .i64 0, .int .i64 0, .int .i64 0] : Array Value) = (mM st).size ∧ (mM st).all (·.oneCell') = true := by
  rcases st_cases h0 h5 with rfl | rfl | rfl | rfl | rfl | rfl <;> exact ⟨by kernel_rfl, by kernel_rfl, by kernel_rfl⟩

set_option maxRecDepth 100000 in
set_option maxHeartbeats 4000000 in
theorem meaningOf_any (fh st x0 x1 d0 d1 : Int) (w : World) (h0 : 0 ≤ st) (h5 : st ≤ 5) :
  Calls Tryz.prog 57 #[.agg #[.int .i64 fh, .int .i64 st, .int .i64 x0, .int .i64 x1, .int .i64 d0, .int .i64 d1]] w fun e w' => e = .returned (.agg (mM st)) ∧ Below w.heap.size w w' := by
 have HE := Lib.hid (show Below w.heap.size w ((w.alloc (.cells #[.int .i64 fh, .int .i64 st, .int .i64 x0, .int .i64 x1, .int .i64 d0, .int .i64 d1] 53)).alloc (.cells #[.nilFunc, .nilFunc, .nilFunc, .nilFunc, .nilFunc, .int .i64 0, .int .i64 0, .int .i64 0] 101)) from below_a2 (Below.refl _ _))
 have HK := Lib.hid (boxes2' w 53 101 #[.int .i64 fh, .int .i64 st, .int .i64 x0, .int .i64 x1, .int .i64 d0, .int .i64 d1] #[.nilFunc, .nilFunc, .nilFunc, .nilFunc, .nilFunc, .int .i64 0, .int .i64 0, .int .i64 0])
 have I : ∀ w, (Instr.index 129 (.agg allM) (.int .i64 st)).run Tryz.prog w = .ok (.agg (mM st)) w := idxM h0 h5
 obtain ⟨s1, s2, s3⟩ := mM_size h0 h5
 have HS := Lib.hid (And.intro s1 (And.intro s2 s3))
 clear s1 s2 s3 h0 h5
 generalize mM st = M at *
 go_enter Tryz.func57, Tryz.ntmps57
 go_wp2_with fail
 obtain ⟨W0, hW0⟩ : ∃ W0, ((w.alloc (.cells #[.int .i64 fh, .int .i64 st, .int .i64 x0, .int .i64 x1, .int .i64 d0, .int .i64 d1] 53)).alloc (.cells #[.nilFunc, .nilFunc, .nilFunc, .nilFunc, .nilFunc, .int .i64 0, .int .i64 0, .int .i64 0] 101)) = W0 := ⟨_, rfl⟩
 rw [hW0] at HE HK ⊢
 clear hW0
 obtain ⟨G, hG⟩ : ∃ G, w.heap.size = G := ⟨_, rfl⟩
 rw [hG] at HK ⊢
 have HG := Lib.hid hG; clear hG
 have q := HK.out _ (.tail _ (.head _))
 have q1 := q.cell 1
 simp at q1
 clear q
 refine wp_region_held_drew (S := fun w' => w'.cell? ⟨G, 1, none⟩ = some (.int .i64 st)) (by kernel_rfl) q1 (fun hHeld => ?_)
 refine tK 4 (i := 1) (v := .pointer (some ⟨G, 1, none⟩)) rfl rfl (by kernel_rfl) ?_ hHeld ?_
 ·intro w hSw; go_simp; try with_reducible rfl
 simp only [uZ, uS]
 refine tK 5 (i := 2) (v := .int .i64 st) rfl rfl (by kernel_rfl) ?_ hHeld ?_
 ·intro w hSw; (try dsimp only at hSw); go_simp; try with_reducible rfl
 simp only [uZ, uS]
 refine wpAnyH_ready (rs := [0]) (by kernel_rfl) (by simp) ?_
 refine AllReadyH.cons rfl (fun K hK => ?_) AllReadyH.nil
 go_simp
 (with_reducible refine (meanings_any _).mono ?_)
 rintro e v1 ⟨rfl, hb⟩
 have hb := below_d hb
 have HE1 := Lib.hid (below_then HE.out hb); have HK1 := Lib.hid (HK.out.on hb)
 clear hb HE HK
 refine hK.out _ _ ((HK1.out _ (.tail _ (.head _))).cell 1) (fun hHeld2 => ?_)
 try simp only [Act.put, uA, uZ, uS]
 clear hK K hHeld
 have hHeld := hHeld2
 clear hHeld2
 refine tK 6 (i := 3) (v := .agg M) rfl rfl (by kernel_rfl) ?_ hHeld ?_
 ·intro w hSw; (try dsimp only at hSw); go_simp; try with_reducible rfl
 simp only [uZ, uS]
 refine wpAnyH_ready (rs := [4]) (by kernel_rfl) (by simp) ?_
 refine AllReadyH.cons rfl (fun K hK => ?_) AllReadyH.nil
 rw [if_pos (by kernel_rfl)]
 have HKR : Hid (Blk (v1.setRow (G + 1) M) (G + 1) 101 M) := Lib.hid (setRow_heap v1 (G + 1) _ _ 101 _ (HK1.out _ (.head _)))
 have c1 := ((HK1.out _ (.tail _ (.head _))).farRow (show G ≠ G + 1 by omega) M).cell 1
 have HE6 := Lib.hid (below_setRow HE1.out (show w.heap.size ≤ G + 1 by have := HG.out; omega) M)
 refine wp_store_row 101 (.tmp 2) (.tmp 6) rfl (G + 1) M rfl rfl 101 _ (HK1.out _ (.head _)) HS.out.1 HS.out.2.1 HS.out.2.2 ?_
 obtain ⟨W6, hW6⟩ : ∃ W6, v1.setRow (G + 1) M = W6 := ⟨_, rfl⟩
 rw [hW6] at HKR HE6 c1 ⊢
 refine hK.out _ _ c1 (fun hHeld2 => ?_)
 clear hW6 HK1 HE1 hK K hHeld hHeld2 c1
 refine wpAnyH_done (by kernel_rfl) ?_ _
 go_wp2
 exact bodyPost_ret (v := .agg M) (results_cell_row Tryz.results57 _ _ (G + 1) 101 M (0, 0) _ rfl HKR.out Tryz.underlying101 rfl HS.out.1) rfl ⟨rfl, HE6.out⟩
end

section
open Go.RowKit

abbrev inv1Fn (Bt Ba Bv : Nat) : Value := .func (.func 169) #[] #[.pointer (some ⟨Bt, 0, none⟩), .pointer (some ⟨Ba, 0, none⟩), .pointer (some ⟨Bv, 0, none⟩)]
def Ask1 (Bt Ba Bv : Nat) (f : Int → Bool) (lo hi : Int) (w : World) : Prop := ∀ (W : World) (x : Int) (t : Bool), Below w.heap.size w W → lo ≤ x → x ≤ hi → f x = t →
  Calls Tryz.prog 169 #[.int .i64 x, .pointer (some ⟨Bt, 0, none⟩), .pointer (some ⟨Ba, 0, none⟩), .pointer (some ⟨Bv, 0, none⟩)] W fun e w' => e = .returned (.bool t) ∧ Below W.heap.size W w'
theorem Ask1.below {Bt Ba Bv : Nat} {f : Int → Bool} {lo hi : Int} {w w' : World} (h : Ask1 Bt Ba Bv f lo hi w) (hb : Below w.heap.size w w') : Ask1 Bt Ba Bv f lo hi w' := fun W x t hW => h W x t (below_then hb hW)
def Turn1 (Bs Bl Bt Ba Bv : Nat) (f : Int → Bool) (lo hi : Int) (w : World) : Prop := Blk w Bs 55 #[inv1Fn Bt Ba Bv] ∧ Blk w Bl 3 #[.int .i64 lo] ∧ Ask1 Bt Ba Bv f lo hi w
theorem Turn1.below {Bs Bl Bt Ba Bv : Nat} {f : Int → Bool} {lo hi : Int} {w w' : World} (h : Turn1 Bs Bl Bt Ba Bv f lo hi w) (hb : Below w.heap.size w w') : Turn1 Bs Bl Bt Ba Bv f lo hi w' := ⟨blkOn h.1 hb, blkOn h.2.1 hb, h.2.2.below hb⟩
set_option maxRecDepth 100000 in
set_option maxHeartbeats 1000000 in
theorem turn1_to (Bs Bl Bt Ba Bv : Nat) (f : Int → Bool) (lo hi i : Int) (t : Bool) (w : World) (h : Turn1 Bs Bl Bt Ba Bv f lo hi w) (h0 : 0 ≤ lo) (h1 : hi ≤ 1000000) (hi1 : 0 ≤ i) (hi2 : lo + i ≤ hi) (ht : f (lo + i) = t) :
  Calls Tryz.prog 194 #[.int .i64 i, .pointer (some ⟨Bs, 0, none⟩), .pointer (some ⟨Bl, 0, none⟩)] w fun e w' => e = .returned (.bool t) ∧ Below w.heap.size w w' := by
 have a0 := h.1.cell 0
 have a1 := h.2.1.cell 0
 have l0 := h.1.lt
 have l1 := h.2.1.lt
 simp at a0 a1
 have w1 : IntKind.i64.wrap (lo + i) = lo + i := IntWalk.i64_in _ ⟨by omega, by omega⟩
 have HC : Hid (∀ W, Below w.heap.size w W → Calls Tryz.prog 169 #[.int .i64 (lo + i), .pointer (some ⟨Bt, 0, none⟩), .pointer (some ⟨Ba, 0, none⟩), .pointer (some ⟨Bv, 0, none⟩)] W fun e w' => e = .returned (.bool t) ∧ Below W.heap.size W w') := Lib.hid fun W hW => h.2.2 W (lo + i) t hW (by omega) hi2 ht
 clear h ht
 go_enter Tryz.func194, Tryz.ntmps194
 go_wp2_with fail
 refine (HC.out _ (Below.refl _ _)).mono ?_
 rintro e w1 ⟨rfl, hb⟩
 have HB := Lib.hid hb; clear hb HC
 go_wp2
 go_ret
 exact ⟨rfl, HB.out⟩
abbrev turn1Fn (Bs Bl : Nat) : Value := .func (.func 194) #[] #[.pointer (some ⟨Bs, 0, none⟩), .pointer (some ⟨Bl, 0, none⟩)]
set_option maxRecDepth 100000 in
set_option maxHeartbeats 2000000 in
theorem search1 (Bs Bl Bt Ba Bv : Nat) (f : Int → Bool) (lo hi : Int) (n : Nat) (w : World) (h : Turn1 Bs Bl Bt Ba Bv f lo hi w) (h0 : 0 ≤ lo) (h1 : hi ≤ 1000000) (hn : lo + n ≤ hi + 1) :
  Calls Tryz.prog 150 #[.int .i64 n, turn1Fn Bs Bl] w fun e w' => e = .returned (.int .i64 (bs (fun i => f (lo + i)) n 0 n)) ∧ Below w.heap.size w w' := by
 generalize hR : bs (fun i => f (lo + i)) n 0 n = R
 have HR := Lib.hid hR; clear hR
 have HT := Lib.hid h; clear h
 go_enter Tryz.func150, Tryz.ntmps150
 go_wp2_with fail
 go_loopw [5, 6] (fun vi vj wr => ∃ (i j k : Nat), i ≤ j ∧ j ≤ n ∧ j - i ≤ k ∧ vi = .int .i64 i ∧ vj = .int .i64 j ∧ Below w.heap.size w wr ∧ Hid (bs (fun i => f (lo + i)) k i j = R)) (fun vi vj _ => (intOf vj).toNat - (intOf vi).toNat)
 case atStart => exact ⟨0, n, n, by omega, by omega, by omega, rfl, rfl, Below.refl _ _, HR.out⟩
 case round =>
  obtain ⟨i, j, k, hij, hjn, hk, rfl, rfl, hB, HP⟩ := hrel
  by_cases hlt : i < j
  ·have hlt' : (i : Int) < (j : Int) := by omega
   obtain ⟨k', rfl⟩ : ∃ k', k = k' + 1 := ⟨k - 1, by omega⟩
   obtain ⟨m, hm⟩ : ∃ m : Nat, (i + j) / 2 = m := ⟨_, rfl⟩
   have hmi : ((i : Int) + (j : Int)) / 2 = (m : Int) := by omega
   have m1 : i ≤ m := by omega
   have m2 : m < j := by omega
   have HM := Lib.hid hmi; clear hmi hm
   cases ht : f (lo + m)
   ·have hnext : bs (fun i => f (lo + i)) k' ((m : Int) + 1) j = R := by
     rw [← HP.out, bs_no _ _ _ _ hlt' (by rw [HM.out]; exact ht), HM.out]
    have HNX := Lib.hid hnext; clear hnext HP HR
    have HTT := Lib.hid ht; clear ht
    go_wp2_with fail
    rw [HM.out]
    refine (turn1_to Bs Bl Bt Ba Bv f lo hi m _ wr (HT.out.below hB) h0 h1 (by omega) (by omega) HTT.out).mono ?_
    rintro e w1 ⟨rfl, hb1⟩
    have hB1 := below_then hB hb1
    go_wp2
    go_roundw
    case rel => exact ⟨m + 1, j, k', by omega, by omega, by omega, by rw [Int.natCast_add]; rfl, rfl, hB1, by rw [Int.natCast_add]; exact HNX.out⟩
    case measure => simp [intOf]; omega
   ·have hnext : bs (fun i => f (lo + i)) k' (i : Int) m = R := by
     rw [← HP.out, bs_yes _ _ _ _ hlt' (by rw [HM.out]; exact ht), HM.out]
    have HNX := Lib.hid hnext; clear hnext HP HR
    have HTT := Lib.hid ht; clear ht
    go_wp2_with fail
    rw [HM.out]
    refine (turn1_to Bs Bl Bt Ba Bv f lo hi m _ wr (HT.out.below hB) h0 h1 (by omega) (by omega) HTT.out).mono ?_
    rintro e w1 ⟨rfl, hb1⟩
    have hB1 := below_then hB hb1
    go_wp2
    go_roundw
    case rel => exact ⟨i, m, k', by omega, by omega, by omega, rfl, rfl, hB1, HNX.out⟩
    case measure => simp [intOf]; omega
  ·have hf : R = (i : Int) := by rw [← HP.out]; exact bs_done _ _ _ _ (by omega)
   subst hf
   clear HP HR
   go_wp2
   go_ret
   exact ⟨rfl, hB⟩

theorem first1_to (Bt Ba Bv : Nat) (f : Int → Bool) (lo hi R : Int) (w : World) (hA : Ask1 Bt Ba Bv f lo hi w) (h0 : 0 ≤ lo) (h01 : lo ≤ hi) (h1 : hi ≤ 1000000) (hR : lo + bs (fun i => f (lo + i)) (hi - lo + 1).toNat 0 (hi - lo + 1) = R) :
  Calls Tryz.prog 168 #[.int .i64 lo, .int .i64 hi, inv1Fn Bt Ba Bv] w fun e w' => e = .returned (.int .i64 R) ∧ Below w.heap.size w w' := by
 have hbr := bs_range (fun i => f (lo + i)) (hi - lo + 1).toNat 0 (hi - lo + 1) (by omega)
 obtain ⟨n, hn⟩ : ∃ n : Nat, hi - lo + 1 = n := ⟨(hi - lo + 1).toNat, by omega⟩
 have e1 : (hi - lo + 1).toNat = n := by omega
 rw [e1, hn] at hR hbr
 have w1 : IntKind.i64.wrap (hi - lo) = hi - lo := IntWalk.i64_in _ ⟨by omega, by omega⟩
 have w2 : IntKind.i64.wrap (hi - lo + 1) = (n : Int) := by rw [IntWalk.i64_in _ ⟨by omega, by omega⟩]; exact hn
 have w3 : IntKind.i64.wrap (lo + bs (fun i => f (lo + i)) n 0 n) = R := by rw [IntWalk.i64_in _ ⟨by omega, by omega⟩]; exact hR
 have CS : Hid (∀ W Bs Bl, Turn1 Bs Bl Bt Ba Bv f lo hi W → Calls Tryz.prog 150 #[.int .i64 n, turn1Fn Bs Bl] W fun e w' => e = .returned (.int .i64 (bs (fun i => f (lo + i)) n 0 n)) ∧ Below W.heap.size W w') := Lib.hid fun W Bs Bl hT => search1 Bs Bl Bt Ba Bv f lo hi n W hT h0 h1 (by omega)
 generalize bs (fun i => f (lo + i)) n 0 n = r at *
 have HA := Lib.hid hA
 clear hA hR e1 hn
 have HE := Lib.hid (show Below w.heap.size w ((w.alloc (.cells #[.int .i64 lo] 3)).alloc (.cells #[inv1Fn Bt Ba Bv] 55)) from below_a2 (Below.refl _ _))
 have HK := Lib.hid (boxes2' w 3 55 #[.int .i64 lo] #[inv1Fn Bt Ba Bv])
 go_enter Tryz.func168, Tryz.ntmps168
 go_wp2_with fail
 obtain ⟨W0, hW0⟩ : ∃ W0, ((w.alloc (.cells #[.int .i64 lo] 3)).alloc (.cells #[inv1Fn Bt Ba Bv] 55)) = W0 := ⟨_, rfl⟩
 rw [hW0] at HE HK ⊢
 clear hW0
 obtain ⟨G, hG⟩ : ∃ G, w.heap.size = G := ⟨_, rfl⟩
 rw [hG] at HK ⊢
 clear hG
 have HT := Lib.hid (show Turn1 (G + 1) G Bt Ba Bv f lo hi W0.drew from Turn1.below ⟨HK.out _ (.head _), HK.out _ (.tail _ (.head _)), HA.out.below HE.out⟩ (below_drew1 _))
 have q0 := HT.out.2.1.cell 0
 have hd : G < W0.drew.heap.size := HT.out.2.1.lt
 simp at q0
 have HE1 := Lib.hid HE.out.drew
 clear HA HE HK
 go_region_held3 (fun w' => w'.cell? ⟨G, 0, none⟩ = some (.int .i64 lo))
  (first | (go_keep; done) | exact ((bcell hb1).1 _ _ hd).trans ‹_›)
  (first | (go_at_call 150; refine (CS.out _ _ _ HT.out).mono ?_; rintro e w1 ⟨rfl, hb1⟩))
 have HE2 := Lib.hid (below_then HE1.out hb1)
 clear hb1 HT hd q0
 go_wp2
 go_ret
 exact ⟨rfl, HE2.out⟩

abbrev inv2Fn (Bt Ba Bv : Nat) : Value := .func (.func 170) #[] #[.pointer (some ⟨Bt, 0, none⟩), .pointer (some ⟨Ba, 0, none⟩), .pointer (some ⟨Bv, 0, none⟩)]
def Ask2 (Bt Ba Bv : Nat) (f : Int → Bool) (lo hi : Int) (w : World) : Prop := ∀ (W : World) (x : Int) (t : Bool), Below w.heap.size w W → lo ≤ x → x ≤ hi → f x = t →
  Calls Tryz.prog 170 #[.int .i64 x, .pointer (some ⟨Bt, 0, none⟩), .pointer (some ⟨Ba, 0, none⟩), .pointer (some ⟨Bv, 0, none⟩)] W fun e w' => e = .returned (.bool t) ∧ Below W.heap.size W w'
theorem Ask2.below {Bt Ba Bv : Nat} {f : Int → Bool} {lo hi : Int} {w w' : World} (h : Ask2 Bt Ba Bv f lo hi w) (hb : Below w.heap.size w w') : Ask2 Bt Ba Bv f lo hi w' := fun W x t hW => h W x t (below_then hb hW)
def Turn2 (Bs Bl Bt Ba Bv : Nat) (f : Int → Bool) (lo hi : Int) (w : World) : Prop := Blk w Bs 55 #[inv2Fn Bt Ba Bv] ∧ Blk w Bl 3 #[.int .i64 lo] ∧ Ask2 Bt Ba Bv f lo hi w
theorem Turn2.below {Bs Bl Bt Ba Bv : Nat} {f : Int → Bool} {lo hi : Int} {w w' : World} (h : Turn2 Bs Bl Bt Ba Bv f lo hi w) (hb : Below w.heap.size w w') : Turn2 Bs Bl Bt Ba Bv f lo hi w' := ⟨blkOn h.1 hb, blkOn h.2.1 hb, h.2.2.below hb⟩
set_option maxRecDepth 100000 in
set_option maxHeartbeats 1000000 in
theorem turn2_to (Bs Bl Bt Ba Bv : Nat) (f : Int → Bool) (lo hi i : Int) (t : Bool) (w : World) (h : Turn2 Bs Bl Bt Ba Bv f lo hi w) (h0 : 0 ≤ lo) (h1 : hi ≤ 1000000) (hi1 : 0 ≤ i) (hi2 : lo + i ≤ hi) (ht : f (lo + i) = t) :
  Calls Tryz.prog 194 #[.int .i64 i, .pointer (some ⟨Bs, 0, none⟩), .pointer (some ⟨Bl, 0, none⟩)] w fun e w' => e = .returned (.bool t) ∧ Below w.heap.size w w' := by
 have a0 := h.1.cell 0
 have a1 := h.2.1.cell 0
 have l0 := h.1.lt
 have l1 := h.2.1.lt
 simp at a0 a1
 have w1 : IntKind.i64.wrap (lo + i) = lo + i := IntWalk.i64_in _ ⟨by omega, by omega⟩
 have HC : Hid (∀ W, Below w.heap.size w W → Calls Tryz.prog 170 #[.int .i64 (lo + i), .pointer (some ⟨Bt, 0, none⟩), .pointer (some ⟨Ba, 0, none⟩), .pointer (some ⟨Bv, 0, none⟩)] W fun e w' => e = .returned (.bool t) ∧ Below W.heap.size W w') := Lib.hid fun W hW => h.2.2 W (lo + i) t hW (by omega) hi2 ht
 clear h ht
 go_enter Tryz.func194, Tryz.ntmps194
 go_wp2_with fail
 refine (HC.out _ (Below.refl _ _)).mono ?_
 rintro e w1 ⟨rfl, hb⟩
 have HB := Lib.hid hb; clear hb HC
 go_wp2
 go_ret
 exact ⟨rfl, HB.out⟩
abbrev turn2Fn (Bs Bl : Nat) : Value := .func (.func 194) #[] #[.pointer (some ⟨Bs, 0, none⟩), .pointer (some ⟨Bl, 0, none⟩)]
set_option maxRecDepth 100000 in
set_option maxHeartbeats 2000000 in
theorem search2 (Bs Bl Bt Ba Bv : Nat) (f : Int → Bool) (lo hi : Int) (n : Nat) (w : World) (h : Turn2 Bs Bl Bt Ba Bv f lo hi w) (h0 : 0 ≤ lo) (h1 : hi ≤ 1000000) (hn : lo + n ≤ hi + 1) :
  Calls Tryz.prog 150 #[.int .i64 n, turn2Fn Bs Bl] w fun e w' => e = .returned (.int .i64 (bs (fun i => f (lo + i)) n 0 n)) ∧ Below w.heap.size w w' := by
 generalize hR : bs (fun i => f (lo + i)) n 0 n = R
 have HR := Lib.hid hR; clear hR
 have HT := Lib.hid h; clear h
 go_enter Tryz.func150, Tryz.ntmps150
 go_wp2_with fail
 go_loopw [5, 6] (fun vi vj wr => ∃ (i j k : Nat), i ≤ j ∧ j ≤ n ∧ j - i ≤ k ∧ vi = .int .i64 i ∧ vj = .int .i64 j ∧ Below w.heap.size w wr ∧ Hid (bs (fun i => f (lo + i)) k i j = R)) (fun vi vj _ => (intOf vj).toNat - (intOf vi).toNat)
 case atStart => exact ⟨0, n, n, by omega, by omega, by omega, rfl, rfl, Below.refl _ _, HR.out⟩
 case round =>
  obtain ⟨i, j, k, hij, hjn, hk, rfl, rfl, hB, HP⟩ := hrel
  by_cases hlt : i < j
  ·have hlt' : (i : Int) < (j : Int) := by omega
   obtain ⟨k', rfl⟩ : ∃ k', k = k' + 1 := ⟨k - 1, by omega⟩
   obtain ⟨m, hm⟩ : ∃ m : Nat, (i + j) / 2 = m := ⟨_, rfl⟩
   have hmi : ((i : Int) + (j : Int)) / 2 = (m : Int) := by omega
   have m1 : i ≤ m := by omega
   have m2 : m < j := by omega
   have HM := Lib.hid hmi; clear hmi hm
   cases ht : f (lo + m)
   ·have hnext : bs (fun i => f (lo + i)) k' ((m : Int) + 1) j = R := by
     rw [← HP.out, bs_no _ _ _ _ hlt' (by rw [HM.out]; exact ht), HM.out]
    have HNX := Lib.hid hnext; clear hnext HP HR
    have HTT := Lib.hid ht; clear ht
    go_wp2_with fail
    rw [HM.out]
    refine (turn2_to Bs Bl Bt Ba Bv f lo hi m _ wr (HT.out.below hB) h0 h1 (by omega) (by omega) HTT.out).mono ?_
    rintro e w1 ⟨rfl, hb1⟩
    have hB1 := below_then hB hb1
    go_wp2
    go_roundw
    case rel => exact ⟨m + 1, j, k', by omega, by omega, by omega, by rw [Int.natCast_add]; rfl, rfl, hB1, by rw [Int.natCast_add]; exact HNX.out⟩
    case measure => simp [intOf]; omega
   ·have hnext : bs (fun i => f (lo + i)) k' (i : Int) m = R := by
     rw [← HP.out, bs_yes _ _ _ _ hlt' (by rw [HM.out]; exact ht), HM.out]
    have HNX := Lib.hid hnext; clear hnext HP HR
    have HTT := Lib.hid ht; clear ht
    go_wp2_with fail
    rw [HM.out]
    refine (turn2_to Bs Bl Bt Ba Bv f lo hi m _ wr (HT.out.below hB) h0 h1 (by omega) (by omega) HTT.out).mono ?_
    rintro e w1 ⟨rfl, hb1⟩
    have hB1 := below_then hB hb1
    go_wp2
    go_roundw
    case rel => exact ⟨i, m, k', by omega, by omega, by omega, rfl, rfl, hB1, HNX.out⟩
    case measure => simp [intOf]; omega
  ·have hf : R = (i : Int) := by rw [← HP.out]; exact bs_done _ _ _ _ (by omega)
   subst hf
   clear HP HR
   go_wp2
   go_ret
   exact ⟨rfl, hB⟩

theorem first2_to (Bt Ba Bv : Nat) (f : Int → Bool) (lo hi R : Int) (w : World) (hA : Ask2 Bt Ba Bv f lo hi w) (h0 : 0 ≤ lo) (h01 : lo ≤ hi) (h1 : hi ≤ 1000000) (hR : lo + bs (fun i => f (lo + i)) (hi - lo + 1).toNat 0 (hi - lo + 1) = R) :
  Calls Tryz.prog 168 #[.int .i64 lo, .int .i64 hi, inv2Fn Bt Ba Bv] w fun e w' => e = .returned (.int .i64 R) ∧ Below w.heap.size w w' := by
 have hbr := bs_range (fun i => f (lo + i)) (hi - lo + 1).toNat 0 (hi - lo + 1) (by omega)
 obtain ⟨n, hn⟩ : ∃ n : Nat, hi - lo + 1 = n := ⟨(hi - lo + 1).toNat, by omega⟩
 have e1 : (hi - lo + 1).toNat = n := by omega
 rw [e1, hn] at hR hbr
 have w1 : IntKind.i64.wrap (hi - lo) = hi - lo := IntWalk.i64_in _ ⟨by omega, by omega⟩
 have w2 : IntKind.i64.wrap (hi - lo + 1) = (n : Int) := by rw [IntWalk.i64_in _ ⟨by omega, by omega⟩]; exact hn
 have w3 : IntKind.i64.wrap (lo + bs (fun i => f (lo + i)) n 0 n) = R := by rw [IntWalk.i64_in _ ⟨by omega, by omega⟩]; exact hR
 have CS : Hid (∀ W Bs Bl, Turn2 Bs Bl Bt Ba Bv f lo hi W → Calls Tryz.prog 150 #[.int .i64 n, turn2Fn Bs Bl] W fun e w' => e = .returned (.int .i64 (bs (fun i => f (lo + i)) n 0 n)) ∧ Below W.heap.size W w') := Lib.hid fun W Bs Bl hT => search2 Bs Bl Bt Ba Bv f lo hi n W hT h0 h1 (by omega)
 generalize bs (fun i => f (lo + i)) n 0 n = r at *
 have HA := Lib.hid hA
 clear hA hR e1 hn
 have HE := Lib.hid (show Below w.heap.size w ((w.alloc (.cells #[.int .i64 lo] 3)).alloc (.cells #[inv2Fn Bt Ba Bv] 55)) from below_a2 (Below.refl _ _))
 have HK := Lib.hid (boxes2' w 3 55 #[.int .i64 lo] #[inv2Fn Bt Ba Bv])
 go_enter Tryz.func168, Tryz.ntmps168
 go_wp2_with fail
 obtain ⟨W0, hW0⟩ : ∃ W0, ((w.alloc (.cells #[.int .i64 lo] 3)).alloc (.cells #[inv2Fn Bt Ba Bv] 55)) = W0 := ⟨_, rfl⟩
 rw [hW0] at HE HK ⊢
 clear hW0
 obtain ⟨G, hG⟩ : ∃ G, w.heap.size = G := ⟨_, rfl⟩
 rw [hG] at HK ⊢
 clear hG
 have HT := Lib.hid (show Turn2 (G + 1) G Bt Ba Bv f lo hi W0.drew from Turn2.below ⟨HK.out _ (.head _), HK.out _ (.tail _ (.head _)), HA.out.below HE.out⟩ (below_drew1 _))
 have q0 := HT.out.2.1.cell 0
 have hd : G < W0.drew.heap.size := HT.out.2.1.lt
 simp at q0
 have HE1 := Lib.hid HE.out.drew
 clear HA HE HK
 go_region_held3 (fun w' => w'.cell? ⟨G, 0, none⟩ = some (.int .i64 lo))
  (first | (go_keep; done) | exact ((bcell hb1).1 _ _ hd).trans ‹_›)
  (first | (go_at_call 150; refine (CS.out _ _ _ HT.out).mono ?_; rintro e w1 ⟨rfl, hb1⟩))
 have HE2 := Lib.hid (below_then HE1.out hb1)
 clear hb1 HT hd q0
 go_wp2
 go_ret
 exact ⟨rfl, HE2.out⟩
end

section
open Go.RowKit

def AskedA (w : World) (Bp Br : Nat) (p q : P3) (lv : Int) : Prop := Blk w Bp 138 (pCells p q) ∧ Blk w Br 3 #[.int .i64 lv] ∧ Okp p ∧ Okp q
theorem AskedA.below {w w' : World} {Bp Br : Nat} {p q : P3} {lv : Int} (h : AskedA w Bp Br p q lv) (hB : Below w.heap.size w w') : AskedA w' Bp Br p q lv :=
  ⟨h.1.below hB h.1.lt, h.2.1.below hB h.2.1.lt, h.2.2⟩
theorem AskedA.drew {w : World} {Bp Br : Nat} {p q : P3} {lv : Int} (h : AskedA w Bp Br p q lv) : AskedA w.drew Bp Br p q lv := h
def SixOne (Bp Br : Nat) (p q : P3) (lv : Int) (w : World) : Prop :=
  w.cell? ⟨Bp, 0, none⟩ = some (.int .i64 p.1) ∧ w.cell? ⟨Bp, 1, none⟩ = some (.int .i64 p.2.1) ∧ w.cell? ⟨Bp, 2, none⟩ = some (.int .i64 p.2.2) ∧ w.cell? ⟨Bp, 3, none⟩ = some (.int .i64 q.1) ∧ w.cell? ⟨Bp, 4, none⟩ = some (.int .i64 q.2.1) ∧ w.cell? ⟨Bp, 5, none⟩ = some (.int .i64 q.2.2) ∧ w.cell? ⟨Br, 0, none⟩ = some (.int .i64 lv)
theorem SixOne.of {Bp Br : Nat} {p q : P3} {lv : Int} {w : World} (h : Blk w Bp 138 (pCells p q)) (h' : Blk w Br 3 #[.int .i64 lv]) : SixOne Bp Br p q lv w :=
  ⟨h.cell 0, h.cell 1, h.cell 2, h.cell 3, h.cell 4, h.cell 5, h'.cell 0⟩
theorem SixOne.below {Bp Br : Nat} {p q : P3} {lv : Int} {w w' : World} (h : SixOne Bp Br p q lv w) (hB : Below w.heap.size w w') (h1 : Bp < w.heap.size) (h2 : Br < w.heap.size) : SixOne Bp Br p q lv w' := by
  have k := (bcell hB).1
  obtain ⟨a0, a1, a2, a3, a4, a5, b0⟩ := h
  exact ⟨(k _ _ h1).trans a0, (k _ _ h1).trans a1, (k _ _ h1).trans a2, (k _ _ h1).trans a3, (k _ _ h1).trans a4, (k _ _ h1).trans a5, (k _ _ h2).trans b0⟩

section
open Go.Shelf
attribute [local go_sem] Oper.semAt_some
end
end

section
theorem floor_same {A d N D : Int} (hd : 1 ≤ d) (hD : 1 ≤ D) (h : A * D = N * d) : A / d = N / D := by
  rw [← Int.mul_ediv_mul_of_pos_left A d (show 0 < D by omega), h, Int.mul_comm d D, Int.mul_ediv_mul_of_pos_left _ _ (by omega)]

def Summed (s : Int × Int × Int) (N D : Int) : Prop := 1 ≤ D ∧ 1 ≤ s.2.2 ∧ s.2.2 ≤ 1000000000000 ∧ 0 ≤ s.2.1 ∧ s.2.1 ≤ 2000000000000 ∧ -3000000000000000 ≤ s.1 ∧ s.1 ≤ 3000000000000000 ∧ (s.1 * s.2.2 + s.2.1) * D = N * s.2.2
theorem Summed.floor {s : Int × Int × Int} {N D : Int} (h : Summed s N D) : s.1 + s.2.1 / s.2.2 = N / D ∧ 0 ≤ s.2.1 / s.2.2 ∧ s.2.1 / s.2.2 ≤ 2000000000000 := by
  obtain ⟨hD, hd, hdm, hn, hn2, w1, w2, e⟩ := h
  refine ⟨?_, Int.ediv_nonneg hn (by omega), ?_⟩
  · rw [← floor_same hd hD e, Int.add_comm (s.1 * s.2.2), Int.add_mul_ediv_right _ _ (by omega), Int.add_comm]
  · have := Int.ediv_le_self s.2.2 hn
    omega
end

end Go.Proofs.YtekkiedlajhaiaaGreat
