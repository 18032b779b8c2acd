/- The contract of meaningOf (hold). Its condition: the state is one. -/
import Derived.Laws.EntriesVeiled
import Derived.Test.YtemlaaipnhmcoaaGreatR19
import Derived.Test.YtemlaaipnhmcoaaGreatR15
import Derived.Test.YtemlaaipnhmcoaaGreatQ98
set_option linter.unusedVariables false
set_option linter.unusedSimpArgs false
set_option linter.constructorNameAsVariable false
namespace Go.Proofs.YtemlaaipnhmcoaaGreat

section
open Go.RowKit

theorem wpList_act {P : Program} {ops : Array Oper} {Q : Exit → Act → World → Prop} {rest : List Oper} {a b : Act} {w : World} (h : a = b) (k : wpList P ops Q rest b w) : wpList P ops Q rest a w := h ▸ k
theorem below_setRow {n : Nat} {w w' : World} {g : Nat} (hb : Below n w w') (hg : n ≤ g) (cs : Array Value) : Below n w (w'.setRow g cs) :=
  ⟨hb.os, hb.tape, hb.output, by simpa [World.setRow] using hb.size, fun i hi => by
    rw [show (w'.setRow g cs).heap[i]? = w'.heap[i]? by
      simp only [World.setRow, Array.getElem?_modify]
      rw [if_neg (by omega)]]
    exact hb.block i hi⟩
abbrev fnV (n : Nat) : Value := .func (.func n) #[] #[]
abbrev emptyM : Array Value := #[fnV 187, fnV 188, fnV 188, fnV 188, fnV 189, .int .i64 0, .int .i64 22, .int .i64 22]
abbrev filledM (n : Nat) : Array Value := #[fnV 190, fnV 191, fnV n, fnV 192, fnV 193, .int .i64 24, .int .i64 0, .int .i64 22]
abbrev partlyM (n : Nat) : Array Value := #[fnV 194, fnV 195, fnV n, fnV 196, fnV 197, .int .i64 0, .int .i64 0, .int .i64 0]
abbrev heldM : Array Value := #[fnV 194, fnV 195, fnV 188, fnV 196, fnV 197, .int .i64 22, .int .i64 22, .int .i64 0]
abbrev allM : Array Value := #[fnV 187, fnV 188, fnV 188, fnV 188, fnV 189, .int .i64 0, .int .i64 22, .int .i64 22, fnV 190, fnV 191, fnV 150, fnV 192, fnV 193, .int .i64 24, .int .i64 0, .int .i64 22, fnV 190, fnV 191, fnV 151, fnV 192, fnV 193, .int .i64 24, .int .i64 0, .int .i64 22, fnV 194, fnV 195, fnV 153, fnV 196, fnV 197, .int .i64 0, .int .i64 0, .int .i64 0, fnV 194, fnV 195, fnV 188, fnV 196, fnV 197, .int .i64 22, .int .i64 22, .int .i64 0, fnV 194, fnV 195, fnV 188, fnV 196, fnV 197, .int .i64 22, .int .i64 22, .int .i64 0]

set_option maxRecDepth 100000 in
set_option maxHeartbeats 2000000 in
theorem hempty_any (w : World) : Calls Tryz.prog 148 #[] w fun e w' => e = .returned (.agg emptyM) ∧ Below w.heap.size w w' := by
 go_enter Tryz.func148, Tryz.ntmps148
 go_wp2
 refine bodyPost_ret (v := .agg emptyM) (by simp [results, Tryz.results148, go_sem]) rfl ⟨rfl, ?_⟩
 repeat (first | exact Below.refl _ _ | refine Below.alloc ?_ (by simp <;> omega) _ | refine Below.setCell ?_ (by simp <;> omega) _)

set_option maxRecDepth 100000 in
set_option maxHeartbeats 2000000 in
theorem filled_any (n : Nat) (w : World) : Calls Tryz.prog 149 #[fnV n] w fun e w' => e = .returned (.agg (filledM n)) ∧ Below w.heap.size w w' := by
 go_enter Tryz.func149, Tryz.ntmps149
 go_wp2
 refine bodyPost_ret (v := .agg (filledM n)) (by simp [results, Tryz.results149, go_sem]) rfl ⟨rfl, ?_⟩
 repeat (first | exact Below.refl _ _ | refine Below.alloc ?_ (by simp <;> omega) _ | refine Below.setCell ?_ (by simp <;> omega) _)

set_option maxRecDepth 100000 in
set_option maxHeartbeats 2000000 in
theorem partly_any (n : Nat) (w : World) : Calls Tryz.prog 152 #[fnV n] w fun e w' => e = .returned (.agg (partlyM n)) ∧ Below w.heap.size w w' := by
 go_enter Tryz.func152, Tryz.ntmps152
 go_wp2
 refine bodyPost_ret (v := .agg (partlyM n)) (by simp [results, Tryz.results152, go_sem]) rfl ⟨rfl, ?_⟩
 repeat (first | exact Below.refl _ _ | refine Below.alloc ?_ (by simp <;> omega) _ | refine Below.setCell ?_ (by simp <;> omega) _)

set_option maxRecDepth 100000 in
set_option maxHeartbeats 4000000 in
theorem held_any (w : World) : Calls Tryz.prog 154 #[] w fun e w' => e = .returned (.agg heldM) ∧ Below w.heap.size w w' := by
 have C : Hid (∀ W, Calls Tryz.prog 152 #[fnV 188] W fun e w' => e = .returned (.agg (partlyM 188)) ∧ Below W.heap.size W w') := Lib.hid fun W => partly_any _ W
 have HE := Lib.hid (below_alloc1 w (.cells #[.nilFunc, .nilFunc, .nilFunc, .nilFunc, .nilFunc, .int .i64 0, .int .i64 0, .int .i64 0] 123))
 have HK := Lib.hid (boxes1' w 123 #[.nilFunc, .nilFunc, .nilFunc, .nilFunc, .nilFunc, .int .i64 0, .int .i64 0, .int .i64 0])
 go_enter Tryz.func154, Tryz.ntmps154
 go_wp2_with fail
 obtain ⟨W0, hW0⟩ : ∃ W0, w.alloc (.cells #[.nilFunc, .nilFunc, .nilFunc, .nilFunc, .nilFunc, .int .i64 0, .int .i64 0, .int .i64 0] 123) = W0 := ⟨_, rfl⟩
 rw [hW0] at HE HK ⊢
 clear hW0
 obtain ⟨G, hG⟩ : ∃ G, w.heap.size = G := ⟨_, rfl⟩
 rw [hG] at HK ⊢
 have HG := Lib.hid hG; clear hG
 refine (C.out _).mono ?_
 rintro e w1 ⟨rfl, hb⟩
 have HE1 := Lib.hid (below_then (below_then HE.out hb) (below_alloc1 w1 (.cells heldM 123)))
 have HKN := Lib.hid ((HK.out.on hb).new 123 heldM)
 clear hb HE HK C
 go_upto_region 3 with fail
 obtain ⟨W2, hW2⟩ : ∃ W2, w1.alloc (.cells heldM 123) = W2 := ⟨_, rfl⟩
 rw [show w1.alloc (.cells #[.func (.func 194) #[] #[], .func (.func 195) #[] #[], .func (.func 188) #[] #[], .func (.func 196) #[] #[], .func (.func 197) #[] #[], .int .i64 22, .int .i64 22, .int .i64 0] 123) = W2 from hW2]
 rw [hW2] at HE1 HKN
 clear hW2
 obtain ⟨N, hN⟩ : ∃ N, w1.heap.size = N := ⟨_, rfl⟩
 rw [hN] at HKN ⊢
 clear hN
 refine wp_region_lit ?_
 refine wpList_load_row rfl 123 (.tmp 1) rfl N rfl 123 heldM (0, 0) _ (HKN.out _ (.head _)) Tryz.underlying123 rfl (by kernel_rfl) ?_
 refine wpList_act (b := { tmps := #[.pointer (some ⟨G, 0, none⟩), .pointer (some ⟨N, 0, none⟩), .agg (partlyM 188), .pointer (some ⟨N, 5, none⟩), .pointer (some ⟨N, 6, none⟩), .agg heldM], defers := [] }) (by kernel_rfl) ?_
 refine wpList_store_row rfl 123 (.tmp 0) (.tmp 5) rfl G heldM rfl rfl 123 _ (HKN.out _ (.tail _ (.head _))) (by kernel_rfl) rfl (by kernel_rfl) ?_
 have HKR : Hid (Blk (W2.setRow G heldM) G 123 heldM) := Lib.hid (setRow_heap W2 G _ _ 123 _ (HKN.out _ (.tail _ (.head _))))
 have HE6 := Lib.hid (below_setRow HE1.out (show w.heap.size ≤ G by have := HG.out; omega) heldM)
 obtain ⟨W6, hW6⟩ : ∃ W6, W2.setRow G heldM = W6 := ⟨_, rfl⟩
 rw [hW6] at HKR HE6 ⊢
 clear hW6 HKN HE1
 go_wp2
 exact bodyPost_ret (v := .agg heldM) (results_cell_row Tryz.results154 _ _ G 123 heldM (0, 0) _ rfl HKR.out Tryz.underlying123 rfl (by kernel_rfl)) rfl ⟨rfl, HE6.out⟩

set_option maxRecDepth 100000 in
set_option maxHeartbeats 8000000 in
theorem meanings_any (w : World) : Calls Tryz.prog 107 #[] w fun e w' => e = .returned (.agg allM) ∧ Below w.heap.size w w' := by
 have HE := Lib.hid (below_alloc1 w (.cells #[.nilFunc, .nilFunc, .nilFunc, .nilFunc, .nilFunc, .int .i64 0, .int .i64 0, .int .i64 0, .nilFunc, .nilFunc, .nilFunc, .nilFunc, .nilFunc, .int .i64 0, .int .i64 0, .int .i64 0, .nilFunc, .nilFunc, .nilFunc, .nilFunc, .nilFunc, .int .i64 0, .int .i64 0, .int .i64 0, .nilFunc, .nilFunc, .nilFunc, .nilFunc, .nilFunc, .int .i64 0, .int .i64 0, .int .i64 0, .nilFunc, .nilFunc, .nilFunc, .nilFunc, .nilFunc, .int .i64 0, .int .i64 0, .int .i64 0, .nilFunc, .nilFunc, .nilFunc, .nilFunc, .nilFunc, .int .i64 0, .int .i64 0, .int .i64 0] 141))
 have HK := Lib.hid (boxes1' w 141 #[.nilFunc, .nilFunc, .nilFunc, .nilFunc, .nilFunc, .int .i64 0, .int .i64 0, .int .i64 0, .nilFunc, .nilFunc, .nilFunc, .nilFunc, .nilFunc, .int .i64 0, .int .i64 0, .int .i64 0, .nilFunc, .nilFunc, .nilFunc, .nilFunc, .nilFunc, .int .i64 0, .int .i64 0, .int .i64 0, .nilFunc, .nilFunc, .nilFunc, .nilFunc, .nilFunc, .int .i64 0, .int .i64 0, .int .i64 0, .nilFunc, .nilFunc, .nilFunc, .nilFunc, .nilFunc, .int .i64 0, .int .i64 0, .int .i64 0, .nilFunc, .nilFunc, .nilFunc, .nilFunc, .nilFunc, .int .i64 0, .int .i64 0, .int .i64 0])
 go_enter Tryz.func107, Tryz.ntmps107
 go_wp2_with fail
 obtain ⟨W0, hW0⟩ : ∃ W0, w.alloc (.cells #[.nilFunc, .nilFunc, .nilFunc, .nilFunc, .nilFunc, .int .i64 0, .int .i64 0, .int .i64 0, .nilFunc, .nilFunc, .nilFunc, .nilFunc, .nilFunc, .int .i64 0, .int .i64 0, .int .i64 0, .nilFunc, .nilFunc, .nilFunc, .nilFunc, .nilFunc, .int .i64 0, .int .i64 0, .int .i64 0, .nilFunc, .nilFunc, .nilFunc, .nilFunc, .nilFunc, .int .i64 0, .int .i64 0, .int .i64 0, .nilFunc, .nilFunc, .nilFunc, .nilFunc, .nilFunc, .int .i64 0, .int .i64 0, .int .i64 0, .nilFunc, .nilFunc, .nilFunc, .nilFunc, .nilFunc, .int .i64 0, .int .i64 0, .int .i64 0] 141) = W0 := ⟨_, rfl⟩
 rw [hW0] at HE HK ⊢
 clear hW0
 obtain ⟨G, hG⟩ : ∃ G, w.heap.size = G := ⟨_, rfl⟩
 rw [hG] at HK ⊢
 have HG := Lib.hid hG; clear hG
 refine (hempty_any _).mono ?_
 rintro e y0 ⟨rfl, hb⟩
 have HE0 := Lib.hid (below_then HE.out hb); have HK0 := Lib.hid (HK.out.on hb)
 clear hb HE HK
 go_wp2_with fail
 refine (filled_any _ _).mono ?_
 rintro e y1 ⟨rfl, hb⟩
 have HE1 := Lib.hid (below_then HE0.out hb); have HK1 := Lib.hid (HK0.out.on hb)
 clear hb HE0 HK0
 go_wp2_with fail
 refine (filled_any _ _).mono ?_
 rintro e y2 ⟨rfl, hb⟩
 have HE2 := Lib.hid (below_then HE1.out hb); have HK2 := Lib.hid (HK1.out.on hb)
 clear hb HE1 HK1
 go_wp2_with fail
 refine (partly_any _ _).mono ?_
 rintro e y3 ⟨rfl, hb⟩
 have HE3 := Lib.hid (below_then HE2.out hb); have HK3 := Lib.hid (HK2.out.on hb)
 clear hb HE2 HK2
 go_wp2_with fail
 refine (held_any _).mono ?_
 rintro e y4 ⟨rfl, hb⟩
 have HE4 := Lib.hid (below_then HE3.out hb); have HK4 := Lib.hid (HK3.out.on hb)
 clear hb HE3 HK3
 go_wp2_with fail
 refine (held_any _).mono ?_
 rintro e y5 ⟨rfl, hb⟩
 have HE5 := Lib.hid (below_then HE4.out hb); have HK5 := Lib.hid (HK4.out.on hb)
 clear hb HE4 HK4
 rename_i hK
 refine hK _ _ ?_
 refine wpList_build rfl 141 _ rfl (by kernel_rfl) ?_
 have HROW := Lib.hid (show y5.heap[G]? = some (.cells _ 141 (0, 0)) from HK5.out _ (.head _))
 refine wpList_act (b := { tmps := #[.pointer (some ⟨G, 0, none⟩), .agg emptyM, .agg (filledM 150), .agg (filledM 151), .agg (partlyM 153), .agg heldM, .agg heldM, .agg allM], defers := [] }) (by kernel_rfl) ?_
 refine wpList_store_row rfl 141 (.tmp 0) (.tmp 7) rfl G allM rfl rfl 141 _ HROW.out (by kernel_rfl) rfl (by kernel_rfl) ?_
 have HKR : Hid (Blk (y5.setRow G allM) G 141 allM) := Lib.hid (setRow_heap y5 G _ _ 141 _ HROW.out)
 have HE6 := Lib.hid (below_setRow HE5.out (show w.heap.size ≤ G by have := HG.out; omega) allM)
 obtain ⟨W6, hW6⟩ : ∃ W6, y5.setRow G allM = W6 := ⟨_, rfl⟩
 rw [hW6] at HKR HE6 ⊢
 clear hW6 HROW HK5 HE5 hK
 go_wp2
 exact bodyPost_ret (v := .agg allM) (results_cell_row Tryz.results107 _ _ G 141 allM (0, 0) _ rfl HKR.out Tryz.underlying141 rfl (by kernel_rfl)) rfl ⟨rfl, HE6.out⟩
end

section
open Go.RowKit

theorem Blk.farRow {w : World} {g g' : Nat} {t : TypeId} {cs : Array Value} (h : Blk w g t cs) (hg : g ≠ g') (cs' : Array Value) : Blk (w.setRow g' cs') g t cs := by
  unfold Blk at h ⊢
  simp only [World.setRow, Array.getElem?_modify]
  rw [if_neg (fun e => hg e.symm)]; exact h
def mM (st : Int) : Array Value := if st = 0 then emptyM else if st = 1 then filledM 150 else if st = 2 then filledM 151 else if st = 3 then partlyM 153 else heldM
theorem st_cases {st : Int} (h0 : 0 ≤ st) (h5 : st ≤ 5) : st = 0 ∨ st = 1 ∨ st = 2 ∨ st = 3 ∨ st = 4 ∨ st = 5 := by omega
theorem idxM {st : Int} (h0 : 0 ≤ st) (h5 : st ≤ 5) (w : World) : (Instr.index 141 (.agg allM) (.int .i64 st)).run Tryz.prog w = .ok (.agg (mM st)) w := by
  rcases st_cases h0 h5 with rfl | rfl | rfl | rfl | rfl | rfl <;> kernel_rfl
theorem mM_size {st : Int} (h0 : 0 ≤ st) (h5 : st ≤ 5) : (Tryz.prog.info? 123).map (·.size) = some (mM st).size ∧ Array.size (#[.nilFunc, .nilFunc, .nilFunc, .nilFunc, .nilFunc, .int .i64 0, .int .i64 0, .int .i64 0] : Array Value) = (mM st).size ∧ (mM st).all (·.oneCell') = true := by
  rcases st_cases h0 h5 with rfl | rfl | rfl | rfl | rfl | rfl <;> exact ⟨by kernel_rfl, by kernel_rfl, by kernel_rfl⟩

set_option maxRecDepth 100000 in
set_option maxHeartbeats 4000000 in
theorem meaningOf_any (fh st x0 x1 d0 d1 : Int) (w : World) (h0 : 0 ≤ st) (h5 : st ≤ 5) :
  Calls Tryz.prog 75 #[.agg #[.int .i64 fh, .int .i64 st, .int .i64 x0, .int .i64 x1, .int .i64 d0, .int .i64 d1]] w fun e w' => e = .returned (.agg (mM st)) ∧ Below w.heap.size w w' := by
 have HE := Lib.hid (show Below w.heap.size w ((w.alloc (.cells #[.int .i64 fh, .int .i64 st, .int .i64 x0, .int .i64 x1, .int .i64 d0, .int .i64 d1] 55)).alloc (.cells #[.nilFunc, .nilFunc, .nilFunc, .nilFunc, .nilFunc, .int .i64 0, .int .i64 0, .int .i64 0] 123)) from below_a2 (Below.refl _ _))
 have HK := Lib.hid (boxes2' w 55 123 #[.int .i64 fh, .int .i64 st, .int .i64 x0, .int .i64 x1, .int .i64 d0, .int .i64 d1] #[.nilFunc, .nilFunc, .nilFunc, .nilFunc, .nilFunc, .int .i64 0, .int .i64 0, .int .i64 0])
 have I : ∀ w, (Instr.index 141 (.agg allM) (.int .i64 st)).run Tryz.prog w = .ok (.agg (mM st)) w := idxM h0 h5
 obtain ⟨s1, s2, s3⟩ := mM_size h0 h5
 have HS := Lib.hid (And.intro s1 (And.intro s2 s3))
 clear s1 s2 s3 h0 h5
 generalize mM st = M at *
 go_enter Tryz.func75, Tryz.ntmps75
 go_wp2_with fail
 obtain ⟨W0, hW0⟩ : ∃ W0, ((w.alloc (.cells #[.int .i64 fh, .int .i64 st, .int .i64 x0, .int .i64 x1, .int .i64 d0, .int .i64 d1] 55)).alloc (.cells #[.nilFunc, .nilFunc, .nilFunc, .nilFunc, .nilFunc, .int .i64 0, .int .i64 0, .int .i64 0] 123)) = W0 := ⟨_, rfl⟩
 rw [hW0] at HE HK ⊢
 clear hW0
 obtain ⟨G, hG⟩ : ∃ G, w.heap.size = G := ⟨_, rfl⟩
 rw [hG] at HK ⊢
 have HG := Lib.hid hG; clear hG
 have q := HK.out _ (.tail _ (.head _))
 have q1 := q.cell 1
 simp at q1
 clear q
 refine wp_region_held_drew (S := fun w' => w'.cell? ⟨G, 1, none⟩ = some (.int .i64 st)) (by kernel_rfl) q1 (fun hHeld => ?_)
 refine tK 4 (i := 1) (v := .pointer (some ⟨G, 1, none⟩)) rfl rfl (by kernel_rfl) ?_ hHeld ?_
 ·intro w hSw; go_simp; try with_reducible rfl
 simp only [uZ, uS]
 refine tK 5 (i := 2) (v := .int .i64 st) rfl rfl (by kernel_rfl) ?_ hHeld ?_
 ·intro w hSw; (try dsimp only at hSw); go_simp; try with_reducible rfl
 simp only [uZ, uS]
 refine wpAnyH_ready (rs := [0]) (by kernel_rfl) (by simp) ?_
 refine AllReadyH.cons rfl (fun K hK => ?_) AllReadyH.nil
 go_simp
 (with_reducible refine (meanings_any _).mono ?_)
 rintro e v1 ⟨rfl, hb⟩
 have hb := below_d hb
 have HE1 := Lib.hid (below_then HE.out hb); have HK1 := Lib.hid (HK.out.on hb)
 clear hb HE HK
 refine hK.out _ _ ((HK1.out _ (.tail _ (.head _))).cell 1) (fun hHeld2 => ?_)
 try simp only [Act.put, uA, uZ, uS]
 clear hK K hHeld
 have hHeld := hHeld2
 clear hHeld2
 refine tK 6 (i := 3) (v := .agg M) rfl rfl (by kernel_rfl) ?_ hHeld ?_
 ·intro w hSw; (try dsimp only at hSw); go_simp; try with_reducible rfl
 simp only [uZ, uS]
 refine wpAnyH_ready (rs := [4]) (by kernel_rfl) (by simp) ?_
 refine AllReadyH.cons rfl (fun K hK => ?_) AllReadyH.nil
 rw [if_pos (by kernel_rfl)]
 have HKR : Hid (Blk (v1.setRow (G + 1) M) (G + 1) 123 M) := Lib.hid (setRow_heap v1 (G + 1) _ _ 123 _ (HK1.out _ (.head _)))
 have c1 := ((HK1.out _ (.tail _ (.head _))).farRow (show G ≠ G + 1 by omega) M).cell 1
 have HE6 := Lib.hid (below_setRow HE1.out (show w.heap.size ≤ G + 1 by have := HG.out; omega) M)
 refine wp_store_row 123 (.tmp 2) (.tmp 6) rfl (G + 1) M rfl rfl 123 _ (HK1.out _ (.head _)) HS.out.1 HS.out.2.1 HS.out.2.2 ?_
 obtain ⟨W6, hW6⟩ : ∃ W6, v1.setRow (G + 1) M = W6 := ⟨_, rfl⟩
 rw [hW6] at HKR HE6 c1 ⊢
 refine hK.out _ _ c1 (fun hHeld2 => ?_)
 clear hW6 HK1 HE1 hK K hHeld hHeld2 c1
 refine wpAnyH_done (by kernel_rfl) ?_ _
 go_wp2
 exact bodyPost_ret (v := .agg M) (results_cell_row Tryz.results75 _ _ (G + 1) 123 M (0, 0) _ rfl HKR.out Tryz.underlying123 rfl HS.out.1) rfl ⟨rfl, HE6.out⟩
end

end Go.Proofs.YtemlaaipnhmcoaaGreat
