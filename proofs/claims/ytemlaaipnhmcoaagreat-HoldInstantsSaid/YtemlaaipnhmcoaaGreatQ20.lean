/- HoldInstants: whatever numbers come in, the law returns true and leaves its arguments as they were. No conditions. -/
import Derived.Test.YtemlaaipnhmcoaaGreatR11
import Derived.Test.YtemlaaipnhmcoaaGreatR13
import Derived.Test.YtemlaaipnhmcoaaGreatR12
import Derived.Deep.QuietTactic
import Derived.BigQuiet
import Derived.Test.YtemlaaipnhmcoaaGreatR14
import Derived.Test.YtemlaaipnhmcoaaGreatR51
import Derived.Test.YtemlaaipnhmcoaaGreatR44
import Derived.Test.YtemlaaipnhmcoaaGreatR53
import Derived.Test.YtemlaaipnhmcoaaGreatR39
import Derived.Test.YtemlaaipnhmcoaaGreatR47
import Derived.Test.YtemlaaipnhmcoaaGreatR43
import Derived.Test.YtemlaaipnhmcoaaGreatQ98
set_option linter.unusedVariables false
set_option linter.unusedSimpArgs false
set_option linter.constructorNameAsVariable false
namespace Go.Proofs.YtemlaaipnhmcoaaGreat

section
open Go.RowKit

set_option maxHeartbeats 1000000 in
theorem sFilled_to (n : Int) (t : Bool) (w : World) (h : decide (1 ≤ n ∧ n ≤ 2) = t) :
  Calls Tryz.prog 82 #[.int .i64 n] w fun e w' => e = .returned (.bool t) ∧ Below w.heap.size w w' := by
 have C : Hid (∀ W, Calls Tryz.prog 85 #[.int .i64 n, .int .i64 1, .int .i64 2] W fun e w' => e = .returned (.bool t) ∧ Below W.heap.size W w') := Lib.hid fun W => between_to n 1 2 t W h
 clear h
 go_enter Tryz.func82, Tryz.ntmps82
 go_wp2_with fail
 refine (C.out _).mono ?_
 rintro e w1 ⟨rfl, hb⟩
 have HB := Lib.hid hb; clear hb
 go_wp2
 go_ret
 exact ⟨rfl, HB.out⟩
end

section
open Go.RowKit

def BB3 (w0 : World) (L : List (Nat × TypeId × Array Value)) (P : World → Prop) (w : World) : Prop := Boxes w L ∧ Below w0.heap.size w0 w ∧ P w
theorem BB3.be2 {w0 w : World} {L : List (Nat × TypeId × Array Value)} {P : World → Prop} (h : BB3 w0 L P w) : Below w0.heap.size w0 w := h.2.1
def LFill (b : Nat) (L : List FillD) (w : World) : Prop := FillsMem w b L ∧ b < w.heap.size
theorem LFill.on {b : Nat} {L : List FillD} {w w' : World} (h : LFill b L w) (hq : Below w.heap.size w w') : LFill b L w' := ⟨h.1.below hq h.2, Nat.lt_of_lt_of_le h.2 hq.size⟩
theorem LFill.drew {b : Nat} {L : List FillD} {w : World} (h : LFill b L w) : LFill b L w.drew := h.on (below_drew1 w)
theorem LFill.farRow {b g : Nat} {L : List FillD} {w : World} (h : LFill b L w) (hb : b ≠ g) (cs : Array Value) : LFill b L (w.setRow g cs) := by
  refine ⟨fun k r hr => ?_, ?_⟩
  · have e : ∀ i, (w.setRow g cs).cell? ⟨b, i, none⟩ = w.cell? ⟨b, i, none⟩ := fun i => cell_setRow_other w g cs _ hb
    rw [e, e, e, e, e, e]
    exact h.1 k r hr
  · have := h.2
    simpa [World.setRow] using this
theorem LFill.item {b : Nat} {L : List FillD} {w : World} (h : LFill b L w) {k : Nat} {r : FillD} (hr : L[k]? = some r) : w.cell? ⟨b, k * 6, none⟩ = some (.int .i64 r.hold) ∧ w.cell? ⟨b, k * 6 + 1, none⟩ = some (.int .i64 r.st) ∧ w.cell? ⟨b, k * 6 + 2, none⟩ = some (.int .i64 r.x0) ∧ w.cell? ⟨b, k * 6 + 3, none⟩ = some (.int .i64 r.x1) ∧ w.cell? ⟨b, k * 6 + 4, none⟩ = some (.int .i64 r.d0) ∧ w.cell? ⟨b, k * 6 + 5, none⟩ = some (.int .i64 r.d1) := h.1 k r hr
theorem between_list {h : HoldD} {f g : FillD} (ef : fillErr h f = 0) (eg : fillErr h g = 0) :
    ∃ (m : FillD) (L : List FillD) (kk : Nat), betS h f g = (L, 0) ∧ ((L = [m] ∧ kk = 0 ∧ m.st = f.st ∧ f.st = g.st) ∨ (L = [f, m, g] ∧ kk = 1 ∧ m.st = 3)) ∧ fillErr h m = 0 ∧ (m.st = 3 → m.x0 = min (surS h f).1 (surS h g).1 ∧ m.x1 = max (surS h f).2 (surS h g).2) ∧
      (f.st = 0 ∨ (m.d0 ≤ f.d0 ∧ f.d1 ≤ m.d1)) ∧ (g.st = 0 ∨ (m.d0 ≤ g.d0 ∧ g.d1 ≤ m.d1)) := by
  obtain ⟨m, hm, h1, h2, h3, h4⟩ := between_has ef eg
  rcases hm with ⟨a, b, c⟩ | ⟨a, b, c⟩
  · exact ⟨m, [m], 0, b, .inl ⟨rfl, rfl, c, a⟩, h1, h2, h3, h4⟩
  · exact ⟨m, [f, m, g], 1, b, .inr ⟨rfl, rfl, c⟩, h1, h2, h3, h4⟩
theorem amt_prod {v : Int × Int} {n e : Int} (hv : Amt v) (e0 : 0 < e) (e1 : e ≤ 1000000) (h1 : v.1 * e ≤ n) (h2 : n ≤ v.2 * e) : -9000000000000000000 ≤ v.1 * e ∧ v.2 * e ≤ 9000000000000000000 ∧ -9000000000000000000 ≤ n ∧ n ≤ 9000000000000000000 := by
  obtain ⟨a, b, c⟩ := hv
  have m1 := Int.mul_nonneg a (Int.le_of_lt e0)
  have m2 := Int.mul_le_mul c e1 (Int.le_of_lt e0) (by omega)
  omega
end

section
open Go.RowKit


set_option maxRecDepth 100000 in
set_option maxHeartbeats 4000000 in
theorem mullage_to (vol mom hei : List P3) (hid al ah t0 t1 u0 u1 v0 v1 h0 h1 : Int) (A B C : Option Addr) (n c mm d l ee : Nat) (fh fs p0 p1 d0 d1 : Int) (w : World) (hT : TabIn w A n vol) (ht : tabOk vol = true) (q0 : 0 ≤ fs) (q5 : fs ≤ 5) (a b : Int) (hs : surS ⟨hid, al, ah, vol, mom, hei, t0, t1, u0, u1, v0, v1, h0, h1⟩ ⟨fh, fs, p0, p1, d0, d1⟩ = (a, b)) :
  Calls Tryz.prog 32 #[.agg #[.int .i64 hid, .int .i64 al, .int .i64 ah, .slice A n c, .slice B mm d, .slice C l ee, .int .i64 t0, .int .i64 t1, .int .i64 u0, .int .i64 u1, .int .i64 v0, .int .i64 v1, .int .i64 h0, .int .i64 h1], .agg #[.int .i64 fh, .int .i64 fs, .int .i64 p0, .int .i64 p1, .int .i64 d0, .int .i64 d1]] w fun e w' => e = .returned (rv a b) ∧ Below w.heap.size w w' := by
 have CF0 := Lib.hid (fun (W : World) (hW : Below w.heap.size w W) => sFirst_tab A n c vol W (hT.below hW) ht)
 have CL0 := Lib.hid (fun (W : World) (hW : Below w.heap.size w W) => sLast_tab A n c vol W (hT.below hW) ht)
 unfold surS at hs
 dsimp only at hs
 generalize firstX vol = f0 at *
 generalize lastX vol = f1 at *
 have HS := Lib.hid hs
 clear hT ht hs
 have HE := Lib.hid (show Below w.heap.size w (((w.alloc (.cells #[.int .i64 hid, .int .i64 al, .int .i64 ah, .slice A n c, .slice B mm d, .slice C l ee, .int .i64 t0, .int .i64 t1, .int .i64 u0, .int .i64 u1, .int .i64 v0, .int .i64 v1, .int .i64 h0, .int .i64 h1] 35)).alloc (.cells #[.int .i64 fh, .int .i64 fs, .int .i64 p0, .int .i64 p1, .int .i64 d0, .int .i64 d1] 55)).alloc (.cells #[.int .i64 0, .int .i64 0] 30)) from below_a3 (Below.refl _ _))
 have HK := Lib.hid (boxes3' w 35 55 30 #[.int .i64 hid, .int .i64 al, .int .i64 ah, .slice A n c, .slice B mm d, .slice C l ee, .int .i64 t0, .int .i64 t1, .int .i64 u0, .int .i64 u1, .int .i64 v0, .int .i64 v1, .int .i64 h0, .int .i64 h1] #[.int .i64 fh, .int .i64 fs, .int .i64 p0, .int .i64 p1, .int .i64 d0, .int .i64 d1] #[.int .i64 0, .int .i64 0])
 go_enter Tryz.func32, Tryz.ntmps32
 go_upto_region 1 with fail
 obtain ⟨W0, hW0⟩ : ∃ W0 : World, (((w.alloc (.cells #[.int .i64 hid, .int .i64 al, .int .i64 ah, .slice A n c, .slice B mm d, .slice C l ee, .int .i64 t0, .int .i64 t1, .int .i64 u0, .int .i64 u1, .int .i64 v0, .int .i64 v1, .int .i64 h0, .int .i64 h1] 35)).alloc (.cells #[.int .i64 fh, .int .i64 fs, .int .i64 p0, .int .i64 p1, .int .i64 d0, .int .i64 d1] 55)).alloc (.cells #[.int .i64 0, .int .i64 0] 30)) = W0 := ⟨_, rfl⟩
 rw [hW0] at HE HK ⊢
 clear hW0
 obtain ⟨G, hG⟩ : ∃ G, w.heap.size = G := ⟨_, rfl⟩
 rw [hG] at HK ⊢
 have HG := Lib.hid hG; clear hG
 obtain ⟨M, hM⟩ : ∃ M, G + 1 + 1 = M := ⟨_, rfl⟩
 rw [hM] at HK ⊢
 have HFAR_M : Hid (∀ p ∈ ([(G + 1, 55, #[.int .i64 fh, .int .i64 fs, .int .i64 p0, .int .i64 p1, .int .i64 d0, .int .i64 d1]), (G, 35, #[.int .i64 hid, .int .i64 al, .int .i64 ah, .slice A n c, .slice B mm d, .slice C l ee, .int .i64 t0, .int .i64 t1, .int .i64 u0, .int .i64 u1, .int .i64 v0, .int .i64 v1, .int .i64 h0, .int .i64 h1])] : List (Nat × TypeId × Array Value)), p.1 ≠ M) := Lib.hid (by
  intro p hp
  simp only [List.mem_cons, List.not_mem_nil, or_false] at hp
  rcases hp with rfl | rfl <;> (dsimp only; omega))
 have HGE_M : Hid (w.heap.size ≤ M) := Lib.hid (by have := HG.out; omega)
 clear hM
 by_cases s0 : fs = 0
 ·subst s0
  have hs := HS.out
  rw [if_pos rfl] at hs
  injection hs with e1 e2
  subst e1
  subst e2
  have fa_ := HK.out _ (.tail _ (.head _))
  have fa_1 := fa_.cell 1
  simp at fa_1
  clear fa_
  go_upto_region 2 with fail
  clear fa_1
  obtain ⟨LB, hLB⟩ : ∃ x, ([((G + 1), 55, #[.int .i64 fh, .int .i64 0, .int .i64 p0, .int .i64 p1, .int .i64 d0, .int .i64 d1]), (G, 35, #[.int .i64 hid, .int .i64 al, .int .i64 ah, .slice A n c, .slice B mm d, .slice C l ee, .int .i64 t0, .int .i64 t1, .int .i64 u0, .int .i64 u1, .int .i64 v0, .int .i64 v1, .int .i64 h0, .int .i64 h1])] : List (Nat × TypeId × Array Value)) = x := ⟨_, rfl⟩
  have hl0 : ((G + 1), 55, #[.int .i64 fh, .int .i64 0, .int .i64 p0, .int .i64 p1, .int .i64 d0, .int .i64 d1]) ∈ LB ∧ (G, 35, #[.int .i64 hid, .int .i64 al, .int .i64 ah, .slice A n c, .slice B mm d, .slice C l ee, .int .i64 t0, .int .i64 t1, .int .i64 u0, .int .i64 u1, .int .i64 v0, .int .i64 v1, .int .i64 h0, .int .i64 h1]) ∈ LB ∧ True := by rw [← hLB]; simp
  have HL0 := Lib.hid hl0
  have HFL := HFAR_M
  rw [hLB] at HFL
  have hS0 : BB2 w LB W0.drew := ⟨by rw [← hLB]; exact HK.out.sub (fun p hp => .tail _ hp), HE.out.drew⟩
  have HLB := Lib.hid hLB
  clear hLB hl0
  have HW := Lib.hid (below_drew1 W0)
  refine wp_region_held_drew (S := BB2 w LB) (by kernel_rfl) hS0 (fun hHeld => ?_)
  obtain ⟨yq, hW⟩ : ∃ W', W0.drew = W' := ⟨_, rfl⟩
  rw [hW] at hHeld HW ⊢
  clear hW hS0 HE 
  refine tK 8 (i := 0) (v := .pointer (some ⟨G, 3, none⟩)) rfl rfl (by kernel_rfl) ?_ hHeld ?_
  ·intro w hSw; clear hSw; go_simp; try with_reducible rfl
  simp only [uZ, uS]
  refine tK 9 (i := 1) (v := tv A n c) rfl rfl (by kernel_rfl) ?_ hHeld ?_
  ·intro w hSw; have hz := hSw.1 _ HL0.out.2.1; have c3 := hz.cell 3; simp at c3; clear hz hSw; go_simp; try with_reducible rfl
  simp only [uZ, uS]
  refine tK 11 (i := 3) (v := .pointer (some ⟨G, 3, none⟩)) rfl rfl (by kernel_rfl) ?_ hHeld ?_
  ·intro w hSw; clear hSw; go_simp; try with_reducible rfl
  simp only [uZ, uS]
  refine tK 12 (i := 4) (v := tv A n c) rfl rfl (by kernel_rfl) ?_ hHeld ?_
  ·intro w hSw; have hz := hSw.1 _ HL0.out.2.1; have c3 := hz.cell 3; simp at c3; clear hz hSw; go_simp; try with_reducible rfl
  simp only [uZ, uS]
  refine wpAnyH_ready (rs := [2]) (by kernel_rfl) (by simp) ?_
  refine AllReadyH.cons rfl (fun K hK => ?_) AllReadyH.nil
  go_simp
  (with_reducible refine (CL0.out _ hHeld.be2).mono ?_)
  rintro x y ⟨rfl, hq⟩
  have HW := Lib.hid (below_then HW.out hq)
  refine hK.out _ _ ⟨hHeld.1.on hq, below_then hHeld.2 hq⟩ (fun hHeld2 => ?_)
  clear hq
  try simp only [Act.put, uA, uZ, uS]
  clear hK K hHeld
  have hHeld := hHeld2
  clear hHeld2
  refine wpAnyH_ready (rs := [5]) (by kernel_rfl) (by simp) ?_
  refine AllReadyH.cons rfl (fun K hK => ?_) AllReadyH.nil
  go_simp
  (with_reducible refine (CL0.out _ hHeld.be2).mono ?_)
  rintro x y ⟨rfl, hq⟩
  have HW := Lib.hid (below_then HW.out hq)
  refine hK.out _ _ ⟨hHeld.1.on hq, below_then hHeld.2 hq⟩ (fun hHeld2 => ?_)
  clear hq
  try simp only [Act.put, uA, uZ, uS]
  clear hK K hHeld
  have hHeld := hHeld2
  clear hHeld2
  refine tK 14 (i := 6) (v := rv f1 f1) rfl rfl (by kernel_rfl) ?_ hHeld ?_
  ·intro w hSw; clear hSw; go_simp; try with_reducible rfl
  simp only [uZ, uS]
  refine wpAnyH_ready (rs := [7]) (by kernel_rfl) (by simp) ?_
  refine AllReadyH.cons rfl (fun K hK => ?_) AllReadyH.nil
  rename World => yq
  have HXq := Lib.hid (HK.out.on HW.out)
  have m_ := HXq.out _ (.head _)
  have m_0 := m_.cell 0
  have m_f0 := m_.frozen 0
  have m_1 := m_.cell 1
  have m_f1 := m_.frozen 1
  simp at m_0 m_f0 m_1 m_f1
  clear m_
  go_simp
  have HXs0 : Hid (Boxes (yq.setCell ⟨M, 0, none⟩ (.int .i64 f1)) [(M, 30, #[.int .i64 f1, .int .i64 0]), ((G + 1), 55, #[.int .i64 fh, .int .i64 0, .int .i64 p0, .int .i64 p1, .int .i64 d0, .int .i64 d1]), (G, 35, #[.int .i64 hid, .int .i64 al, .int .i64 ah, .slice A n c, .slice B mm d, .slice C l ee, .int .i64 t0, .int .i64 t1, .int .i64 u0, .int .i64 u1, .int .i64 v0, .int .i64 v1, .int .i64 h0, .int .i64 h1])]) := Lib.hid (HXq.out.set1 HFAR_M.out 0 (.int .i64 f1) _ rfl)
  have HBs0 := Lib.hid ((hHeld.2).setCell (p := ⟨M, 0, none⟩) (by have := HGE_M.out; simp; omega) (.int .i64 f1))
  have HXs1 : Hid (Boxes ((yq.setCell ⟨M, 0, none⟩ (.int .i64 f1)).setCell ⟨M, 1, none⟩ (.int .i64 f1)) [(M, 30, #[.int .i64 f1, .int .i64 f1]), ((G + 1), 55, #[.int .i64 fh, .int .i64 0, .int .i64 p0, .int .i64 p1, .int .i64 d0, .int .i64 d1]), (G, 35, #[.int .i64 hid, .int .i64 al, .int .i64 ah, .slice A n c, .slice B mm d, .slice C l ee, .int .i64 t0, .int .i64 t1, .int .i64 u0, .int .i64 u1, .int .i64 v0, .int .i64 v1, .int .i64 h0, .int .i64 h1])]) := Lib.hid (HXs0.out.set1 HFAR_M.out 1 (.int .i64 f1) _ rfl)
  have HBs1 := Lib.hid ((HBs0.out).setCell (p := ⟨M, 1, none⟩) (by have := HGE_M.out; simp; omega) (.int .i64 f1))
  have HXs := HXs1; have HBs := HBs1
  refine hK.out _ _ ⟨((hHeld.1).farCell (g := M) HFL.out 0 (.int .i64 f1)).farCell (g := M) HFL.out 1 (.int .i64 f1), HBs.out⟩ (fun hHeld2 => ?_)
  try simp only [Act.put, uA, uZ, uS]
  clear hK K hHeld
  have hHeld := hHeld2
  clear hHeld2
  refine wpAnyH_done (by kernel_rfl) ?_ _
  clear hHeld
  go_wp2
  exact bodyPost_ret (v := .agg #[.int .i64 f1, .int .i64 f1]) (results_cell_row Tryz.results32 _ _ M 30 #[.int .i64 f1, .int .i64 f1] (0, 0) _ rfl (HXs.out _ (.head _)) Tryz.underlying30 rfl (by kernel_rfl)) rfl ⟨rfl, HBs.out⟩
 have b0 : (fs == 0) = false := by simpa using s0
 by_cases s2 : fs ≤ 2
 ·skip
  have hs := HS.out
  rw [if_neg s0, if_pos s2] at hs
  injection hs with e1 e2
  subst e1
  subst e2
  have fa_ := HK.out _ (.tail _ (.head _))
  have fa_1 := fa_.cell 1
  simp at fa_1
  clear fa_
  go_wp2_with fail
  refine (sFilled_to fs true _ (by simp; omega)).mono ?_
  rintro e zf ⟨rfl, hq⟩
  have HX_f := Lib.hid (HK.out.on hq); have HB_f := Lib.hid (below_then HE.out hq)
  clear hq fa_1 HK HE b0
  go_upto_region 4 with fail
  obtain ⟨LB, hLB⟩ : ∃ x, ([((G + 1), 55, #[.int .i64 fh, .int .i64 fs, .int .i64 p0, .int .i64 p1, .int .i64 d0, .int .i64 d1]), (G, 35, #[.int .i64 hid, .int .i64 al, .int .i64 ah, .slice A n c, .slice B mm d, .slice C l ee, .int .i64 t0, .int .i64 t1, .int .i64 u0, .int .i64 u1, .int .i64 v0, .int .i64 v1, .int .i64 h0, .int .i64 h1])] : List (Nat × TypeId × Array Value)) = x := ⟨_, rfl⟩
  have hl0 : ((G + 1), 55, #[.int .i64 fh, .int .i64 fs, .int .i64 p0, .int .i64 p1, .int .i64 d0, .int .i64 d1]) ∈ LB ∧ (G, 35, #[.int .i64 hid, .int .i64 al, .int .i64 ah, .slice A n c, .slice B mm d, .slice C l ee, .int .i64 t0, .int .i64 t1, .int .i64 u0, .int .i64 u1, .int .i64 v0, .int .i64 v1, .int .i64 h0, .int .i64 h1]) ∈ LB ∧ True := by rw [← hLB]; simp
  have HL0 := Lib.hid hl0
  have HFL := HFAR_M
  rw [hLB] at HFL
  have hS0 : BB2 w LB zf.drew := ⟨by rw [← hLB]; exact HX_f.out.sub (fun p hp => .tail _ hp), HB_f.out.drew⟩
  have HLB := Lib.hid hLB
  clear hLB hl0
  have HW := Lib.hid (below_drew1 zf)
  refine wp_region_held_drew (S := BB2 w LB) (by kernel_rfl) hS0 (fun hHeld => ?_)
  obtain ⟨yq, hW⟩ : ∃ W', zf.drew = W' := ⟨_, rfl⟩
  rw [hW] at hHeld HW ⊢
  clear hW hS0 HB_f 
  refine tK 18 (i := 0) (v := .pointer (some ⟨G, 3, none⟩)) rfl rfl (by kernel_rfl) ?_ hHeld ?_
  ·intro w hSw; clear hSw; go_simp; try with_reducible rfl
  simp only [uZ, uS]
  refine tK 19 (i := 1) (v := tv A n c) rfl rfl (by kernel_rfl) ?_ hHeld ?_
  ·intro w hSw; have hz := hSw.1 _ HL0.out.2.1; have c3 := hz.cell 3; simp at c3; clear hz hSw; go_simp; try with_reducible rfl
  simp only [uZ, uS]
  refine tK 21 (i := 3) (v := .pointer (some ⟨G, 3, none⟩)) rfl rfl (by kernel_rfl) ?_ hHeld ?_
  ·intro w hSw; clear hSw; go_simp; try with_reducible rfl
  simp only [uZ, uS]
  refine tK 22 (i := 4) (v := tv A n c) rfl rfl (by kernel_rfl) ?_ hHeld ?_
  ·intro w hSw; have hz := hSw.1 _ HL0.out.2.1; have c3 := hz.cell 3; simp at c3; clear hz hSw; go_simp; try with_reducible rfl
  simp only [uZ, uS]
  refine wpAnyH_ready (rs := [2]) (by kernel_rfl) (by simp) ?_
  refine AllReadyH.cons rfl (fun K hK => ?_) AllReadyH.nil
  go_simp
  (with_reducible refine (CF0.out _ hHeld.be2).mono ?_)
  rintro x y ⟨rfl, hq⟩
  have HW := Lib.hid (below_then HW.out hq)
  refine hK.out _ _ ⟨hHeld.1.on hq, below_then hHeld.2 hq⟩ (fun hHeld2 => ?_)
  clear hq
  try simp only [Act.put, uA, uZ, uS]
  clear hK K hHeld
  have hHeld := hHeld2
  clear hHeld2
  refine wpAnyH_ready (rs := [5]) (by kernel_rfl) (by simp) ?_
  refine AllReadyH.cons rfl (fun K hK => ?_) AllReadyH.nil
  go_simp
  (with_reducible refine (CF0.out _ hHeld.be2).mono ?_)
  rintro x y ⟨rfl, hq⟩
  have HW := Lib.hid (below_then HW.out hq)
  refine hK.out _ _ ⟨hHeld.1.on hq, below_then hHeld.2 hq⟩ (fun hHeld2 => ?_)
  clear hq
  try simp only [Act.put, uA, uZ, uS]
  clear hK K hHeld
  have hHeld := hHeld2
  clear hHeld2
  refine tK 24 (i := 6) (v := rv f0 f0) rfl rfl (by kernel_rfl) ?_ hHeld ?_
  ·intro w hSw; clear hSw; go_simp; try with_reducible rfl
  simp only [uZ, uS]
  refine wpAnyH_ready (rs := [7]) (by kernel_rfl) (by simp) ?_
  refine AllReadyH.cons rfl (fun K hK => ?_) AllReadyH.nil
  rename World => yq
  have HXq := Lib.hid (HX_f.out.on HW.out)
  have m_ := HXq.out _ (.head _)
  have m_0 := m_.cell 0
  have m_f0 := m_.frozen 0
  have m_1 := m_.cell 1
  have m_f1 := m_.frozen 1
  simp at m_0 m_f0 m_1 m_f1
  clear m_
  go_simp
  have HXs0 : Hid (Boxes (yq.setCell ⟨M, 0, none⟩ (.int .i64 f0)) [(M, 30, #[.int .i64 f0, .int .i64 0]), ((G + 1), 55, #[.int .i64 fh, .int .i64 fs, .int .i64 p0, .int .i64 p1, .int .i64 d0, .int .i64 d1]), (G, 35, #[.int .i64 hid, .int .i64 al, .int .i64 ah, .slice A n c, .slice B mm d, .slice C l ee, .int .i64 t0, .int .i64 t1, .int .i64 u0, .int .i64 u1, .int .i64 v0, .int .i64 v1, .int .i64 h0, .int .i64 h1])]) := Lib.hid (HXq.out.set1 HFAR_M.out 0 (.int .i64 f0) _ rfl)
  have HBs0 := Lib.hid ((hHeld.2).setCell (p := ⟨M, 0, none⟩) (by have := HGE_M.out; simp; omega) (.int .i64 f0))
  have HXs1 : Hid (Boxes ((yq.setCell ⟨M, 0, none⟩ (.int .i64 f0)).setCell ⟨M, 1, none⟩ (.int .i64 f0)) [(M, 30, #[.int .i64 f0, .int .i64 f0]), ((G + 1), 55, #[.int .i64 fh, .int .i64 fs, .int .i64 p0, .int .i64 p1, .int .i64 d0, .int .i64 d1]), (G, 35, #[.int .i64 hid, .int .i64 al, .int .i64 ah, .slice A n c, .slice B mm d, .slice C l ee, .int .i64 t0, .int .i64 t1, .int .i64 u0, .int .i64 u1, .int .i64 v0, .int .i64 v1, .int .i64 h0, .int .i64 h1])]) := Lib.hid (HXs0.out.set1 HFAR_M.out 1 (.int .i64 f0) _ rfl)
  have HBs1 := Lib.hid ((HBs0.out).setCell (p := ⟨M, 1, none⟩) (by have := HGE_M.out; simp; omega) (.int .i64 f0))
  have HXs := HXs1; have HBs := HBs1
  refine hK.out _ _ ⟨((hHeld.1).farCell (g := M) HFL.out 0 (.int .i64 f0)).farCell (g := M) HFL.out 1 (.int .i64 f0), HBs.out⟩ (fun hHeld2 => ?_)
  try simp only [Act.put, uA, uZ, uS]
  clear hK K hHeld
  have hHeld := hHeld2
  clear hHeld2
  refine wpAnyH_done (by kernel_rfl) ?_ _
  clear hHeld
  go_wp2
  exact bodyPost_ret (v := .agg #[.int .i64 f0, .int .i64 f0]) (results_cell_row Tryz.results32 _ _ M 30 #[.int .i64 f0, .int .i64 f0] (0, 0) _ rfl (HXs.out _ (.head _)) Tryz.underlying30 rfl (by kernel_rfl)) rfl ⟨rfl, HBs.out⟩
 have hs := HS.out
 rw [if_neg s0, if_neg s2] at hs
 injection hs with e1 e2
 subst e1
 subst e2
 have fa_ := HK.out _ (.tail _ (.head _))
 have fa_1 := fa_.cell 1
 simp at fa_1
 clear fa_
 go_wp2_with fail
 refine (sFilled_to fs false _ (by simp; omega)).mono ?_
 rintro e zf ⟨rfl, hq⟩
 have HX_f := Lib.hid (HK.out.on hq); have HB_f := Lib.hid (below_then HE.out hq)
 clear hq fa_1 HK HE b0
 have fa_ := HX_f.out _ (.tail _ (.head _))
 have fa_2 := fa_.cell 2
 have fa_3 := fa_.cell 3
 simp at fa_2 fa_3
 clear fa_
 have m_ := HX_f.out _ (.head _)
 have m_0 := m_.cell 0
 have m_f0 := m_.frozen 0
 have m_1 := m_.cell 1
 have m_f1 := m_.frozen 1
 simp at m_0 m_f0 m_1 m_f1
 clear m_
 have HXa : Hid (Boxes (zf.setCell ⟨M, 0, none⟩ (.int .i64 p0)) [(M, 30, #[.int .i64 p0, .int .i64 0]), ((G + 1), 55, #[.int .i64 fh, .int .i64 fs, .int .i64 p0, .int .i64 p1, .int .i64 d0, .int .i64 d1]), (G, 35, #[.int .i64 hid, .int .i64 al, .int .i64 ah, .slice A n c, .slice B mm d, .slice C l ee, .int .i64 t0, .int .i64 t1, .int .i64 u0, .int .i64 u1, .int .i64 v0, .int .i64 v1, .int .i64 h0, .int .i64 h1])]) := Lib.hid (HX_f.out.set1 HFAR_M.out 0 (.int .i64 p0) _ rfl)
 have HXs := Lib.hid (HXa.out.set1 HFAR_M.out 1 (.int .i64 p1) #[.int .i64 p0, .int .i64 p1] rfl)
 have HBs := Lib.hid ((HB_f.out.setCell (p := ⟨M, 0, none⟩) (by have := HGE_M.out; simp; omega) (.int .i64 p0)).setCell (p := ⟨M, 1, none⟩) (by have := HGE_M.out; simp; omega) (.int .i64 p1))
 go_wp2
 exact bodyPost_ret (v := .agg #[.int .i64 p0, .int .i64 p1]) (results_cell_row Tryz.results32 _ _ M 30 #[.int .i64 p0, .int .i64 p1] (0, 0) _ rfl (HXs.out _ (.head _)) Tryz.underlying30 rfl (by kernel_rfl)) rfl ⟨rfl, HBs.out⟩
end

section
open Go.RowKit

theorem sInside_yes (a b c d : Int) (w : World) (h1 : c ≤ a) (h2 : b ≤ d) :
  Calls Tryz.prog 29 #[rv a b, rv c d] w fun e w' => e = .returned (.bool true) ∧ Below w.heap.size w w' := by
 have b1 : decide (c ≤ a) = true := decide_eq_true h1
 have b2 : decide (b ≤ d) = true := decide_eq_true h2
 clear h1 h2
 go_enter Tryz.func29, Tryz.ntmps29
 go_wp2
 go_ret
 exact ⟨rfl, below_a2 (Below.refl _ _)⟩
end

section
open Go.ChangeShapes Go.WideShapes Go.ChangeAt Go.RowKit Go.Joins Go.Deep

theorem Tryz.cellsEight : Tryz.prog.cellsOf 70 = 8 := by kernel_rfl
set_option maxRecDepth 100000 in
theorem open_eight {H : Type} {enc : TypeId × Value → H} {W : World} {base : Nat} {v : Value} {d : DataW H} {ps : List MemPlace} (hv : Value.okWide Tryz.prog W .any base 70 v) (h : DataW.Trod enc Tryz.prog W 0 (fun _ => true) true 70 v d ps) :
    ∃ x0 x1 x2 x3 x4 x5 x6 x7 : Int, v = .agg #[.int .i64 x0, .int .i64 x1, .int .i64 x2, .int .i64 x3, .int .i64 x4, .int .i64 x5, .int .i64 x6, .int .i64 x7] := by
  obtain ⟨cs, rfl, hsz⟩ := okWide_arr Tryz.underlying70 hv
  rw [Tryz.cellsEight] at hsz
  obtain ⟨l⟩ := cs
  match l, hsz with
  | [c0, c1, c2, c3, c4, c5, c6, c7], _ =>
    obtain ⟨fuel, hf⟩ := h
    obtain ⟨xs, m, _, _, _, hl, hi⟩ := DataW.trod_array Tryz.underlying70 hf
    have one : ∀ (i : Nat) (c : Value), i < 8 → ((#[c0, c1, c2, c3, c4, c5, c6, c7] : Array Value).toList.drop (i * 1)).take 1 = [c] → ∃ n : Int, c = .int .i64 n := by
      intro i c hi6 hc
      have h1 := hi i hi6
      simp only [Value.cells, Tryz.cellsInt] at h1
      rw [hc] at h1
      obtain ⟨y, hy⟩ : ∃ y, xs[i]? = some y := ⟨_, List.getElem?_eq_getElem (by omega)⟩
      rw [hy] at h1
      obtain ⟨n, e, _, _⟩ := DataW.trod_int Tryz.underlying3 h1
      simp at e
      exact ⟨n, e⟩
    obtain ⟨x0, rfl⟩ := one 0 c0 (by omega) rfl
    obtain ⟨x1, rfl⟩ := one 1 c1 (by omega) rfl
    obtain ⟨x2, rfl⟩ := one 2 c2 (by omega) rfl
    obtain ⟨x3, rfl⟩ := one 3 c3 (by omega) rfl
    obtain ⟨x4, rfl⟩ := one 4 c4 (by omega) rfl
    obtain ⟨x5, rfl⟩ := one 5 c5 (by omega) rfl
    obtain ⟨x6, rfl⟩ := one 6 c6 (by omega) rfl
    obtain ⟨x7, rfl⟩ := one 7 c7 (by omega) rfl
    exact ⟨x0, x1, x2, x3, x4, x5, x6, x7, rfl⟩
theorem Tryz.cellsTen : Tryz.prog.cellsOf 62 = 10 := by kernel_rfl
set_option maxRecDepth 100000 in
theorem open_ten {H : Type} {enc : TypeId × Value → H} {W : World} {base : Nat} {v : Value} {d : DataW H} {ps : List MemPlace} (hv : Value.okWide Tryz.prog W .any base 62 v) (h : DataW.Trod enc Tryz.prog W 0 (fun _ => true) true 62 v d ps) :
    ∃ x0 x1 x2 x3 x4 y0 y1 y2 y3 y4 : Int, v = .agg #[.int .i64 x0, .int .i64 x1, .int .i64 x2, .int .i64 x3, .int .i64 x4, .int .i64 y0, .int .i64 y1, .int .i64 y2, .int .i64 y3, .int .i64 y4] := by
  obtain ⟨cs, rfl, hsz⟩ := okWide_arr Tryz.underlying62 hv
  rw [Tryz.cellsTen] at hsz
  obtain ⟨l⟩ := cs
  match l, hsz with
  | [c0, c1, c2, c3, c4, c5, c6, c7, c8, c9], _ =>
    obtain ⟨fuel, hf⟩ := h
    obtain ⟨xs, m, _, _, _, hl, hi⟩ := DataW.trod_array Tryz.underlying62 hf
    have one : ∀ (i j : Nat) (c : Value), i < 2 → j < 5 → ((((#[c0, c1, c2, c3, c4, c5, c6, c7, c8, c9] : Array Value).toList.drop (i * 5)).take 5).drop (j * 1)).take 1 = [c] → ∃ n : Int, c = .int .i64 n := by
      intro i j c hi2 hj5 hc
      have h1 := hi i hi2
      simp only [Value.cells, Tryz.cellsFive] at h1
      obtain ⟨y, hy⟩ : ∃ y, xs[i]? = some y := ⟨_, List.getElem?_eq_getElem (by omega)⟩
      rw [hy] at h1
      obtain ⟨ys, m2, _, _, _, hl2, hi2'⟩ := DataW.trod_array Tryz.underlying53 h1
      have h2 := hi2' j hj5
      simp only [Value.cells, Tryz.cellsInt] at h2
      rw [hc] at h2
      obtain ⟨z, hz⟩ : ∃ z, ys[j]? = some z := ⟨_, List.getElem?_eq_getElem (by omega)⟩
      rw [hz] at h2
      obtain ⟨n, e, _, _⟩ := DataW.trod_int Tryz.underlying3 h2
      simp at e
      exact ⟨n, e⟩
    obtain ⟨x0, rfl⟩ := one 0 0 c0 (by omega) (by omega) rfl
    obtain ⟨x1, rfl⟩ := one 0 1 c1 (by omega) (by omega) rfl
    obtain ⟨x2, rfl⟩ := one 0 2 c2 (by omega) (by omega) rfl
    obtain ⟨x3, rfl⟩ := one 0 3 c3 (by omega) (by omega) rfl
    obtain ⟨x4, rfl⟩ := one 0 4 c4 (by omega) (by omega) rfl
    obtain ⟨y0, rfl⟩ := one 1 0 c5 (by omega) (by omega) rfl
    obtain ⟨y1, rfl⟩ := one 1 1 c6 (by omega) (by omega) rfl
    obtain ⟨y2, rfl⟩ := one 1 2 c7 (by omega) (by omega) rfl
    obtain ⟨y3, rfl⟩ := one 1 3 c8 (by omega) (by omega) rfl
    obtain ⟨y4, rfl⟩ := one 1 4 c9 (by omega) (by omega) rfl
    exact ⟨x0, x1, x2, x3, x4, y0, y1, y2, y3, y4, rfl⟩
end

section
open Go.RowKit
attribute [local go_sem ↓] neqFillSame run_minI run_maxI

set_option maxRecDepth 100000 in
set_option maxHeartbeats 4000000 in
theorem holdInstants_walk (r : RawD) (m : RawM) (x0 x1 x2 x3 x4 y0 y1 y2 y3 y4 : Int) (Ca Cb Cc : Option Addr) (na ca nb cb nc cc : Nat) (k0 k1 k2 : List Int) (pl de : Int) (w : World) (hi : RawIn w r m) (hkb : LstIn w Cb nb k1) :
  Calls Tryz.prog 6 #[rawV r m, .agg #[.int .i64 x0, .int .i64 x1, .int .i64 x2, .int .i64 x3, .int .i64 x4, .int .i64 y0, .int .i64 y1, .int .i64 y2, .int .i64 y3, .int .i64 y4], .agg #[.slice Ca na ca, .slice Cb nb cb, .slice Cc nc cc, .int .i64 pl, .int .i64 de]] w fun e w' => e = .returned (.bool true) ∧ Below w.heap.size w w' := by
 obtain ⟨h, hh⟩ : ∃ h, madeH r = h := ⟨_, rfl⟩
 have C1 := fun (W : World) (hW : Below w.heap.size w W) => smadeHold r m W (hi.below hW)
 have hS : holdS h = true := by rw [← hh]; exact made_valid r
 rw [hh] at C1
 have hle := hold_first hS
 have htv := hold_tab hS
 have hpl := tab_places htv
 have hf := madeF_ok hS hle x0 x1 x2 x3 x4
 have hg := madeF_ok hS hle y0 y1 y2 y3 y4
 have CF := fun (W : World) (mm : HoldM) (hm : HoldIn W h mm) => sfill_to h mm x0 x1 x2 x3 x4 W hm htv hle hpl.1 hpl.2
 have CG := fun (W : World) (mm : HoldM) (hm : HoldIn W h mm) => sfill_to h mm y0 y1 y2 y3 y4 W hm htv hle hpl.1 hpl.2
 obtain ⟨f, hff⟩ : ∃ f, madeF h x0 x1 x2 x3 x4 = f := ⟨_, rfl⟩
 obtain ⟨g, hgg⟩ : ∃ g, madeF h y0 y1 y2 y3 y4 = g := ⟨_, rfl⟩
 rw [hff] at hf CF
 rw [hgg] at hg CG
 obtain ⟨mm', L, kk, hb, hL, hm1, hm2, hm3, hm4⟩ := between_list hf hg
 obtain ⟨id, fi, st, vs⟩ := r
 obtain ⟨S, sn, sc, V, vn, vc⟩ := m
 have HKB := Lib.hid hkb; have HSV := Lib.hid hS; have HF0 := Lib.hid hf; have HG0 := Lib.hid hg; have HB0 := Lib.hid hb; have HL := Lib.hid hL; have HM1 := Lib.hid hm1; have HM2 := Lib.hid hm2; have HM3 := Lib.hid hm3; have HM4 := Lib.hid hm4
 replace C1 := Lib.hid C1; replace CF := Lib.hid CF; replace CG := Lib.hid CG
 clear hi hkb hh hle htv hpl hff hgg hS hf hg hb hL hm1 hm2 hm3 hm4
 have HE := Lib.hid (show Below w.heap.size w (((w.alloc (.cells #[.int .i64 id, .int .i64 fi, .slice S sn sc, .slice V vn vc] 24)).alloc (.cells #[.int .i64 x0, .int .i64 x1, .int .i64 x2, .int .i64 x3, .int .i64 x4, .int .i64 y0, .int .i64 y1, .int .i64 y2, .int .i64 y3, .int .i64 y4] 62)).alloc (.cells #[.slice Ca na ca, .slice Cb nb cb, .slice Cc nc cc, .int .i64 pl, .int .i64 de] 27)) from below_a3 (Below.refl _ _))
 have HK := Lib.hid (boxes3' w 24 62 27 #[.int .i64 id, .int .i64 fi, .slice S sn sc, .slice V vn vc] #[.int .i64 x0, .int .i64 x1, .int .i64 x2, .int .i64 x3, .int .i64 x4, .int .i64 y0, .int .i64 y1, .int .i64 y2, .int .i64 y3, .int .i64 y4] #[.slice Ca na ca, .slice Cb nb cb, .slice Cc nc cc, .int .i64 pl, .int .i64 de])
 go_enter Tryz.func6, Tryz.ntmps6
 go_upto_region 1 with fail
 obtain ⟨W0, hW0⟩ : ∃ W0 : World, (((w.alloc (.cells #[.int .i64 id, .int .i64 fi, .slice S sn sc, .slice V vn vc] 24)).alloc (.cells #[.int .i64 x0, .int .i64 x1, .int .i64 x2, .int .i64 x3, .int .i64 x4, .int .i64 y0, .int .i64 y1, .int .i64 y2, .int .i64 y3, .int .i64 y4] 62)).alloc (.cells #[.slice Ca na ca, .slice Cb nb cb, .slice Cc nc cc, .int .i64 pl, .int .i64 de] 27)) = W0 := ⟨_, rfl⟩
 rw [hW0] at HE HK ⊢
 clear hW0
 obtain ⟨G, hG⟩ : ∃ G, w.heap.size = G := ⟨_, rfl⟩
 rw [hG] at HK ⊢
 have HGG := Lib.hid hG; clear hG
 have fa_ := HK.out _ (.tail _ (.tail _ (.head _)))
 have fa_0 := fa_.cell 0
 have fa_1 := fa_.cell 1
 have fa_2 := fa_.cell 2
 have fa_3 := fa_.cell 3
 simp at fa_0 fa_1 fa_2 fa_3
 clear fa_
 go_wp2_with fail
 refine (C1.out _ HE.out).mono ?_
 rintro e z1 ⟨⟨mh0, rfl, hinh⟩, hq⟩
 obtain ⟨hid, al, ah, vol, mom, hei, t0, t1, u0, u1, v0, v1, h0, h1⟩ := h
 obtain ⟨A, n, c, B, mm, d, C, l, ee⟩ := mh0
 obtain ⟨fh, fs, p0, p1, d0, d1⟩ := f
 obtain ⟨gh, gs, q0, q1, c0, c1⟩ := g
 obtain ⟨mh, ms, m0, m1, e0, e1⟩ := mm'
 have HIN := Lib.hid hinh
 have C2 : Hid (∀ W, Below z1.heap.size z1 W → Calls Tryz.prog 27 #[.agg #[.int .i64 hid, .int .i64 al, .int .i64 ah, .slice A n c, .slice B mm d, .slice C l ee, .int .i64 t0, .int .i64 t1, .int .i64 u0, .int .i64 u1, .int .i64 v0, .int .i64 v1, .int .i64 h0, .int .i64 h1], .agg #[.int .i64 x0, .int .i64 x1, .int .i64 x2, .int .i64 x3, .int .i64 x4]] W fun e w' => e = .returned (.agg #[.int .i64 fh, .int .i64 fs, .int .i64 p0, .int .i64 p1, .int .i64 d0, .int .i64 d1]) ∧ Below W.heap.size W w') := Lib.hid fun W hW => CF.out W ⟨A, n, c, B, mm, d, C, l, ee⟩ (HIN.out.below hW)
 have C3 : Hid (∀ W, Below z1.heap.size z1 W → Calls Tryz.prog 27 #[.agg #[.int .i64 hid, .int .i64 al, .int .i64 ah, .slice A n c, .slice B mm d, .slice C l ee, .int .i64 t0, .int .i64 t1, .int .i64 u0, .int .i64 u1, .int .i64 v0, .int .i64 v1, .int .i64 h0, .int .i64 h1], .agg #[.int .i64 y0, .int .i64 y1, .int .i64 y2, .int .i64 y3, .int .i64 y4]] W fun e w' => e = .returned (.agg #[.int .i64 gh, .int .i64 gs, .int .i64 q0, .int .i64 q1, .int .i64 c0, .int .i64 c1]) ∧ Below W.heap.size W w') := Lib.hid fun W hW => CG.out W ⟨A, n, c, B, mm, d, C, l, ee⟩ (HIN.out.below hW)
 have C4 : Hid (∀ W, Below z1.heap.size z1 W → Calls Tryz.prog 31 #[.agg #[.int .i64 hid, .int .i64 al, .int .i64 ah, .slice A n c, .slice B mm d, .slice C l ee, .int .i64 t0, .int .i64 t1, .int .i64 u0, .int .i64 u1, .int .i64 v0, .int .i64 v1, .int .i64 h0, .int .i64 h1], .agg #[.int .i64 fh, .int .i64 fs, .int .i64 p0, .int .i64 p1, .int .i64 d0, .int .i64 d1], .agg #[.int .i64 gh, .int .i64 gs, .int .i64 q0, .int .i64 q1, .int .i64 c0, .int .i64 c1]] W fun e w' => (∃ b cq, e = .returned (.tuple #[.slice (some ⟨b, 0, none⟩) L.length cq, .int .i64 0]) ∧ LFill b L w') ∧ Below W.heap.size W w') := Lib.hid fun W hW => (hBetween_any ⟨hid, al, ah, vol, mom, hei, t0, t1, u0, u1, v0, v1, h0, h1⟩ ⟨A, n, c, B, mm, d, C, l, ee⟩ ⟨fh, fs, p0, p1, d0, d1⟩ ⟨gh, gs, q0, q1, c0, c1⟩ W (HIN.out.below hW)).mono (by
  intro e w' hbo
  unfold BetOut at hbo
  rw [HB0.out] at hbo
  obtain ⟨v, rfl, hsl, hne, hbb⟩ := hbo
  rcases hsl with ⟨hv, hl⟩ | ⟨b, cq, rfl, hlt, hmem⟩
  ·dsimp only at hl
   rcases HL.out with ⟨hL1, _⟩ | ⟨hL1, _⟩ <;> (rw [hL1] at hl; cases hl)
  ·exact ⟨⟨b, cq, rfl, hmem, hlt⟩, hbb⟩)
 clear hinh
 have HQ_1 := Lib.hid (below_then HE.out hq)
 have HX_1 := Lib.hid ((HK.out.on hq).new 35 #[.int .i64 hid, .int .i64 al, .int .i64 ah, .slice A n c, .slice B mm d, .slice C l ee, .int .i64 t0, .int .i64 t1, .int .i64 u0, .int .i64 u1, .int .i64 v0, .int .i64 v1, .int .i64 h0, .int .i64 h1]); have HB_1 := Lib.hid (below_alloc1 z1 (.cells #[.int .i64 hid, .int .i64 al, .int .i64 ah, .slice A n c, .slice B mm d, .slice C l ee, .int .i64 t0, .int .i64 t1, .int .i64 u0, .int .i64 u1, .int .i64 v0, .int .i64 v1, .int .i64 h0, .int .i64 h1] 35))
 clear hq HK HE fa_0 fa_1 fa_2 fa_3 C1 CF CG
 go_upto_region 2 with fail
 obtain ⟨V1, hW⟩ : ∃ W', z1.alloc (.cells #[.int .i64 hid, .int .i64 al, .int .i64 ah, .slice A n c, .slice B mm d, .slice C l ee, .int .i64 t0, .int .i64 t1, .int .i64 u0, .int .i64 u1, .int .i64 v0, .int .i64 v1, .int .i64 h0, .int .i64 h1] 35) = W' := ⟨_, rfl⟩
 rw [hW] at HX_1 HB_1  ⊢
 clear hW
 obtain ⟨MH, hN⟩ : ∃ n, z1.heap.size = n := ⟨_, rfl⟩
 rw [hN] at HX_1  ⊢
 clear hN
 have fa_ := HX_1.out _ (.tail _ (.tail _ (.head _)))
 have fa_0 := fa_.cell 0
 have fa_1 := fa_.cell 1
 have fa_2 := fa_.cell 2
 have fa_3 := fa_.cell 3
 have fa_4 := fa_.cell 4
 simp at fa_0 fa_1 fa_2 fa_3 fa_4
 clear fa_
 have fb_ := HX_1.out _ (.head _)
 have fb_0 := fb_.cell 0
 have fb_1 := fb_.cell 1
 have fb_2 := fb_.cell 2
 have fb_3 := fb_.cell 3
 have fb_4 := fb_.cell 4
 have fb_5 := fb_.cell 5
 have fb_6 := fb_.cell 6
 have fb_7 := fb_.cell 7
 have fb_8 := fb_.cell 8
 have fb_9 := fb_.cell 9
 have fb_10 := fb_.cell 10
 have fb_11 := fb_.cell 11
 have fb_12 := fb_.cell 12
 have fb_13 := fb_.cell 13
 simp at fb_0 fb_1 fb_2 fb_3 fb_4 fb_5 fb_6 fb_7 fb_8 fb_9 fb_10 fb_11 fb_12 fb_13
 clear fb_
 go_wp2_with fail
 refine (C2.out _ HB_1.out).mono ?_
 rintro e z2 ⟨rfl, hq⟩
 have HX_2 := Lib.hid ((HX_1.out.on hq).new 55 #[.int .i64 fh, .int .i64 fs, .int .i64 p0, .int .i64 p1, .int .i64 d0, .int .i64 d1]); have HB_2 := Lib.hid (below_then (below_then HB_1.out hq) (below_alloc1 z2 (.cells #[.int .i64 fh, .int .i64 fs, .int .i64 p0, .int .i64 p1, .int .i64 d0, .int .i64 d1] 55)))
 clear hq HX_1 HB_1 fa_0 fa_1 fa_2 fa_3 fa_4 fb_0 fb_1 fb_2 fb_3 fb_4 fb_5 fb_6 fb_7 fb_8 fb_9 fb_10 fb_11 fb_12 fb_13 C2
 go_upto_region 3 with fail
 obtain ⟨V2, hW⟩ : ∃ W', z2.alloc (.cells #[.int .i64 fh, .int .i64 fs, .int .i64 p0, .int .i64 p1, .int .i64 d0, .int .i64 d1] 55) = W' := ⟨_, rfl⟩
 rw [hW] at HX_2 HB_2  ⊢
 clear hW
 obtain ⟨MF, hN⟩ : ∃ n, z2.heap.size = n := ⟨_, rfl⟩
 rw [hN] at HX_2  ⊢
 clear hN
 have fa_ := HX_2.out _ (.tail _ (.tail _ (.tail _ (.head _))))
 have fa_5 := fa_.cell 5
 have fa_6 := fa_.cell 6
 have fa_7 := fa_.cell 7
 have fa_8 := fa_.cell 8
 have fa_9 := fa_.cell 9
 simp at fa_5 fa_6 fa_7 fa_8 fa_9
 clear fa_
 have fb_ := HX_2.out _ (.tail _ (.head _))
 have fb_0 := fb_.cell 0
 have fb_1 := fb_.cell 1
 have fb_2 := fb_.cell 2
 have fb_3 := fb_.cell 3
 have fb_4 := fb_.cell 4
 have fb_5 := fb_.cell 5
 have fb_6 := fb_.cell 6
 have fb_7 := fb_.cell 7
 have fb_8 := fb_.cell 8
 have fb_9 := fb_.cell 9
 have fb_10 := fb_.cell 10
 have fb_11 := fb_.cell 11
 have fb_12 := fb_.cell 12
 have fb_13 := fb_.cell 13
 simp at fb_0 fb_1 fb_2 fb_3 fb_4 fb_5 fb_6 fb_7 fb_8 fb_9 fb_10 fb_11 fb_12 fb_13
 clear fb_
 go_wp2_with fail
 refine (C3.out _ HB_2.out).mono ?_
 rintro e z3 ⟨rfl, hq⟩
 have HX_3 := Lib.hid ((HX_2.out.on hq).new 55 #[.int .i64 gh, .int .i64 gs, .int .i64 q0, .int .i64 q1, .int .i64 c0, .int .i64 c1]); have HB_3 := Lib.hid (below_then (below_then HB_2.out hq) (below_alloc1 z3 (.cells #[.int .i64 gh, .int .i64 gs, .int .i64 q0, .int .i64 q1, .int .i64 c0, .int .i64 c1] 55)))
 clear hq HX_2 HB_2 fa_5 fa_6 fa_7 fa_8 fa_9 fb_0 fb_1 fb_2 fb_3 fb_4 fb_5 fb_6 fb_7 fb_8 fb_9 fb_10 fb_11 fb_12 fb_13 C3
 go_upto_region 4 with fail
 obtain ⟨V3, hW⟩ : ∃ W', z3.alloc (.cells #[.int .i64 gh, .int .i64 gs, .int .i64 q0, .int .i64 q1, .int .i64 c0, .int .i64 c1] 55) = W' := ⟨_, rfl⟩
 rw [hW] at HX_3 HB_3  ⊢
 clear hW
 obtain ⟨MG, hN⟩ : ∃ n, z3.heap.size = n := ⟨_, rfl⟩
 rw [hN] at HX_3  ⊢
 clear hN
 have fa_ := HX_3.out _ (.tail _ (.head _))
 have fa_0 := fa_.cell 0
 have fa_1 := fa_.cell 1
 have fa_2 := fa_.cell 2
 have fa_3 := fa_.cell 3
 have fa_4 := fa_.cell 4
 have fa_5 := fa_.cell 5
 simp at fa_0 fa_1 fa_2 fa_3 fa_4 fa_5
 clear fa_
 have fb_ := HX_3.out _ (.head _)
 have fb_0 := fb_.cell 0
 have fb_1 := fb_.cell 1
 have fb_2 := fb_.cell 2
 have fb_3 := fb_.cell 3
 have fb_4 := fb_.cell 4
 have fb_5 := fb_.cell 5
 simp at fb_0 fb_1 fb_2 fb_3 fb_4 fb_5
 clear fb_
 have fc_ := HX_3.out _ (.tail _ (.tail _ (.head _)))
 have fc_0 := fc_.cell 0
 have fc_1 := fc_.cell 1
 have fc_2 := fc_.cell 2
 have fc_3 := fc_.cell 3
 have fc_4 := fc_.cell 4
 have fc_5 := fc_.cell 5
 have fc_6 := fc_.cell 6
 have fc_7 := fc_.cell 7
 have fc_8 := fc_.cell 8
 have fc_9 := fc_.cell 9
 have fc_10 := fc_.cell 10
 have fc_11 := fc_.cell 11
 have fc_12 := fc_.cell 12
 have fc_13 := fc_.cell 13
 simp at fc_0 fc_1 fc_2 fc_3 fc_4 fc_5 fc_6 fc_7 fc_8 fc_9 fc_10 fc_11 fc_12 fc_13
 clear fc_
 go_wp2_with fail
 refine (C4.out _ HB_3.out).mono ?_
 rintro e z4 ⟨⟨lb, cq, rfl, hlf⟩, hq⟩
 have HFM := Lib.hid hlf
 obtain ⟨N, hN⟩ : ∃ N, L.length = N := ⟨_, rfl⟩
 rw [hN]
 have HN : Hid ((N = 1 ∧ kk = 0 ∧ L = [⟨mh, ms, m0, m1, e0, e1⟩] ∧ ms = fs) ∨ (N = 3 ∧ kk = 1 ∧ L = [⟨fh, fs, p0, p1, d0, d1⟩, ⟨mh, ms, m0, m1, e0, e1⟩, ⟨gh, gs, q0, q1, c0, c1⟩] ∧ ms = 3)) := Lib.hid (by
  rcases HL.out with ⟨a, b, c, d⟩ | ⟨a, b, c⟩
  ·exact .inl ⟨by rw [← hN, a]; rfl, b, a, c⟩
  ·exact .inr ⟨by rw [← hN, a]; rfl, b, a, c⟩)
 have HLM : Hid (L[kk]? = some ⟨mh, ms, m0, m1, e0, e1⟩ ∧ kk < N ∧ (IntKind.i64.wrap (Int.tdiv (N : Int) 2) = (kk : Int) ∧ wrap64 ((N : Int) / 2) = (kk : Int)) ∧ (ms = fs ∨ ms = 3)) := Lib.hid (by
  rcases HN.out with ⟨a, b, c, d⟩ | ⟨a, b, c, d⟩
  ·subst a b c; exact ⟨rfl, by omega, ⟨by decide, by unfold wrap64; omega⟩, .inl d⟩
  ·subst a b c; exact ⟨rfl, by omega, ⟨by decide, by unfold wrap64; omega⟩, .inr d⟩)
 clear hN hlf HL
 have HX_4 := Lib.hid (HX_3.out.on hq); have HB_4 := Lib.hid (below_then HB_3.out hq)
 clear hq HX_3 HB_3 fa_0 fa_1 fa_2 fa_3 fa_4 fa_5 fb_0 fb_1 fb_2 fb_3 fb_4 fb_5 fc_0 fc_1 fc_2 fc_3 fc_4 fc_5 fc_6 fc_7 fc_8 fc_9 fc_10 fc_11 fc_12 fc_13 C4
 go_upto_region 5 with fail
 go_cut [50] (fun sb wx => sb = .bool false ∧ Boxes wx [(MG, 55, #[.int .i64 gh, .int .i64 gs, .int .i64 q0, .int .i64 q1, .int .i64 c0, .int .i64 c1]), (MF, 55, #[.int .i64 fh, .int .i64 fs, .int .i64 p0, .int .i64 p1, .int .i64 d0, .int .i64 d1]), (MH, 35, #[.int .i64 hid, .int .i64 al, .int .i64 ah, .slice A n c, .slice B mm d, .slice C l ee, .int .i64 t0, .int .i64 t1, .int .i64 u0, .int .i64 u1, .int .i64 v0, .int .i64 v1, .int .i64 h0, .int .i64 h1]), ((G + 1 + 1), 27, #[.slice Ca na ca, .slice Cb nb cb, .slice Cc nc cc, .int .i64 pl, .int .i64 de]), ((G + 1), 62, #[.int .i64 x0, .int .i64 x1, .int .i64 x2, .int .i64 x3, .int .i64 x4, .int .i64 y0, .int .i64 y1, .int .i64 y2, .int .i64 y3, .int .i64 y4]), (G, 24, #[.int .i64 id, .int .i64 fi, .slice S sn sc, .slice V vn vc])] ∧ Below z1.heap.size z1 wx ∧ LFill lb L wx)
 case first =>
  as_aux_lemma =>
   rcases HN.out with ⟨a, b, c, d⟩ | ⟨a, b, c, d⟩
   ·subst a
    clear b c d
    go_wp2_with fail
    go_meet
    exact ⟨rfl, HX_4.out, HB_4.out, HFM.out⟩
   ·subst a
    clear b c d
    go_wp2_with fail
    go_meet
    exact ⟨rfl, HX_4.out, HB_4.out, HFM.out⟩
 case rest =>
  obtain ⟨rfl, hX, hB, hF⟩ := hcut
  clear HX_4 HB_4 HFM
  have HX_5 := Lib.hid hX; have HB_5 := Lib.hid hB; have HFM := Lib.hid hF
  clear hX hB hF 
  rename World => zr5
  as_aux_lemma =>
   have ht0 : tabOk vol = true := hold_tab HSV.out
   have hm1 : measuresS mom = true := (hold_parts HSV.out).2.1.2.1
   have ht1 := measures_ok hm1
   have hal : alongS vol mom = true := (hold_parts HSV.out).2.2.1.1
   unfold alongS at hal
   simp only [Bool.and_eq_true, decide_eq_true_eq] at hal
   have hp0 := tab_places ht0
   have hT1 := Lib.hid (fun (W : World) (hW : Below z1.heap.size z1 W) => show TabIn W B mm mom from (HIN.out.below hW).2.1)
   have hsf := sur_in HF0.out
   have hsg := sur_in HG0.out
   obtain ⟨tf1, tf2, tf3⟩ := fill_st HF0.out
   obtain ⟨tg1, tg2, tg3⟩ := fill_st HG0.out
   dsimp only at hsf hsg tf1 tf2 tg1 tg2
   have CUF := fun (a b : Int) (hs : surS ⟨hid, al, ah, vol, mom, hei, t0, t1, u0, u1, v0, v1, h0, h1⟩ ⟨fh, fs, p0, p1, d0, d1⟩ = (a, b)) => Lib.hid (fun (W : World) (hW : Below z1.heap.size z1 W) => mullage_to vol mom hei hid al ah t0 t1 u0 u1 v0 v1 h0 h1 A B C n c mm d l ee fh fs p0 p1 d0 d1 W (HIN.out.below hW).1 ht0 tf1 tf2 a b hs)
   have CUG := fun (a b : Int) (hs : surS ⟨hid, al, ah, vol, mom, hei, t0, t1, u0, u1, v0, v1, h0, h1⟩ ⟨gh, gs, q0, q1, c0, c1⟩ = (a, b)) => Lib.hid (fun (W : World) (hW : Below z1.heap.size z1 W) => mullage_to vol mom hei hid al ah t0 t1 u0 u1 v0 v1 h0 h1 A B C n c mm d l ee gh gs q0 q1 c0 c1 W (HIN.out.below hW).1 ht0 tg1 tg2 a b hs)
   have IM := fun (a b u num den : Int) (s3 : ms = 3) (ha) (hb) (hu) (V) => @instants_mom ⟨hid, al, ah, vol, mom, hei, t0, t1, u0, u1, v0, v1, h0, h1⟩ ⟨fh, fs, p0, p1, d0, d1⟩ ⟨gh, gs, q0, q1, c0, c1⟩ ⟨mh, ms, m0, m1, e0, e1⟩ (curveTo mom k1 mm) a b u num den HF0.out HG0.out HM1.out s3 (HM2.out s3) ha hb hu (curve_in k1 (HIN.out.2.1) ht1 (measures_len hm1)).1 V
   obtain ⟨⟨sf0, sf1⟩, hsfe⟩ : ∃ z, surS ⟨hid, al, ah, vol, mom, hei, t0, t1, u0, u1, v0, v1, h0, h1⟩ ⟨fh, fs, p0, p1, d0, d1⟩ = z := ⟨_, rfl⟩
   obtain ⟨⟨sg0, sg1⟩, hsge⟩ : ∃ z, surS ⟨hid, al, ah, vol, mom, hei, t0, t1, u0, u1, v0, v1, h0, h1⟩ ⟨gh, gs, q0, q1, c0, c1⟩ = z := ⟨_, rfl⟩
   have CUF := CUF sf0 sf1 hsfe
   have CUG := CUG sg0 sg1 hsge
   rw [hsfe] at hsf IM
   rw [hsge] at hsg IM
   dsimp only at hsf hsg IM
   obtain ⟨ga, hga⟩ : ∃ z, sf0 + pl % (sf1 - sf0 + 1) = z := ⟨_, rfl⟩
   have ga2 := some_inZ pl hsf.2.1
   rw [hga] at ga2
   obtain ⟨gb, hgb⟩ : ∃ z, sg0 + de % (sg1 - sg0 + 1) = z := ⟨_, rfl⟩
   have gb2 := some_inZ de hsg.2.1
   rw [hgb] at gb2
   obtain ⟨q5, hq5⟩ : ∃ z, IntKind.i64.wrap (Int.tdiv pl 5) = z := ⟨_, rfl⟩
   obtain ⟨u, hu⟩ : ∃ z, min ga gb + q5 % (max ga gb - min ga gb + 1) = z := ⟨_, rfl⟩
   have hu2 := some_inZ q5 (show min ga gb ≤ max ga gb by omega)
   rw [hu] at hu2
   have CSA : Hid (∀ W, Calls Tryz.prog 17 #[rv sf0 sf1, .int .i64 pl] W fun e w' => e = .returned (.int .i64 ga) ∧ Below W.heap.size W w') := Lib.hid fun W => int_to (msomewhere_to _ _ pl W (by omega) (by omega) (by omega)) hga
   have CSB : Hid (∀ W, Calls Tryz.prog 17 #[rv sg0 sg1, .int .i64 de] W fun e w' => e = .returned (.int .i64 gb) ∧ Below W.heap.size W w') := Lib.hid fun W => int_to (msomewhere_to _ _ de W (by omega) (by omega) (by omega)) hgb
   have CSU : Hid (∀ W, Calls Tryz.prog 17 #[rv (min ga gb) (max ga gb), .int .i64 q5] W fun e w' => e = .returned (.int .i64 u) ∧ Below W.heap.size W w') := Lib.hid fun W => int_to (msomewhere_to _ _ q5 W (by omega) (by omega) (by omega)) hu
   have I1 := Lib.hid (curve_in k1 HIN.out.2.1 ht1 (measures_len hm1))
   have K1 := Lib.hid (fun (W : World) (hW : Below z1.heap.size z1 W) => curve_c (c := d) (ca := cb) (hT1.out W hW) ht1 (HKB.out.below (below_then HQ_1.out hW)))
   have L1 := Lib.hid (fun (W : World) (cb' cc' : Nat) (hW : Below z1.heap.size z1 W) (hc : IntsP W (some ⟨cb', 0, none⟩) (curveTo mom k1 mm)) => value_c (c := d) (cc := cc') (u := u) (hT1.out W hW) ht1 (measures_len hm1) hc (by omega) (by omega))
   have IM := Lib.hid (fun (num den : Int) (s3 : ms = 3) (V) => IM ga gb u num den s3 ga2 gb2 hu2 V)
   have CMO : Hid (∀ W, Below z1.heap.size z1 W → Calls Tryz.prog 33 #[.agg #[.int .i64 hid, .int .i64 al, .int .i64 ah, .slice A n c, .slice B mm d, .slice C l ee, .int .i64 t0, .int .i64 t1, .int .i64 u0, .int .i64 u1, .int .i64 v0, .int .i64 v1, .int .i64 h0, .int .i64 h1], .agg #[.int .i64 mh, .int .i64 ms, .int .i64 m0, .int .i64 m1, .int .i64 e0, .int .i64 e1]] W fun e w' => e = .returned (.tuple #[rv (momS ⟨hid, al, ah, vol, mom, hei, t0, t1, u0, u1, v0, v1, h0, h1⟩ ⟨mh, ms, m0, m1, e0, e1⟩).1 (momS ⟨hid, al, ah, vol, mom, hei, t0, t1, u0, u1, v0, v1, h0, h1⟩ ⟨mh, ms, m0, m1, e0, e1⟩).2, .int .i64 0]) ∧ Below W.heap.size W w') := Lib.hid fun W hW => by
    have q := hMoment_any ⟨hid, al, ah, vol, mom, hei, t0, t1, u0, u1, v0, v1, h0, h1⟩ ⟨A, n, c, B, mm, d, C, l, ee⟩ ⟨mh, ms, m0, m1, e0, e1⟩ W (HIN.out.below hW)
    rw [tell_okY HM1.out] at q
    exact q
   have MA := Lib.hid (mom_amt HM1.out)
   obtain ⟨⟨mo0, mo1⟩, hmo⟩ : ∃ z, momS ⟨hid, al, ah, vol, mom, hei, t0, t1, u0, u1, v0, v1, h0, h1⟩ ⟨mh, ms, m0, m1, e0, e1⟩ = z := ⟨_, rfl⟩
   rw [hmo] at CMO IM MA
   dsimp only at CMO IM MA
   have HQ5 := Lib.hid hq5
   have CIF : Hid (fs ≠ 0 → ∀ W, Calls Tryz.prog 29 #[rv d0 d1, rv e0 e1] W fun e w' => e = .returned (.bool true) ∧ Below W.heap.size W w') := Lib.hid fun hne W => by
    rcases HM3.out with q | q
    ·exact absurd q hne
    ·exact sInside_yes d0 d1 e0 e1 W q.1 q.2
   have CIG : Hid (gs ≠ 0 → ∀ W, Calls Tryz.prog 29 #[rv c0 c1, rv e0 e1] W fun e w' => e = .returned (.bool true) ∧ Below W.heap.size W w') := Lib.hid fun hne W => by
    rcases HM4.out with q | q
    ·exact absurd q hne
    ·exact sInside_yes c0 c1 e0 e1 W q.1 q.2
   clear ht0 hm1 ht1 hal hp0 hT1 hsf hsg tf1 tf2 tf3 tg1 tg2 tg3 hsfe hsge hga ga2 hgb gb2 hq5 hu hu2 hmo HIN HSV HM1 HM2 HM3 HM4 HF0 HG0 HKB HB0
   go_upto_region 7 with fail
   have fa_ := HX_5.out _ (.tail _ (.head _))
   have fa_0 := fa_.cell 0
   have fa_1 := fa_.cell 1
   have fa_2 := fa_.cell 2
   have fa_3 := fa_.cell 3
   have fa_4 := fa_.cell 4
   have fa_5 := fa_.cell 5
   simp at fa_0 fa_1 fa_2 fa_3 fa_4 fa_5
   clear fa_
   have fb_ := HX_5.out _ (.tail _ (.tail _ (.head _)))
   have fb_0 := fb_.cell 0
   have fb_1 := fb_.cell 1
   have fb_2 := fb_.cell 2
   have fb_3 := fb_.cell 3
   have fb_4 := fb_.cell 4
   have fb_5 := fb_.cell 5
   have fb_6 := fb_.cell 6
   have fb_7 := fb_.cell 7
   have fb_8 := fb_.cell 8
   have fb_9 := fb_.cell 9
   have fb_10 := fb_.cell 10
   have fb_11 := fb_.cell 11
   have fb_12 := fb_.cell 12
   have fb_13 := fb_.cell 13
   simp at fb_0 fb_1 fb_2 fb_3 fb_4 fb_5 fb_6 fb_7 fb_8 fb_9 fb_10 fb_11 fb_12 fb_13
   clear fb_
   go_wp2_with fail
   refine (CUF.out _ HB_5.out).mono ?_
   rintro e z6 ⟨rfl, hq⟩
   have HFM2 := Lib.hid ((HFM.out.on hq).on (below_alloc1 z6 (.cells #[.int .i64 sf0, .int .i64 sf1] 30)))
   clear HFM
   have HFM := HFM2
   clear HFM2
   have HX_6 := Lib.hid ((HX_5.out.on hq).new 30 #[.int .i64 sf0, .int .i64 sf1]); have HB_6 := Lib.hid (below_then (below_then HB_5.out hq) (below_alloc1 z6 (.cells #[.int .i64 sf0, .int .i64 sf1] 30)))
   clear hq HX_5 HB_5 fa_0 fa_1 fa_2 fa_3 fa_4 fa_5 fb_0 fb_1 fb_2 fb_3 fb_4 fb_5 fb_6 fb_7 fb_8 fb_9 fb_10 fb_11 fb_12 fb_13 CUF
   go_upto_region 8 with fail
   obtain ⟨V6, hW⟩ : ∃ W', z6.alloc (.cells #[.int .i64 sf0, .int .i64 sf1] 30) = W' := ⟨_, rfl⟩
   rw [hW] at HX_6 HB_6 HFM ⊢
   clear hW
   obtain ⟨MA1, hN⟩ : ∃ n, z6.heap.size = n := ⟨_, rfl⟩
   rw [hN] at HX_6  ⊢
   clear hN
   have fa_ := HX_6.out _ (.tail _ (.head _))
   have fa_0 := fa_.cell 0
   have fa_1 := fa_.cell 1
   have fa_2 := fa_.cell 2
   have fa_3 := fa_.cell 3
   have fa_4 := fa_.cell 4
   have fa_5 := fa_.cell 5
   simp at fa_0 fa_1 fa_2 fa_3 fa_4 fa_5
   clear fa_
   have fb_ := HX_6.out _ (.tail _ (.tail _ (.tail _ (.head _))))
   have fb_0 := fb_.cell 0
   have fb_1 := fb_.cell 1
   have fb_2 := fb_.cell 2
   have fb_3 := fb_.cell 3
   have fb_4 := fb_.cell 4
   have fb_5 := fb_.cell 5
   have fb_6 := fb_.cell 6
   have fb_7 := fb_.cell 7
   have fb_8 := fb_.cell 8
   have fb_9 := fb_.cell 9
   have fb_10 := fb_.cell 10
   have fb_11 := fb_.cell 11
   have fb_12 := fb_.cell 12
   have fb_13 := fb_.cell 13
   simp at fb_0 fb_1 fb_2 fb_3 fb_4 fb_5 fb_6 fb_7 fb_8 fb_9 fb_10 fb_11 fb_12 fb_13
   clear fb_
   go_wp2_with fail
   refine (CUG.out _ HB_6.out).mono ?_
   rintro e z7 ⟨rfl, hq⟩
   have HFM2 := Lib.hid ((HFM.out.on hq).on (below_alloc1 z7 (.cells #[.int .i64 sg0, .int .i64 sg1] 30)))
   clear HFM
   have HFM := HFM2
   clear HFM2
   have HX_7 := Lib.hid ((HX_6.out.on hq).new 30 #[.int .i64 sg0, .int .i64 sg1]); have HB_7 := Lib.hid (below_then (below_then HB_6.out hq) (below_alloc1 z7 (.cells #[.int .i64 sg0, .int .i64 sg1] 30)))
   clear hq HX_6 HB_6 fa_0 fa_1 fa_2 fa_3 fa_4 fa_5 fb_0 fb_1 fb_2 fb_3 fb_4 fb_5 fb_6 fb_7 fb_8 fb_9 fb_10 fb_11 fb_12 fb_13 CUG
   go_upto_region 9 with fail
   obtain ⟨V7, hW⟩ : ∃ W', z7.alloc (.cells #[.int .i64 sg0, .int .i64 sg1] 30) = W' := ⟨_, rfl⟩
   rw [hW] at HX_7 HB_7 HFM ⊢
   clear hW
   obtain ⟨MB1, hN⟩ : ∃ n, z7.heap.size = n := ⟨_, rfl⟩
   rw [hN] at HX_7  ⊢
   clear hN
   as_aux_lemma =>
    have fa_ := HX_7.out _ (.tail _ (.tail _ (.tail _ (.tail _ (.tail _ (.head _))))))
    have fa_3 := fa_.cell 3
    simp at fa_3
    clear fa_
    have fb_ := HX_7.out _ (.tail _ (.head _))
    have fb_0 := fb_.cell 0
    have fb_1 := fb_.cell 1
    simp at fb_0 fb_1
    clear fb_
    go_wp2_with fail
    refine (CSA.out _).mono ?_
    rintro e z8 ⟨rfl, hq⟩
    have HFM2 := Lib.hid (HFM.out.on hq)
    clear HFM
    have HFM := HFM2
    clear HFM2
    have HX_8 := Lib.hid (HX_7.out.on hq); have HB_8 := Lib.hid (below_then HB_7.out hq)
    clear hq HX_7 HB_7 fa_3 fb_0 fb_1 CSA
    have fa_ := HX_8.out _ (.tail _ (.tail _ (.tail _ (.tail _ (.tail _ (.head _))))))
    have fa_4 := fa_.cell 4
    simp at fa_4
    clear fa_
    have fb_ := HX_8.out _ (.head _)
    have fb_0 := fb_.cell 0
    have fb_1 := fb_.cell 1
    simp at fb_0 fb_1
    clear fb_
    go_wp2_with fail
    refine (CSB.out _).mono ?_
    rintro e z9 ⟨rfl, hq⟩
    have HFM2 := Lib.hid (HFM.out.on hq)
    clear HFM
    have HFM := HFM2
    clear HFM2
    have HX_9 := Lib.hid (HX_8.out.on hq); have HB_9 := Lib.hid (below_then HB_8.out hq)
    clear hq HX_8 HB_8 fa_4 fb_0 fb_1 CSB
    have fa_ := HX_9.out _ (.tail _ (.tail _ (.tail _ (.tail _ (.tail _ (.head _))))))
    have fa_3 := fa_.cell 3
    simp at fa_3
    clear fa_
    have hq5 := HQ5.out
    go_wp2_with fail
    refine (CSU.out _).mono ?_
    rintro e z10 ⟨rfl, hq⟩
    have HFM2 := Lib.hid (HFM.out.on hq)
    clear HFM
    have HFM := HFM2
    clear HFM2
    have HX_10 := Lib.hid (HX_9.out.on hq); have HB_10 := Lib.hid (below_then HB_9.out hq)
    clear hq HX_9 HB_9 fa_3 CSU hq5 HQ5
    go_upto_region 12 with fail
    as_aux_lemma =>
     obtain ⟨LB, hLB⟩ : ∃ x, ([(MB1, 30, #[.int .i64 sg0, .int .i64 sg1]), (MA1, 30, #[.int .i64 sf0, .int .i64 sf1]), (MG, 55, #[.int .i64 gh, .int .i64 gs, .int .i64 q0, .int .i64 q1, .int .i64 c0, .int .i64 c1]), (MF, 55, #[.int .i64 fh, .int .i64 fs, .int .i64 p0, .int .i64 p1, .int .i64 d0, .int .i64 d1]), (MH, 35, #[.int .i64 hid, .int .i64 al, .int .i64 ah, .slice A n c, .slice B mm d, .slice C l ee, .int .i64 t0, .int .i64 t1, .int .i64 u0, .int .i64 u1, .int .i64 v0, .int .i64 v1, .int .i64 h0, .int .i64 h1]), ((G + 1 + 1), 27, #[.slice Ca na ca, .slice Cb nb cb, .slice Cc nc cc, .int .i64 pl, .int .i64 de]), ((G + 1), 62, #[.int .i64 x0, .int .i64 x1, .int .i64 x2, .int .i64 x3, .int .i64 x4, .int .i64 y0, .int .i64 y1, .int .i64 y2, .int .i64 y3, .int .i64 y4]), (G, 24, #[.int .i64 id, .int .i64 fi, .slice S sn sc, .slice V vn vc])] : List (Nat × TypeId × Array Value)) = x := ⟨_, rfl⟩
     have hl0 : (MB1, 30, #[.int .i64 sg0, .int .i64 sg1]) ∈ LB ∧ (MA1, 30, #[.int .i64 sf0, .int .i64 sf1]) ∈ LB ∧ (MG, 55, #[.int .i64 gh, .int .i64 gs, .int .i64 q0, .int .i64 q1, .int .i64 c0, .int .i64 c1]) ∈ LB ∧ (MF, 55, #[.int .i64 fh, .int .i64 fs, .int .i64 p0, .int .i64 p1, .int .i64 d0, .int .i64 d1]) ∈ LB ∧ (MH, 35, #[.int .i64 hid, .int .i64 al, .int .i64 ah, .slice A n c, .slice B mm d, .slice C l ee, .int .i64 t0, .int .i64 t1, .int .i64 u0, .int .i64 u1, .int .i64 v0, .int .i64 v1, .int .i64 h0, .int .i64 h1]) ∈ LB ∧ ((G + 1 + 1), 27, #[.slice Ca na ca, .slice Cb nb cb, .slice Cc nc cc, .int .i64 pl, .int .i64 de]) ∈ LB ∧ ((G + 1), 62, #[.int .i64 x0, .int .i64 x1, .int .i64 x2, .int .i64 x3, .int .i64 x4, .int .i64 y0, .int .i64 y1, .int .i64 y2, .int .i64 y3, .int .i64 y4]) ∈ LB ∧ (G, 24, #[.int .i64 id, .int .i64 fi, .slice S sn sc, .slice V vn vc]) ∈ LB ∧ True := by rw [← hLB]; simp
     have HL0 := Lib.hid hl0
     have hS0 : BB3 z1 LB (LFill lb L) z10.drew := ⟨by rw [← hLB]; exact HX_10.out, HB_10.out.drew, HFM.out.drew⟩
     have HLB := Lib.hid hLB
     clear hLB hl0
     refine wp_region_held_drew (S := BB3 z1 LB (LFill lb L)) (by kernel_rfl) hS0 (fun hHeld => ?_)
     obtain ⟨yq, hW⟩ : ∃ W', z10.drew = W' := ⟨_, rfl⟩
     rw [hW] at hHeld ⊢
     clear hW hS0 HFM HB_10 HX_10 
     refine tK 77 (i := 0) (v := .pointer (some ⟨MH, 4, none⟩)) rfl rfl (by kernel_rfl) ?_ hHeld ?_
     ·intro w hSw; clear hSw; go_simp; try with_reducible rfl
     simp only [uZ, uS]
     refine tK 78 (i := 1) (v := tv B mm d) rfl rfl (by kernel_rfl) ?_ hHeld ?_
     ·intro w hSw; have hz := hSw.1 _ HL0.out.2.2.2.2.1; have c4 := hz.cell 4; simp at c4; clear hz hSw; go_simp; try with_reducible rfl
     simp only [uZ, uS]
     refine tK 79 (i := 2) (v := .pointer (some ⟨MH, 4, none⟩)) rfl rfl (by kernel_rfl) ?_ hHeld ?_
     ·intro w hSw; clear hSw; go_simp; try with_reducible rfl
     simp only [uZ, uS]
     refine tK 80 (i := 3) (v := tv B mm d) rfl rfl (by kernel_rfl) ?_ hHeld ?_
     ·intro w hSw; have hz := hSw.1 _ HL0.out.2.2.2.2.1; have c4 := hz.cell 4; simp at c4; clear hz hSw; go_simp; try with_reducible rfl
     simp only [uZ, uS]
     refine tK 81 (i := 4) (v := .pointer (some ⟨(G + 1 + 1), 0, none⟩)) rfl rfl (by kernel_rfl) ?_ hHeld ?_
     ·intro w hSw; clear hSw; go_simp; try with_reducible rfl
     simp only [uZ, uS]
     refine tK 82 (i := 5) (v := .pointer (some ⟨(G + 1 + 1), 1, none⟩)) rfl rfl (by kernel_rfl) ?_ hHeld ?_
     ·intro w hSw; clear hSw; go_simp; try with_reducible rfl
     simp only [uZ, uS]
     refine tK 83 (i := 6) (v := .slice Cb nb cb) rfl rfl (by kernel_rfl) ?_ hHeld ?_
     ·intro w hSw; have hz := hSw.1 _ HL0.out.2.2.2.2.2.1; have c1 := hz.cell 1; simp at c1; clear hz hSw; go_simp; try with_reducible rfl
     simp only [uZ, uS]
     refine tK 85 (i := 8) (v := .int .i64 u) rfl rfl (by kernel_rfl) ?_ hHeld ?_
     ·intro w hSw; clear hSw; go_simp; try with_reducible rfl
     simp only [uZ, uS]
     refine wpAnyH_ready (rs := [7]) (by kernel_rfl) (by simp) ?_
     refine AllReadyH.cons rfl (fun K hK => ?_) AllReadyH.nil
     go_simp
     (with_reducible refine (K1.out _ hHeld.be2).mono ?_)
     rintro x y ⟨cv, rfl, ho, hq⟩
     obtain ⟨qb, qc, rfl, _, clt, hcm⟩ := own_ints_memN ho I1.out.2.1 I1.out.2.2
     have HCI := Lib.hid (show IntsP y (some ⟨qb, 0, none⟩) (curveTo mom k1 mm) from .inr ⟨qb, 0, rfl, clt, hcm⟩)
     clear ho clt hcm
     refine hK.out _ _ ⟨hHeld.1.on hq, below_then hHeld.2.1 hq, hHeld.2.2.on hq⟩ (fun hHeld2 => ?_)
     clear hq
     try simp only [Act.put, uA, uZ, uS]
     clear hK K hHeld
     have hHeld := hHeld2
     clear hHeld2
     refine wpAnyH_ready (rs := [9]) (by kernel_rfl) (by simp) ?_
     refine AllReadyH.cons rfl (fun K hK => ?_) AllReadyH.nil
     go_simp
     (with_reducible refine (L1.out _ qb qc hHeld.be2 HCI.out).mono ?_)
     rintro x y ⟨⟨num, den, rfl, hval⟩, hq⟩
     have HV1 := Lib.hid hval
     clear hval HCI
     refine hK.out _ _ ⟨hHeld.1.on hq, below_then hHeld.2.1 hq, hHeld.2.2.on hq⟩ (fun hHeld2 => ?_)
     clear hq
     try simp only [Act.put, uA, uZ, uS]
     clear hK K hHeld
     have hHeld := hHeld2
     clear hHeld2
     refine tK 76 (i := 10) (v := .tuple #[.int .i64 num, .int .i64 den]) rfl rfl (by kernel_rfl) ?_ hHeld ?_
     ·intro w hSw; clear hSw; go_simp; try with_reducible rfl
     simp only [uZ, uS]
     refine tK 87 (i := 11) (v := .int .i64 num) rfl rfl (by kernel_rfl) ?_ hHeld ?_
     ·intro w hSw; clear hSw; go_simp; try with_reducible rfl
     simp only [uZ, uS]
     refine tK 88 (i := 12) (v := .int .i64 den) rfl rfl (by kernel_rfl) ?_ hHeld ?_
     ·intro w hSw; clear hSw; go_simp; try with_reducible rfl
     simp only [uZ, uS]
     refine tK 17 (i := 13) (v := .int .i64 num) rfl rfl (by kernel_rfl) ?_ hHeld ?_
     ·intro w hSw; clear hSw; go_simp; try with_reducible rfl
     simp only [uZ, uS]
     refine tK 18 (i := 14) (v := .int .i64 den) rfl rfl (by kernel_rfl) ?_ hHeld ?_
     ·intro w hSw; clear hSw; go_simp; try with_reducible rfl
     simp only [uZ, uS]
     refine wpAnyH_done (by kernel_rfl) ?_ _
     rename World => zd11
     have HX_11 := Lib.hid (show Boxes zd11 LB from hHeld.1); have HB_11 := Lib.hid hHeld.2.1; have HFM := Lib.hid hHeld.2.2
     clear hHeld
     rw [← HLB.out] at HX_11
     clear HLB HL0
     clear K1 L1 I1
     go_upto_region 13 with fail
     go_cut [126] (fun sb wx => sb = .bool false ∧ Boxes wx [(MB1, 30, #[.int .i64 sg0, .int .i64 sg1]), (MA1, 30, #[.int .i64 sf0, .int .i64 sf1]), (MG, 55, #[.int .i64 gh, .int .i64 gs, .int .i64 q0, .int .i64 q1, .int .i64 c0, .int .i64 c1]), (MF, 55, #[.int .i64 fh, .int .i64 fs, .int .i64 p0, .int .i64 p1, .int .i64 d0, .int .i64 d1]), (MH, 35, #[.int .i64 hid, .int .i64 al, .int .i64 ah, .slice A n c, .slice B mm d, .slice C l ee, .int .i64 t0, .int .i64 t1, .int .i64 u0, .int .i64 u1, .int .i64 v0, .int .i64 v1, .int .i64 h0, .int .i64 h1]), ((G + 1 + 1), 27, #[.slice Ca na ca, .slice Cb nb cb, .slice Cc nc cc, .int .i64 pl, .int .i64 de]), ((G + 1), 62, #[.int .i64 x0, .int .i64 x1, .int .i64 x2, .int .i64 x3, .int .i64 x4, .int .i64 y0, .int .i64 y1, .int .i64 y2, .int .i64 y3, .int .i64 y4]), (G, 24, #[.int .i64 id, .int .i64 fi, .slice S sn sc, .slice V vn vc])] ∧ Below z1.heap.size z1 wx ∧ LFill lb L wx)
     case first =>
      as_aux_lemma =>
       have fa_ := HX_11.out _ (.tail _ (.tail _ (.tail _ (.head _))))
       have fa_0 := fa_.cell 0
       have fa_1 := fa_.cell 1
       have fa_2 := fa_.cell 2
       have fa_3 := fa_.cell 3
       have fa_4 := fa_.cell 4
       have fa_5 := fa_.cell 5
       simp at fa_0 fa_1 fa_2 fa_3 fa_4 fa_5
       clear fa_
       have fb_ := HX_11.out _ (.tail _ (.tail _ (.head _)))
       have fb_0 := fb_.cell 0
       have fb_1 := fb_.cell 1
       have fb_2 := fb_.cell 2
       have fb_3 := fb_.cell 3
       have fb_4 := fb_.cell 4
       have fb_5 := fb_.cell 5
       simp at fb_0 fb_1 fb_2 fb_3 fb_4 fb_5
       clear fb_
       rcases HN.out with ⟨a, b, c, dd⟩ | ⟨a, b, c, dd⟩
       ·subst a
        subst c
        subst dd
        clear b
        obtain ⟨i00, i01, i02, i03, i04, i05⟩ := HFM.out.item (k := 0) rfl
        simp at i00 i01 i02 i03 i04 i05
        go_quiet (fail)
        go_wp2_with fail
        go_meet
        exact ⟨rfl, HX_11.out.on (below_drewM (Below.refl _ _) _), below_drewM HB_11.out _, HFM.out.on (below_drewM (Below.refl _ _) _)⟩
       ·subst a
        subst c
        subst dd
        clear b
        obtain ⟨i00, i01, i02, i03, i04, i05⟩ := HFM.out.item (k := 0) rfl
        obtain ⟨i10, i11, i12, i13, i14, i15⟩ := HFM.out.item (k := 1) rfl
        obtain ⟨i20, i21, i22, i23, i24, i25⟩ := HFM.out.item (k := 2) rfl
        simp at i00 i01 i02 i03 i04 i05 i10 i11 i12 i13 i14 i15 i20 i21 i22 i23 i24 i25
        go_quiet (fail)
        go_wp2_with fail
        go_meet
        exact ⟨rfl, HX_11.out.on (below_drewM (Below.refl _ _) _), below_drewM HB_11.out _, HFM.out.on (below_drewM (Below.refl _ _) _)⟩
     case rest =>
      obtain ⟨rfl, hX, hB, hF⟩ := hcut
      clear HX_11 HB_11 HFM
      have HX_12 := Lib.hid hX; have HB_12 := Lib.hid hB; have HFM := Lib.hid hF
      clear hX hB hF HN
      rename World => zr12
      as_aux_lemma =>
       go_upto_region 15 with fail
       go_cut [19] (fun sb wx => sb = .int .i64 (kk : Int) ∧ Boxes wx [(MB1, 30, #[.int .i64 sg0, .int .i64 sg1]), (MA1, 30, #[.int .i64 sf0, .int .i64 sf1]), (MG, 55, #[.int .i64 gh, .int .i64 gs, .int .i64 q0, .int .i64 q1, .int .i64 c0, .int .i64 c1]), (MF, 55, #[.int .i64 fh, .int .i64 fs, .int .i64 p0, .int .i64 p1, .int .i64 d0, .int .i64 d1]), (MH, 35, #[.int .i64 hid, .int .i64 al, .int .i64 ah, .slice A n c, .slice B mm d, .slice C l ee, .int .i64 t0, .int .i64 t1, .int .i64 u0, .int .i64 u1, .int .i64 v0, .int .i64 v1, .int .i64 h0, .int .i64 h1]), ((G + 1 + 1), 27, #[.slice Ca na ca, .slice Cb nb cb, .slice Cc nc cc, .int .i64 pl, .int .i64 de]), ((G + 1), 62, #[.int .i64 x0, .int .i64 x1, .int .i64 x2, .int .i64 x3, .int .i64 x4, .int .i64 y0, .int .i64 y1, .int .i64 y2, .int .i64 y3, .int .i64 y4]), (G, 24, #[.int .i64 id, .int .i64 fi, .slice S sn sc, .slice V vn vc])] ∧ Below z1.heap.size z1 wx ∧ LFill lb L wx)
       case first =>
        as_aux_lemma =>
         go_wp2_with fail
         go_meet
         exact ⟨by first | rw [HLM.out.2.2.1.2] | rw [HLM.out.2.2.1.1], HX_12.out, HB_12.out, HFM.out⟩
       case rest =>
        obtain ⟨rfl, hX, hB, hF⟩ := hcut
        clear HX_12 HB_12 HFM
        have HX_13 := Lib.hid hX; have HB_13 := Lib.hid hB; have HFM := Lib.hid hF
        clear hX hB hF 
        rename World => zr13
        as_aux_lemma =>
         have hkn := HLM.out.2.1
         go_upto_region 16 with fail
         go_cut [20, 21] (fun s20 s21 wx => ∃ N, s20 = .pointer (some ⟨N, 0, none⟩) ∧ s21 = .int .i64 0 ∧ Boxes wx ((N, 30, #[.int .i64 mo0, .int .i64 mo1]) :: [(MB1, 30, #[.int .i64 sg0, .int .i64 sg1]), (MA1, 30, #[.int .i64 sf0, .int .i64 sf1]), (MG, 55, #[.int .i64 gh, .int .i64 gs, .int .i64 q0, .int .i64 q1, .int .i64 c0, .int .i64 c1]), (MF, 55, #[.int .i64 fh, .int .i64 fs, .int .i64 p0, .int .i64 p1, .int .i64 d0, .int .i64 d1]), (MH, 35, #[.int .i64 hid, .int .i64 al, .int .i64 ah, .slice A n c, .slice B mm d, .slice C l ee, .int .i64 t0, .int .i64 t1, .int .i64 u0, .int .i64 u1, .int .i64 v0, .int .i64 v1, .int .i64 h0, .int .i64 h1]), ((G + 1 + 1), 27, #[.slice Ca na ca, .slice Cb nb cb, .slice Cc nc cc, .int .i64 pl, .int .i64 de]), ((G + 1), 62, #[.int .i64 x0, .int .i64 x1, .int .i64 x2, .int .i64 x3, .int .i64 x4, .int .i64 y0, .int .i64 y1, .int .i64 y2, .int .i64 y3, .int .i64 y4]), (G, 24, #[.int .i64 id, .int .i64 fi, .slice S sn sc, .slice V vn vc])]) ∧ Below z1.heap.size z1 wx ∧ LFill lb L wx)
         case first =>
          as_aux_lemma =>
           obtain ⟨LB, hLB⟩ : ∃ x, ([(MB1, 30, #[.int .i64 sg0, .int .i64 sg1]), (MA1, 30, #[.int .i64 sf0, .int .i64 sf1]), (MG, 55, #[.int .i64 gh, .int .i64 gs, .int .i64 q0, .int .i64 q1, .int .i64 c0, .int .i64 c1]), (MF, 55, #[.int .i64 fh, .int .i64 fs, .int .i64 p0, .int .i64 p1, .int .i64 d0, .int .i64 d1]), (MH, 35, #[.int .i64 hid, .int .i64 al, .int .i64 ah, .slice A n c, .slice B mm d, .slice C l ee, .int .i64 t0, .int .i64 t1, .int .i64 u0, .int .i64 u1, .int .i64 v0, .int .i64 v1, .int .i64 h0, .int .i64 h1]), ((G + 1 + 1), 27, #[.slice Ca na ca, .slice Cb nb cb, .slice Cc nc cc, .int .i64 pl, .int .i64 de]), ((G + 1), 62, #[.int .i64 x0, .int .i64 x1, .int .i64 x2, .int .i64 x3, .int .i64 x4, .int .i64 y0, .int .i64 y1, .int .i64 y2, .int .i64 y3, .int .i64 y4]), (G, 24, #[.int .i64 id, .int .i64 fi, .slice S sn sc, .slice V vn vc])] : List (Nat × TypeId × Array Value)) = x := ⟨_, rfl⟩
           have hl0 : (MB1, 30, #[.int .i64 sg0, .int .i64 sg1]) ∈ LB ∧ (MA1, 30, #[.int .i64 sf0, .int .i64 sf1]) ∈ LB ∧ (MG, 55, #[.int .i64 gh, .int .i64 gs, .int .i64 q0, .int .i64 q1, .int .i64 c0, .int .i64 c1]) ∈ LB ∧ (MF, 55, #[.int .i64 fh, .int .i64 fs, .int .i64 p0, .int .i64 p1, .int .i64 d0, .int .i64 d1]) ∈ LB ∧ (MH, 35, #[.int .i64 hid, .int .i64 al, .int .i64 ah, .slice A n c, .slice B mm d, .slice C l ee, .int .i64 t0, .int .i64 t1, .int .i64 u0, .int .i64 u1, .int .i64 v0, .int .i64 v1, .int .i64 h0, .int .i64 h1]) ∈ LB ∧ ((G + 1 + 1), 27, #[.slice Ca na ca, .slice Cb nb cb, .slice Cc nc cc, .int .i64 pl, .int .i64 de]) ∈ LB ∧ ((G + 1), 62, #[.int .i64 x0, .int .i64 x1, .int .i64 x2, .int .i64 x3, .int .i64 x4, .int .i64 y0, .int .i64 y1, .int .i64 y2, .int .i64 y3, .int .i64 y4]) ∈ LB ∧ (G, 24, #[.int .i64 id, .int .i64 fi, .slice S sn sc, .slice V vn vc]) ∈ LB ∧ True := by rw [← hLB]; simp
           have HL0 := Lib.hid hl0
           have hS0 : BB3 z1 LB (LFill lb L) zr13.drew := ⟨by rw [← hLB]; exact HX_13.out, HB_13.out.drew, HFM.out.drew⟩
           have HLB := Lib.hid hLB
           clear hLB hl0
           refine wp_region_held_drew (S := BB3 z1 LB (LFill lb L)) (by kernel_rfl) hS0 (fun hHeld => ?_)
           obtain ⟨yq, hW⟩ : ∃ W', zr13.drew = W' := ⟨_, rfl⟩
           rw [hW] at hHeld ⊢
           clear hW hS0 HFM HB_13 HX_13 
           refine tK 131 (i := 0) (v := .agg #[.int .i64 hid, .int .i64 al, .int .i64 ah, .slice A n c, .slice B mm d, .slice C l ee, .int .i64 t0, .int .i64 t1, .int .i64 u0, .int .i64 u1, .int .i64 v0, .int .i64 v1, .int .i64 h0, .int .i64 h1]) rfl rfl (by kernel_rfl) ?_ hHeld ?_
           ·intro w hSw; have hz := hSw.1 _ HL0.out.2.2.2.2.1; have c0 := hz.cell 0; have c1 := hz.cell 1; have c2 := hz.cell 2; have c3 := hz.cell 3; have c4 := hz.cell 4; have c5 := hz.cell 5; have c6 := hz.cell 6; have c7 := hz.cell 7; have c8 := hz.cell 8; have c9 := hz.cell 9; have c10 := hz.cell 10; have c11 := hz.cell 11; have c12 := hz.cell 12; have c13 := hz.cell 13; simp at c0 c1 c2 c3 c4 c5 c6 c7 c8 c9 c10 c11 c12 c13; clear hz hSw; go_simp; try with_reducible rfl
           simp only [uZ, uS]
           refine tK 132 (i := 1) (v := .slice (some ⟨lb, 0, none⟩) N cq) rfl rfl (by kernel_rfl) ?_ hHeld ?_
           ·intro w hSw; clear hSw; go_simp; try with_reducible rfl
           simp only [uZ, uS]
           refine tK 133 (i := 2) (v := .int .i64 (kk : Int)) rfl rfl (by kernel_rfl) ?_ hHeld ?_
           ·intro w hSw; clear hSw; go_simp; try with_reducible rfl
           simp only [uZ, uS]
           refine tK 134 (i := 3) (v := .pointer (some ⟨lb, kk * 6, none⟩)) rfl rfl (by kernel_rfl) ?_ hHeld ?_
           ·intro w hSw; clear hSw; go_simp; try with_reducible rfl
           simp only [uZ, uS]
           refine tK 135 (i := 4) (v := .agg #[.int .i64 mh, .int .i64 ms, .int .i64 m0, .int .i64 m1, .int .i64 e0, .int .i64 e1]) rfl rfl (by kernel_rfl) ?_ hHeld ?_
           ·intro w hSw; have hz := hSw.2.2.item HLM.out.1; dsimp only at hz; obtain ⟨c0', c1', c2', c3', c4', c5'⟩ := hz; clear hSw; go_simp; try with_reducible rfl
           simp only [uZ, uS]
           refine wpAnyH_ready (rs := [5, 9]) (by kernel_rfl) (by simp) ?_
           refine AllReadyH.cons rfl (fun K hK => ?_) (AllReadyH.cons rfl (fun K hK => ?_) AllReadyH.nil)
           ·skip
            go_simp
            (with_reducible refine (CMO.out _ hHeld.be2).mono ?_)
            rintro x y ⟨rfl, hq⟩
            refine hK.out _ _ ⟨hHeld.1.on hq, below_then hHeld.2.1 hq, hHeld.2.2.on hq⟩ (fun hHeld2 => ?_)
            clear hq
            try simp only [Act.put, uA, uZ, uS]
            clear hK K hHeld
            have hHeld := hHeld2
            clear hHeld2
            refine tK 130 (i := 6) (v := .tuple #[rv mo0 mo1, .int .i64 0]) rfl rfl (by kernel_rfl) ?_ hHeld ?_
            ·intro w hSw; clear hSw; go_simp; try with_reducible rfl
            simp only [uZ, uS]
            refine tK 137 (i := 7) (v := rv mo0 mo1) rfl rfl (by kernel_rfl) ?_ hHeld ?_
            ·intro w hSw; clear hSw; go_simp; try with_reducible rfl
            simp only [uZ, uS]
            refine tK 138 (i := 8) (v := .int .i64 0) rfl rfl (by kernel_rfl) ?_ hHeld ?_
            ·intro w hSw; clear hSw; go_simp; try with_reducible rfl
            simp only [uZ, uS]
            refine wpAnyH_ready (rs := [9]) (by kernel_rfl) (by simp) ?_
            refine AllReadyH.cons rfl (fun K hK => ?_) AllReadyH.nil
            rename World => yq
            go_simp
            have HDN := Lib.hid (boxes_lt hHeld.1); have HBN := Lib.hid (Nat.ne_of_lt hHeld.2.2.2); have HZN := Lib.hid hHeld.2.1.size; have HY := Lib.hid (hHeld.1.new 30 #[.int .i64 0, .int .i64 0])
            refine hK.out _ _ ⟨hHeld.1.on (below_alloc1 _ _), below_then hHeld.2.1 (below_alloc1 _ _), hHeld.2.2.on (below_alloc1 _ _)⟩ (fun hHeld2 => ?_)
            try simp only [Act.put, uA, uZ, uS]
            clear hK K hHeld
            have hHeld := hHeld2
            clear hHeld2
            obtain ⟨yr, hW⟩ : ∃ W', yq.alloc (.cells #[.int .i64 0, .int .i64 0] 30) = W' := ⟨_, rfl⟩
            rw [hW] at HY hHeld ⊢
            clear hW
            obtain ⟨N14, hN⟩ : ∃ N, yq.heap.size = N := ⟨_, rfl⟩
            rw [hN] at HY HDN HZN HBN ⊢
            clear hN
            refine wpAnyH_ready (rs := [10]) (by kernel_rfl) (by simp) ?_
            refine AllReadyH.cons rfl (fun K hK => ?_) AllReadyH.nil
            rw [if_pos (by kernel_rfl)]
            rename World => yq
            have HXs : Hid (Boxes (yq.setRow N14 #[.int .i64 mo0, .int .i64 mo1]) ((N14, 30, #[.int .i64 mo0, .int .i64 mo1]) :: LB)) := Lib.hid (Boxes.row HY.out (.head _) (fun p hp => ⟨.tail _ hp, HDN.out p hp⟩) #[.int .i64 mo0, .int .i64 mo1])
            have HEs := Lib.hid (below_setRow hHeld.2.1 (show z1.heap.size ≤ N14 from HZN.out) #[.int .i64 mo0, .int .i64 mo1])
            refine wp_store_row 30 (.tmp 20) (.tmp 137) rfl N14 #[.int .i64 mo0, .int .i64 mo1] rfl rfl 30 _ (HY.out _ (.head _)) (by kernel_rfl) rfl (by kernel_rfl) ?_
            refine hK.out _ _ ⟨hHeld.1.farRow (g := N14) HDN.out _, HEs.out, hHeld.2.2.farRow HBN.out _⟩ (fun hHeld2 => ?_)
            try simp only [Act.put, uA, uZ, uS]
            clear hK K hHeld
            have hHeld := hHeld2
            clear hHeld2
            refine tK 21 (i := 11) (v := .int .i64 0) rfl rfl (by kernel_rfl) ?_ hHeld ?_
            ·intro w hSw; clear hSw; go_simp; try with_reducible rfl
            simp only [uZ, uS]
            refine wpAnyH_done (by kernel_rfl) ?_ _
            have HFS := hHeld.2.2
            clear hHeld
            go_wp2_with fail
            go_meet
            rw [← HLB.out] at HXs
            exact ⟨N14, rfl, rfl, HXs.out, HEs.out, HFS⟩
           ·skip
            rename World => yq
            go_simp
            have HDN := Lib.hid (boxes_lt hHeld.1); have HBN := Lib.hid (Nat.ne_of_lt hHeld.2.2.2); have HZN := Lib.hid hHeld.2.1.size; have HY := Lib.hid (hHeld.1.new 30 #[.int .i64 0, .int .i64 0])
            refine hK.out _ _ ⟨hHeld.1.on (below_alloc1 _ _), below_then hHeld.2.1 (below_alloc1 _ _), hHeld.2.2.on (below_alloc1 _ _)⟩ (fun hHeld2 => ?_)
            try simp only [Act.put, uA, uZ, uS]
            clear hK K hHeld
            have hHeld := hHeld2
            clear hHeld2
            obtain ⟨yr, hW⟩ : ∃ W', yq.alloc (.cells #[.int .i64 0, .int .i64 0] 30) = W' := ⟨_, rfl⟩
            rw [hW] at HY hHeld ⊢
            clear hW
            obtain ⟨N14, hN⟩ : ∃ N, yq.heap.size = N := ⟨_, rfl⟩
            rw [hN] at HY HDN HZN HBN ⊢
            clear hN
            refine wpAnyH_ready (rs := [5]) (by kernel_rfl) (by simp) ?_
            refine AllReadyH.cons rfl (fun K hK => ?_) AllReadyH.nil
            go_simp
            (with_reducible refine (CMO.out _ hHeld.be2).mono ?_)
            rintro x y ⟨rfl, hq⟩
            have HY := Lib.hid (HY.out.on hq)
            refine hK.out _ _ ⟨hHeld.1.on hq, below_then hHeld.2.1 hq, hHeld.2.2.on hq⟩ (fun hHeld2 => ?_)
            clear hq
            try simp only [Act.put, uA, uZ, uS]
            clear hK K hHeld
            have hHeld := hHeld2
            clear hHeld2
            refine tK 130 (i := 6) (v := .tuple #[rv mo0 mo1, .int .i64 0]) rfl rfl (by kernel_rfl) ?_ hHeld ?_
            ·intro w hSw; clear hSw; go_simp; try with_reducible rfl
            simp only [uZ, uS]
            refine tK 137 (i := 7) (v := rv mo0 mo1) rfl rfl (by kernel_rfl) ?_ hHeld ?_
            ·intro w hSw; clear hSw; go_simp; try with_reducible rfl
            simp only [uZ, uS]
            refine tK 138 (i := 8) (v := .int .i64 0) rfl rfl (by kernel_rfl) ?_ hHeld ?_
            ·intro w hSw; clear hSw; go_simp; try with_reducible rfl
            simp only [uZ, uS]
            refine wpAnyH_ready (rs := [10]) (by kernel_rfl) (by simp) ?_
            refine AllReadyH.cons rfl (fun K hK => ?_) AllReadyH.nil
            rw [if_pos (by kernel_rfl)]
            rename World => yq
            have HXs : Hid (Boxes (yq.setRow N14 #[.int .i64 mo0, .int .i64 mo1]) ((N14, 30, #[.int .i64 mo0, .int .i64 mo1]) :: LB)) := Lib.hid (Boxes.row HY.out (.head _) (fun p hp => ⟨.tail _ hp, HDN.out p hp⟩) #[.int .i64 mo0, .int .i64 mo1])
            have HEs := Lib.hid (below_setRow hHeld.2.1 (show z1.heap.size ≤ N14 from HZN.out) #[.int .i64 mo0, .int .i64 mo1])
            refine wp_store_row 30 (.tmp 20) (.tmp 137) rfl N14 #[.int .i64 mo0, .int .i64 mo1] rfl rfl 30 _ (HY.out _ (.head _)) (by kernel_rfl) rfl (by kernel_rfl) ?_
            refine hK.out _ _ ⟨hHeld.1.farRow (g := N14) HDN.out _, HEs.out, hHeld.2.2.farRow HBN.out _⟩ (fun hHeld2 => ?_)
            try simp only [Act.put, uA, uZ, uS]
            clear hK K hHeld
            have hHeld := hHeld2
            clear hHeld2
            refine tK 21 (i := 11) (v := .int .i64 0) rfl rfl (by kernel_rfl) ?_ hHeld ?_
            ·intro w hSw; clear hSw; go_simp; try with_reducible rfl
            simp only [uZ, uS]
            refine wpAnyH_done (by kernel_rfl) ?_ _
            have HFS := hHeld.2.2
            clear hHeld
            go_wp2_with fail
            go_meet
            rw [← HLB.out] at HXs
            exact ⟨N14, rfl, rfl, HXs.out, HEs.out, HFS⟩
         case rest =>
          obtain ⟨MC, rfl, rfl, hX, hB, hF⟩ := hcut
          have HX_15 := Lib.hid hX; have HB_15 := Lib.hid hB; have HFM2 := Lib.hid hF
          clear hF HFM
          have HFM := HFM2
          clear HFM2
          clear hX hB HX_13 HB_13 CMO
          rename World => zr15
          as_aux_lemma =>
           go_upto_region 17 with fail
           go_cut [155] (fun sb wx => sb = .bool false ∧ Boxes wx [(MC, 30, #[.int .i64 mo0, .int .i64 mo1]), (MB1, 30, #[.int .i64 sg0, .int .i64 sg1]), (MA1, 30, #[.int .i64 sf0, .int .i64 sf1]), (MG, 55, #[.int .i64 gh, .int .i64 gs, .int .i64 q0, .int .i64 q1, .int .i64 c0, .int .i64 c1]), (MF, 55, #[.int .i64 fh, .int .i64 fs, .int .i64 p0, .int .i64 p1, .int .i64 d0, .int .i64 d1]), (MH, 35, #[.int .i64 hid, .int .i64 al, .int .i64 ah, .slice A n c, .slice B mm d, .slice C l ee, .int .i64 t0, .int .i64 t1, .int .i64 u0, .int .i64 u1, .int .i64 v0, .int .i64 v1, .int .i64 h0, .int .i64 h1]), ((G + 1 + 1), 27, #[.slice Ca na ca, .slice Cb nb cb, .slice Cc nc cc, .int .i64 pl, .int .i64 de]), ((G + 1), 62, #[.int .i64 x0, .int .i64 x1, .int .i64 x2, .int .i64 x3, .int .i64 x4, .int .i64 y0, .int .i64 y1, .int .i64 y2, .int .i64 y3, .int .i64 y4]), (G, 24, #[.int .i64 id, .int .i64 fi, .slice S sn sc, .slice V vn vc])] ∧ Below z1.heap.size z1 wx ∧ LFill lb L wx)
           case first =>
            as_aux_lemma =>
             have fa_ := HX_15.out _ (.head _)
             have fa_0 := fa_.cell 0
             have fa_1 := fa_.cell 1
             simp at fa_0 fa_1
             clear fa_
             obtain ⟨i0, i1, i2, i3, i4, i5⟩ := HFM.out.item HLM.out.1
             dsimp only at i1
             clear i0 i2 i3 i4 i5
             by_cases s3 : ms = 3
             rotate_left
             ·have b3 : (ms == 3) = false := by simpa using s3
              clear s3
              go_wp2_with fail
              go_meet
              exact ⟨rfl, HX_15.out, HB_15.out, HFM.out⟩
             obtain ⟨g1, g2, g3, g4⟩ := IM.out num den s3 HV1.out
             obtain ⟨a1, a2, a3, a4⟩ := amt_prod MA.out g1 g2 g3 g4
             have CW := Lib.hid (fun (W : World) => swithin_yes mo0 mo1 num den W g3 g4 a1 a2 ⟨a3, a4⟩)
             clear g1 g2 g3 g4 a1 a2 a3 a4
             subst s3
             go_wp2_with fail
             refine (CW.out _).mono ?_
             rintro e zw ⟨rfl, hq⟩
             have HX_w := Lib.hid (HX_15.out.on hq); have HB_w := Lib.hid (below_then HB_15.out hq); have HF_w := Lib.hid (HFM.out.on hq)
             clear hq i1 fa_0 fa_1
             go_wp2_with fail
             go_meet
             exact ⟨rfl, HX_w.out, HB_w.out, HF_w.out⟩
           case rest =>
            obtain ⟨rfl, hX, hB, hF⟩ := hcut
            clear HX_15 HB_15 HFM
            have HX_16 := Lib.hid hX; have HB_16 := Lib.hid hB; have HFM := Lib.hid hF
            clear hX hB hF IM MA HV1
            rename World => zr16
            as_aux_lemma =>
             go_upto_region 19 with fail
             by_cases hf0 : fs = 0
             ·subst hf0
              by_cases hg0 : gs = 0
              ·subst hg0
               obtain ⟨LB, hLB⟩ : ∃ x, ([(MC, 30, #[.int .i64 mo0, .int .i64 mo1]), (MB1, 30, #[.int .i64 sg0, .int .i64 sg1]), (MA1, 30, #[.int .i64 sf0, .int .i64 sf1]), (MG, 55, #[.int .i64 gh, .int .i64 0, .int .i64 q0, .int .i64 q1, .int .i64 c0, .int .i64 c1]), (MF, 55, #[.int .i64 fh, .int .i64 0, .int .i64 p0, .int .i64 p1, .int .i64 d0, .int .i64 d1]), (MH, 35, #[.int .i64 hid, .int .i64 al, .int .i64 ah, .slice A n c, .slice B mm d, .slice C l ee, .int .i64 t0, .int .i64 t1, .int .i64 u0, .int .i64 u1, .int .i64 v0, .int .i64 v1, .int .i64 h0, .int .i64 h1]), ((G + 1 + 1), 27, #[.slice Ca na ca, .slice Cb nb cb, .slice Cc nc cc, .int .i64 pl, .int .i64 de]), ((G + 1), 62, #[.int .i64 x0, .int .i64 x1, .int .i64 x2, .int .i64 x3, .int .i64 x4, .int .i64 y0, .int .i64 y1, .int .i64 y2, .int .i64 y3, .int .i64 y4]), (G, 24, #[.int .i64 id, .int .i64 fi, .slice S sn sc, .slice V vn vc])] : List (Nat × TypeId × Array Value)) = x := ⟨_, rfl⟩
               have hl0 : (MC, 30, #[.int .i64 mo0, .int .i64 mo1]) ∈ LB ∧ (MB1, 30, #[.int .i64 sg0, .int .i64 sg1]) ∈ LB ∧ (MA1, 30, #[.int .i64 sf0, .int .i64 sf1]) ∈ LB ∧ (MG, 55, #[.int .i64 gh, .int .i64 0, .int .i64 q0, .int .i64 q1, .int .i64 c0, .int .i64 c1]) ∈ LB ∧ (MF, 55, #[.int .i64 fh, .int .i64 0, .int .i64 p0, .int .i64 p1, .int .i64 d0, .int .i64 d1]) ∈ LB ∧ (MH, 35, #[.int .i64 hid, .int .i64 al, .int .i64 ah, .slice A n c, .slice B mm d, .slice C l ee, .int .i64 t0, .int .i64 t1, .int .i64 u0, .int .i64 u1, .int .i64 v0, .int .i64 v1, .int .i64 h0, .int .i64 h1]) ∈ LB ∧ ((G + 1 + 1), 27, #[.slice Ca na ca, .slice Cb nb cb, .slice Cc nc cc, .int .i64 pl, .int .i64 de]) ∈ LB ∧ ((G + 1), 62, #[.int .i64 x0, .int .i64 x1, .int .i64 x2, .int .i64 x3, .int .i64 x4, .int .i64 y0, .int .i64 y1, .int .i64 y2, .int .i64 y3, .int .i64 y4]) ∈ LB ∧ (G, 24, #[.int .i64 id, .int .i64 fi, .slice S sn sc, .slice V vn vc]) ∈ LB ∧ True := by rw [← hLB]; simp
               have HL0 := Lib.hid hl0
               have hS0 : BB3 z1 LB (LFill lb L) zr16.drew := ⟨by rw [← hLB]; exact HX_16.out, HB_16.out.drew, HFM.out.drew⟩
               have HLB := Lib.hid hLB
               clear hLB hl0
               refine wp_region_held_drew (S := BB3 z1 LB (LFill lb L)) (by kernel_rfl) hS0 (fun hHeld => ?_)
               obtain ⟨yq, hW⟩ : ∃ W', zr16.drew = W' := ⟨_, rfl⟩
               rw [hW] at hHeld ⊢
               clear hW hS0 HFM HB_16 HX_16 
               refine tK 156 (i := 0) (v := .pointer (some ⟨MF, 1, none⟩)) rfl rfl (by kernel_rfl) ?_ hHeld ?_
               ·intro w hSw; clear hSw; go_simp; try with_reducible rfl
               simp only [uZ, uS]
               refine tK 157 (i := 1) (v := .int .i64 0) rfl rfl (by kernel_rfl) ?_ hHeld ?_
               ·intro w hSw; have hz := hSw.1 _ HL0.out.2.2.2.2.1; have c1 := hz.cell 1; simp at c1; clear hz hSw; go_simp; try with_reducible rfl
               simp only [uZ, uS]
               refine tK 158 (i := 2) (v := .bool true) rfl rfl (by kernel_rfl) ?_ hHeld ?_
               ·intro w hSw; clear hSw; go_simp; try with_reducible rfl
               simp only [uZ, uS]
               refine tK 159 (i := 3) (v := .bool true) rfl rfl (by kernel_rfl) ?_ hHeld ?_
               ·intro w hSw; clear hSw; go_simp; try with_reducible rfl
               simp only [uZ, uS]
               refine wpAnyH_take (i := 4) (v := undef) rfl (by kernel_rfl) (by kernel_rfl) (by kernel_rfl) (fun _ _ _ h => h) (Or.inr ⟨by kernel_rfl, rfl⟩) hHeld ?_
               change wpAnyH _ _ _ _ _ _ _ (Act.put _ (some 160) _) _
               try simp only [Act.put, uA, uZ, uS]
               refine wpAnyH_take (i := 5) (v := undef) rfl (by kernel_rfl) (by kernel_rfl) (by kernel_rfl) (fun _ _ _ h => h) (Or.inr ⟨by kernel_rfl, rfl⟩) hHeld ?_
               change wpAnyH _ _ _ _ _ _ _ (Act.put _ (some 161) _) _
               try simp only [Act.put, uA, uZ, uS]
               refine wpAnyH_take (i := 6) (v := undef) rfl (by kernel_rfl) (by kernel_rfl) (by kernel_rfl) (fun _ _ _ h => h) (Or.inr ⟨by kernel_rfl, rfl⟩) hHeld ?_
               change wpAnyH _ _ _ _ _ _ _ (Act.put _ (some 162) _) _
               try simp only [Act.put, uA, uZ, uS]
               refine wpAnyH_take (i := 7) (v := undef) rfl (by kernel_rfl) (by kernel_rfl) (by kernel_rfl) (fun _ _ _ h => h) (Or.inr ⟨by kernel_rfl, rfl⟩) hHeld ?_
               change wpAnyH _ _ _ _ _ _ _ (Act.put _ (some 163) _) _
               try simp only [Act.put, uA, uZ, uS]
               refine wpAnyH_take (i := 8) (v := undef) rfl (by kernel_rfl) (by kernel_rfl) (by kernel_rfl) (fun _ _ _ h => h) (Or.inr ⟨by kernel_rfl, rfl⟩) hHeld ?_
               change wpAnyH _ _ _ _ _ _ _ (Act.put _ (some 164) _) _
               try simp only [Act.put, uA, uZ, uS]
               refine wpAnyH_take (i := 9) (v := undef) rfl (by kernel_rfl) (by kernel_rfl) (by kernel_rfl) (fun _ _ _ h => h) (Or.inr ⟨by kernel_rfl, rfl⟩) hHeld ?_
               change wpAnyH _ _ _ _ _ _ _ (Act.put _ (some 165) _) _
               try simp only [Act.put, uA, uZ, uS]
               refine wpAnyH_take (i := 10) (v := undef) rfl (by kernel_rfl) (by kernel_rfl) (by kernel_rfl) (fun _ _ _ h => h) (Or.inr ⟨by kernel_rfl, rfl⟩) hHeld ?_
               change wpAnyH _ _ _ _ _ _ _ (Act.put _ (some 166) _) _
               try simp only [Act.put, uA, uZ, uS]
               refine wpAnyH_take (i := 11) (v := undef) rfl (by kernel_rfl) (by kernel_rfl) (by kernel_rfl) (fun _ _ _ h => h) (Or.inr ⟨by kernel_rfl, rfl⟩) hHeld ?_
               change wpAnyH _ _ _ _ _ _ _ (Act.put _ (some 167) _) _
               try simp only [Act.put, uA, uZ, uS]
               refine tK 168 (i := 12) (v := .bool true) rfl rfl (by kernel_rfl) ?_ hHeld ?_
               ·intro w hSw; clear hSw; go_simp; try with_reducible rfl
               simp only [uZ, uS]
               refine tK 169 (i := 13) (v := .bool true) rfl rfl (by kernel_rfl) ?_ hHeld ?_
               ·intro w hSw; clear hSw; go_simp; try with_reducible rfl
               simp only [uZ, uS]
               refine tK 170 (i := 14) (v := .pointer (some ⟨MG, 1, none⟩)) rfl rfl (by kernel_rfl) ?_ hHeld ?_
               ·intro w hSw; clear hSw; go_simp; try with_reducible rfl
               simp only [uZ, uS]
               refine tK 171 (i := 15) (v := .int .i64 0) rfl rfl (by kernel_rfl) ?_ hHeld ?_
               ·intro w hSw; have hz := hSw.1 _ HL0.out.2.2.2.1; have c1 := hz.cell 1; simp at c1; clear hz hSw; go_simp; try with_reducible rfl
               simp only [uZ, uS]
               refine tK 172 (i := 16) (v := .bool true) rfl rfl (by kernel_rfl) ?_ hHeld ?_
               ·intro w hSw; clear hSw; go_simp; try with_reducible rfl
               simp only [uZ, uS]
               refine tK 173 (i := 17) (v := .bool true) rfl rfl (by kernel_rfl) ?_ hHeld ?_
               ·intro w hSw; clear hSw; go_simp; try with_reducible rfl
               simp only [uZ, uS]
               refine wpAnyH_take (i := 18) (v := undef) rfl (by kernel_rfl) (by kernel_rfl) (by kernel_rfl) (fun _ _ _ h => h) (Or.inr ⟨by kernel_rfl, rfl⟩) hHeld ?_
               change wpAnyH _ _ _ _ _ _ _ (Act.put _ (some 174) _) _
               try simp only [Act.put, uA, uZ, uS]
               refine wpAnyH_take (i := 19) (v := undef) rfl (by kernel_rfl) (by kernel_rfl) (by kernel_rfl) (fun _ _ _ h => h) (Or.inr ⟨by kernel_rfl, rfl⟩) hHeld ?_
               change wpAnyH _ _ _ _ _ _ _ (Act.put _ (some 175) _) _
               try simp only [Act.put, uA, uZ, uS]
               refine wpAnyH_take (i := 20) (v := undef) rfl (by kernel_rfl) (by kernel_rfl) (by kernel_rfl) (fun _ _ _ h => h) (Or.inr ⟨by kernel_rfl, rfl⟩) hHeld ?_
               change wpAnyH _ _ _ _ _ _ _ (Act.put _ (some 176) _) _
               try simp only [Act.put, uA, uZ, uS]
               refine wpAnyH_take (i := 21) (v := undef) rfl (by kernel_rfl) (by kernel_rfl) (by kernel_rfl) (fun _ _ _ h => h) (Or.inr ⟨by kernel_rfl, rfl⟩) hHeld ?_
               change wpAnyH _ _ _ _ _ _ _ (Act.put _ (some 177) _) _
               try simp only [Act.put, uA, uZ, uS]
               refine wpAnyH_take (i := 22) (v := undef) rfl (by kernel_rfl) (by kernel_rfl) (by kernel_rfl) (fun _ _ _ h => h) (Or.inr ⟨by kernel_rfl, rfl⟩) hHeld ?_
               change wpAnyH _ _ _ _ _ _ _ (Act.put _ (some 178) _) _
               try simp only [Act.put, uA, uZ, uS]
               refine wpAnyH_take (i := 23) (v := undef) rfl (by kernel_rfl) (by kernel_rfl) (by kernel_rfl) (fun _ _ _ h => h) (Or.inr ⟨by kernel_rfl, rfl⟩) hHeld ?_
               change wpAnyH _ _ _ _ _ _ _ (Act.put _ (some 179) _) _
               try simp only [Act.put, uA, uZ, uS]
               refine wpAnyH_take (i := 24) (v := undef) rfl (by kernel_rfl) (by kernel_rfl) (by kernel_rfl) (fun _ _ _ h => h) (Or.inr ⟨by kernel_rfl, rfl⟩) hHeld ?_
               change wpAnyH _ _ _ _ _ _ _ (Act.put _ (some 180) _) _
               try simp only [Act.put, uA, uZ, uS]
               refine wpAnyH_take (i := 25) (v := undef) rfl (by kernel_rfl) (by kernel_rfl) (by kernel_rfl) (fun _ _ _ h => h) (Or.inr ⟨by kernel_rfl, rfl⟩) hHeld ?_
               change wpAnyH _ _ _ _ _ _ _ (Act.put _ (some 181) _) _
               try simp only [Act.put, uA, uZ, uS]
               refine tK 182 (i := 26) (v := .bool true) rfl rfl (by kernel_rfl) ?_ hHeld ?_
               ·intro w hSw; clear hSw; go_simp; try with_reducible rfl
               simp only [uZ, uS]
               refine tK 183 (i := 27) (v := .bool true) rfl rfl (by kernel_rfl) ?_ hHeld ?_
               ·intro w hSw; clear hSw; go_simp; try with_reducible rfl
               simp only [uZ, uS]
               refine tK 184 (i := 28) (v := .bool true) rfl rfl (by kernel_rfl) ?_ hHeld ?_
               ·intro w hSw; clear hSw; go_simp; try with_reducible rfl
               simp only [uZ, uS]
               refine wpAnyH_ready (rs := [29]) (by kernel_rfl) (by simp) ?_
               refine AllReadyH.cons rfl (fun K hK => ?_) AllReadyH.nil
               go_simp
               (with_reducible refine (msane_any _).mono ?_)
               rintro x y ⟨rfl, hq⟩
               refine hK.out _ _ ⟨hHeld.1.on hq, below_then hHeld.2.1 hq, hHeld.2.2.on hq⟩ (fun hHeld2 => ?_)
               clear hq
               try simp only [Act.put, uA, uZ, uS]
               clear hK K hHeld
               have hHeld := hHeld2
               clear hHeld2
               refine tK 186 (i := 30) (v := .bool true) rfl rfl (by kernel_rfl) ?_ hHeld ?_
               ·intro w hSw; clear hSw; go_simp; try with_reducible rfl
               simp only [uZ, uS]
               refine tK 6 (i := 31) (v := .bool true) rfl rfl (by kernel_rfl) ?_ hHeld ?_
               ·intro w hSw; clear hSw; go_simp; try with_reducible rfl
               simp only [uZ, uS]
               refine wpAnyH_done (by kernel_rfl) ?_ _
               have HBz := hHeld.2.1
               clear hHeld
               go_wp2
               go_ret
               exact ⟨rfl, below_then HQ_1.out HBz⟩
              ·have bg : (gs == 0) = false := by simpa using hg0
               obtain ⟨LB, hLB⟩ : ∃ x, ([(MC, 30, #[.int .i64 mo0, .int .i64 mo1]), (MB1, 30, #[.int .i64 sg0, .int .i64 sg1]), (MA1, 30, #[.int .i64 sf0, .int .i64 sf1]), (MG, 55, #[.int .i64 gh, .int .i64 gs, .int .i64 q0, .int .i64 q1, .int .i64 c0, .int .i64 c1]), (MF, 55, #[.int .i64 fh, .int .i64 0, .int .i64 p0, .int .i64 p1, .int .i64 d0, .int .i64 d1]), (MH, 35, #[.int .i64 hid, .int .i64 al, .int .i64 ah, .slice A n c, .slice B mm d, .slice C l ee, .int .i64 t0, .int .i64 t1, .int .i64 u0, .int .i64 u1, .int .i64 v0, .int .i64 v1, .int .i64 h0, .int .i64 h1]), ((G + 1 + 1), 27, #[.slice Ca na ca, .slice Cb nb cb, .slice Cc nc cc, .int .i64 pl, .int .i64 de]), ((G + 1), 62, #[.int .i64 x0, .int .i64 x1, .int .i64 x2, .int .i64 x3, .int .i64 x4, .int .i64 y0, .int .i64 y1, .int .i64 y2, .int .i64 y3, .int .i64 y4]), (G, 24, #[.int .i64 id, .int .i64 fi, .slice S sn sc, .slice V vn vc])] : List (Nat × TypeId × Array Value)) = x := ⟨_, rfl⟩
               have hl0 : (MC, 30, #[.int .i64 mo0, .int .i64 mo1]) ∈ LB ∧ (MB1, 30, #[.int .i64 sg0, .int .i64 sg1]) ∈ LB ∧ (MA1, 30, #[.int .i64 sf0, .int .i64 sf1]) ∈ LB ∧ (MG, 55, #[.int .i64 gh, .int .i64 gs, .int .i64 q0, .int .i64 q1, .int .i64 c0, .int .i64 c1]) ∈ LB ∧ (MF, 55, #[.int .i64 fh, .int .i64 0, .int .i64 p0, .int .i64 p1, .int .i64 d0, .int .i64 d1]) ∈ LB ∧ (MH, 35, #[.int .i64 hid, .int .i64 al, .int .i64 ah, .slice A n c, .slice B mm d, .slice C l ee, .int .i64 t0, .int .i64 t1, .int .i64 u0, .int .i64 u1, .int .i64 v0, .int .i64 v1, .int .i64 h0, .int .i64 h1]) ∈ LB ∧ ((G + 1 + 1), 27, #[.slice Ca na ca, .slice Cb nb cb, .slice Cc nc cc, .int .i64 pl, .int .i64 de]) ∈ LB ∧ ((G + 1), 62, #[.int .i64 x0, .int .i64 x1, .int .i64 x2, .int .i64 x3, .int .i64 x4, .int .i64 y0, .int .i64 y1, .int .i64 y2, .int .i64 y3, .int .i64 y4]) ∈ LB ∧ (G, 24, #[.int .i64 id, .int .i64 fi, .slice S sn sc, .slice V vn vc]) ∈ LB ∧ True := by rw [← hLB]; simp
               have HL0 := Lib.hid hl0
               have hS0 : BB3 z1 LB (LFill lb L) zr16.drew := ⟨by rw [← hLB]; exact HX_16.out, HB_16.out.drew, HFM.out.drew⟩
               have HLB := Lib.hid hLB
               clear hLB hl0
               refine wp_region_held_drew (S := BB3 z1 LB (LFill lb L)) (by kernel_rfl) hS0 (fun hHeld => ?_)
               obtain ⟨yq, hW⟩ : ∃ W', zr16.drew = W' := ⟨_, rfl⟩
               rw [hW] at hHeld ⊢
               clear hW hS0 HFM HB_16 HX_16 
               refine tK 156 (i := 0) (v := .pointer (some ⟨MF, 1, none⟩)) rfl rfl (by kernel_rfl) ?_ hHeld ?_
               ·intro w hSw; clear hSw; go_simp; try with_reducible rfl
               simp only [uZ, uS]
               refine tK 157 (i := 1) (v := .int .i64 0) rfl rfl (by kernel_rfl) ?_ hHeld ?_
               ·intro w hSw; have hz := hSw.1 _ HL0.out.2.2.2.2.1; have c1 := hz.cell 1; simp at c1; clear hz hSw; go_simp; try with_reducible rfl
               simp only [uZ, uS]
               refine tK 158 (i := 2) (v := .bool true) rfl rfl (by kernel_rfl) ?_ hHeld ?_
               ·intro w hSw; clear hSw; go_simp; try with_reducible rfl
               simp only [uZ, uS]
               refine tK 159 (i := 3) (v := .bool true) rfl rfl (by kernel_rfl) ?_ hHeld ?_
               ·intro w hSw; clear hSw; go_simp; try with_reducible rfl
               simp only [uZ, uS]
               refine wpAnyH_take (i := 4) (v := undef) rfl (by kernel_rfl) (by kernel_rfl) (by kernel_rfl) (fun _ _ _ h => h) (Or.inr ⟨by kernel_rfl, rfl⟩) hHeld ?_
               change wpAnyH _ _ _ _ _ _ _ (Act.put _ (some 160) _) _
               try simp only [Act.put, uA, uZ, uS]
               refine wpAnyH_take (i := 5) (v := undef) rfl (by kernel_rfl) (by kernel_rfl) (by kernel_rfl) (fun _ _ _ h => h) (Or.inr ⟨by kernel_rfl, rfl⟩) hHeld ?_
               change wpAnyH _ _ _ _ _ _ _ (Act.put _ (some 161) _) _
               try simp only [Act.put, uA, uZ, uS]
               refine wpAnyH_take (i := 6) (v := undef) rfl (by kernel_rfl) (by kernel_rfl) (by kernel_rfl) (fun _ _ _ h => h) (Or.inr ⟨by kernel_rfl, rfl⟩) hHeld ?_
               change wpAnyH _ _ _ _ _ _ _ (Act.put _ (some 162) _) _
               try simp only [Act.put, uA, uZ, uS]
               refine wpAnyH_take (i := 7) (v := undef) rfl (by kernel_rfl) (by kernel_rfl) (by kernel_rfl) (fun _ _ _ h => h) (Or.inr ⟨by kernel_rfl, rfl⟩) hHeld ?_
               change wpAnyH _ _ _ _ _ _ _ (Act.put _ (some 163) _) _
               try simp only [Act.put, uA, uZ, uS]
               refine wpAnyH_take (i := 8) (v := undef) rfl (by kernel_rfl) (by kernel_rfl) (by kernel_rfl) (fun _ _ _ h => h) (Or.inr ⟨by kernel_rfl, rfl⟩) hHeld ?_
               change wpAnyH _ _ _ _ _ _ _ (Act.put _ (some 164) _) _
               try simp only [Act.put, uA, uZ, uS]
               refine wpAnyH_take (i := 9) (v := undef) rfl (by kernel_rfl) (by kernel_rfl) (by kernel_rfl) (fun _ _ _ h => h) (Or.inr ⟨by kernel_rfl, rfl⟩) hHeld ?_
               change wpAnyH _ _ _ _ _ _ _ (Act.put _ (some 165) _) _
               try simp only [Act.put, uA, uZ, uS]
               refine wpAnyH_take (i := 10) (v := undef) rfl (by kernel_rfl) (by kernel_rfl) (by kernel_rfl) (fun _ _ _ h => h) (Or.inr ⟨by kernel_rfl, rfl⟩) hHeld ?_
               change wpAnyH _ _ _ _ _ _ _ (Act.put _ (some 166) _) _
               try simp only [Act.put, uA, uZ, uS]
               refine wpAnyH_take (i := 11) (v := undef) rfl (by kernel_rfl) (by kernel_rfl) (by kernel_rfl) (fun _ _ _ h => h) (Or.inr ⟨by kernel_rfl, rfl⟩) hHeld ?_
               change wpAnyH _ _ _ _ _ _ _ (Act.put _ (some 167) _) _
               try simp only [Act.put, uA, uZ, uS]
               refine tK 168 (i := 12) (v := .bool true) rfl rfl (by kernel_rfl) ?_ hHeld ?_
               ·intro w hSw; clear hSw; go_simp; try with_reducible rfl
               simp only [uZ, uS]
               refine tK 169 (i := 13) (v := .bool true) rfl rfl (by kernel_rfl) ?_ hHeld ?_
               ·intro w hSw; clear hSw; go_simp; try with_reducible rfl
               simp only [uZ, uS]
               refine tK 170 (i := 14) (v := .pointer (some ⟨MG, 1, none⟩)) rfl rfl (by kernel_rfl) ?_ hHeld ?_
               ·intro w hSw; clear hSw; go_simp; try with_reducible rfl
               simp only [uZ, uS]
               refine tK 171 (i := 15) (v := .int .i64 gs) rfl rfl (by kernel_rfl) ?_ hHeld ?_
               ·intro w hSw; have hz := hSw.1 _ HL0.out.2.2.2.1; have c1 := hz.cell 1; simp at c1; clear hz hSw; go_simp; try with_reducible rfl
               simp only [uZ, uS]
               refine tK 172 (i := 16) (v := .bool false) rfl rfl (by kernel_rfl) ?_ hHeld ?_
               ·intro w hSw; clear hSw; go_simp; try with_reducible rfl
               simp only [uZ, uS]
               refine tK 173 (i := 17) (v := .bool false) rfl rfl (by kernel_rfl) ?_ hHeld ?_
               ·intro w hSw; clear hSw; go_simp; try with_reducible rfl
               simp only [uZ, uS]
               refine tK 174 (i := 18) (v := .pointer (some ⟨MG, 4, none⟩)) rfl rfl (by kernel_rfl) ?_ hHeld ?_
               ·intro w hSw; clear hSw; go_simp; try with_reducible rfl
               simp only [uZ, uS]
               refine tK 175 (i := 19) (v := rv c0 c1) rfl rfl (by kernel_rfl) ?_ hHeld ?_
               ·intro w hSw; have hz := hSw.1 _ HL0.out.2.2.2.1; have c4 := hz.cell 4; have c5 := hz.cell 5; simp at c4 c5; clear hz hSw; go_simp; try with_reducible rfl
               simp only [uZ, uS]
               refine tK 176 (i := 20) (v := .slice (some ⟨lb, 0, none⟩) N cq) rfl rfl (by kernel_rfl) ?_ hHeld ?_
               ·intro w hSw; clear hSw; go_simp; try with_reducible rfl
               simp only [uZ, uS]
               refine tK 177 (i := 21) (v := .int .i64 (kk : Int)) rfl rfl (by kernel_rfl) ?_ hHeld ?_
               ·intro w hSw; clear hSw; go_simp; try with_reducible rfl
               simp only [uZ, uS]
               refine tK 178 (i := 22) (v := .pointer (some ⟨lb, kk * 6, none⟩)) rfl rfl (by kernel_rfl) ?_ hHeld ?_
               ·intro w hSw; clear hSw; go_simp; try with_reducible rfl
               simp only [uZ, uS]
               refine tK 179 (i := 23) (v := .pointer (some ⟨lb, kk * 6 + 4, none⟩)) rfl rfl (by kernel_rfl) ?_ hHeld ?_
               ·intro w hSw; clear hSw; go_simp; try with_reducible rfl
               simp only [uZ, uS]
               refine tK 180 (i := 24) (v := rv e0 e1) rfl rfl (by kernel_rfl) ?_ hHeld ?_
               ·intro w hSw; have hz := hSw.2.2.item HLM.out.1; dsimp only at hz; obtain ⟨c0', c1', c2', c3', c4', c5'⟩ := hz; clear hSw; go_simp; try with_reducible rfl
               simp only [uZ, uS]
               refine wpAnyH_ready (rs := [25]) (by kernel_rfl) (by simp) ?_
               refine AllReadyH.cons rfl (fun K hK => ?_) AllReadyH.nil
               go_simp
               (with_reducible refine (CIG.out hg0 _).mono ?_)
               rintro x y ⟨rfl, hq⟩
               refine hK.out _ _ ⟨hHeld.1.on hq, below_then hHeld.2.1 hq, hHeld.2.2.on hq⟩ (fun hHeld2 => ?_)
               clear hq
               try simp only [Act.put, uA, uZ, uS]
               clear hK K hHeld
               have hHeld := hHeld2
               clear hHeld2
               refine tK 182 (i := 26) (v := .bool true) rfl rfl (by kernel_rfl) ?_ hHeld ?_
               ·intro w hSw; clear hSw; go_simp; try with_reducible rfl
               simp only [uZ, uS]
               refine tK 183 (i := 27) (v := .bool true) rfl rfl (by kernel_rfl) ?_ hHeld ?_
               ·intro w hSw; clear hSw; go_simp; try with_reducible rfl
               simp only [uZ, uS]
               refine tK 184 (i := 28) (v := .bool true) rfl rfl (by kernel_rfl) ?_ hHeld ?_
               ·intro w hSw; clear hSw; go_simp; try with_reducible rfl
               simp only [uZ, uS]
               refine wpAnyH_ready (rs := [29]) (by kernel_rfl) (by simp) ?_
               refine AllReadyH.cons rfl (fun K hK => ?_) AllReadyH.nil
               go_simp
               (with_reducible refine (msane_any _).mono ?_)
               rintro x y ⟨rfl, hq⟩
               refine hK.out _ _ ⟨hHeld.1.on hq, below_then hHeld.2.1 hq, hHeld.2.2.on hq⟩ (fun hHeld2 => ?_)
               clear hq
               try simp only [Act.put, uA, uZ, uS]
               clear hK K hHeld
               have hHeld := hHeld2
               clear hHeld2
               refine tK 186 (i := 30) (v := .bool true) rfl rfl (by kernel_rfl) ?_ hHeld ?_
               ·intro w hSw; clear hSw; go_simp; try with_reducible rfl
               simp only [uZ, uS]
               refine tK 6 (i := 31) (v := .bool true) rfl rfl (by kernel_rfl) ?_ hHeld ?_
               ·intro w hSw; clear hSw; go_simp; try with_reducible rfl
               simp only [uZ, uS]
               refine wpAnyH_done (by kernel_rfl) ?_ _
               have HBz := hHeld.2.1
               clear hHeld
               go_wp2
               go_ret
               exact ⟨rfl, below_then HQ_1.out HBz⟩
             ·have bf : (fs == 0) = false := by simpa using hf0
              by_cases hg0 : gs = 0
              ·subst hg0
               obtain ⟨LB, hLB⟩ : ∃ x, ([(MC, 30, #[.int .i64 mo0, .int .i64 mo1]), (MB1, 30, #[.int .i64 sg0, .int .i64 sg1]), (MA1, 30, #[.int .i64 sf0, .int .i64 sf1]), (MG, 55, #[.int .i64 gh, .int .i64 0, .int .i64 q0, .int .i64 q1, .int .i64 c0, .int .i64 c1]), (MF, 55, #[.int .i64 fh, .int .i64 fs, .int .i64 p0, .int .i64 p1, .int .i64 d0, .int .i64 d1]), (MH, 35, #[.int .i64 hid, .int .i64 al, .int .i64 ah, .slice A n c, .slice B mm d, .slice C l ee, .int .i64 t0, .int .i64 t1, .int .i64 u0, .int .i64 u1, .int .i64 v0, .int .i64 v1, .int .i64 h0, .int .i64 h1]), ((G + 1 + 1), 27, #[.slice Ca na ca, .slice Cb nb cb, .slice Cc nc cc, .int .i64 pl, .int .i64 de]), ((G + 1), 62, #[.int .i64 x0, .int .i64 x1, .int .i64 x2, .int .i64 x3, .int .i64 x4, .int .i64 y0, .int .i64 y1, .int .i64 y2, .int .i64 y3, .int .i64 y4]), (G, 24, #[.int .i64 id, .int .i64 fi, .slice S sn sc, .slice V vn vc])] : List (Nat × TypeId × Array Value)) = x := ⟨_, rfl⟩
               have hl0 : (MC, 30, #[.int .i64 mo0, .int .i64 mo1]) ∈ LB ∧ (MB1, 30, #[.int .i64 sg0, .int .i64 sg1]) ∈ LB ∧ (MA1, 30, #[.int .i64 sf0, .int .i64 sf1]) ∈ LB ∧ (MG, 55, #[.int .i64 gh, .int .i64 0, .int .i64 q0, .int .i64 q1, .int .i64 c0, .int .i64 c1]) ∈ LB ∧ (MF, 55, #[.int .i64 fh, .int .i64 fs, .int .i64 p0, .int .i64 p1, .int .i64 d0, .int .i64 d1]) ∈ LB ∧ (MH, 35, #[.int .i64 hid, .int .i64 al, .int .i64 ah, .slice A n c, .slice B mm d, .slice C l ee, .int .i64 t0, .int .i64 t1, .int .i64 u0, .int .i64 u1, .int .i64 v0, .int .i64 v1, .int .i64 h0, .int .i64 h1]) ∈ LB ∧ ((G + 1 + 1), 27, #[.slice Ca na ca, .slice Cb nb cb, .slice Cc nc cc, .int .i64 pl, .int .i64 de]) ∈ LB ∧ ((G + 1), 62, #[.int .i64 x0, .int .i64 x1, .int .i64 x2, .int .i64 x3, .int .i64 x4, .int .i64 y0, .int .i64 y1, .int .i64 y2, .int .i64 y3, .int .i64 y4]) ∈ LB ∧ (G, 24, #[.int .i64 id, .int .i64 fi, .slice S sn sc, .slice V vn vc]) ∈ LB ∧ True := by rw [← hLB]; simp
               have HL0 := Lib.hid hl0
               have hS0 : BB3 z1 LB (LFill lb L) zr16.drew := ⟨by rw [← hLB]; exact HX_16.out, HB_16.out.drew, HFM.out.drew⟩
               have HLB := Lib.hid hLB
               clear hLB hl0
               refine wp_region_held_drew (S := BB3 z1 LB (LFill lb L)) (by kernel_rfl) hS0 (fun hHeld => ?_)
               obtain ⟨yq, hW⟩ : ∃ W', zr16.drew = W' := ⟨_, rfl⟩
               rw [hW] at hHeld ⊢
               clear hW hS0 HFM HB_16 HX_16 
               refine tK 156 (i := 0) (v := .pointer (some ⟨MF, 1, none⟩)) rfl rfl (by kernel_rfl) ?_ hHeld ?_
               ·intro w hSw; clear hSw; go_simp; try with_reducible rfl
               simp only [uZ, uS]
               refine tK 157 (i := 1) (v := .int .i64 fs) rfl rfl (by kernel_rfl) ?_ hHeld ?_
               ·intro w hSw; have hz := hSw.1 _ HL0.out.2.2.2.2.1; have c1 := hz.cell 1; simp at c1; clear hz hSw; go_simp; try with_reducible rfl
               simp only [uZ, uS]
               refine tK 158 (i := 2) (v := .bool false) rfl rfl (by kernel_rfl) ?_ hHeld ?_
               ·intro w hSw; clear hSw; go_simp; try with_reducible rfl
               simp only [uZ, uS]
               refine tK 159 (i := 3) (v := .bool false) rfl rfl (by kernel_rfl) ?_ hHeld ?_
               ·intro w hSw; clear hSw; go_simp; try with_reducible rfl
               simp only [uZ, uS]
               refine tK 160 (i := 4) (v := .pointer (some ⟨MF, 4, none⟩)) rfl rfl (by kernel_rfl) ?_ hHeld ?_
               ·intro w hSw; clear hSw; go_simp; try with_reducible rfl
               simp only [uZ, uS]
               refine tK 161 (i := 5) (v := rv d0 d1) rfl rfl (by kernel_rfl) ?_ hHeld ?_
               ·intro w hSw; have hz := hSw.1 _ HL0.out.2.2.2.2.1; have c4 := hz.cell 4; have c5 := hz.cell 5; simp at c4 c5; clear hz hSw; go_simp; try with_reducible rfl
               simp only [uZ, uS]
               refine tK 162 (i := 6) (v := .slice (some ⟨lb, 0, none⟩) N cq) rfl rfl (by kernel_rfl) ?_ hHeld ?_
               ·intro w hSw; clear hSw; go_simp; try with_reducible rfl
               simp only [uZ, uS]
               refine tK 163 (i := 7) (v := .int .i64 (kk : Int)) rfl rfl (by kernel_rfl) ?_ hHeld ?_
               ·intro w hSw; clear hSw; go_simp; try with_reducible rfl
               simp only [uZ, uS]
               refine tK 164 (i := 8) (v := .pointer (some ⟨lb, kk * 6, none⟩)) rfl rfl (by kernel_rfl) ?_ hHeld ?_
               ·intro w hSw; clear hSw; go_simp; try with_reducible rfl
               simp only [uZ, uS]
               refine tK 165 (i := 9) (v := .pointer (some ⟨lb, kk * 6 + 4, none⟩)) rfl rfl (by kernel_rfl) ?_ hHeld ?_
               ·intro w hSw; clear hSw; go_simp; try with_reducible rfl
               simp only [uZ, uS]
               refine tK 166 (i := 10) (v := rv e0 e1) rfl rfl (by kernel_rfl) ?_ hHeld ?_
               ·intro w hSw; have hz := hSw.2.2.item HLM.out.1; dsimp only at hz; obtain ⟨c0', c1', c2', c3', c4', c5'⟩ := hz; clear hSw; go_simp; try with_reducible rfl
               simp only [uZ, uS]
               refine wpAnyH_ready (rs := [11]) (by kernel_rfl) (by simp) ?_
               refine AllReadyH.cons rfl (fun K hK => ?_) AllReadyH.nil
               go_simp
               (with_reducible refine (CIF.out hf0 _).mono ?_)
               rintro x y ⟨rfl, hq⟩
               refine hK.out _ _ ⟨hHeld.1.on hq, below_then hHeld.2.1 hq, hHeld.2.2.on hq⟩ (fun hHeld2 => ?_)
               clear hq
               try simp only [Act.put, uA, uZ, uS]
               clear hK K hHeld
               have hHeld := hHeld2
               clear hHeld2
               refine tK 168 (i := 12) (v := .bool true) rfl rfl (by kernel_rfl) ?_ hHeld ?_
               ·intro w hSw; clear hSw; go_simp; try with_reducible rfl
               simp only [uZ, uS]
               refine tK 169 (i := 13) (v := .bool true) rfl rfl (by kernel_rfl) ?_ hHeld ?_
               ·intro w hSw; clear hSw; go_simp; try with_reducible rfl
               simp only [uZ, uS]
               refine tK 170 (i := 14) (v := .pointer (some ⟨MG, 1, none⟩)) rfl rfl (by kernel_rfl) ?_ hHeld ?_
               ·intro w hSw; clear hSw; go_simp; try with_reducible rfl
               simp only [uZ, uS]
               refine tK 171 (i := 15) (v := .int .i64 0) rfl rfl (by kernel_rfl) ?_ hHeld ?_
               ·intro w hSw; have hz := hSw.1 _ HL0.out.2.2.2.1; have c1 := hz.cell 1; simp at c1; clear hz hSw; go_simp; try with_reducible rfl
               simp only [uZ, uS]
               refine tK 172 (i := 16) (v := .bool true) rfl rfl (by kernel_rfl) ?_ hHeld ?_
               ·intro w hSw; clear hSw; go_simp; try with_reducible rfl
               simp only [uZ, uS]
               refine tK 173 (i := 17) (v := .bool true) rfl rfl (by kernel_rfl) ?_ hHeld ?_
               ·intro w hSw; clear hSw; go_simp; try with_reducible rfl
               simp only [uZ, uS]
               refine wpAnyH_take (i := 18) (v := undef) rfl (by kernel_rfl) (by kernel_rfl) (by kernel_rfl) (fun _ _ _ h => h) (Or.inr ⟨by kernel_rfl, rfl⟩) hHeld ?_
               change wpAnyH _ _ _ _ _ _ _ (Act.put _ (some 174) _) _
               try simp only [Act.put, uA, uZ, uS]
               refine wpAnyH_take (i := 19) (v := undef) rfl (by kernel_rfl) (by kernel_rfl) (by kernel_rfl) (fun _ _ _ h => h) (Or.inr ⟨by kernel_rfl, rfl⟩) hHeld ?_
               change wpAnyH _ _ _ _ _ _ _ (Act.put _ (some 175) _) _
               try simp only [Act.put, uA, uZ, uS]
               refine wpAnyH_take (i := 20) (v := undef) rfl (by kernel_rfl) (by kernel_rfl) (by kernel_rfl) (fun _ _ _ h => h) (Or.inr ⟨by kernel_rfl, rfl⟩) hHeld ?_
               change wpAnyH _ _ _ _ _ _ _ (Act.put _ (some 176) _) _
               try simp only [Act.put, uA, uZ, uS]
               refine wpAnyH_take (i := 21) (v := undef) rfl (by kernel_rfl) (by kernel_rfl) (by kernel_rfl) (fun _ _ _ h => h) (Or.inr ⟨by kernel_rfl, rfl⟩) hHeld ?_
               change wpAnyH _ _ _ _ _ _ _ (Act.put _ (some 177) _) _
               try simp only [Act.put, uA, uZ, uS]
               refine wpAnyH_take (i := 22) (v := undef) rfl (by kernel_rfl) (by kernel_rfl) (by kernel_rfl) (fun _ _ _ h => h) (Or.inr ⟨by kernel_rfl, rfl⟩) hHeld ?_
               change wpAnyH _ _ _ _ _ _ _ (Act.put _ (some 178) _) _
               try simp only [Act.put, uA, uZ, uS]
               refine wpAnyH_take (i := 23) (v := undef) rfl (by kernel_rfl) (by kernel_rfl) (by kernel_rfl) (fun _ _ _ h => h) (Or.inr ⟨by kernel_rfl, rfl⟩) hHeld ?_
               change wpAnyH _ _ _ _ _ _ _ (Act.put _ (some 179) _) _
               try simp only [Act.put, uA, uZ, uS]
               refine wpAnyH_take (i := 24) (v := undef) rfl (by kernel_rfl) (by kernel_rfl) (by kernel_rfl) (fun _ _ _ h => h) (Or.inr ⟨by kernel_rfl, rfl⟩) hHeld ?_
               change wpAnyH _ _ _ _ _ _ _ (Act.put _ (some 180) _) _
               try simp only [Act.put, uA, uZ, uS]
               refine wpAnyH_take (i := 25) (v := undef) rfl (by kernel_rfl) (by kernel_rfl) (by kernel_rfl) (fun _ _ _ h => h) (Or.inr ⟨by kernel_rfl, rfl⟩) hHeld ?_
               change wpAnyH _ _ _ _ _ _ _ (Act.put _ (some 181) _) _
               try simp only [Act.put, uA, uZ, uS]
               refine tK 182 (i := 26) (v := .bool true) rfl rfl (by kernel_rfl) ?_ hHeld ?_
               ·intro w hSw; clear hSw; go_simp; try with_reducible rfl
               simp only [uZ, uS]
               refine tK 183 (i := 27) (v := .bool true) rfl rfl (by kernel_rfl) ?_ hHeld ?_
               ·intro w hSw; clear hSw; go_simp; try with_reducible rfl
               simp only [uZ, uS]
               refine tK 184 (i := 28) (v := .bool true) rfl rfl (by kernel_rfl) ?_ hHeld ?_
               ·intro w hSw; clear hSw; go_simp; try with_reducible rfl
               simp only [uZ, uS]
               refine wpAnyH_ready (rs := [29]) (by kernel_rfl) (by simp) ?_
               refine AllReadyH.cons rfl (fun K hK => ?_) AllReadyH.nil
               go_simp
               (with_reducible refine (msane_any _).mono ?_)
               rintro x y ⟨rfl, hq⟩
               refine hK.out _ _ ⟨hHeld.1.on hq, below_then hHeld.2.1 hq, hHeld.2.2.on hq⟩ (fun hHeld2 => ?_)
               clear hq
               try simp only [Act.put, uA, uZ, uS]
               clear hK K hHeld
               have hHeld := hHeld2
               clear hHeld2
               refine tK 186 (i := 30) (v := .bool true) rfl rfl (by kernel_rfl) ?_ hHeld ?_
               ·intro w hSw; clear hSw; go_simp; try with_reducible rfl
               simp only [uZ, uS]
               refine tK 6 (i := 31) (v := .bool true) rfl rfl (by kernel_rfl) ?_ hHeld ?_
               ·intro w hSw; clear hSw; go_simp; try with_reducible rfl
               simp only [uZ, uS]
               refine wpAnyH_done (by kernel_rfl) ?_ _
               have HBz := hHeld.2.1
               clear hHeld
               go_wp2
               go_ret
               exact ⟨rfl, below_then HQ_1.out HBz⟩
              ·have bg : (gs == 0) = false := by simpa using hg0
               obtain ⟨LB, hLB⟩ : ∃ x, ([(MC, 30, #[.int .i64 mo0, .int .i64 mo1]), (MB1, 30, #[.int .i64 sg0, .int .i64 sg1]), (MA1, 30, #[.int .i64 sf0, .int .i64 sf1]), (MG, 55, #[.int .i64 gh, .int .i64 gs, .int .i64 q0, .int .i64 q1, .int .i64 c0, .int .i64 c1]), (MF, 55, #[.int .i64 fh, .int .i64 fs, .int .i64 p0, .int .i64 p1, .int .i64 d0, .int .i64 d1]), (MH, 35, #[.int .i64 hid, .int .i64 al, .int .i64 ah, .slice A n c, .slice B mm d, .slice C l ee, .int .i64 t0, .int .i64 t1, .int .i64 u0, .int .i64 u1, .int .i64 v0, .int .i64 v1, .int .i64 h0, .int .i64 h1]), ((G + 1 + 1), 27, #[.slice Ca na ca, .slice Cb nb cb, .slice Cc nc cc, .int .i64 pl, .int .i64 de]), ((G + 1), 62, #[.int .i64 x0, .int .i64 x1, .int .i64 x2, .int .i64 x3, .int .i64 x4, .int .i64 y0, .int .i64 y1, .int .i64 y2, .int .i64 y3, .int .i64 y4]), (G, 24, #[.int .i64 id, .int .i64 fi, .slice S sn sc, .slice V vn vc])] : List (Nat × TypeId × Array Value)) = x := ⟨_, rfl⟩
               have hl0 : (MC, 30, #[.int .i64 mo0, .int .i64 mo1]) ∈ LB ∧ (MB1, 30, #[.int .i64 sg0, .int .i64 sg1]) ∈ LB ∧ (MA1, 30, #[.int .i64 sf0, .int .i64 sf1]) ∈ LB ∧ (MG, 55, #[.int .i64 gh, .int .i64 gs, .int .i64 q0, .int .i64 q1, .int .i64 c0, .int .i64 c1]) ∈ LB ∧ (MF, 55, #[.int .i64 fh, .int .i64 fs, .int .i64 p0, .int .i64 p1, .int .i64 d0, .int .i64 d1]) ∈ LB ∧ (MH, 35, #[.int .i64 hid, .int .i64 al, .int .i64 ah, .slice A n c, .slice B mm d, .slice C l ee, .int .i64 t0, .int .i64 t1, .int .i64 u0, .int .i64 u1, .int .i64 v0, .int .i64 v1, .int .i64 h0, .int .i64 h1]) ∈ LB ∧ ((G + 1 + 1), 27, #[.slice Ca na ca, .slice Cb nb cb, .slice Cc nc cc, .int .i64 pl, .int .i64 de]) ∈ LB ∧ ((G + 1), 62, #[.int .i64 x0, .int .i64 x1, .int .i64 x2, .int .i64 x3, .int .i64 x4, .int .i64 y0, .int .i64 y1, .int .i64 y2, .int .i64 y3, .int .i64 y4]) ∈ LB ∧ (G, 24, #[.int .i64 id, .int .i64 fi, .slice S sn sc, .slice V vn vc]) ∈ LB ∧ True := by rw [← hLB]; simp
               have HL0 := Lib.hid hl0
               have hS0 : BB3 z1 LB (LFill lb L) zr16.drew := ⟨by rw [← hLB]; exact HX_16.out, HB_16.out.drew, HFM.out.drew⟩
               have HLB := Lib.hid hLB
               clear hLB hl0
               refine wp_region_held_drew (S := BB3 z1 LB (LFill lb L)) (by kernel_rfl) hS0 (fun hHeld => ?_)
               obtain ⟨yq, hW⟩ : ∃ W', zr16.drew = W' := ⟨_, rfl⟩
               rw [hW] at hHeld ⊢
               clear hW hS0 HFM HB_16 HX_16 
               refine tK 156 (i := 0) (v := .pointer (some ⟨MF, 1, none⟩)) rfl rfl (by kernel_rfl) ?_ hHeld ?_
               ·intro w hSw; clear hSw; go_simp; try with_reducible rfl
               simp only [uZ, uS]
               refine tK 157 (i := 1) (v := .int .i64 fs) rfl rfl (by kernel_rfl) ?_ hHeld ?_
               ·intro w hSw; have hz := hSw.1 _ HL0.out.2.2.2.2.1; have c1 := hz.cell 1; simp at c1; clear hz hSw; go_simp; try with_reducible rfl
               simp only [uZ, uS]
               refine tK 158 (i := 2) (v := .bool false) rfl rfl (by kernel_rfl) ?_ hHeld ?_
               ·intro w hSw; clear hSw; go_simp; try with_reducible rfl
               simp only [uZ, uS]
               refine tK 159 (i := 3) (v := .bool false) rfl rfl (by kernel_rfl) ?_ hHeld ?_
               ·intro w hSw; clear hSw; go_simp; try with_reducible rfl
               simp only [uZ, uS]
               refine tK 160 (i := 4) (v := .pointer (some ⟨MF, 4, none⟩)) rfl rfl (by kernel_rfl) ?_ hHeld ?_
               ·intro w hSw; clear hSw; go_simp; try with_reducible rfl
               simp only [uZ, uS]
               refine tK 161 (i := 5) (v := rv d0 d1) rfl rfl (by kernel_rfl) ?_ hHeld ?_
               ·intro w hSw; have hz := hSw.1 _ HL0.out.2.2.2.2.1; have c4 := hz.cell 4; have c5 := hz.cell 5; simp at c4 c5; clear hz hSw; go_simp; try with_reducible rfl
               simp only [uZ, uS]
               refine tK 162 (i := 6) (v := .slice (some ⟨lb, 0, none⟩) N cq) rfl rfl (by kernel_rfl) ?_ hHeld ?_
               ·intro w hSw; clear hSw; go_simp; try with_reducible rfl
               simp only [uZ, uS]
               refine tK 163 (i := 7) (v := .int .i64 (kk : Int)) rfl rfl (by kernel_rfl) ?_ hHeld ?_
               ·intro w hSw; clear hSw; go_simp; try with_reducible rfl
               simp only [uZ, uS]
               refine tK 164 (i := 8) (v := .pointer (some ⟨lb, kk * 6, none⟩)) rfl rfl (by kernel_rfl) ?_ hHeld ?_
               ·intro w hSw; clear hSw; go_simp; try with_reducible rfl
               simp only [uZ, uS]
               refine tK 165 (i := 9) (v := .pointer (some ⟨lb, kk * 6 + 4, none⟩)) rfl rfl (by kernel_rfl) ?_ hHeld ?_
               ·intro w hSw; clear hSw; go_simp; try with_reducible rfl
               simp only [uZ, uS]
               refine tK 166 (i := 10) (v := rv e0 e1) rfl rfl (by kernel_rfl) ?_ hHeld ?_
               ·intro w hSw; have hz := hSw.2.2.item HLM.out.1; dsimp only at hz; obtain ⟨c0', c1', c2', c3', c4', c5'⟩ := hz; clear hSw; go_simp; try with_reducible rfl
               simp only [uZ, uS]
               refine wpAnyH_ready (rs := [11]) (by kernel_rfl) (by simp) ?_
               refine AllReadyH.cons rfl (fun K hK => ?_) AllReadyH.nil
               go_simp
               (with_reducible refine (CIF.out hf0 _).mono ?_)
               rintro x y ⟨rfl, hq⟩
               refine hK.out _ _ ⟨hHeld.1.on hq, below_then hHeld.2.1 hq, hHeld.2.2.on hq⟩ (fun hHeld2 => ?_)
               clear hq
               try simp only [Act.put, uA, uZ, uS]
               clear hK K hHeld
               have hHeld := hHeld2
               clear hHeld2
               refine tK 168 (i := 12) (v := .bool true) rfl rfl (by kernel_rfl) ?_ hHeld ?_
               ·intro w hSw; clear hSw; go_simp; try with_reducible rfl
               simp only [uZ, uS]
               refine tK 169 (i := 13) (v := .bool true) rfl rfl (by kernel_rfl) ?_ hHeld ?_
               ·intro w hSw; clear hSw; go_simp; try with_reducible rfl
               simp only [uZ, uS]
               refine tK 170 (i := 14) (v := .pointer (some ⟨MG, 1, none⟩)) rfl rfl (by kernel_rfl) ?_ hHeld ?_
               ·intro w hSw; clear hSw; go_simp; try with_reducible rfl
               simp only [uZ, uS]
               refine tK 171 (i := 15) (v := .int .i64 gs) rfl rfl (by kernel_rfl) ?_ hHeld ?_
               ·intro w hSw; have hz := hSw.1 _ HL0.out.2.2.2.1; have c1 := hz.cell 1; simp at c1; clear hz hSw; go_simp; try with_reducible rfl
               simp only [uZ, uS]
               refine tK 172 (i := 16) (v := .bool false) rfl rfl (by kernel_rfl) ?_ hHeld ?_
               ·intro w hSw; clear hSw; go_simp; try with_reducible rfl
               simp only [uZ, uS]
               refine tK 173 (i := 17) (v := .bool false) rfl rfl (by kernel_rfl) ?_ hHeld ?_
               ·intro w hSw; clear hSw; go_simp; try with_reducible rfl
               simp only [uZ, uS]
               refine tK 174 (i := 18) (v := .pointer (some ⟨MG, 4, none⟩)) rfl rfl (by kernel_rfl) ?_ hHeld ?_
               ·intro w hSw; clear hSw; go_simp; try with_reducible rfl
               simp only [uZ, uS]
               refine tK 175 (i := 19) (v := rv c0 c1) rfl rfl (by kernel_rfl) ?_ hHeld ?_
               ·intro w hSw; have hz := hSw.1 _ HL0.out.2.2.2.1; have c4 := hz.cell 4; have c5 := hz.cell 5; simp at c4 c5; clear hz hSw; go_simp; try with_reducible rfl
               simp only [uZ, uS]
               refine tK 176 (i := 20) (v := .slice (some ⟨lb, 0, none⟩) N cq) rfl rfl (by kernel_rfl) ?_ hHeld ?_
               ·intro w hSw; clear hSw; go_simp; try with_reducible rfl
               simp only [uZ, uS]
               refine tK 177 (i := 21) (v := .int .i64 (kk : Int)) rfl rfl (by kernel_rfl) ?_ hHeld ?_
               ·intro w hSw; clear hSw; go_simp; try with_reducible rfl
               simp only [uZ, uS]
               refine tK 178 (i := 22) (v := .pointer (some ⟨lb, kk * 6, none⟩)) rfl rfl (by kernel_rfl) ?_ hHeld ?_
               ·intro w hSw; clear hSw; go_simp; try with_reducible rfl
               simp only [uZ, uS]
               refine tK 179 (i := 23) (v := .pointer (some ⟨lb, kk * 6 + 4, none⟩)) rfl rfl (by kernel_rfl) ?_ hHeld ?_
               ·intro w hSw; clear hSw; go_simp; try with_reducible rfl
               simp only [uZ, uS]
               refine tK 180 (i := 24) (v := rv e0 e1) rfl rfl (by kernel_rfl) ?_ hHeld ?_
               ·intro w hSw; have hz := hSw.2.2.item HLM.out.1; dsimp only at hz; obtain ⟨c0', c1', c2', c3', c4', c5'⟩ := hz; clear hSw; go_simp; try with_reducible rfl
               simp only [uZ, uS]
               refine wpAnyH_ready (rs := [25]) (by kernel_rfl) (by simp) ?_
               refine AllReadyH.cons rfl (fun K hK => ?_) AllReadyH.nil
               go_simp
               (with_reducible refine (CIG.out hg0 _).mono ?_)
               rintro x y ⟨rfl, hq⟩
               refine hK.out _ _ ⟨hHeld.1.on hq, below_then hHeld.2.1 hq, hHeld.2.2.on hq⟩ (fun hHeld2 => ?_)
               clear hq
               try simp only [Act.put, uA, uZ, uS]
               clear hK K hHeld
               have hHeld := hHeld2
               clear hHeld2
               refine tK 182 (i := 26) (v := .bool true) rfl rfl (by kernel_rfl) ?_ hHeld ?_
               ·intro w hSw; clear hSw; go_simp; try with_reducible rfl
               simp only [uZ, uS]
               refine tK 183 (i := 27) (v := .bool true) rfl rfl (by kernel_rfl) ?_ hHeld ?_
               ·intro w hSw; clear hSw; go_simp; try with_reducible rfl
               simp only [uZ, uS]
               refine tK 184 (i := 28) (v := .bool true) rfl rfl (by kernel_rfl) ?_ hHeld ?_
               ·intro w hSw; clear hSw; go_simp; try with_reducible rfl
               simp only [uZ, uS]
               refine wpAnyH_ready (rs := [29]) (by kernel_rfl) (by simp) ?_
               refine AllReadyH.cons rfl (fun K hK => ?_) AllReadyH.nil
               go_simp
               (with_reducible refine (msane_any _).mono ?_)
               rintro x y ⟨rfl, hq⟩
               refine hK.out _ _ ⟨hHeld.1.on hq, below_then hHeld.2.1 hq, hHeld.2.2.on hq⟩ (fun hHeld2 => ?_)
               clear hq
               try simp only [Act.put, uA, uZ, uS]
               clear hK K hHeld
               have hHeld := hHeld2
               clear hHeld2
               refine tK 186 (i := 30) (v := .bool true) rfl rfl (by kernel_rfl) ?_ hHeld ?_
               ·intro w hSw; clear hSw; go_simp; try with_reducible rfl
               simp only [uZ, uS]
               refine tK 6 (i := 31) (v := .bool true) rfl rfl (by kernel_rfl) ?_ hHeld ?_
               ·intro w hSw; clear hSw; go_simp; try with_reducible rfl
               simp only [uZ, uS]
               refine wpAnyH_done (by kernel_rfl) ?_ _
               have HBz := hHeld.2.1
               clear hHeld
               go_wp2
               go_ret
               exact ⟨rfl, below_then HQ_1.out HBz⟩
end

section
open Go.ChangeShapes Go.WideShapes Go.ChangeAt Go.RowKit Go.Joins

set_option maxRecDepth 100000 in
theorem holdInstants_lifted (os : Os) (started : os.Started) (H : Type) (enc : TypeId × Value → H) :
    ReturnsInHanded {} Tryz.checked os 6 .any (Rows.holdInstantsSpec.pre6 enc Tryz.prog Tryz.f6 Rows.holdInstantsRow.domain false) (Rows.holdInstantsSpec.post enc Tryz.prog Tryz.f6 false true false false) := by
  refine returnsInHanded_of_change_sized (C := Tryz.checked) own started (by kernel_rfl) Tryz.func6
    (ChangeSpec.witness6 (enc := enc) (C := Tryz.checked) false ⟨#[], #[.agg #[.int .i64 0, .int .i64 0, .slice none 0 0, .slice none 0 0], .agg #[.int .i64 0, .int .i64 0, .int .i64 0, .int .i64 0, .int .i64 0, .int .i64 0, .int .i64 0, .int .i64 0, .int .i64 0, .int .i64 0], .agg #[.slice none 0 0, .slice none 0 0, .slice none 0 0, .int .i64 0, .int .i64 0]], []⟩ 8 (by kernel_rfl) (by kernel_rfl) (by kernel_rfl) (by kernel_rfl)) ?_
  intro W base args ds gs before hval0 hW hcnd hsz _
  have hval : ∀ (j : Nat) t v, Tryz.f6.params[j]? = some t → args[j]? = some v → Value.okWide Tryz.prog W .any base t v := hval0
  have hW' := hW
  obtain ⟨p, q, hA0, hV, rfl, hfz, hnd⟩ := hW
  have hA : DataW.TrodAll enc Tryz.prog W 0 (fun _ => true) true Tryz.f6.params.toList args.toList ds p := hA0
  rw [Tryz.params6] at hA hval
  have hsz2 : (DataW.weightsEach Tryz.prog (Tryz.f6.params.toList ++ Rows.holdInstantsSpec.plain.varTypes Tryz.prog) (ds ++ gs)).all (· ≤ reachBytes) = true := hsz
  rw [Tryz.params6] at hsz2
  obtain ⟨v0, v1, v2, d0, d1, d2, p0, p1, p2, hargs, rfl, rfl, h0, h1, h2⟩ := trodAll_three hA
  obtain rfl : args = #[v0, v1, v2] := by cases args; simp_all
  obtain ⟨rfl, rfl⟩ := trodVars_none hV
  have light : ∀ (j : Nat) (t : TypeId) (d : DataW H), ([24, 62, 27] : List TypeId)[j]? = some t → ([d0, d1, d2] : List (DataW H))[j]? = some d → Light t d := fun j t d ht hd n hn => by
    have q := List.all_eq_true.1 hsz2 n (DataW.weights_mem_each (j := j) (t := t) (d := d) (by
      have := List.getElem?_eq_some_iff.1 ht
      obtain ⟨hl, _⟩ := this
      rw [List.getElem?_append_left (by simpa using hl)]
      simpa using ht) (by
      have := List.getElem?_eq_some_iff.1 hd
      obtain ⟨hl, _⟩ := this
      rw [List.getElem?_append_left (by simpa using hl)]
      simpa using hd) n hn)
    simpa using q
  obtain ⟨r, m, rfl, hi⟩ := open_raw (hval 0 24 v0 rfl rfl) h0 (light 0 _ d0 rfl rfl)
  obtain ⟨x0, x1, x2, x3, x4, y0, y1, y2, y3, y4, rfl⟩ := open_ten (hval 1 62 v1 rfl rfl) h1
  obtain ⟨Ca, Cb, Cc, na, ca, nb, cb, nc, cc, k0, k1, k2, pl, de, rfl, hka, hkb, hkc⟩ := open_truth (hval 2 27 v2 rfl rfl) h2 (light 2 _ d2 rfl rfl)
  refine (holdInstants_walk r m x0 x1 x2 x3 x4 y0 y1 y2 y3 y4 Ca Cb Cc na ca nb cb nc cc k0 k1 k2 pl de W hi hkb).mono fun e W' ⟨he, hb⟩ => ?_
  subst he
  exact ⟨_, rfl, law_post rfl rfl (by intro t ht; rw [Tryz.params6] at ht
                                      have : t = 24 ∨ t = 62 ∨ t = 27 := by simpa using ht
                                      rcases this with rfl | rfl | rfl <;> exact ⟨by kernel_rfl, of_decide_eq_true (by kernel_rfl)⟩) hW' rfl rfl rfl hb⟩

theorem holdInstants_holds : Rows.HoldInstantsSaid :=
  OpenClaim.holds_of_wide 6 Tryz.f6 rfl rfl rfl rfl rfl rfl rfl ⟨rfl, rfl, rfl, rfl, rfl⟩ rfl rfl rfl rfl rfl (by kernel_rfl) Tryz.func6 (by kernel_rfl)
    (of_decide_eq_true (by kernel_rfl)) (by unfold Func.isWrapper; rw [if_neg (of_decide_eq_false (by kernel_rfl))]; exact ⟨rfl, rfl⟩)
    (fun os started H enc _ => holdInstants_lifted os started H enc)
end

end Go.Proofs.YtemlaaipnhmcoaaGreat
