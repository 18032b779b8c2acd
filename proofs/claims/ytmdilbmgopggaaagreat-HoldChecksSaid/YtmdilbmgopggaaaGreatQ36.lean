/- The contract of heavy (the specification of layer 2): for numbers from 0 on whose products are small. -/
import Derived.Deep.RegionHeld3
import Derived.Deep.DeepCutAuto
import Derived.Test.YtmdilbmgopggaaaGreatQ35
import Derived.Test.YtmdilbmgopggaaaGreatQ27
import Derived.Test.YtmdilbmgopggaaaGreatQ26
import Derived.Test.YtmdilbmgopggaaaGreatQ13
import Derived.Test.YtmdilbmgopggaaaGreatQ34
import Derived.Test.YtmdilbmgopggaaaGreatQ17
set_option linter.unusedVariables false
set_option linter.unusedSimpArgs false
set_option linter.constructorNameAsVariable false
namespace Go.Proofs.YtmdilbmgopggaaaGreat

section
open Go.RowKit

set_option maxRecDepth 100000 in
set_option maxHeartbeats 4000000 in
theorem rover_bad (A : Option Addr) (n c : Nat) (ps : List P3) (x y : Int) (w : World) (hn : n = ps.length) (hm : n ≤ maxLen) (hp : Pts w A ps) (h0 : overE ps x y ≠ 0) :
    Calls Tryz.prog 158 #[tv A n c, rv x y] w fun e w' => e = .returned (.tuple #[rv 0 0, .int .i64 (overE ps x y)]) ∧ Below w.heap.size w w' := by
  have hE : Below w.heap.size w (((w.alloc (.cells #[.slice A n c] 26)).alloc (.cells #[.int .i64 x, .int .i64 y] 23)).alloc (.cells #[.int .i64 0, .int .i64 0] 23)) := below_a3 (Below.refl _ _)
  have hK : Boxes (((w.alloc (.cells #[.slice A n c] 26)).alloc (.cells #[.int .i64 x, .int .i64 y] 23)).alloc (.cells #[.int .i64 0, .int .i64 0] 23)) [(w.heap.size + 1 + 1, 23, #[.int .i64 0, .int .i64 0]), (w.heap.size + 1, 23, #[.int .i64 x, .int .i64 y]), (w.heap.size, 26, #[.slice A n c])] := by
    have h1 : Boxes (w.alloc (.cells #[.slice A n c] 26)) [(w.heap.size, 26, #[.slice A n c])] := fun p hp => by
      have := List.mem_singleton.1 hp; subst this; exact Blk.new w _ _
    have h2 := (h1.new 23 #[.int .i64 x, .int .i64 y]).new 23 #[.int .i64 0, .int .i64 0]
    simp only [World.size_alloc] at h2
    exact h2
  have CV : Hid (∀ W t, Below w.heap.size w W → tabOk ps = t → Calls Tryz.prog 192 #[tv A n c] W fun e w' => e = .returned (.bool t) ∧ Below W.heap.size W w') := Lib.hid fun W t hW h => by
    have := validTable_any A n c ps W hn hm (hp.below hW)
    rw [h] at this; exact this
  have CI : Hid (∀ W z t, Below w.heap.size w W → tabOk ps = true → insideS ps z = t → Calls Tryz.prog 207 #[tv A n c, .int .i64 z] W fun e w' => e = .returned (.bool t) ∧ Below W.heap.size W w') := Lib.hid fun W z t hW ht h => by
    obtain ⟨b, o, rfl, hb, hc⟩ := hp.block (tabOk_len ht).1
    exact bool_to (inside_any b o n c ps z W hn (by rw [hn]; exact (tabOk_len ht).1) (by rw [hn]; exact (tabOk_len ht).2) (Nat.lt_of_lt_of_le hb hW.size) (hc.below hW hb)) h
  have HE := Lib.hid hE; have HK := Lib.hid hK
  clear hE hK hp hn
  by_cases ht : tabOk ps = true
  · by_cases hr : vR x y = true
    · have he : overE ps x y = 4 := by
        unfold overE at h0 ⊢
        rw [if_pos ht, if_pos hr] at h0 ⊢
        exact (placesS_cases ps x y ht).resolve_left h0
      have hpl : placesS ps x y = 4 := by unfold overE at he; rw [if_pos ht, if_pos hr] at he; exact he
      have hxy := ((vR_iff x y).1 hr).1
      rw [he]
      have hbad : insideS ps x = false ∨ (insideS ps x = true ∧ insideS ps y = false) := by
        cases c2 : insideS ps x
        · exact .inl rfl
        · cases c3 : insideS ps y
          · exact .inr ⟨rfl, rfl⟩
          · exfalso
            simp only [insideS, Bool.and_eq_true, decide_eq_true_eq] at c2 c3
            unfold placesS at hpl
            rw [if_pos ht, if_pos (inB_yes hxy c2.1 c3.2)] at hpl
            cases hpl
      have HTT := Lib.hid ht; have HR := Lib.hid hr
      clear ht hr h0 he hpl hxy
      rcases hbad with hbad | ⟨hbad0, hbad⟩
      · have HBD := Lib.hid hbad
        clear hbad
        go_enter Tryz.func158, Tryz.ntmps158
        go_wp2_with fail
        obtain ⟨W0, hW0⟩ : ∃ W0, ((w.alloc (.cells #[.slice A n c] 26)).alloc (.cells #[.int .i64 x, .int .i64 y] 23)).alloc (.cells #[.int .i64 0, .int .i64 0] 23) = W0 := ⟨_, rfl⟩
        rw [hW0] at HE HK ⊢
        clear hW0
        refine (CV.out _ true HE.out HTT.out).mono ?_
        rintro e w1 ⟨rfl, hb1⟩
        have HK1 := Lib.hid (HK.out.on hb1); have HE1 := Lib.hid (below_then HE.out hb1)
        clear hb1 HK HE
        have HK := HK1; have HE := HE1
        have q0 := (HK1.out _ (.tail _ (.head _))).cell 0
        have q1 := (HK1.out _ (.tail _ (.head _))).cell 1
        simp at q0 q1
        go_wp2_with fail
        refine (rValid_to x y true _ HR.out).mono ?_
        rintro e w2 ⟨rfl, hb1⟩
        have HK2 := Lib.hid (HK1.out.on hb1); have HE2 := Lib.hid (below_then HE1.out hb1)
        clear hb1 HK1 HE1 q0 q1 HK HE
        have HK := HK2; have HE := HE2
        have q0 := (HK2.out _ (.tail _ (.head _))).cell 0
        have q1 := (HK2.out _ (.tail _ (.tail _ (.head _)))).cell 0
        simp at q0 q1
        go_wp2_with fail
        refine (CI.out _ x false HE2.out HTT.out HBD.out).mono ?_
        rintro e w9 ⟨rfl, hb1⟩
        have hO := (HK.out.on hb1) _ (.head _)
        have HE9 := Lib.hid (below_then HE.out hb1)
        have r0 := hO.cell 0
        have r1 := hO.cell 1
        have f0 := hO.frozen 0
        have f1 := hO.frozen 1
        have lT := hO.lt
        simp at r0 r1
        clear hb1 hO
        go_wp2
        refine bodyPost_ret (v := .tuple #[rv 0 0, .int .i64 4]) (by simp [results, Tryz.results158, go_sem, r0, r1, lT]) rfl ⟨rfl, ?_⟩
        exact (HE9.out.setCell (p := ⟨w.heap.size + 1 + 1, 0, none⟩) (by simp; omega) _).setCell (p := ⟨w.heap.size + 1 + 1, 1, none⟩) (by simp; omega) _
      · have HBD := Lib.hid (And.intro hbad0 hbad)
        clear hbad hbad0
        go_enter Tryz.func158, Tryz.ntmps158
        go_wp2_with fail
        obtain ⟨W0, hW0⟩ : ∃ W0, ((w.alloc (.cells #[.slice A n c] 26)).alloc (.cells #[.int .i64 x, .int .i64 y] 23)).alloc (.cells #[.int .i64 0, .int .i64 0] 23) = W0 := ⟨_, rfl⟩
        rw [hW0] at HE HK ⊢
        clear hW0
        refine (CV.out _ true HE.out HTT.out).mono ?_
        rintro e w1 ⟨rfl, hb1⟩
        have HK1 := Lib.hid (HK.out.on hb1); have HE1 := Lib.hid (below_then HE.out hb1)
        clear hb1 HK HE
        have HK := HK1; have HE := HE1
        have q0 := (HK1.out _ (.tail _ (.head _))).cell 0
        have q1 := (HK1.out _ (.tail _ (.head _))).cell 1
        simp at q0 q1
        go_wp2_with fail
        refine (rValid_to x y true _ HR.out).mono ?_
        rintro e w2 ⟨rfl, hb1⟩
        have HK2 := Lib.hid (HK1.out.on hb1); have HE2 := Lib.hid (below_then HE1.out hb1)
        clear hb1 HK1 HE1 q0 q1 HK HE
        have HK := HK2; have HE := HE2
        have q0 := (HK2.out _ (.tail _ (.head _))).cell 0
        have q1 := (HK2.out _ (.tail _ (.tail _ (.head _)))).cell 0
        simp at q0 q1
        go_wp2_with fail
        refine (CI.out _ x true HE2.out HTT.out HBD.out.1).mono ?_
        rintro e w3 ⟨rfl, hb1⟩
        have HK3 := Lib.hid (HK2.out.on hb1); have HE3 := Lib.hid (below_then HE2.out hb1)
        clear hb1 HK2 HE2 q0 q1 HK HE
        have HK := HK3; have HE := HE3
        have HE2 := HE3
        have q0 := (HK3.out _ (.tail _ (.head _))).cell 1
        have q1 := (HK3.out _ (.tail _ (.tail _ (.head _)))).cell 0
        simp at q0 q1
        go_wp2_with fail
        refine (CI.out _ y false HE2.out HTT.out HBD.out.2).mono ?_
        rintro e w9 ⟨rfl, hb1⟩
        have hO := (HK.out.on hb1) _ (.head _)
        have HE9 := Lib.hid (below_then HE.out hb1)
        have r0 := hO.cell 0
        have r1 := hO.cell 1
        have f0 := hO.frozen 0
        have f1 := hO.frozen 1
        have lT := hO.lt
        simp at r0 r1
        clear hb1 hO
        go_wp2
        refine bodyPost_ret (v := .tuple #[rv 0 0, .int .i64 4]) (by simp [results, Tryz.results158, go_sem, r0, r1, lT]) rfl ⟨rfl, ?_⟩
        exact (HE9.out.setCell (p := ⟨w.heap.size + 1 + 1, 0, none⟩) (by simp; omega) _).setCell (p := ⟨w.heap.size + 1 + 1, 1, none⟩) (by simp; omega) _
    · have hr' : vR x y = false := by simpa using hr
      have he : overE ps x y = 10 := by unfold overE; rw [if_pos ht, if_neg hr]
      rw [he]
      have HTT := Lib.hid ht; have HR := Lib.hid hr'
      clear ht hr hr' h0 he
      · skip
        go_enter Tryz.func158, Tryz.ntmps158
        go_wp2_with fail
        obtain ⟨W0, hW0⟩ : ∃ W0, ((w.alloc (.cells #[.slice A n c] 26)).alloc (.cells #[.int .i64 x, .int .i64 y] 23)).alloc (.cells #[.int .i64 0, .int .i64 0] 23) = W0 := ⟨_, rfl⟩
        rw [hW0] at HE HK ⊢
        clear hW0
        refine (CV.out _ true HE.out HTT.out).mono ?_
        rintro e w1 ⟨rfl, hb1⟩
        have HK1 := Lib.hid (HK.out.on hb1); have HE1 := Lib.hid (below_then HE.out hb1)
        clear hb1 HK HE
        have HK := HK1; have HE := HE1
        have q0 := (HK1.out _ (.tail _ (.head _))).cell 0
        have q1 := (HK1.out _ (.tail _ (.head _))).cell 1
        simp at q0 q1
        go_wp2_with fail
        refine (rValid_to x y false _ HR.out).mono ?_
        rintro e w9 ⟨rfl, hb1⟩
        have hO := (HK.out.on hb1) _ (.head _)
        have HE9 := Lib.hid (below_then HE.out hb1)
        have r0 := hO.cell 0
        have r1 := hO.cell 1
        have f0 := hO.frozen 0
        have f1 := hO.frozen 1
        have lT := hO.lt
        simp at r0 r1
        clear hb1 hO
        go_wp2
        refine bodyPost_ret (v := .tuple #[rv 0 0, .int .i64 10]) (by simp [results, Tryz.results158, go_sem, r0, r1, lT]) rfl ⟨rfl, ?_⟩
        exact (HE9.out.setCell (p := ⟨w.heap.size + 1 + 1, 0, none⟩) (by simp; omega) _).setCell (p := ⟨w.heap.size + 1 + 1, 1, none⟩) (by simp; omega) _
  · have ht' : tabOk ps = false := by simpa using ht
    have he : overE ps x y = 11 := by unfold overE; rw [if_neg ht]
    rw [he]
    have HTT := Lib.hid ht'
    clear ht ht' h0 he
    · skip
      · skip
        go_enter Tryz.func158, Tryz.ntmps158
        go_wp2_with fail
        obtain ⟨W0, hW0⟩ : ∃ W0, ((w.alloc (.cells #[.slice A n c] 26)).alloc (.cells #[.int .i64 x, .int .i64 y] 23)).alloc (.cells #[.int .i64 0, .int .i64 0] 23) = W0 := ⟨_, rfl⟩
        rw [hW0] at HE HK ⊢
        clear hW0
        refine (CV.out _ false HE.out HTT.out).mono ?_
        rintro e w9 ⟨rfl, hb1⟩
        have hO := (HK.out.on hb1) _ (.head _)
        have HE9 := Lib.hid (below_then HE.out hb1)
        have r0 := hO.cell 0
        have r1 := hO.cell 1
        have f0 := hO.frozen 0
        have f1 := hO.frozen 1
        have lT := hO.lt
        simp at r0 r1
        clear hb1 hO
        go_wp2
        refine bodyPost_ret (v := .tuple #[rv 0 0, .int .i64 11]) (by simp [results, Tryz.results158, go_sem, r0, r1, lT]) rfl ⟨rfl, ?_⟩
        exact (HE9.out.setCell (p := ⟨w.heap.size + 1 + 1, 0, none⟩) (by simp; omega) _).setCell (p := ⟨w.heap.size + 1 + 1, 1, none⟩) (by simp; omega) _
theorem rover_all (A : Option Addr) (n c : Nat) (ps : List P3) (x y : Int) (w : World) (hn : n = ps.length) (hm : n ≤ maxLen) (hp : Pts w A ps) :
    Calls Tryz.prog 158 #[tv A n c, rv x y] w fun e w' => e = .returned (rt (overS ps x y)) ∧ Below w.heap.size w w' := by
  by_cases h0 : overE ps x y = 0
  · have ht : tabOk ps = true := by
      cases h : tabOk ps
      · unfold overE at h0; rw [h] at h0; simp at h0
      · rfl
    have hr : vR x y = true := by
      cases h : vR x y
      · unfold overE at h0; rw [if_pos ht, h] at h0; simp at h0
      · rfl
    have hpl : placesS ps x y = 0 := by unfold overE at h0; rw [if_pos ht, if_pos hr] at h0; exact h0
    obtain ⟨b, o, rfl, hb, hc⟩ := hp.block (tabOk_len ht).1
    unfold overS
    rw [if_pos h0]
    exact rover_good b o n c ps x y w hn hb ht hr hpl hc
  · unfold overS
    rw [if_neg h0]
    exact rover_bad A n c ps x y w hn hm hp h0
end

section
open Go.RowKit

set_option maxRecDepth 100000 in
set_option maxHeartbeats 2000000 in
theorem sover_any (A : Option Addr) (n c : Nat) (ps : List P3) (x y : Int) (w : World) (hp : TabIn w A n ps) :
    Calls Tryz.prog 109 #[tv A n c, rv x y] w fun e w' => e = .returned (rv (overS ps x y).1 (overS ps x y).2.1) ∧ Below w.heap.size w w' := by
  have HE := Lib.hid (show Below w.heap.size w (((w.alloc (.cells #[.slice A n c] 26)).alloc (.cells #[.int .i64 x, .int .i64 y] 23)).alloc (.cells #[.int .i64 0, .int .i64 0] 23)) from below_a3 (Below.refl _ _))
  have HK := Lib.hid (boxes3' w 26 23 23 #[.slice A n c] #[.int .i64 x, .int .i64 y] #[.int .i64 0, .int .i64 0])
  have C : Hid (∀ W, Below w.heap.size w W → Calls Tryz.prog 158 #[tv A n c, rv x y] W fun e w' => e = .returned (rt (overS ps x y)) ∧ Below W.heap.size W w') := Lib.hid fun W hW => rover_all A n c ps x y W hp.1 hp.2.1 (hp.2.2.below hW)
  clear hp
  generalize overS ps x y = r at *
  obtain ⟨a, b, e⟩ := r
  go_enter Tryz.func109, Tryz.ntmps109
  go_wp2_with fail
  obtain ⟨W0, hW0⟩ : ∃ W0, (((w.alloc (.cells #[.slice A n c] 26)).alloc (.cells #[.int .i64 x, .int .i64 y] 23)).alloc (.cells #[.int .i64 0, .int .i64 0] 23)) = W0 := ⟨_, rfl⟩
  rw [hW0] at HE HK ⊢
  clear hW0
  refine (C.out _ HE.out).mono ?_
  rintro e1 w1 ⟨rfl, hb⟩
  have HE1 := Lib.hid (below_then HE.out hb)
  have HE2 := Lib.hid (below_then HE1.out (below_alloc1 w1 (.cells #[.int .i64 a, .int .i64 b] 23)))
  have HKN := Lib.hid ((HK.out.on hb).new 23 #[.int .i64 a, .int .i64 b])
  have z := HKN.out _ (.tail _ (.head _))
  have z0 := z.cell 0
  have z1 := z.cell 1
  have f0 := z.frozen 0
  have f1 := z.frozen 1
  have l0 := (HK.out.on hb _ (.head _)).lt
  simp at z0 z1 f0 f1 l0
  have hl : w.heap.size + 1 + 1 ≠ w1.heap.size := by omega
  have hl2 : w1.heap.size ≠ w.heap.size + 1 + 1 := by omega
  clear hb HE C z l0 HE1
  go_wp2
  refine bodyPost_ret (v := rv a b) (by simp [results, Tryz.results109, go_sem, z0, z1, hl, hl2]) rfl ⟨rfl, ?_⟩
  repeat (first | exact HE2.out | refine Below.setCell ?_ (by simp <;> omega) _)

set_option maxRecDepth 100000 in
set_option maxHeartbeats 4000000 in
theorem svol_to (h : HoldD) (m : HoldM) (f : FillD) (w : World) (hi : HoldIn w h m) (q0 : 0 ≤ f.st) (q5 : f.st ≤ 5) :
    Calls Tryz.prog 84 #[holdV h m, fillV f] w fun e w' => e = .returned (rv (volS h f).1 (volS h f).2) ∧ Below w.heap.size w w' := by
  obtain ⟨⟨ra, rb⟩, hR⟩ : ∃ r, volS h f = r := ⟨_, rfl⟩
  rw [hR]
  have HR := Lib.hid hR
  unfold volS at HR
  clear hR
  obtain ⟨id, al, ah, vol, mom, hei, t0, t1, u0, u1, v0, v1, h0, h1⟩ := h
  obtain ⟨A, n, c, B, mm, d, C, l, ee⟩ := m
  obtain ⟨fh, st, x0, x1, d0, d1⟩ := f
  obtain ⟨i1, i2, i3⟩ := hi
  dsimp only at i1 i2 i3 q0 q5 HR
  have HE := Lib.hid (show Below w.heap.size w (((w.alloc (.cells #[.int .i64 id, .int .i64 al, .int .i64 ah, .slice A n c, .slice B mm d, .slice C l ee, .int .i64 t0, .int .i64 t1, .int .i64 u0, .int .i64 u1, .int .i64 v0, .int .i64 v1, .int .i64 h0, .int .i64 h1] 28)).alloc (.cells #[.int .i64 fh, .int .i64 st, .int .i64 x0, .int .i64 x1, .int .i64 d0, .int .i64 d1] 30)).alloc (.cells #[.int .i64 0, .int .i64 0] 23)) from below_a3 (Below.refl _ _))
  have HK := Lib.hid (boxes3' w 28 30 23 #[.int .i64 id, .int .i64 al, .int .i64 ah, .slice A n c, .slice B mm d, .slice C l ee, .int .i64 t0, .int .i64 t1, .int .i64 u0, .int .i64 u1, .int .i64 v0, .int .i64 v1, .int .i64 h0, .int .i64 h1] #[.int .i64 fh, .int .i64 st, .int .i64 x0, .int .i64 x1, .int .i64 d0, .int .i64 d1] #[.int .i64 0, .int .i64 0])
  have CO : Hid (∀ W, Below w.heap.size w W → Calls Tryz.prog 109 #[tv A n c, rv x0 x1] W fun e w' => e = .returned (rv (overS vol x0 x1).1 (overS vol x0 x1).2.1) ∧ Below W.heap.size W w') := Lib.hid fun W hW => sover_any A n c vol x0 x1 W (i1.below hW)
  clear i1 i2 i3
  generalize overS vol x0 x1 = Q at *
  obtain ⟨qa, qb, qe⟩ := Q
  dsimp only at HR CO
  by_cases s0 : st = 0
  · have e := HR.out
    rw [if_pos s0] at e
    injection e with e1 e2
    subst e1 e2
    have b0 : (st == 0) = true := by simp [s0]
    clear HR CO s0 HK
    go_enter Tryz.func84, Tryz.ntmps84
    go_wp2
    refine bodyPost_ret (v := rv 0 0) (by simp [results, Tryz.results84, go_sem]) rfl ⟨rfl, ?_⟩
    repeat (first | exact HE.out | exact Below.refl _ _ | refine Below.setCell ?_ (by simp <;> omega) _ | refine Below.alloc ?_ (by simp <;> omega) _)
  have b0 : (st == 0) = false := beq_eq_false_iff_ne.2 s0
  by_cases s2 : st ≤ 2
  · have e := HR.out
    rw [if_neg s0, if_pos s2] at e
    injection e with e1 e2
    subst e1 e2
    have C1 := Lib.hid (fun W => sFilled_to st true W (decide_eq_true ⟨by omega, s2⟩))
    clear HR CO s0
    go_enter Tryz.func84, Tryz.ntmps84
    go_wp2_with fail
    obtain ⟨W0, hW0⟩ : ∃ W0, (((w.alloc (.cells #[.int .i64 id, .int .i64 al, .int .i64 ah, .slice A n c, .slice B mm d, .slice C l ee, .int .i64 t0, .int .i64 t1, .int .i64 u0, .int .i64 u1, .int .i64 v0, .int .i64 v1, .int .i64 h0, .int .i64 h1] 28)).alloc (.cells #[.int .i64 fh, .int .i64 st, .int .i64 x0, .int .i64 x1, .int .i64 d0, .int .i64 d1] 30)).alloc (.cells #[.int .i64 0, .int .i64 0] 23)) = W0 := ⟨_, rfl⟩
    rw [hW0] at HE HK ⊢
    clear hW0
    obtain ⟨G, hG⟩ : ∃ G, w.heap.size = G := ⟨_, rfl⟩
    rw [hG] at HK ⊢
    have HG := Lib.hid hG; clear hG
    refine (C1.out _).mono ?_
    rintro e w1 ⟨rfl, hb⟩
    have HE1 := Lib.hid (below_then HE.out hb); have HK1 := Lib.hid (HK.out.on hb)
    clear hb HE HK C1
    have p := HK1.out _ (.tail _ (.tail _ (.head _)))
    have p10 := p.cell 10
    have p11 := p.cell 11
    simp at p10 p11
    clear p
    have z := HK1.out _ (.head _)
    have z0 := z.cell 0
    have zf0 := z.frozen 0
    have z1 := z.cell 1
    have zf1 := z.frozen 1
    have zl := z.lt
    simp at z0 zf0 z1 zf1
    clear z
    go_wp2
    refine bodyPost_ret (v := rv v0 v1) (by simp [results, Tryz.results84, go_sem, z0, z1]) rfl ⟨rfl, ?_⟩
    have hg := HG.out
    repeat (first | exact HE1.out | refine Below.setCell ?_ (by simp <;> omega) _)
  · have e := HR.out
    rw [if_neg s0, if_neg s2] at e
    injection e with e1 e2
    subst e1 e2
    have C1 := Lib.hid (fun W => sFilled_to st false W (decide_eq_false (by omega)))
    clear HR s0
    go_enter Tryz.func84, Tryz.ntmps84
    go_wp2_with fail
    obtain ⟨W0, hW0⟩ : ∃ W0, (((w.alloc (.cells #[.int .i64 id, .int .i64 al, .int .i64 ah, .slice A n c, .slice B mm d, .slice C l ee, .int .i64 t0, .int .i64 t1, .int .i64 u0, .int .i64 u1, .int .i64 v0, .int .i64 v1, .int .i64 h0, .int .i64 h1] 28)).alloc (.cells #[.int .i64 fh, .int .i64 st, .int .i64 x0, .int .i64 x1, .int .i64 d0, .int .i64 d1] 30)).alloc (.cells #[.int .i64 0, .int .i64 0] 23)) = W0 := ⟨_, rfl⟩
    rw [hW0] at HE HK ⊢
    clear hW0
    obtain ⟨G, hG⟩ : ∃ G, w.heap.size = G := ⟨_, rfl⟩
    rw [hG] at HK ⊢
    have HG := Lib.hid hG; clear hG
    refine (C1.out _).mono ?_
    rintro e w1 ⟨rfl, hb⟩
    have HE1 := Lib.hid (below_then HE.out hb); have HK1 := Lib.hid (HK.out.on hb)
    clear hb HE HK C1
    have p := HK1.out _ (.tail _ (.tail _ (.head _)))
    have p3 := p.cell 3
    simp at p3
    clear p
    have f := HK1.out _ (.tail _ (.head _))
    have f1 := f.cell 1
    have f2 := f.cell 2
    have f3 := f.cell 3
    simp at f1 f2 f3
    clear f
    go_wp2_with fail
    refine (CO.out _ HE1.out).mono ?_
    rintro e y1 ⟨rfl, hb⟩
    have HE9 := Lib.hid (below_then (below_then HE1.out hb) (below_alloc1 y1 (.cells #[.int .i64 qa, .int .i64 qb] 23))); have HK9 := Lib.hid ((HK1.out.on hb).new 23 #[.int .i64 qa, .int .i64 qb])
    clear hb HE1 HK1 p3 f1 f2 f3 CO
    go_upto_region 6 with fail
    obtain ⟨W9, hW⟩ : ∃ W9, y1.alloc (.cells #[.int .i64 qa, .int .i64 qb] 23) = W9 := ⟨_, rfl⟩
    rw [hW] at HE9 HK9 ⊢
    clear hW
    obtain ⟨N9, hN⟩ : ∃ N, y1.heap.size = N := ⟨_, rfl⟩
    rw [hN] at HK9 ⊢
    clear hN
    have a := HK9.out _ (.head _)
    have a0 := a.cell 0
    have a1 := a.cell 1
    simp at a0 a1
    clear a
    have z := HK9.out _ (.tail _ (.head _))
    have z0 := z.cell 0
    have zf0 := z.frozen 0
    have z1 := z.cell 1
    have zf1 := z.frozen 1
    have zl := z.lt
    simp at z0 zf0 z1 zf1
    clear z
    go_wp2
    refine bodyPost_ret (v := rv qa qb) (by simp [results, Tryz.results84, go_sem, z0, z1]) rfl ⟨rfl, ?_⟩
    have hg := HG.out
    repeat (first | exact HE9.out | refine Below.setCell ?_ (by simp <;> omega) _)

set_option maxRecDepth 100000 in
set_option maxHeartbeats 4000000 in
theorem shei_to (h : HoldD) (m : HoldM) (f : FillD) (w : World) (hi : HoldIn w h m) (q0 : 0 ≤ f.st) (q5 : f.st ≤ 5) :
    Calls Tryz.prog 92 #[holdV h m, fillV f] w fun e w' => e = .returned (rv (heiS h f).1 (heiS h f).2) ∧ Below w.heap.size w w' := by
  obtain ⟨⟨ra, rb⟩, hR⟩ : ∃ r, heiS h f = r := ⟨_, rfl⟩
  rw [hR]
  have HR := Lib.hid hR
  unfold heiS at HR
  clear hR
  obtain ⟨id, al, ah, vol, mom, hei, t0, t1, u0, u1, v0, v1, h0, h1⟩ := h
  obtain ⟨A, n, c, B, mm, d, C, l, ee⟩ := m
  obtain ⟨fh, st, x0, x1, d0, d1⟩ := f
  obtain ⟨i1, i2, i3⟩ := hi
  dsimp only at i1 i2 i3 q0 q5 HR
  have HE := Lib.hid (show Below w.heap.size w (((w.alloc (.cells #[.int .i64 id, .int .i64 al, .int .i64 ah, .slice A n c, .slice B mm d, .slice C l ee, .int .i64 t0, .int .i64 t1, .int .i64 u0, .int .i64 u1, .int .i64 v0, .int .i64 v1, .int .i64 h0, .int .i64 h1] 28)).alloc (.cells #[.int .i64 fh, .int .i64 st, .int .i64 x0, .int .i64 x1, .int .i64 d0, .int .i64 d1] 30)).alloc (.cells #[.int .i64 0, .int .i64 0] 23)) from below_a3 (Below.refl _ _))
  have HK := Lib.hid (boxes3' w 28 30 23 #[.int .i64 id, .int .i64 al, .int .i64 ah, .slice A n c, .slice B mm d, .slice C l ee, .int .i64 t0, .int .i64 t1, .int .i64 u0, .int .i64 u1, .int .i64 v0, .int .i64 v1, .int .i64 h0, .int .i64 h1] #[.int .i64 fh, .int .i64 st, .int .i64 x0, .int .i64 x1, .int .i64 d0, .int .i64 d1] #[.int .i64 0, .int .i64 0])
  have CO : Hid (∀ W, Below w.heap.size w W → Calls Tryz.prog 109 #[tv C l ee, rv x0 x1] W fun e w' => e = .returned (rv (overS hei x0 x1).1 (overS hei x0 x1).2.1) ∧ Below W.heap.size W w') := Lib.hid fun W hW => sover_any C l ee hei x0 x1 W (i3.below hW)
  clear i1 i2 i3
  generalize overS hei x0 x1 = Q at *
  obtain ⟨qa, qb, qe⟩ := Q
  dsimp only at HR CO
  by_cases s0 : st = 0
  · have e := HR.out
    rw [if_pos s0] at e
    injection e with e1 e2
    subst e1 e2
    have b0 : (st == 0) = true := by simp [s0]
    clear HR CO s0 HK
    go_enter Tryz.func92, Tryz.ntmps92
    go_wp2
    refine bodyPost_ret (v := rv 0 0) (by simp [results, Tryz.results92, go_sem]) rfl ⟨rfl, ?_⟩
    repeat (first | exact HE.out | exact Below.refl _ _ | refine Below.setCell ?_ (by simp <;> omega) _ | refine Below.alloc ?_ (by simp <;> omega) _)
  have b0 : (st == 0) = false := beq_eq_false_iff_ne.2 s0
  by_cases s2 : st ≤ 2
  · have e := HR.out
    rw [if_neg s0, if_pos s2] at e
    injection e with e1 e2
    subst e1 e2
    have C1 := Lib.hid (fun W => sFilled_to st true W (decide_eq_true ⟨by omega, s2⟩))
    clear HR CO s0
    go_enter Tryz.func92, Tryz.ntmps92
    go_wp2_with fail
    obtain ⟨W0, hW0⟩ : ∃ W0, (((w.alloc (.cells #[.int .i64 id, .int .i64 al, .int .i64 ah, .slice A n c, .slice B mm d, .slice C l ee, .int .i64 t0, .int .i64 t1, .int .i64 u0, .int .i64 u1, .int .i64 v0, .int .i64 v1, .int .i64 h0, .int .i64 h1] 28)).alloc (.cells #[.int .i64 fh, .int .i64 st, .int .i64 x0, .int .i64 x1, .int .i64 d0, .int .i64 d1] 30)).alloc (.cells #[.int .i64 0, .int .i64 0] 23)) = W0 := ⟨_, rfl⟩
    rw [hW0] at HE HK ⊢
    clear hW0
    obtain ⟨G, hG⟩ : ∃ G, w.heap.size = G := ⟨_, rfl⟩
    rw [hG] at HK ⊢
    have HG := Lib.hid hG; clear hG
    refine (C1.out _).mono ?_
    rintro e w1 ⟨rfl, hb⟩
    have HE1 := Lib.hid (below_then HE.out hb); have HK1 := Lib.hid (HK.out.on hb)
    clear hb HE HK C1
    have p := HK1.out _ (.tail _ (.tail _ (.head _)))
    have p12 := p.cell 12
    have p13 := p.cell 13
    simp at p12 p13
    clear p
    have z := HK1.out _ (.head _)
    have z0 := z.cell 0
    have zf0 := z.frozen 0
    have z1 := z.cell 1
    have zf1 := z.frozen 1
    have zl := z.lt
    simp at z0 zf0 z1 zf1
    clear z
    go_wp2
    refine bodyPost_ret (v := rv h0 h1) (by simp [results, Tryz.results92, go_sem, z0, z1]) rfl ⟨rfl, ?_⟩
    have hg := HG.out
    repeat (first | exact HE1.out | refine Below.setCell ?_ (by simp <;> omega) _)
  · have e := HR.out
    rw [if_neg s0, if_neg s2] at e
    injection e with e1 e2
    subst e1 e2
    have C1 := Lib.hid (fun W => sFilled_to st false W (decide_eq_false (by omega)))
    clear HR s0
    go_enter Tryz.func92, Tryz.ntmps92
    go_wp2_with fail
    obtain ⟨W0, hW0⟩ : ∃ W0, (((w.alloc (.cells #[.int .i64 id, .int .i64 al, .int .i64 ah, .slice A n c, .slice B mm d, .slice C l ee, .int .i64 t0, .int .i64 t1, .int .i64 u0, .int .i64 u1, .int .i64 v0, .int .i64 v1, .int .i64 h0, .int .i64 h1] 28)).alloc (.cells #[.int .i64 fh, .int .i64 st, .int .i64 x0, .int .i64 x1, .int .i64 d0, .int .i64 d1] 30)).alloc (.cells #[.int .i64 0, .int .i64 0] 23)) = W0 := ⟨_, rfl⟩
    rw [hW0] at HE HK ⊢
    clear hW0
    obtain ⟨G, hG⟩ : ∃ G, w.heap.size = G := ⟨_, rfl⟩
    rw [hG] at HK ⊢
    have HG := Lib.hid hG; clear hG
    refine (C1.out _).mono ?_
    rintro e w1 ⟨rfl, hb⟩
    have HE1 := Lib.hid (below_then HE.out hb); have HK1 := Lib.hid (HK.out.on hb)
    clear hb HE HK C1
    have p := HK1.out _ (.tail _ (.tail _ (.head _)))
    have p5 := p.cell 5
    simp at p5
    clear p
    have f := HK1.out _ (.tail _ (.head _))
    have f1 := f.cell 1
    have f2 := f.cell 2
    have f3 := f.cell 3
    simp at f1 f2 f3
    clear f
    go_wp2_with fail
    refine (CO.out _ HE1.out).mono ?_
    rintro e y1 ⟨rfl, hb⟩
    have HE9 := Lib.hid (below_then (below_then HE1.out hb) (below_alloc1 y1 (.cells #[.int .i64 qa, .int .i64 qb] 23))); have HK9 := Lib.hid ((HK1.out.on hb).new 23 #[.int .i64 qa, .int .i64 qb])
    clear hb HE1 HK1 p5 f1 f2 f3 CO
    go_upto_region 6 with fail
    obtain ⟨W9, hW⟩ : ∃ W9, y1.alloc (.cells #[.int .i64 qa, .int .i64 qb] 23) = W9 := ⟨_, rfl⟩
    rw [hW] at HE9 HK9 ⊢
    clear hW
    obtain ⟨N9, hN⟩ : ∃ N, y1.heap.size = N := ⟨_, rfl⟩
    rw [hN] at HK9 ⊢
    clear hN
    have a := HK9.out _ (.head _)
    have a0 := a.cell 0
    have a1 := a.cell 1
    simp at a0 a1
    clear a
    have z := HK9.out _ (.tail _ (.head _))
    have z0 := z.cell 0
    have zf0 := z.frozen 0
    have z1 := z.cell 1
    have zf1 := z.frozen 1
    have zl := z.lt
    simp at z0 zf0 z1 zf1
    clear z
    go_wp2
    refine bodyPost_ret (v := rv qa qb) (by simp [results, Tryz.results92, go_sem, z0, z1]) rfl ⟨rfl, ?_⟩
    have hg := HG.out
    repeat (first | exact HE9.out | refine Below.setCell ?_ (by simp <;> omega) _)

set_option maxRecDepth 100000 in
set_option maxHeartbeats 4000000 in
theorem smom_to (h : HoldD) (m : HoldM) (f : FillD) (w : World) (hi : HoldIn w h m) (q0 : 0 ≤ f.st) (q5 : f.st ≤ 5) :
    Calls Tryz.prog 89 #[holdV h m, fillV f] w fun e w' => e = .returned (rv (momS h f).1 (momS h f).2) ∧ Below w.heap.size w w' := by
  obtain ⟨⟨ra, rb⟩, hR⟩ : ∃ r, momS h f = r := ⟨_, rfl⟩
  rw [hR]
  have HR := Lib.hid hR
  unfold momS at HR
  clear hR
  obtain ⟨id, al, ah, vol, mom, hei, t0, t1, u0, u1, v0, v1, h0, h1⟩ := h
  obtain ⟨A, n, c, B, mm, d, C, l, ee⟩ := m
  obtain ⟨fh, st, x0, x1, d0, d1⟩ := f
  obtain ⟨i1, i2, i3⟩ := hi
  dsimp only at i1 i2 i3 q0 q5 HR
  have HE := Lib.hid (show Below w.heap.size w (((w.alloc (.cells #[.int .i64 id, .int .i64 al, .int .i64 ah, .slice A n c, .slice B mm d, .slice C l ee, .int .i64 t0, .int .i64 t1, .int .i64 u0, .int .i64 u1, .int .i64 v0, .int .i64 v1, .int .i64 h0, .int .i64 h1] 28)).alloc (.cells #[.int .i64 fh, .int .i64 st, .int .i64 x0, .int .i64 x1, .int .i64 d0, .int .i64 d1] 30)).alloc (.cells #[.int .i64 0, .int .i64 0] 23)) from below_a3 (Below.refl _ _))
  have HK := Lib.hid (boxes3' w 28 30 23 #[.int .i64 id, .int .i64 al, .int .i64 ah, .slice A n c, .slice B mm d, .slice C l ee, .int .i64 t0, .int .i64 t1, .int .i64 u0, .int .i64 u1, .int .i64 v0, .int .i64 v1, .int .i64 h0, .int .i64 h1] #[.int .i64 fh, .int .i64 st, .int .i64 x0, .int .i64 x1, .int .i64 d0, .int .i64 d1] #[.int .i64 0, .int .i64 0])
  have CO : Hid (∀ W, Below w.heap.size w W → Calls Tryz.prog 109 #[tv B mm d, rv x0 x1] W fun e w' => e = .returned (rv (overS mom x0 x1).1 (overS mom x0 x1).2.1) ∧ Below W.heap.size W w') := Lib.hid fun W hW => sover_any B mm d mom x0 x1 W (i2.below hW)
  clear i1 i2 i3
  generalize overS mom x0 x1 = Q at *
  obtain ⟨qa, qb, qe⟩ := Q
  dsimp only at HR CO
  rcases st_cases q0 q5 with rfl | rfl | rfl | rfl | rfl | rfl
  · have e : ((0 : Int), (0 : Int)) = (ra, rb) := HR.out
    injection e with e1 e2
    subst e1 e2
    clear HR CO HK
    go_enter Tryz.func89, Tryz.ntmps89
    go_wp2
    refine bodyPost_ret (v := rv 0 0) (by simp [results, Tryz.results89, go_sem]) rfl ⟨rfl, ?_⟩
    repeat (first | exact HE.out | exact Below.refl _ _ | refine Below.setCell ?_ (by simp <;> omega) _ | refine Below.alloc ?_ (by simp <;> omega) _)
  · have e : ((t0 : Int), (t1 : Int)) = (ra, rb) := HR.out
    injection e with e1 e2
    subst e1 e2
    clear HR CO HK
    go_enter Tryz.func89, Tryz.ntmps89
    go_wp2
    refine bodyPost_ret (v := rv t0 t1) (by simp [results, Tryz.results89, go_sem]) rfl ⟨rfl, ?_⟩
    repeat (first | exact HE.out | exact Below.refl _ _ | refine Below.setCell ?_ (by simp <;> omega) _ | refine Below.alloc ?_ (by simp <;> omega) _)
  · have e : ((u0 : Int), (u1 : Int)) = (ra, rb) := HR.out
    injection e with e1 e2
    subst e1 e2
    clear HR CO HK
    go_enter Tryz.func89, Tryz.ntmps89
    go_wp2
    refine bodyPost_ret (v := rv u0 u1) (by simp [results, Tryz.results89, go_sem]) rfl ⟨rfl, ?_⟩
    repeat (first | exact HE.out | exact Below.refl _ _ | refine Below.setCell ?_ (by simp <;> omega) _ | refine Below.alloc ?_ (by simp <;> omega) _)
  · have e : ((qa : Int), (qb : Int)) = (ra, rb) := HR.out
    injection e with e1 e2
    subst e1 e2
    clear HR
    go_enter Tryz.func89, Tryz.ntmps89
    go_upto_region 1 with fail
    obtain ⟨W0, hW0⟩ : ∃ W0, (((w.alloc (.cells #[.int .i64 id, .int .i64 al, .int .i64 ah, .slice A n c, .slice B mm d, .slice C l ee, .int .i64 t0, .int .i64 t1, .int .i64 u0, .int .i64 u1, .int .i64 v0, .int .i64 v1, .int .i64 h0, .int .i64 h1] 28)).alloc (.cells #[.int .i64 fh, .int .i64 3, .int .i64 x0, .int .i64 x1, .int .i64 d0, .int .i64 d1] 30)).alloc (.cells #[.int .i64 0, .int .i64 0] 23)) = W0 := ⟨_, rfl⟩
    rw [hW0] at HE HK ⊢
    clear hW0
    obtain ⟨G, hG⟩ : ∃ G, w.heap.size = G := ⟨_, rfl⟩
    rw [hG] at HK ⊢
    have HG := Lib.hid hG; clear hG
    have p := HK.out _ (.tail _ (.tail _ (.head _)))
    have p4 := p.cell 4
    simp at p4
    clear p
    have f := HK.out _ (.tail _ (.head _))
    have f1 := f.cell 1
    have f2 := f.cell 2
    have f3 := f.cell 3
    simp at f1 f2 f3
    clear f
    go_wp2_with fail
    refine (CO.out _ HE.out).mono ?_
    rintro e y1 ⟨rfl, hb⟩
    have HE9 := Lib.hid (below_then (below_then HE.out hb) (below_alloc1 y1 (.cells #[.int .i64 qa, .int .i64 qb] 23))); have HK9 := Lib.hid ((HK.out.on hb).new 23 #[.int .i64 qa, .int .i64 qb])
    clear hb HE HK p4 f1 f2 f3 CO
    go_upto_region 7 with fail
    obtain ⟨W9, hW⟩ : ∃ W9, y1.alloc (.cells #[.int .i64 qa, .int .i64 qb] 23) = W9 := ⟨_, rfl⟩
    rw [hW] at HE9 HK9 ⊢
    clear hW
    obtain ⟨N9, hN⟩ : ∃ N, y1.heap.size = N := ⟨_, rfl⟩
    rw [hN] at HK9 ⊢
    clear hN
    have a := HK9.out _ (.head _)
    have a0 := a.cell 0
    have a1 := a.cell 1
    simp at a0 a1
    clear a
    have z := HK9.out _ (.tail _ (.head _))
    have z0 := z.cell 0
    have zf0 := z.frozen 0
    have z1 := z.cell 1
    have zf1 := z.frozen 1
    have zl := z.lt
    simp at z0 zf0 z1 zf1
    clear z
    go_wp2
    refine bodyPost_ret (v := rv qa qb) (by simp [results, Tryz.results89, go_sem, z0, z1]) rfl ⟨rfl, ?_⟩
    have hg := HG.out
    repeat (first | exact HE9.out | refine Below.setCell ?_ (by simp <;> omega) _)
  · have e : ((0 : Int), (0 : Int)) = (ra, rb) := HR.out
    injection e with e1 e2
    subst e1 e2
    clear HR CO HK
    go_enter Tryz.func89, Tryz.ntmps89
    go_wp2
    refine bodyPost_ret (v := rv 0 0) (by simp [results, Tryz.results89, go_sem]) rfl ⟨rfl, ?_⟩
    repeat (first | exact HE.out | exact Below.refl _ _ | refine Below.setCell ?_ (by simp <;> omega) _ | refine Below.alloc ?_ (by simp <;> omega) _)
  · have e : ((0 : Int), (0 : Int)) = (ra, rb) := HR.out
    injection e with e1 e2
    subst e1 e2
    clear HR CO HK
    go_enter Tryz.func89, Tryz.ntmps89
    go_wp2
    refine bodyPost_ret (v := rv 0 0) (by simp [results, Tryz.results89, go_sem]) rfl ⟨rfl, ?_⟩
    repeat (first | exact HE.out | exact Below.refl _ _ | refine Below.setCell ?_ (by simp <;> omega) _ | refine Below.alloc ?_ (by simp <;> omega) _)
end

section
open Go.RowKit

/-- a range from 0 on times a density, divided by 1000 -/
def heavyS (a b c d : Int) : Int × Int := ((a * c) / 1000, (b * d + 999) / 1000)
set_option maxRecDepth 100000 in
set_option maxHeartbeats 2000000 in
theorem sheavy_any (a b c d : Int) (w : World) (h1 : 0 ≤ a * c ∧ a * c ≤ 1000000000000000) (h2 : 0 ≤ b * d ∧ b * d ≤ 1000000000000000) :
    Calls Tryz.prog 87 #[rv a b, rv c d] w fun e w' => e = .returned (rv (heavyS a b c d).1 (heavyS a b c d).2) ∧ Below w.heap.size w w' := by
  have hE : Below w.heap.size w (((w.alloc (.cells #[.int .i64 a, .int .i64 b] 23)).alloc (.cells #[.int .i64 c, .int .i64 d] 23)).alloc (.cells #[.int .i64 ((a * c) / 1000), .int .i64 ((b * d + 999) / 1000)] 23)) := below_a3 (Below.refl _ _)
  unfold heavyS
  generalize hp1 : a * c = p1 at *
  generalize hp2 : b * d = p2 at *
  have k1 : IntKind.i64.wrap (a * c) = p1 := by rw [hp1]; exact IntWalk.i64_in _ ⟨by omega, by omega⟩
  have k2 : IntKind.i64.wrap (b * d) = p2 := by rw [hp2]; exact IntWalk.i64_in _ ⟨by omega, by omega⟩
  have k3 : IntKind.i64.wrap (p2 + 999) = p2 + 999 := IntWalk.i64_in _ ⟨by omega, by omega⟩
  have q1 : p1.tdiv 1000 = p1 / 1000 := Int.tdiv_eq_ediv_of_nonneg (by omega)
  have q2 : (p2 + 999).tdiv 1000 = (p2 + 999) / 1000 := Int.tdiv_eq_ediv_of_nonneg (by omega)
  have k4 : wrap64 (p1 / 1000) = p1 / 1000 := IntWalk.wrap64_in _ ⟨by omega, by omega⟩
  have k5 : wrap64 ((p2 + 999) / 1000) = (p2 + 999) / 1000 := IntWalk.wrap64_in _ ⟨by omega, by omega⟩
  rw [← q1] at k4
  rw [← q2] at k5
  have H := Lib.hid (And.intro q1 (And.intro q2 (And.intro k4 k5)))
  have HE := Lib.hid hE
  clear h1 h2 hp1 hp2 q1 q2 k4 k5 hE
  go_enter Tryz.func87, Tryz.ntmps87
  go_wp2_with fail
  obtain ⟨q1, q2, k4, k5⟩ := H.out
  rw [k4, k5, q1, q2]
  exact bodyPost_ret (v := rv (p1 / 1000) ((p2 + 999) / 1000)) (by simp [results, Tryz.results87, go_sem]) rfl ⟨rfl, HE.out⟩
end

end Go.Proofs.YtmdilbmgopggaaaGreat
