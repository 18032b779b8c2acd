/- HoldSums: whatever numbers come in, the law returns true and leaves its arguments as they were. No conditions. -/
import Derived.Test.YtpcmcicnciejpaaGreatT01
import Derived.Deep.AppendLies
import Derived.Deep.RegionHeld
import Derived.Deep.RegionHeldLaw
import Derived.Test.YtpcmcicnciejpaaGreatQ98
set_option linter.unusedVariables false
set_option linter.unusedSimpArgs false
set_option linter.constructorNameAsVariable false
set_option maxRecDepth 100000
set_option maxHeartbeats 200000000
namespace Go.Proofs.YtpcmcicnciejpaaGreat
theorem Tryz.cellsNums : Tryz.prog.cellsOf 30 = 1 := by kernel_rfl

section
open Go.RowKit

attribute [local go_sem ↓] eqlRange neqRange
abbrev N5 := Int × Int × Int × Int × Int
def RawsMem (w : World) (b o : Nat) (L : List (RawD × RawM)) : Prop := ∀ k r, L[k]? = some r → (w.cell? ⟨b, o + k * 4, none⟩ = some (.int .i64 r.1.id) ∧ w.cell? ⟨b, o + k * 4 + 1, none⟩ = some (.int .i64 r.1.fi) ∧ w.cell? ⟨b, o + k * 4 + 2, none⟩ = some (.slice r.2.S r.2.sn r.2.sc) ∧ w.cell? ⟨b, o + k * 4 + 3, none⟩ = some (.slice r.2.V r.2.vn r.2.vc)) ∧ RawIn w r.1 r.2
def FivesMem (w : World) (b o : Nat) (L : List N5) : Prop := ∀ k r, L[k]? = some r → w.cell? ⟨b, o + k * 5, none⟩ = some (.int .i64 r.1) ∧ w.cell? ⟨b, o + k * 5 + 1, none⟩ = some (.int .i64 r.2.1) ∧ w.cell? ⟨b, o + k * 5 + 2, none⟩ = some (.int .i64 r.2.2.1) ∧ w.cell? ⟨b, o + k * 5 + 3, none⟩ = some (.int .i64 r.2.2.2.1) ∧ w.cell? ⟨b, o + k * 5 + 4, none⟩ = some (.int .i64 r.2.2.2.2)
def RawHeld (w : World) (RB : Nat) (raw : Array Value) (W : World) : Prop := Below w.heap.size w W ∧ Blk W RB 32 raw
theorem RawHeld.on {w W W' : World} {RB : Nat} {raw : Array Value} (h : RawHeld w RB raw W) (hb : Below W.heap.size W W') : RawHeld w RB raw W' := ⟨below_then h.1 hb, blkOn h.2 hb⟩
theorem RawHeld.bl {w W : World} {RB : Nat} {raw : Array Value} (h : RawHeld w RB raw W) : Below w.heap.size w W := h.1
def RowHeld (w : World) (SB fi : Nat) (v : Value) (g off : Nat) (cs : List Value) (NB : Nat) (five : Array Value) (W : World) : Prop := Below w.heap.size w W ∧ W.cell? ⟨SB, fi, none⟩ = some v ∧ Blk W NB 33 five ∧ ∀ i u, cs[i]? = some u → W.cell? ⟨g, off + i, none⟩ = some u
theorem RowHeld.on {w W W' : World} {SB fi g off NB : Nat} {v : Value} {cs : List Value} {five : Array Value} (h : RowHeld w SB fi v g off cs NB five W) (hg : g < W.heap.size) (hS : SB < W.heap.size) (hb : Below W.heap.size W W') : RowHeld w SB fi v g off cs NB five W' :=
  ⟨below_then h.1 hb, (hb.cell (p := ⟨SB, fi, none⟩) hS).trans h.2.1, blkOn h.2.2.1 hb, fun i u hu => (hb.cell (p := ⟨g, off + i, none⟩) hg).trans (h.2.2.2 i u hu)⟩
theorem RowHeld.grown {w W W' : World} {SB fi g off NB : Nat} {v : Value} {cs : List Value} {five : Array Value} {row : Option Nat} (h : RowHeld w SB fi v g off cs NB five W) (hbl : Below w.heap.size w W') (hnb : Blk W' NB 33 five) (hg : W.grownBy W' row) (hS : SB < W.heap.size) (hgl : g < W.heap.size) (h1 : some SB ≠ row) (h2 : some g ≠ row) : RowHeld w SB fi v g off cs NB five W' :=
  ⟨hbl, hg.cell h.2.1 h1, hnb, fun i u hu => hg.cell (h.2.2.2 i u hu) h2⟩
theorem RowHeld.put {w W : World} {SB fi fj g off NB : Nat} {v u' : Value} {cs : List Value} {five : Array Value} (h : RowHeld w SB fi v g off cs NB five W) (hbl : Below w.heap.size w (W.setCell ⟨SB, fj, none⟩ u')) (hnb : Blk (W.setCell ⟨SB, fj, none⟩ u') NB 33 five) (hf : fi ≠ fj) (hg : g ≠ SB) : RowHeld w SB fi v g off cs NB five (W.setCell ⟨SB, fj, none⟩ u') :=
  ⟨hbl, (World.cell?_setCell_other _ _ _ _ (fun e => hf (by injection e with _ e; exact e.symm))).trans h.2.1, hnb, fun i u hu => (World.cell?_setCell_other _ _ _ _ (fun e => hg (by injection e with e _; exact e.symm))).trans (h.2.2.2 i u hu)⟩
theorem own_far {α β : Type} {f : α → List Value} {f' : β → List Value} {e e' : TypeId} {n n' base base' g k c : Nat} {W : World} {v' : Value} {L : List α} {L' : List β} (h : OwnL f e n base W (.slice (some ⟨g, 0, none⟩) k c) L) (h' : OwnL f' e' n' base' W v' L') (he : e ≠ e') : some g ≠ v'.ownBlock := by
  rcases own_apart (show W.ownsRow base e n (.slice (some ⟨g, 0, none⟩) k c) L.length (rowsC f L) from h) (show W.ownsRow base' e' n' v' L'.length (rowsC f' L') from h') he with q | q
  · cases q
  · exact q
theorem ne_of_lt_own {w : World} {W : World} {SB base g : Nat} (h : w.heap.size ≤ SB ∧ SB < base ∧ base ≤ W.heap.size) (hg : base ≤ g) : g ≠ SB := by omega
theorem HoldOwn.mono {base base' : Nat} {w : World} {h : HoldD} {m : HoldM} (q : HoldOwn base w h m) (hb : base' ≤ base) : HoldOwn base' w h m := ⟨OwnPts.monoY q.1 hb, OwnPts.monoY q.2.1 hb, OwnPts.monoY q.2.2 hb⟩
theorem TankOwn.mono {base base' : Nat} {w : World} {h : TankD} {m : HoldM} (q : TankOwn base w h m) (hb : base' ≤ base) : TankOwn base' w h m := ⟨OwnPts.monoY q.1 hb, OwnPts.monoY q.2.1 hb, OwnPts.monoY q.2.2 hb⟩
theorem Tryz.infoHoldN : (Tryz.prog.info? 40).map (fun i => (i.zero, i.size, i.bytes)) = some (some (.agg #[.int .i64 0, .int .i64 0, .int .i64 0, .slice none 0 0, .slice none 0 0, .slice none 0 0, .int .i64 0, .int .i64 0, .int .i64 0, .int .i64 0, .int .i64 0, .int .i64 0, .int .i64 0, .int .i64 0]), 14, 160) := by kernel_rfl
theorem Tryz.infoFillN : (Tryz.prog.info? 43).map (fun i => (i.zero, i.size, i.bytes)) = some (some (.agg #[.int .i64 0, .int .i64 0, .int .i64 0, .int .i64 0, .int .i64 0, .int .i64 0]), 6, 48) := by kernel_rfl
theorem Tryz.infoTankN : (Tryz.prog.info? 46).map (fun i => (i.zero, i.size, i.bytes)) = some (some (.agg #[.int .i64 0, .int .i64 0, .int .i64 0, .slice none 0 0, .slice none 0 0, .slice none 0 0]), 6, 96) := by kernel_rfl
theorem Tryz.infoLevelN : (Tryz.prog.info? 49).map (fun i => (i.zero, i.size, i.bytes)) = some (some (.agg #[.int .i64 0, .bool false, .int .i64 0, .int .i64 0, .int .i64 0, .int .i64 0]), 6, 48) := by kernel_rfl
theorem holdSums_walk (A B : Option Addr) (n c m d : Nat) (rs : List (RawD × RawM)) (xs : List N5) (cut : Int) (w : World) (hn : n = rs.length) (hm : m = xs.length) (hn2 : n ≤ maxLen) (hm2 : m ≤ maxLen)
  (hA : rs = [] ∨ ∃ b o, A = some ⟨b, o, none⟩ ∧ b < w.heap.size ∧ RawsMem w b o rs) (hB : xs = [] ∨ ∃ b o, B = some ⟨b, o, none⟩ ∧ b < w.heap.size ∧ FivesMem w b o xs) :
  Calls Tryz.prog 3 #[.slice A n c, .slice B m d, .int .i64 cut] w fun e w' => e = .returned (.bool true) ∧ Below w.heap.size w w' := by
 have HA := zH hA; have HB := zH hB; have HN := zH hn; have HM := zH hm
 unfold maxLen at hn2 hm2
 clear hA hB hn hm
 go_enter Tryz.func3, Tryz.ntmps3
 go_upto_region 3 with fail
 have HS0 := zH (Blk.new w 29 #[.slice none 0 0, .slice none 0 0, .slice none 0 0, .slice none 0 0])
 have HW0 := zH (below_alloc1 w (.cells #[.slice none 0 0, .slice none 0 0, .slice none 0 0, .slice none 0 0] 29))
 have HZ0 := zH (show w.heap.size < (w.alloc (.cells #[.slice none 0 0, .slice none 0 0, .slice none 0 0, .slice none 0 0] 29)).heap.size by simp)
 generalize w.alloc (.cells #[.slice none 0 0, .slice none 0 0, .slice none 0 0, .slice none 0 0] 29) = W0 at HS0 HW0 HZ0 ⊢
 obtain ⟨SB, hSB⟩ : ∃ b, w.heap.size = b := ⟨_, rfl⟩
 rw [hSB] at HS0 HZ0 ⊢
 have HSB := zH hSB
 clear hSB
 obtain ⟨base, hbase⟩ : ∃ b, SB + 1 = b := ⟨_, rfl⟩
 have HBA := zH (show w.heap.size ≤ SB ∧ SB < base by have := HSB.out; omega)
 have HB0 := zH (show base ≤ W0.heap.size by have := HZ0.out; omega)
 clear hbase
 have HI0 : Hid (Bun0 w SB base (.slice none 0 0) (.slice none 0 0) (.slice none 0 0) (.slice none 0 0) [] [] [] [] W0) := zH ⟨HS0.out, OwnL.nil _ _ _ _ _, OwnL.nil _ _ _ _ _, OwnL.nil _ _ _ _ _, OwnL.nil _ _ _ _ _, (show TabsOwn base W0 [] [] from ⟨fun r h => (by simp at h), fun r h => (by simp at h)⟩), HW0.out, ⟨HBA.out.1, HBA.out.2, HB0.out⟩⟩
 clear HS0 HW0 HZ0 HB0
 go_loopw [8] (fun i wr => ∃ (k : Nat) (v0 v1 v2 v3 : Value) (L : List (HoldD × HoldM)) (fs : List FillD) (T : List (TankD × HoldM)) (ls : List LevelD), k ≤ 4 ∧ k ≤ n ∧ i = .int .i64 k ∧ Hid (Bun0 w SB base v0 v1 v2 v3 L fs T ls wr) ∧ Hid (SumsOk L fs T ls k)) (fun i _ => 4 - (intOf i).toNat)
 case atStart => exact ⟨0, _, _, _, _, [], [], [], [], by omega, by omega, rfl, HI0, zH SumsOk.nil⟩
 case round =>
  obtain ⟨k, v0, v1, v2, v3, L, fs, T, ls, hk4, hkn, rfl, HI, HO⟩ := hrel
  by_cases hlt : k < n ∧ k < 4
  ·have h1 : (k : Int) < n := by omega
   have h2 : (k : Int) < 4 := by omega
   obtain ⟨b, o, rfl, hbw, hmem⟩ : ∃ b o, A = some ⟨b, o, none⟩ ∧ b < w.heap.size ∧ RawsMem w b o rs := by
    rcases HA.out with h | h
    ·have := HN.out
     rw [h] at this
     simp at this
     omega
    ·exact h
   obtain ⟨⟨r, rm⟩, hr⟩ : ∃ z, rs[k]? = some z := ⟨_, List.getElem?_eq_getElem (show k < rs.length by rw [← HN.out]; exact hlt.1)⟩
   obtain ⟨⟨d0, d1, d2, d3⟩, hri⟩ := hmem k _ hr
   have hbl := HI.out.bl
   rw [← hbl.cell (p := ⟨b, o + k * 4, none⟩) hbw] at d0
   rw [← hbl.cell (p := ⟨b, o + k * 4 + 1, none⟩) hbw] at d1
   rw [← hbl.cell (p := ⟨b, o + k * 4 + 2, none⟩) hbw] at d2
   rw [← hbl.cell (p := ⟨b, o + k * 4 + 3, none⟩) hbw] at d3
   obtain ⟨id0, fi, st, vs⟩ := r
   obtain ⟨S, sn, sc, V, vn, vc⟩ := rm
   dsimp only at d0 d1 d2 d3
   have HRI := zH (show RawIn w ⟨(k : Int), fi, st, vs⟩ ⟨S, sn, sc, V, vn, vc⟩ from hri)
   clear hri hmem hr hbl
   go_upto_region 8 with fail
   have hR1 := (Blk.new wr 32 #[.int .i64 k, .int .i64 fi, .slice S sn sc, .slice V vn vc]).alloc (.cells #[.int .i64 0, .int .i64 0, .int .i64 0, .int .i64 0, .int .i64 0] 33)
   have hN1 := Blk.new (wr.alloc (.cells #[.int .i64 k, .int .i64 fi, .slice S sn sc, .slice V vn vc] 32)) 33 #[.int .i64 0, .int .i64 0, .int .i64 0, .int .i64 0, .int .i64 0]
   have hI1 := HI.out.on ((below_alloc1 wr (.cells #[.int .i64 k, .int .i64 fi, .slice S sn sc, .slice V vn vc] 32)).alloc (by simp) (.cells #[.int .i64 0, .int .i64 0, .int .i64 0, .int .i64 0, .int .i64 0] 33))
   rw [show (wr.alloc (.cells #[.int .i64 k, .int .i64 fi, .slice S sn sc, .slice V vn vc] 32)).heap.size = wr.heap.size + 1 by simp] at hN1
   generalize ((wr.alloc (.cells #[.int .i64 k, .int .i64 fi, .slice S sn sc, .slice V vn vc] 32)).alloc (.cells #[.int .i64 0, .int .i64 0, .int .i64 0, .int .i64 0, .int .i64 0] 33)) = W1 at hR1 hN1 hI1 ⊢
   obtain ⟨NB, hNB⟩ : ∃ b, wr.heap.size + 1 = b := ⟨_, rfl⟩
   obtain ⟨RB, hRB⟩ : ∃ b, wr.heap.size = b := ⟨_, rfl⟩
   have HNB := zH (show base ≤ NB by have := HI.out.ba; omega)
   rw [hNB] at hN1 ⊢
   rw [hRB] at hR1 ⊢
   have HR1 := zH hR1; have HN1 := zH hN1; have HI1 := zH hI1
   clear hNB hRB hR1 hN1 hI1 HI d0 d1 d2 d3
   go_upto_if 40 with fail
   obtain ⟨pz, hpz⟩ : ∃ z, decide (0 < m) = z := ⟨_, rfl⟩
   rw [hpz]
   have HPZ := zH hpz
   clear hpz
   go_cut [] (fun wx => ∃ a0 a1 a2 a3 a4 : Int, Blk wx RB 32 #[.int .i64 k, .int .i64 fi, .slice S sn sc, .slice V vn vc] ∧ Blk wx NB 33 #[.int .i64 a0, .int .i64 a1, .int .i64 a2, .int .i64 a3, .int .i64 a4] ∧ Bun0 w SB base v0 v1 v2 v3 L fs T ls wx)
   case first =>
    cases pz
    ·go_wp2_with fail
     go_meet
     exact ⟨0, 0, 0, 0, 0, HR1.out, HN1.out, HI1.out⟩
    ·have hm0 : ¬ m = 0 := by have := of_decide_eq_true HPZ.out; omega
     obtain ⟨p, q, rfl, hpw, hxm⟩ : ∃ b o, B = some ⟨b, o, none⟩ ∧ b < w.heap.size ∧ FivesMem w b o xs := by
      rcases HB.out with h | h
      ·have := HM.out
       rw [h] at this
       exact absurd this hm0
      ·exact h
     have hm1 : (0 : Int) < m := by omega
     have hm3 : ¬ (m : Int) = 0 := by omega
     have hjm : k % m < m := Nat.mod_lt _ (by omega)
     obtain ⟨⟨x0, x1, x2, x3, x4⟩, hx⟩ : ∃ z, xs[k % m]? = some z := ⟨_, List.getElem?_eq_getElem (show k % m < xs.length by rw [← HM.out]; exact hjm)⟩
     obtain ⟨e0, e1, e2, e3, e4⟩ := hxm (k % m) _ hx
     have hbl := HI1.out.bl
     rw [← hbl.cell (p := ⟨p, q + k % m * 5, none⟩) hpw] at e0
     rw [← hbl.cell (p := ⟨p, q + k % m * 5 + 1, none⟩) hpw] at e1
     rw [← hbl.cell (p := ⟨p, q + k % m * 5 + 2, none⟩) hpw] at e2
     rw [← hbl.cell (p := ⟨p, q + k % m * 5 + 3, none⟩) hpw] at e3
     rw [← hbl.cell (p := ⟨p, q + k % m * 5 + 4, none⟩) hpw] at e4
     dsimp only at e0 e1 e2 e3 e4
     have n0 : W1.cell? ⟨NB, 0, none⟩ = some (.int .i64 0) := HN1.out.cell 0
     have n1 : W1.cell? ⟨NB, 1, none⟩ = some (.int .i64 0) := HN1.out.cell 1
     have n2 : W1.cell? ⟨NB, 2, none⟩ = some (.int .i64 0) := HN1.out.cell 2
     have n3 : W1.cell? ⟨NB, 3, none⟩ = some (.int .i64 0) := HN1.out.cell 3
     have n4 : W1.cell? ⟨NB, 4, none⟩ = some (.int .i64 0) := HN1.out.cell 4
     have g0 := HN1.out.frozen 0
     have g1 := HN1.out.frozen 1
     have g2 := HN1.out.frozen 2
     have g3 := HN1.out.frozen 3
     have g4 := HN1.out.frozen 4
     clear hxm hx hbl
     go_wp2_with fail
     go_meet
     have z0 := HN1.out.set_ 0 (.int .i64 x0)
     have z1 := z0.set_ 1 (.int .i64 x1)
     have z2 := z1.set_ 2 (.int .i64 x2)
     have z3 := z2.set_ 3 (.int .i64 x3)
     have z4 := z3.set_ 4 (.int .i64 x4)
     have hrn := ne_of_blk HR1.out HN1.out (by decide)
     refine ⟨x0, x1, x2, x3, x4, ?_, by simpa using z4, ?_⟩
     ·exact ((((HR1.out.far (p := ⟨NB, 0, none⟩) hrn _).far (p := ⟨NB, 1, none⟩) hrn _).far (p := ⟨NB, 2, none⟩) hrn _).far (p := ⟨NB, 3, none⟩) hrn _).far (p := ⟨NB, 4, none⟩) hrn _
     ·exact ((((HI1.out.cell HN1.out (.inr rfl) HNB.out 0 _).cell z0 (.inr rfl) HNB.out 1 _).cell z1 (.inr rfl) HNB.out 2 _).cell z2 (.inr rfl) HNB.out 3 _).cell z3 (.inr rfl) HNB.out 4 _
   obtain ⟨a0, a1, a2, a3, a4, hR, hN, hI⟩ := hcut
   rename World => w1
   have HBU := zH (Bun.of hI hR hN)
   clear hI hR hN HI1 HN1 HR1 HPZ HNB
   obtain ⟨hd, hhd⟩ : ∃ h, madeH ⟨(k : Int), fi, st, vs⟩ = h := ⟨_, rfl⟩
   obtain ⟨td, htd⟩ : ∃ h, madeT ⟨(k : Int), fi, st, vs⟩ = h := ⟨_, rfl⟩
   have CH := zH (fun W (hW : Below w.heap.size w W) => smadeHoldN ⟨(k : Int), fi, st, vs⟩ ⟨S, sn, sc, V, vn, vc⟩ W (HRI.out.below hW))
   have CT := zH (fun W (hW : Below w.heap.size w W) => smadeTankN ⟨(k : Int), fi, st, vs⟩ ⟨S, sn, sc, V, vn, vc⟩ W (HRI.out.below hW))
   rw [hhd] at CH
   rw [htd] at CT
   obtain ⟨hid, hal, hah, LV, LM, LH, t0, t1, u0, u1, p0, p1, q0, q1⟩ := hd
   obtain ⟨kid, kal, kah, KV, KM, KH⟩ := td
   have HHD := zH hhd; have HTD := zH htd
   have CF := zH (fun (W : World) (mm : HoldM) (hm : HoldIn W ⟨hid, hal, hah, LV, LM, LH, t0, t1, u0, u1, p0, p1, q0, q1⟩ mm) => sfill_to ⟨hid, hal, hah, LV, LM, LH, t0, t1, u0, u1, p0, p1, q0, q1⟩ mm a0 a1 a2 a3 a4 W hm (by rw [← hhd]; exact hold_tab (made_valid _)) (by rw [← hhd]; exact hold_firstN (made_valid _)) (by rw [← hhd]; exact (tab_places (hold_tab (made_valid _))).1) (by rw [← hhd]; exact (tab_places (hold_tab (made_valid _))).2))
   have CV := zH (fun (W : World) (mm : HoldM) (hm : TankIn W ⟨kid, kal, kah, KV, KM, KH⟩ mm) => slevel_to ⟨kid, kal, kah, KV, KM, KH⟩ mm a0 a1 a2 a3 a4 W hm (by rw [← htd]; exact tankTabN (madeT_valid _)) (by rw [← htd]; exact tank_firstN (madeT_valid _)) (by rw [← htd]; exact (tab_places (tankTabN (madeT_valid _))).1) (by rw [← htd]; exact (tab_places (tankTabN (madeT_valid _))).2))
   have HLH := zH (show LV.length ≤ 40 ∧ LM.length ≤ 40 ∧ LH.length ≤ 40 from by have := made_lens ⟨(k : Int), fi, st, vs⟩; rw [hhd] at this; exact this)
   have HLT := zH (show KV.length ≤ 40 ∧ KM.length ≤ 40 ∧ KH.length ≤ 40 from by have := madeT_lens ⟨(k : Int), fi, st, vs⟩; rw [htd] at this; exact this)
   obtain ⟨ff, hff⟩ : ∃ f, madeF ⟨hid, hal, hah, LV, LM, LH, t0, t1, u0, u1, p0, p1, q0, q1⟩ a0 a1 a2 a3 a4 = f := ⟨_, rfl⟩
   obtain ⟨ll, hll⟩ : ∃ f, madeL ⟨kid, kal, kah, KV, KM, KH⟩ a0 a1 a2 a3 a4 = f := ⟨_, rfl⟩
   rw [hff] at CF
   rw [hll] at CV
   obtain ⟨f0, f1, f2, f3, f4, f5⟩ := ff
   obtain ⟨l0, l1, l2, l3, l4, l5⟩ := ll
   have HFF := zH hff; have HLL := zH hll
   clear hff hll
   clear hhd htd HRI
   go_upto_region 10 with fail
   go_cut [] (fun wx => ∃ (y0 : Value) (mA : Option Addr) (mn mc : Nat) (mB : Option Addr) (mm md : Nat) (mC : Option Addr) (ml me : Nat), Bun w SB RB NB base y0 v1 v2 v3 #[.int .i64 k, .int .i64 fi, .slice S sn sc, .slice V vn vc] #[.int .i64 a0, .int .i64 a1, .int .i64 a2, .int .i64 a3, .int .i64 a4] (L ++ [((⟨hid, hal, hah, LV, LM, LH, t0, t1, u0, u1, p0, p1, q0, q1⟩ : HoldD), (⟨mA, mn, mc, mB, mm, md, mC, ml, me⟩ : HoldM))]) fs T ls wx)
   case first =>
    obtain ⟨v00, v0c, rfl, _, _, _⟩ := HBU.out.o1.form
    obtain ⟨i0, i1, i2, i3, i4⟩ := info_parts Tryz.infoHoldN
    have HW := zH ((Below.refl w1.heap.size w1).drew)
    have hS0 : (RawHeld w RB #[.int .i64 k, .int .i64 fi, .slice S sn sc, .slice V vn vc]) w1.drew := ⟨HBU.out.bl.drew, HBU.out.rb.drew⟩
    refine wp_region_held_drew (S := (RawHeld w RB #[.int .i64 k, .int .i64 fi, .slice S sn sc, .slice V vn vc])) (by kernel_rfl) hS0 (fun hHeld => ?_)
    obtain ⟨yq, hW⟩ : ∃ W', w1.drew = W' := ⟨_, rfl⟩
    rw [hW] at hHeld HW ⊢
    clear hW hS0
    refine tK 48 (i := 0) (v := .pointer (some ⟨SB, 0, none⟩)) rfl rfl (by kernel_rfl) ?_ hHeld ?_
    ·intro w hSw; clear hSw; go_simp; try with_reducible rfl
    simp only [uZ, uS]
    refine tK 50 (i := 2) (v := .agg #[.int .i64 k, .int .i64 fi, .slice S sn sc, .slice V vn vc]) rfl rfl (by kernel_rfl) ?_ hHeld ?_
    ·intro w hSw; obtain ⟨_, hr⟩ := hSw; have z0 := hr.cell 0; have z1 := hr.cell 1; have z2 := hr.cell 2; have z3 := hr.cell 3; simp at z0 z1 z2 z3; clear hr; go_simp; try with_reducible rfl
    simp only [uZ, uS]
    refine wpAnyH_ready (rs := [1, 3]) (by kernel_rfl) (by simp) ?_
    refine AllReadyH.cons rfl (fun K hK => ?_) (AllReadyH.cons rfl (fun K hK => ?_) AllReadyH.nil)
    have c1 := (blkOn HBU.out.sb HW.out).cell 0
    simp at c1
    go_simp
    refine hK.out _ _ hHeld (fun θ => ?_)
    clear c1
    try simp only [Act.put, uA, uZ, uS]
    clear hK K hHeld
    have hHeld := θ
    clear θ
    refine rK 3 (by kernel_rfl) rfl (fun K hK => ?_)
    go_simp
    (with_reducible refine (CH.out _ hHeld.bl).mono ?_)
    rintro x y ⟨⟨⟨mA, mn, mc, mB, mm, md, mC, ml, me⟩, rfl, _, hmm⟩, hq⟩
    have HMM := zH (HoldOwn.mono hmm (Nat.le_trans HBU.out.ba.2.2 HW.out.size))
    have HW2 := zH (below_then HW.out hq)
    clear HW
    have HW := HW2
    clear HW2 hmm
    refine hK.out _ _ (hHeld.on hq) (fun θ => ?_)
    clear hq
    try simp only [Act.put, uA, uZ, uS]
    clear hK K hHeld
    have hHeld := θ
    clear θ
    refine rK 4 (by kernel_rfl) rfl (fun K hK => ?_)
    rename World => yq
    go_simp
    have HNBK := zH (World.news_of_block (cs := #[.int .i64 hid, .int .i64 hal, .int .i64 hah, .slice mA mn mc, .slice mB mm md, .slice mC ml me, .int .i64 t0, .int .i64 t1, .int .i64 u0, .int .i64 u1, .int .i64 p0, .int .i64 p1, .int .i64 q0, .int .i64 q1]) (t := 40) (fr := (0, 0)) (heap_alloc_new yq (.cells #[.int .i64 hid, .int .i64 hal, .int .i64 hah, .slice mA mn mc, .slice mB mm md, .slice mC ml me, .int .i64 t0, .int .i64 t1, .int .i64 u0, .int .i64 u1, .int .i64 p0, .int .i64 p1, .int .i64 q0, .int .i64 q1] 40)))
    have HYZ := zH (World.size_alloc yq (.cells #[.int .i64 hid, .int .i64 hal, .int .i64 hah, .slice mA mn mc, .slice mB mm md, .slice mC ml me, .int .i64 t0, .int .i64 t1, .int .i64 u0, .int .i64 u1, .int .i64 p0, .int .i64 p1, .int .i64 q0, .int .i64 q1] 40))
    have HW2 := zH (below_then HW.out (below_alloc1 yq (.cells #[.int .i64 hid, .int .i64 hal, .int .i64 hah, .slice mA mn mc, .slice mB mm md, .slice mC ml me, .int .i64 t0, .int .i64 t1, .int .i64 u0, .int .i64 u1, .int .i64 p0, .int .i64 p1, .int .i64 q0, .int .i64 q1] 40)))
    have HMM2 := zH (HMM.out.kept (below_grownNone (below_alloc1 yq (.cells #[.int .i64 hid, .int .i64 hal, .int .i64 hah, .slice mA mn mc, .slice mB mm md, .slice mC ml me, .int .i64 t0, .int .i64 t1, .int .i64 u0, .int .i64 u1, .int .i64 p0, .int .i64 p1, .int .i64 q0, .int .i64 q1] 40))) (fun g e => by cases e))
    refine hK.out _ _ (hHeld.on (below_alloc1 yq (.cells #[.int .i64 hid, .int .i64 hal, .int .i64 hah, .slice mA mn mc, .slice mB mm md, .slice mC ml me, .int .i64 t0, .int .i64 t1, .int .i64 u0, .int .i64 u1, .int .i64 p0, .int .i64 p1, .int .i64 q0, .int .i64 q1] 40))) (fun θ => ?_)
    clear HW
    have HW := HW2
    clear HW2
    clear HMM
    have HMM := HMM2
    clear HMM2
    try simp only [Act.put, uA, uZ, uS]
    clear hK K hHeld
    have hHeld := θ
    clear θ
    obtain ⟨ya, hW⟩ : ∃ W', yq.alloc (.cells #[.int .i64 hid, .int .i64 hal, .int .i64 hah, .slice mA mn mc, .slice mB mm md, .slice mC ml me, .int .i64 t0, .int .i64 t1, .int .i64 u0, .int .i64 u1, .int .i64 p0, .int .i64 p1, .int .i64 q0, .int .i64 q1] 40) = W' := ⟨_, rfl⟩
    rw [hW] at HW hHeld HNBK HYZ HMM ⊢
    clear hW
    obtain ⟨Z, hZ⟩ : ∃ Z, yq.heap.size = Z := ⟨_, rfl⟩
    rw [hZ] at HNBK HYZ ⊢
    clear hZ
    rotate_left
    go_simp
    (with_reducible refine (CH.out _ hHeld.bl).mono ?_)
    rintro x y ⟨⟨⟨mA, mn, mc, mB, mm, md, mC, ml, me⟩, rfl, _, hmm⟩, hq⟩
    have HMM := zH (HoldOwn.mono hmm (Nat.le_trans HBU.out.ba.2.2 HW.out.size))
    have HW2 := zH (below_then HW.out hq)
    clear HW
    have HW := HW2
    clear HW2 hmm
    refine hK.out _ _ (hHeld.on hq) (fun θ => ?_)
    clear hq
    try simp only [Act.put, uA, uZ, uS]
    clear hK K hHeld
    have hHeld := θ
    clear θ
    refine wpAnyH_ready (rs := [1, 4]) (by kernel_rfl) (by simp) ?_
    refine AllReadyH.cons rfl (fun K hK => ?_) (AllReadyH.cons rfl (fun K hK => ?_) AllReadyH.nil)
    have c1 := (blkOn HBU.out.sb HW.out).cell 0
    simp at c1
    go_simp
    refine hK.out _ _ hHeld (fun θ => ?_)
    clear c1
    try simp only [Act.put, uA, uZ, uS]
    clear hK K hHeld
    have hHeld := θ
    clear θ
    refine rK 4 (by kernel_rfl) rfl (fun K hK => ?_)
    rename World => yq
    go_simp
    have HNBK := zH (World.news_of_block (cs := #[.int .i64 hid, .int .i64 hal, .int .i64 hah, .slice mA mn mc, .slice mB mm md, .slice mC ml me, .int .i64 t0, .int .i64 t1, .int .i64 u0, .int .i64 u1, .int .i64 p0, .int .i64 p1, .int .i64 q0, .int .i64 q1]) (t := 40) (fr := (0, 0)) (heap_alloc_new yq (.cells #[.int .i64 hid, .int .i64 hal, .int .i64 hah, .slice mA mn mc, .slice mB mm md, .slice mC ml me, .int .i64 t0, .int .i64 t1, .int .i64 u0, .int .i64 u1, .int .i64 p0, .int .i64 p1, .int .i64 q0, .int .i64 q1] 40)))
    have HYZ := zH (World.size_alloc yq (.cells #[.int .i64 hid, .int .i64 hal, .int .i64 hah, .slice mA mn mc, .slice mB mm md, .slice mC ml me, .int .i64 t0, .int .i64 t1, .int .i64 u0, .int .i64 u1, .int .i64 p0, .int .i64 p1, .int .i64 q0, .int .i64 q1] 40))
    have HW2 := zH (below_then HW.out (below_alloc1 yq (.cells #[.int .i64 hid, .int .i64 hal, .int .i64 hah, .slice mA mn mc, .slice mB mm md, .slice mC ml me, .int .i64 t0, .int .i64 t1, .int .i64 u0, .int .i64 u1, .int .i64 p0, .int .i64 p1, .int .i64 q0, .int .i64 q1] 40)))
    have HMM2 := zH (HMM.out.kept (below_grownNone (below_alloc1 yq (.cells #[.int .i64 hid, .int .i64 hal, .int .i64 hah, .slice mA mn mc, .slice mB mm md, .slice mC ml me, .int .i64 t0, .int .i64 t1, .int .i64 u0, .int .i64 u1, .int .i64 p0, .int .i64 p1, .int .i64 q0, .int .i64 q1] 40))) (fun g e => by cases e))
    refine hK.out _ _ (hHeld.on (below_alloc1 yq (.cells #[.int .i64 hid, .int .i64 hal, .int .i64 hah, .slice mA mn mc, .slice mB mm md, .slice mC ml me, .int .i64 t0, .int .i64 t1, .int .i64 u0, .int .i64 u1, .int .i64 p0, .int .i64 p1, .int .i64 q0, .int .i64 q1] 40))) (fun θ => ?_)
    clear HW
    have HW := HW2
    clear HW2
    clear HMM
    have HMM := HMM2
    clear HMM2
    try simp only [Act.put, uA, uZ, uS]
    clear hK K hHeld
    have hHeld := θ
    clear θ
    obtain ⟨ya, hW⟩ : ∃ W', yq.alloc (.cells #[.int .i64 hid, .int .i64 hal, .int .i64 hah, .slice mA mn mc, .slice mB mm md, .slice mC ml me, .int .i64 t0, .int .i64 t1, .int .i64 u0, .int .i64 u1, .int .i64 p0, .int .i64 p1, .int .i64 q0, .int .i64 q1] 40) = W' := ⟨_, rfl⟩
    rw [hW] at HW hHeld HNBK HYZ HMM ⊢
    clear hW
    obtain ⟨Z, hZ⟩ : ∃ Z, yq.heap.size = Z := ⟨_, rfl⟩
    rw [hZ] at HNBK HYZ ⊢
    clear hZ
    rotate_left
    rename World => yq
    go_simp
    have HNBK := zH (World.news_of_block (cs := #[.int .i64 hid, .int .i64 hal, .int .i64 hah, .slice mA mn mc, .slice mB mm md, .slice mC ml me, .int .i64 t0, .int .i64 t1, .int .i64 u0, .int .i64 u1, .int .i64 p0, .int .i64 p1, .int .i64 q0, .int .i64 q1]) (t := 40) (fr := (0, 0)) (heap_alloc_new yq (.cells #[.int .i64 hid, .int .i64 hal, .int .i64 hah, .slice mA mn mc, .slice mB mm md, .slice mC ml me, .int .i64 t0, .int .i64 t1, .int .i64 u0, .int .i64 u1, .int .i64 p0, .int .i64 p1, .int .i64 q0, .int .i64 q1] 40)))
    have HYZ := zH (World.size_alloc yq (.cells #[.int .i64 hid, .int .i64 hal, .int .i64 hah, .slice mA mn mc, .slice mB mm md, .slice mC ml me, .int .i64 t0, .int .i64 t1, .int .i64 u0, .int .i64 u1, .int .i64 p0, .int .i64 p1, .int .i64 q0, .int .i64 q1] 40))
    have HW2 := zH (below_then HW.out (below_alloc1 yq (.cells #[.int .i64 hid, .int .i64 hal, .int .i64 hah, .slice mA mn mc, .slice mB mm md, .slice mC ml me, .int .i64 t0, .int .i64 t1, .int .i64 u0, .int .i64 u1, .int .i64 p0, .int .i64 p1, .int .i64 q0, .int .i64 q1] 40)))
    have HMM2 := zH (HMM.out.kept (below_grownNone (below_alloc1 yq (.cells #[.int .i64 hid, .int .i64 hal, .int .i64 hah, .slice mA mn mc, .slice mB mm md, .slice mC ml me, .int .i64 t0, .int .i64 t1, .int .i64 u0, .int .i64 u1, .int .i64 p0, .int .i64 p1, .int .i64 q0, .int .i64 q1] 40))) (fun g e => by cases e))
    refine hK.out _ _ (hHeld.on (below_alloc1 yq (.cells #[.int .i64 hid, .int .i64 hal, .int .i64 hah, .slice mA mn mc, .slice mB mm md, .slice mC ml me, .int .i64 t0, .int .i64 t1, .int .i64 u0, .int .i64 u1, .int .i64 p0, .int .i64 p1, .int .i64 q0, .int .i64 q1] 40))) (fun θ => ?_)
    clear HW
    have HW := HW2
    clear HW2
    clear HMM
    have HMM := HMM2
    clear HMM2
    try simp only [Act.put, uA, uZ, uS]
    clear hK K hHeld
    have hHeld := θ
    clear θ
    obtain ⟨ya, hW⟩ : ∃ W', yq.alloc (.cells #[.int .i64 hid, .int .i64 hal, .int .i64 hah, .slice mA mn mc, .slice mB mm md, .slice mC ml me, .int .i64 t0, .int .i64 t1, .int .i64 u0, .int .i64 u1, .int .i64 p0, .int .i64 p1, .int .i64 q0, .int .i64 q1] 40) = W' := ⟨_, rfl⟩
    rw [hW] at HW hHeld HNBK HYZ HMM ⊢
    clear hW
    obtain ⟨Z, hZ⟩ : ∃ Z, yq.heap.size = Z := ⟨_, rfl⟩
    rw [hZ] at HNBK HYZ ⊢
    clear hZ
    refine rK 1 (by kernel_rfl) rfl (fun K hK => ?_)
    have c1 := (blkOn HBU.out.sb HW.out).cell 0
    simp at c1
    go_simp
    refine hK.out _ _ hHeld (fun θ => ?_)
    clear c1
    try simp only [Act.put, uA, uZ, uS]
    clear hK K hHeld
    have hHeld := θ
    clear θ
    rotate_left
    all_goals
     refine rK 5 (by kernel_rfl) rfl (fun K hK => ?_)
     have HBA := zH (HBU.out.on HW.out)
     refine step_append_lies _ (by rfl) (.tmp 49) (.tmp 52) _ (by rfl) base 40 i0 _ 14 160 Tryz.underlying24 i1 i2 i3 i4 rfl (by omega) (.slice v00 L.length v0c) L.length (rowsC holdL L) (by rfl) (by exact HBA.out.o1) ⟨Z, 0, none⟩ 1 1 [.int .i64 hid, .int .i64 hal, .int .i64 hah, .slice mA mn mc, .slice mB mm md, .slice mC ml me, .int .i64 t0, .int .i64 t1, .int .i64 u0, .int .i64 u1, .int .i64 p0, .int .i64 p1, .int .i64 q0, .int .i64 q1] (by rfl) (by rfl) (by exact HNBK.out) (by simp [Value.oneCell']) (by omega) (by have := HO.out.n1; have := HO.out.n2; have := HO.out.n3; have := HO.out.n4; simp [maxLen]; omega) (by have := HO.out.n1; have := HO.out.n2; have := HO.out.n3; have := HO.out.n4; omega) HBA.out.ba.2.2 (Z + 1) (by exact HYZ.out) ?_
     intro gg cap w5 hown1 hgrow _ _
     have HG := zH (Bun.grown HBA.out (show ya.ownsRow base 40 14 (.slice v00 L.length v0c) L.length (rowsC holdL L) from HBA.out.o1) hgrow (by decide))
     have hf := HG.out.1.frozen 0; have hl := HG.out.1.lt; have hc := HG.out.1.cell 0
     simp at hc
     have HB9 := zH (Bun.push1 (r := ((⟨hid, hal, hah, LV, LM, LH, t0, t1, u0, u1, p0, p1, q0, q1⟩ : HoldD), (⟨mA, mn, mc, mB, mm, md, mC, ml, me⟩ : HoldM))) HBA.out hown1 hgrow HMM.out)
     refine hK.out _ _ ⟨HG.out.2.2.2.2.1, HG.out.2.1⟩ (fun θ => ?_)
     try simp only [Act.put, uA, uZ, uS]
     clear hK K hHeld
     have hHeld := θ
     clear θ
     refine tK 54 (i := 6) (v := .pointer (some ⟨SB, 0, none⟩)) rfl rfl (by kernel_rfl) ?_ hHeld ?_
     ·intro w hSw; clear hSw; go_simp; try with_reducible rfl
     simp only [uZ, uS]
     refine rK 7 (by kernel_rfl) rfl (fun K hK => ?_)
     go_simp
     refine hK.out _ _ ⟨HB9.out.bl, HB9.out.rb⟩ (fun θ => ?_)
     try simp only [Act.put, uA, uZ, uS]
     clear hK K hHeld
     have hHeld := θ
     clear θ
     refine wpAnyH_done (by kernel_rfl) ?_ _
     clear hHeld hf hl hc hown1 hgrow HG HBA HW HNBK HYZ HMM
    all_goals
     go_wp2_with fail
     go_meet
     exact ⟨_, _, _, _, _, _, _, _, _, _, HB9.out⟩
   obtain ⟨y0, mA, mn, mc, mB, mm, md, mC, ml, me, hB9⟩ := hcut
   rename World => wA
   clear HBU CH
   have HBU := zH hB9
   clear hB9
   go_upto_region 11 with fail
   go_cut [] (fun wx => ∃ (y1 : Value), Bun w SB RB NB base y0 y1 v2 v3 #[.int .i64 k, .int .i64 fi, .slice S sn sc, .slice V vn vc] #[.int .i64 a0, .int .i64 a1, .int .i64 a2, .int .i64 a3, .int .i64 a4] (L ++ [((⟨hid, hal, hah, LV, LM, LH, t0, t1, u0, u1, p0, p1, q0, q1⟩ : HoldD), (⟨mA, mn, mc, mB, mm, md, mC, ml, me⟩ : HoldM))]) (fs ++ [(⟨f0, f1, f2, f3, f4, f5⟩ : FillD)]) T ls wx)
   case first =>
    obtain ⟨gA, gc, hgv, _, _, hgg⟩ := HBU.out.o1.form
    obtain ⟨g, rfl, hgb, hgl⟩ : ∃ g, gA = some ⟨g, 0, none⟩ ∧ base ≤ g ∧ g < wA.heap.size := hgg.resolve_left (by simp)
    subst hgv
    have hN1 : (L ++ [((⟨hid, hal, hah, LV, LM, LH, t0, t1, u0, u1, p0, p1, q0, q1⟩ : HoldD), (⟨mA, mn, mc, mB, mm, md, mC, ml, me⟩ : HoldM))]).length = k + 1 := by have := HO.out.n1; simp; omega
    have HCS := zH (fun i (hi : i < 14) => OwnL.cell holdL_len HBU.out.o1 (k := k) (x := ((⟨hid, hal, hah, LV, LM, LH, t0, t1, u0, u1, p0, p1, q0, q1⟩ : HoldD), (⟨mA, mn, mc, mB, mm, md, mC, ml, me⟩ : HoldM))) (by have := HO.out.n1; rw [List.getElem?_append_right (by omega)]; simp [this]) hi)
    have HSC : Hid (wA.cell? ⟨SB, 0, none⟩ = some (.slice (some ⟨g, 0, none⟩) (L ++ [((⟨hid, hal, hah, LV, LM, LH, t0, t1, u0, u1, p0, p1, q0, q1⟩ : HoldD), (⟨mA, mn, mc, mB, mm, md, mC, ml, me⟩ : HoldM))]).length gc)) := zH (HBU.out.sb.cell 0)
    have HTI := zH (fun X (hX : Below wA.heap.size wA X) => ((HBU.out.tb.1 ((⟨hid, hal, hah, LV, LM, LH, t0, t1, u0, u1, p0, p1, q0, q1⟩ : HoldD), (⟨mA, mn, mc, mB, mm, md, mC, ml, me⟩ : HoldM)) (by simp)).kept (below_grownNone hX) (fun q e => by cases e)).isIn HLH.out)
    obtain ⟨v10, v1c, rfl, _, _, _⟩ := HBU.out.o2.form
    obtain ⟨i0, i1, i2, i3, i4⟩ := info_parts Tryz.infoFillN
    have HW := zH ((Below.refl wA.heap.size wA).drew)
    have hS0 : (RowHeld w SB 0 (.slice (some ⟨g, 0, none⟩) (L ++ [((⟨hid, hal, hah, LV, LM, LH, t0, t1, u0, u1, p0, p1, q0, q1⟩ : HoldD), (⟨mA, mn, mc, mB, mm, md, mC, ml, me⟩ : HoldM))]).length gc) g (k * 14) [.int .i64 hid, .int .i64 hal, .int .i64 hah, .slice mA mn mc, .slice mB mm md, .slice mC ml me, .int .i64 t0, .int .i64 t1, .int .i64 u0, .int .i64 u1, .int .i64 p0, .int .i64 p1, .int .i64 q0, .int .i64 q1] NB #[.int .i64 a0, .int .i64 a1, .int .i64 a2, .int .i64 a3, .int .i64 a4]) wA.drew := ⟨HBU.out.bl.drew, HSC.out, HBU.out.nb.drew, fun i u hu => (HCS.out i (List.getElem?_eq_some_iff.1 hu).1).trans hu⟩
    refine wp_region_held_drew (S := RowHeld w SB 0 (.slice (some ⟨g, 0, none⟩) (L ++ [((⟨hid, hal, hah, LV, LM, LH, t0, t1, u0, u1, p0, p1, q0, q1⟩ : HoldD), (⟨mA, mn, mc, mB, mm, md, mC, ml, me⟩ : HoldM))]).length gc) g (k * 14) [.int .i64 hid, .int .i64 hal, .int .i64 hah, .slice mA mn mc, .slice mB mm md, .slice mC ml me, .int .i64 t0, .int .i64 t1, .int .i64 u0, .int .i64 u1, .int .i64 p0, .int .i64 p1, .int .i64 q0, .int .i64 q1] NB #[.int .i64 a0, .int .i64 a1, .int .i64 a2, .int .i64 a3, .int .i64 a4]) (by kernel_rfl) hS0 (fun hHeld => ?_)
    obtain ⟨yq, hW⟩ : ∃ W', wA.drew = W' := ⟨_, rfl⟩
    rw [hW] at hHeld HW ⊢
    clear hW hS0
    have hkb : (k : Int) < ((L ++ [((⟨hid, hal, hah, LV, LM, LH, t0, t1, u0, u1, p0, p1, q0, q1⟩ : HoldD), (⟨mA, mn, mc, mB, mm, md, mC, ml, me⟩ : HoldM))]).length : Int) := by omega
    have hkb2 : k < (L ++ [((⟨hid, hal, hah, LV, LM, LH, t0, t1, u0, u1, p0, p1, q0, q1⟩ : HoldD), (⟨mA, mn, mc, mB, mm, md, mC, ml, me⟩ : HoldM))]).length := by omega
    refine tK 55 (i := 0) (v := .pointer (some ⟨SB, 1, none⟩)) rfl rfl (by kernel_rfl) ?_ hHeld ?_
    ·intro w hSw; clear hSw; go_simp; try with_reducible rfl
    simp only [uZ, uS]
    refine tK 57 (i := 2) (v := .pointer (some ⟨SB, 0, none⟩)) rfl rfl (by kernel_rfl) ?_ hHeld ?_
    ·intro w hSw; clear hSw; go_simp; try with_reducible rfl
    simp only [uZ, uS]
    refine tK 58 (i := 3) (v := .slice (some ⟨g, 0, none⟩) (L ++ [((⟨hid, hal, hah, LV, LM, LH, t0, t1, u0, u1, p0, p1, q0, q1⟩ : HoldD), (⟨mA, mn, mc, mB, mm, md, mC, ml, me⟩ : HoldM))]).length gc) rfl rfl (by kernel_rfl) ?_ hHeld ?_
    ·intro w hSw; obtain ⟨_, z, _, _⟩ := hSw; go_simp; try with_reducible rfl
    simp only [uZ, uS]
    refine tK 59 (i := 4) (v := .int .i64 k) rfl rfl (by kernel_rfl) ?_ hHeld ?_
    ·intro w hSw; clear hSw; go_simp; try with_reducible rfl
    simp only [uZ, uS]
    refine tK 60 (i := 5) (v := .pointer (some ⟨g, k * 14, none⟩)) rfl rfl (by kernel_rfl) ?_ hHeld ?_
    ·intro w hSw; clear hSw; go_simp; first | done | (intro hbad; exfalso; omega) | (rw [if_neg (by omega)]) | with_reducible rfl
    simp only [uZ, uS]
    refine tK 61 (i := 6) (v := .agg #[.int .i64 hid, .int .i64 hal, .int .i64 hah, .slice mA mn mc, .slice mB mm md, .slice mC ml me, .int .i64 t0, .int .i64 t1, .int .i64 u0, .int .i64 u1, .int .i64 p0, .int .i64 p1, .int .i64 q0, .int .i64 q1]) rfl rfl (by kernel_rfl) ?_ hHeld ?_
    ·intro w hSw; obtain ⟨_, _, _, hc⟩ := hSw; have z0 := hc 0 _ rfl; have z1 := hc 1 _ rfl; have z2 := hc 2 _ rfl; have z3 := hc 3 _ rfl; have z4 := hc 4 _ rfl; have z5 := hc 5 _ rfl; have z6 := hc 6 _ rfl; have z7 := hc 7 _ rfl; have z8 := hc 8 _ rfl; have z9 := hc 9 _ rfl; have z10 := hc 10 _ rfl; have z11 := hc 11 _ rfl; have z12 := hc 12 _ rfl; have z13 := hc 13 _ rfl; clear hc; simp only [Nat.add_zero] at z0; go_simp; try with_reducible rfl
    simp only [uZ, uS]
    refine tK 62 (i := 7) (v := .agg #[.int .i64 a0, .int .i64 a1, .int .i64 a2, .int .i64 a3, .int .i64 a4]) rfl rfl (by kernel_rfl) ?_ hHeld ?_
    ·intro w hSw; obtain ⟨_, _, hr, _⟩ := hSw; have z0 := hr.cell 0; have z1 := hr.cell 1; have z2 := hr.cell 2; have z3 := hr.cell 3; have z4 := hr.cell 4; simp at z0 z1 z2 z3 z4; clear hr; go_simp; try with_reducible rfl
    simp only [uZ, uS]
    have HSL : Hid (SB < wA.heap.size) := zH HBU.out.sb.lt
    refine wpAnyH_ready (rs := [1, 8]) (by kernel_rfl) (by simp) ?_
    refine AllReadyH.cons rfl (fun K hK => ?_) (AllReadyH.cons rfl (fun K hK => ?_) AllReadyH.nil)
    have c1 := (blkOn HBU.out.sb HW.out).cell 1
    simp at c1
    go_simp
    refine hK.out _ _ hHeld (fun θ => ?_)
    clear c1
    try simp only [Act.put, uA, uZ, uS]
    clear hK K hHeld
    have hHeld := θ
    clear θ
    refine rK 8 (by kernel_rfl) rfl (fun K hK => ?_)
    go_simp
    (with_reducible refine (CF.out _ _ (HTI.out _ HW.out)).mono ?_)
    rintro x y ⟨rfl, hq⟩
    have HW0 := HW
    have HW2 := zH (below_then HW.out hq)
    clear HW
    have HW := HW2
    clear HW2
    refine hK.out _ _ (hHeld.on (Nat.lt_of_lt_of_le hgl HW0.out.size) (Nat.lt_of_lt_of_le HSL.out HW0.out.size) hq) (fun θ => ?_)
    clear hq
    try simp only [Act.put, uA, uZ, uS]
    clear hK K hHeld
    have hHeld := θ
    clear θ
    clear HW0
    refine rK 9 (by kernel_rfl) rfl (fun K hK => ?_)
    rename World => yq
    go_simp
    have HNBK := zH (World.news_of_block (cs := #[.int .i64 f0, .int .i64 f1, .int .i64 f2, .int .i64 f3, .int .i64 f4, .int .i64 f5]) (t := 43) (fr := (0, 0)) (heap_alloc_new yq (.cells #[.int .i64 f0, .int .i64 f1, .int .i64 f2, .int .i64 f3, .int .i64 f4, .int .i64 f5] 43)))
    have HYZ := zH (World.size_alloc yq (.cells #[.int .i64 f0, .int .i64 f1, .int .i64 f2, .int .i64 f3, .int .i64 f4, .int .i64 f5] 43))
    have HW2 := zH (below_then HW.out (below_alloc1 yq (.cells #[.int .i64 f0, .int .i64 f1, .int .i64 f2, .int .i64 f3, .int .i64 f4, .int .i64 f5] 43)))
    refine hK.out _ _ (hHeld.on (Nat.lt_of_lt_of_le hgl HW.out.size) (Nat.lt_of_lt_of_le HSL.out HW.out.size) (below_alloc1 yq (.cells #[.int .i64 f0, .int .i64 f1, .int .i64 f2, .int .i64 f3, .int .i64 f4, .int .i64 f5] 43))) (fun θ => ?_)
    clear HW
    have HW := HW2
    clear HW2
    try simp only [Act.put, uA, uZ, uS]
    clear hK K hHeld
    have hHeld := θ
    clear θ
    obtain ⟨ya, hW⟩ : ∃ W', yq.alloc (.cells #[.int .i64 f0, .int .i64 f1, .int .i64 f2, .int .i64 f3, .int .i64 f4, .int .i64 f5] 43) = W' := ⟨_, rfl⟩
    rw [hW] at HW hHeld HNBK HYZ ⊢
    clear hW
    obtain ⟨Z, hZ⟩ : ∃ Z, yq.heap.size = Z := ⟨_, rfl⟩
    rw [hZ] at HNBK HYZ ⊢
    clear hZ
    rotate_left
    go_simp
    (with_reducible refine (CF.out _ _ (HTI.out _ HW.out)).mono ?_)
    rintro x y ⟨rfl, hq⟩
    have HW0 := HW
    have HW2 := zH (below_then HW.out hq)
    clear HW
    have HW := HW2
    clear HW2
    refine hK.out _ _ (hHeld.on (Nat.lt_of_lt_of_le hgl HW0.out.size) (Nat.lt_of_lt_of_le HSL.out HW0.out.size) hq) (fun θ => ?_)
    clear hq
    try simp only [Act.put, uA, uZ, uS]
    clear hK K hHeld
    have hHeld := θ
    clear θ
    clear HW0
    refine wpAnyH_ready (rs := [1, 9]) (by kernel_rfl) (by simp) ?_
    refine AllReadyH.cons rfl (fun K hK => ?_) (AllReadyH.cons rfl (fun K hK => ?_) AllReadyH.nil)
    have c1 := (blkOn HBU.out.sb HW.out).cell 1
    simp at c1
    go_simp
    refine hK.out _ _ hHeld (fun θ => ?_)
    clear c1
    try simp only [Act.put, uA, uZ, uS]
    clear hK K hHeld
    have hHeld := θ
    clear θ
    refine rK 9 (by kernel_rfl) rfl (fun K hK => ?_)
    rename World => yq
    go_simp
    have HNBK := zH (World.news_of_block (cs := #[.int .i64 f0, .int .i64 f1, .int .i64 f2, .int .i64 f3, .int .i64 f4, .int .i64 f5]) (t := 43) (fr := (0, 0)) (heap_alloc_new yq (.cells #[.int .i64 f0, .int .i64 f1, .int .i64 f2, .int .i64 f3, .int .i64 f4, .int .i64 f5] 43)))
    have HYZ := zH (World.size_alloc yq (.cells #[.int .i64 f0, .int .i64 f1, .int .i64 f2, .int .i64 f3, .int .i64 f4, .int .i64 f5] 43))
    have HW2 := zH (below_then HW.out (below_alloc1 yq (.cells #[.int .i64 f0, .int .i64 f1, .int .i64 f2, .int .i64 f3, .int .i64 f4, .int .i64 f5] 43)))
    refine hK.out _ _ (hHeld.on (Nat.lt_of_lt_of_le hgl HW.out.size) (Nat.lt_of_lt_of_le HSL.out HW.out.size) (below_alloc1 yq (.cells #[.int .i64 f0, .int .i64 f1, .int .i64 f2, .int .i64 f3, .int .i64 f4, .int .i64 f5] 43))) (fun θ => ?_)
    clear HW
    have HW := HW2
    clear HW2
    try simp only [Act.put, uA, uZ, uS]
    clear hK K hHeld
    have hHeld := θ
    clear θ
    obtain ⟨ya, hW⟩ : ∃ W', yq.alloc (.cells #[.int .i64 f0, .int .i64 f1, .int .i64 f2, .int .i64 f3, .int .i64 f4, .int .i64 f5] 43) = W' := ⟨_, rfl⟩
    rw [hW] at HW hHeld HNBK HYZ ⊢
    clear hW
    obtain ⟨Z, hZ⟩ : ∃ Z, yq.heap.size = Z := ⟨_, rfl⟩
    rw [hZ] at HNBK HYZ ⊢
    clear hZ
    rotate_left
    rename World => yq
    go_simp
    have HNBK := zH (World.news_of_block (cs := #[.int .i64 f0, .int .i64 f1, .int .i64 f2, .int .i64 f3, .int .i64 f4, .int .i64 f5]) (t := 43) (fr := (0, 0)) (heap_alloc_new yq (.cells #[.int .i64 f0, .int .i64 f1, .int .i64 f2, .int .i64 f3, .int .i64 f4, .int .i64 f5] 43)))
    have HYZ := zH (World.size_alloc yq (.cells #[.int .i64 f0, .int .i64 f1, .int .i64 f2, .int .i64 f3, .int .i64 f4, .int .i64 f5] 43))
    have HW2 := zH (below_then HW.out (below_alloc1 yq (.cells #[.int .i64 f0, .int .i64 f1, .int .i64 f2, .int .i64 f3, .int .i64 f4, .int .i64 f5] 43)))
    refine hK.out _ _ (hHeld.on (Nat.lt_of_lt_of_le hgl HW.out.size) (Nat.lt_of_lt_of_le HSL.out HW.out.size) (below_alloc1 yq (.cells #[.int .i64 f0, .int .i64 f1, .int .i64 f2, .int .i64 f3, .int .i64 f4, .int .i64 f5] 43))) (fun θ => ?_)
    clear HW
    have HW := HW2
    clear HW2
    try simp only [Act.put, uA, uZ, uS]
    clear hK K hHeld
    have hHeld := θ
    clear θ
    obtain ⟨ya, hW⟩ : ∃ W', yq.alloc (.cells #[.int .i64 f0, .int .i64 f1, .int .i64 f2, .int .i64 f3, .int .i64 f4, .int .i64 f5] 43) = W' := ⟨_, rfl⟩
    rw [hW] at HW hHeld HNBK HYZ ⊢
    clear hW
    obtain ⟨Z, hZ⟩ : ∃ Z, yq.heap.size = Z := ⟨_, rfl⟩
    rw [hZ] at HNBK HYZ ⊢
    clear hZ
    refine rK 1 (by kernel_rfl) rfl (fun K hK => ?_)
    have c1 := (blkOn HBU.out.sb HW.out).cell 1
    simp at c1
    go_simp
    refine hK.out _ _ hHeld (fun θ => ?_)
    clear c1
    try simp only [Act.put, uA, uZ, uS]
    clear hK K hHeld
    have hHeld := θ
    clear θ
    rotate_left
    all_goals
     refine rK 10 (by kernel_rfl) rfl (fun K hK => ?_)
     have HBA := zH (HBU.out.on HW.out)
     refine step_append_lies _ (by rfl) (.tmp 56) (.tmp 64) _ (by rfl) base 43 i0 _ 6 48 Tryz.underlying25 i1 i2 i3 i4 rfl (by omega) (.slice v10 fs.length v1c) fs.length (rowsC fillL fs) (by rfl) (by exact HBA.out.o2) ⟨Z, 0, none⟩ 1 1 [.int .i64 f0, .int .i64 f1, .int .i64 f2, .int .i64 f3, .int .i64 f4, .int .i64 f5] (by rfl) (by rfl) (by exact HNBK.out) (by simp [Value.oneCell']) (by omega) (by have := HO.out.n1; have := HO.out.n2; have := HO.out.n3; have := HO.out.n4; simp [maxLen]; omega) (by have := HO.out.n1; have := HO.out.n2; have := HO.out.n3; have := HO.out.n4; omega) HBA.out.ba.2.2 (Z + 1) (by exact HYZ.out) ?_
     intro gg cap w5 hown1 hgrow _ _
     have HG := zH (Bun.grown HBA.out (show ya.ownsRow base 43 6 (.slice v10 fs.length v1c) fs.length (rowsC fillL fs) from HBA.out.o2) hgrow (by decide))
     have hf := HG.out.1.frozen 1; have hl := HG.out.1.lt; have hc := HG.out.1.cell 1
     simp at hc
     have HB9 := zH (Bun.push2 (r := (⟨f0, f1, f2, f3, f4, f5⟩ : FillD)) HBA.out hown1 hgrow)
     refine hK.out _ _ (RowHeld.grown hHeld HG.out.2.2.2.2.1 HG.out.2.2.1 hgrow (Nat.lt_of_lt_of_le HSL.out HW.out.size) (Nat.lt_of_lt_of_le hgl HW.out.size) (blk_apart (show ya.ownsRow base 43 6 (.slice v10 fs.length v1c) fs.length (rowsC fillL fs) from HBA.out.o2) HBA.out.sb (by decide)) (own_far HBA.out.o1 HBA.out.o2 (by decide))) (fun θ => ?_)
     try simp only [Act.put, uA, uZ, uS]
     clear hK K hHeld
     have hHeld := θ
     clear θ
     refine tK 66 (i := 11) (v := .pointer (some ⟨SB, 1, none⟩)) rfl rfl (by kernel_rfl) ?_ hHeld ?_
     ·intro w hSw; clear hSw; go_simp; try with_reducible rfl
     simp only [uZ, uS]
     refine rK 12 (by kernel_rfl) rfl (fun K hK => ?_)
     go_simp
     refine hK.out _ _ (RowHeld.put hHeld HB9.out.bl HB9.out.nb (by decide) (ne_of_lt_own HBA.out.ba hgb)) (fun θ => ?_)
     try simp only [Act.put, uA, uZ, uS]
     clear hK K hHeld
     have hHeld := θ
     clear θ
     refine wpAnyH_done (by kernel_rfl) ?_ _
     clear hHeld hf hl hc hown1 hgrow HG HBA HW HNBK HYZ
    all_goals
     go_wp2_with fail
     go_meet
     exact ⟨_, HB9.out⟩
   obtain ⟨y1, hB9⟩ := hcut
   rename World => wB
   clear HBU
   have HBU := zH hB9
   clear hB9
   go_upto_region 12 with fail
   go_cut [] (fun wx => ∃ (y2 : Value) (nA : Option Addr) (nn nc : Nat) (nB : Option Addr) (nm nd : Nat) (nC : Option Addr) (nl ne : Nat), Bun w SB RB NB base y0 y1 y2 v3 #[.int .i64 k, .int .i64 fi, .slice S sn sc, .slice V vn vc] #[.int .i64 a0, .int .i64 a1, .int .i64 a2, .int .i64 a3, .int .i64 a4] (L ++ [((⟨hid, hal, hah, LV, LM, LH, t0, t1, u0, u1, p0, p1, q0, q1⟩ : HoldD), (⟨mA, mn, mc, mB, mm, md, mC, ml, me⟩ : HoldM))]) (fs ++ [(⟨f0, f1, f2, f3, f4, f5⟩ : FillD)]) (T ++ [((⟨kid, kal, kah, KV, KM, KH⟩ : TankD), (⟨nA, nn, nc, nB, nm, nd, nC, nl, ne⟩ : HoldM))]) ls wx)
   case first =>
    obtain ⟨v20, v2c, rfl, _, _, _⟩ := HBU.out.o3.form
    obtain ⟨i0, i1, i2, i3, i4⟩ := info_parts Tryz.infoTankN
    have HW := zH ((Below.refl wB.heap.size wB).drew)
    have hS0 : (RawHeld w RB #[.int .i64 k, .int .i64 fi, .slice S sn sc, .slice V vn vc]) wB.drew := ⟨HBU.out.bl.drew, HBU.out.rb.drew⟩
    refine wp_region_held_drew (S := (RawHeld w RB #[.int .i64 k, .int .i64 fi, .slice S sn sc, .slice V vn vc])) (by kernel_rfl) hS0 (fun hHeld => ?_)
    obtain ⟨yq, hW⟩ : ∃ W', wB.drew = W' := ⟨_, rfl⟩
    rw [hW] at hHeld HW ⊢
    clear hW hS0
    refine tK 67 (i := 0) (v := .pointer (some ⟨SB, 2, none⟩)) rfl rfl (by kernel_rfl) ?_ hHeld ?_
    ·intro w hSw; clear hSw; go_simp; try with_reducible rfl
    simp only [uZ, uS]
    refine tK 69 (i := 2) (v := .agg #[.int .i64 k, .int .i64 fi, .slice S sn sc, .slice V vn vc]) rfl rfl (by kernel_rfl) ?_ hHeld ?_
    ·intro w hSw; obtain ⟨_, hr⟩ := hSw; have z0 := hr.cell 0; have z1 := hr.cell 1; have z2 := hr.cell 2; have z3 := hr.cell 3; simp at z0 z1 z2 z3; clear hr; go_simp; try with_reducible rfl
    simp only [uZ, uS]
    refine wpAnyH_ready (rs := [1, 3]) (by kernel_rfl) (by simp) ?_
    refine AllReadyH.cons rfl (fun K hK => ?_) (AllReadyH.cons rfl (fun K hK => ?_) AllReadyH.nil)
    have c1 := (blkOn HBU.out.sb HW.out).cell 2
    simp at c1
    go_simp
    refine hK.out _ _ hHeld (fun θ => ?_)
    clear c1
    try simp only [Act.put, uA, uZ, uS]
    clear hK K hHeld
    have hHeld := θ
    clear θ
    refine rK 3 (by kernel_rfl) rfl (fun K hK => ?_)
    go_simp
    (with_reducible refine (CT.out _ hHeld.bl).mono ?_)
    rintro x y ⟨⟨⟨nA, nn, nc, nB, nm, nd, nC, nl, ne⟩, rfl, _, hmm⟩, hq⟩
    have HMM := zH (TankOwn.mono hmm (Nat.le_trans HBU.out.ba.2.2 HW.out.size))
    have HW2 := zH (below_then HW.out hq)
    clear HW
    have HW := HW2
    clear HW2 hmm
    refine hK.out _ _ (hHeld.on hq) (fun θ => ?_)
    clear hq
    try simp only [Act.put, uA, uZ, uS]
    clear hK K hHeld
    have hHeld := θ
    clear θ
    refine rK 4 (by kernel_rfl) rfl (fun K hK => ?_)
    rename World => yq
    go_simp
    have HNBK := zH (World.news_of_block (cs := #[.int .i64 kid, .int .i64 kal, .int .i64 kah, .slice nA nn nc, .slice nB nm nd, .slice nC nl ne]) (t := 46) (fr := (0, 0)) (heap_alloc_new yq (.cells #[.int .i64 kid, .int .i64 kal, .int .i64 kah, .slice nA nn nc, .slice nB nm nd, .slice nC nl ne] 46)))
    have HYZ := zH (World.size_alloc yq (.cells #[.int .i64 kid, .int .i64 kal, .int .i64 kah, .slice nA nn nc, .slice nB nm nd, .slice nC nl ne] 46))
    have HW2 := zH (below_then HW.out (below_alloc1 yq (.cells #[.int .i64 kid, .int .i64 kal, .int .i64 kah, .slice nA nn nc, .slice nB nm nd, .slice nC nl ne] 46)))
    have HMM2 := zH (HMM.out.kept (below_grownNone (below_alloc1 yq (.cells #[.int .i64 kid, .int .i64 kal, .int .i64 kah, .slice nA nn nc, .slice nB nm nd, .slice nC nl ne] 46))) (fun g e => by cases e))
    refine hK.out _ _ (hHeld.on (below_alloc1 yq (.cells #[.int .i64 kid, .int .i64 kal, .int .i64 kah, .slice nA nn nc, .slice nB nm nd, .slice nC nl ne] 46))) (fun θ => ?_)
    clear HW
    have HW := HW2
    clear HW2
    clear HMM
    have HMM := HMM2
    clear HMM2
    try simp only [Act.put, uA, uZ, uS]
    clear hK K hHeld
    have hHeld := θ
    clear θ
    obtain ⟨ya, hW⟩ : ∃ W', yq.alloc (.cells #[.int .i64 kid, .int .i64 kal, .int .i64 kah, .slice nA nn nc, .slice nB nm nd, .slice nC nl ne] 46) = W' := ⟨_, rfl⟩
    rw [hW] at HW hHeld HNBK HYZ HMM ⊢
    clear hW
    obtain ⟨Z, hZ⟩ : ∃ Z, yq.heap.size = Z := ⟨_, rfl⟩
    rw [hZ] at HNBK HYZ ⊢
    clear hZ
    rotate_left
    go_simp
    (with_reducible refine (CT.out _ hHeld.bl).mono ?_)
    rintro x y ⟨⟨⟨nA, nn, nc, nB, nm, nd, nC, nl, ne⟩, rfl, _, hmm⟩, hq⟩
    have HMM := zH (TankOwn.mono hmm (Nat.le_trans HBU.out.ba.2.2 HW.out.size))
    have HW2 := zH (below_then HW.out hq)
    clear HW
    have HW := HW2
    clear HW2 hmm
    refine hK.out _ _ (hHeld.on hq) (fun θ => ?_)
    clear hq
    try simp only [Act.put, uA, uZ, uS]
    clear hK K hHeld
    have hHeld := θ
    clear θ
    refine wpAnyH_ready (rs := [1, 4]) (by kernel_rfl) (by simp) ?_
    refine AllReadyH.cons rfl (fun K hK => ?_) (AllReadyH.cons rfl (fun K hK => ?_) AllReadyH.nil)
    have c1 := (blkOn HBU.out.sb HW.out).cell 2
    simp at c1
    go_simp
    refine hK.out _ _ hHeld (fun θ => ?_)
    clear c1
    try simp only [Act.put, uA, uZ, uS]
    clear hK K hHeld
    have hHeld := θ
    clear θ
    refine rK 4 (by kernel_rfl) rfl (fun K hK => ?_)
    rename World => yq
    go_simp
    have HNBK := zH (World.news_of_block (cs := #[.int .i64 kid, .int .i64 kal, .int .i64 kah, .slice nA nn nc, .slice nB nm nd, .slice nC nl ne]) (t := 46) (fr := (0, 0)) (heap_alloc_new yq (.cells #[.int .i64 kid, .int .i64 kal, .int .i64 kah, .slice nA nn nc, .slice nB nm nd, .slice nC nl ne] 46)))
    have HYZ := zH (World.size_alloc yq (.cells #[.int .i64 kid, .int .i64 kal, .int .i64 kah, .slice nA nn nc, .slice nB nm nd, .slice nC nl ne] 46))
    have HW2 := zH (below_then HW.out (below_alloc1 yq (.cells #[.int .i64 kid, .int .i64 kal, .int .i64 kah, .slice nA nn nc, .slice nB nm nd, .slice nC nl ne] 46)))
    have HMM2 := zH (HMM.out.kept (below_grownNone (below_alloc1 yq (.cells #[.int .i64 kid, .int .i64 kal, .int .i64 kah, .slice nA nn nc, .slice nB nm nd, .slice nC nl ne] 46))) (fun g e => by cases e))
    refine hK.out _ _ (hHeld.on (below_alloc1 yq (.cells #[.int .i64 kid, .int .i64 kal, .int .i64 kah, .slice nA nn nc, .slice nB nm nd, .slice nC nl ne] 46))) (fun θ => ?_)
    clear HW
    have HW := HW2
    clear HW2
    clear HMM
    have HMM := HMM2
    clear HMM2
    try simp only [Act.put, uA, uZ, uS]
    clear hK K hHeld
    have hHeld := θ
    clear θ
    obtain ⟨ya, hW⟩ : ∃ W', yq.alloc (.cells #[.int .i64 kid, .int .i64 kal, .int .i64 kah, .slice nA nn nc, .slice nB nm nd, .slice nC nl ne] 46) = W' := ⟨_, rfl⟩
    rw [hW] at HW hHeld HNBK HYZ HMM ⊢
    clear hW
    obtain ⟨Z, hZ⟩ : ∃ Z, yq.heap.size = Z := ⟨_, rfl⟩
    rw [hZ] at HNBK HYZ ⊢
    clear hZ
    rotate_left
    rename World => yq
    go_simp
    have HNBK := zH (World.news_of_block (cs := #[.int .i64 kid, .int .i64 kal, .int .i64 kah, .slice nA nn nc, .slice nB nm nd, .slice nC nl ne]) (t := 46) (fr := (0, 0)) (heap_alloc_new yq (.cells #[.int .i64 kid, .int .i64 kal, .int .i64 kah, .slice nA nn nc, .slice nB nm nd, .slice nC nl ne] 46)))
    have HYZ := zH (World.size_alloc yq (.cells #[.int .i64 kid, .int .i64 kal, .int .i64 kah, .slice nA nn nc, .slice nB nm nd, .slice nC nl ne] 46))
    have HW2 := zH (below_then HW.out (below_alloc1 yq (.cells #[.int .i64 kid, .int .i64 kal, .int .i64 kah, .slice nA nn nc, .slice nB nm nd, .slice nC nl ne] 46)))
    have HMM2 := zH (HMM.out.kept (below_grownNone (below_alloc1 yq (.cells #[.int .i64 kid, .int .i64 kal, .int .i64 kah, .slice nA nn nc, .slice nB nm nd, .slice nC nl ne] 46))) (fun g e => by cases e))
    refine hK.out _ _ (hHeld.on (below_alloc1 yq (.cells #[.int .i64 kid, .int .i64 kal, .int .i64 kah, .slice nA nn nc, .slice nB nm nd, .slice nC nl ne] 46))) (fun θ => ?_)
    clear HW
    have HW := HW2
    clear HW2
    clear HMM
    have HMM := HMM2
    clear HMM2
    try simp only [Act.put, uA, uZ, uS]
    clear hK K hHeld
    have hHeld := θ
    clear θ
    obtain ⟨ya, hW⟩ : ∃ W', yq.alloc (.cells #[.int .i64 kid, .int .i64 kal, .int .i64 kah, .slice nA nn nc, .slice nB nm nd, .slice nC nl ne] 46) = W' := ⟨_, rfl⟩
    rw [hW] at HW hHeld HNBK HYZ HMM ⊢
    clear hW
    obtain ⟨Z, hZ⟩ : ∃ Z, yq.heap.size = Z := ⟨_, rfl⟩
    rw [hZ] at HNBK HYZ ⊢
    clear hZ
    refine rK 1 (by kernel_rfl) rfl (fun K hK => ?_)
    have c1 := (blkOn HBU.out.sb HW.out).cell 2
    simp at c1
    go_simp
    refine hK.out _ _ hHeld (fun θ => ?_)
    clear c1
    try simp only [Act.put, uA, uZ, uS]
    clear hK K hHeld
    have hHeld := θ
    clear θ
    rotate_left
    all_goals
     refine rK 5 (by kernel_rfl) rfl (fun K hK => ?_)
     have HBA := zH (HBU.out.on HW.out)
     refine step_append_lies _ (by rfl) (.tmp 68) (.tmp 71) _ (by rfl) base 46 i0 _ 6 96 Tryz.underlying26 i1 i2 i3 i4 rfl (by omega) (.slice v20 T.length v2c) T.length (rowsC tankL T) (by rfl) (by exact HBA.out.o3) ⟨Z, 0, none⟩ 1 1 [.int .i64 kid, .int .i64 kal, .int .i64 kah, .slice nA nn nc, .slice nB nm nd, .slice nC nl ne] (by rfl) (by rfl) (by exact HNBK.out) (by simp [Value.oneCell']) (by omega) (by have := HO.out.n1; have := HO.out.n2; have := HO.out.n3; have := HO.out.n4; simp [maxLen]; omega) (by have := HO.out.n1; have := HO.out.n2; have := HO.out.n3; have := HO.out.n4; omega) HBA.out.ba.2.2 (Z + 1) (by exact HYZ.out) ?_
     intro gg cap w5 hown1 hgrow _ _
     have HG := zH (Bun.grown HBA.out (show ya.ownsRow base 46 6 (.slice v20 T.length v2c) T.length (rowsC tankL T) from HBA.out.o3) hgrow (by decide))
     have hf := HG.out.1.frozen 2; have hl := HG.out.1.lt; have hc := HG.out.1.cell 2
     simp at hc
     have HB9 := zH (Bun.push3 (r := ((⟨kid, kal, kah, KV, KM, KH⟩ : TankD), (⟨nA, nn, nc, nB, nm, nd, nC, nl, ne⟩ : HoldM))) HBA.out hown1 hgrow HMM.out)
     refine hK.out _ _ ⟨HG.out.2.2.2.2.1, HG.out.2.1⟩ (fun θ => ?_)
     try simp only [Act.put, uA, uZ, uS]
     clear hK K hHeld
     have hHeld := θ
     clear θ
     refine tK 73 (i := 6) (v := .pointer (some ⟨SB, 2, none⟩)) rfl rfl (by kernel_rfl) ?_ hHeld ?_
     ·intro w hSw; clear hSw; go_simp; try with_reducible rfl
     simp only [uZ, uS]
     refine rK 7 (by kernel_rfl) rfl (fun K hK => ?_)
     go_simp
     refine hK.out _ _ ⟨HB9.out.bl, HB9.out.rb⟩ (fun θ => ?_)
     try simp only [Act.put, uA, uZ, uS]
     clear hK K hHeld
     have hHeld := θ
     clear θ
     refine wpAnyH_done (by kernel_rfl) ?_ _
     clear hHeld hf hl hc hown1 hgrow HG HBA HW HNBK HYZ HMM
    all_goals
     go_wp2_with fail
     go_meet
     exact ⟨_, _, _, _, _, _, _, _, _, _, HB9.out⟩
   obtain ⟨y2, nA, nn, nc, nB, nm, nd, nC, nl, ne, hB9⟩ := hcut
   rename World => wC
   clear HBU CT
   have HBU := zH hB9
   clear hB9
   go_upto_region 13 with fail
   obtain ⟨gA, gc, hgv, _, _, hgg⟩ := HBU.out.o3.form
   obtain ⟨g, rfl, hgb, hgl⟩ : ∃ g, gA = some ⟨g, 0, none⟩ ∧ base ≤ g ∧ g < wC.heap.size := hgg.resolve_left (by simp)
   subst hgv
   have hN1 : (T ++ [((⟨kid, kal, kah, KV, KM, KH⟩ : TankD), (⟨nA, nn, nc, nB, nm, nd, nC, nl, ne⟩ : HoldM))]).length = k + 1 := by have := HO.out.n3; simp; omega
   have HCS := zH (fun i (hi : i < 6) => OwnL.cell tankL_len HBU.out.o3 (k := k) (x := ((⟨kid, kal, kah, KV, KM, KH⟩ : TankD), (⟨nA, nn, nc, nB, nm, nd, nC, nl, ne⟩ : HoldM))) (by have := HO.out.n3; rw [List.getElem?_append_right (by omega)]; simp [this]) hi)
   have HSC : Hid (wC.cell? ⟨SB, 2, none⟩ = some (.slice (some ⟨g, 0, none⟩) (T ++ [((⟨kid, kal, kah, KV, KM, KH⟩ : TankD), (⟨nA, nn, nc, nB, nm, nd, nC, nl, ne⟩ : HoldM))]).length gc)) := zH (HBU.out.sb.cell 2)
   have HTI := zH (fun X (hX : Below wC.heap.size wC X) => ((HBU.out.tb.2 ((⟨kid, kal, kah, KV, KM, KH⟩ : TankD), (⟨nA, nn, nc, nB, nm, nd, nC, nl, ne⟩ : HoldM)) (by simp)).kept (below_grownNone hX) (fun q e => by cases e)).isIn HLT.out)
   obtain ⟨v30, v3c, rfl, _, _, _⟩ := HBU.out.o4.form
   obtain ⟨i0, i1, i2, i3, i4⟩ := info_parts Tryz.infoLevelN
   have HW := zH ((Below.refl wC.heap.size wC).drew)
   have hS0 : (RowHeld w SB 2 (.slice (some ⟨g, 0, none⟩) (T ++ [((⟨kid, kal, kah, KV, KM, KH⟩ : TankD), (⟨nA, nn, nc, nB, nm, nd, nC, nl, ne⟩ : HoldM))]).length gc) g (k * 6) [.int .i64 kid, .int .i64 kal, .int .i64 kah, .slice nA nn nc, .slice nB nm nd, .slice nC nl ne] NB #[.int .i64 a0, .int .i64 a1, .int .i64 a2, .int .i64 a3, .int .i64 a4]) wC.drew := ⟨HBU.out.bl.drew, HSC.out, HBU.out.nb.drew, fun i u hu => (HCS.out i (List.getElem?_eq_some_iff.1 hu).1).trans hu⟩
   refine wp_region_held_drew (S := RowHeld w SB 2 (.slice (some ⟨g, 0, none⟩) (T ++ [((⟨kid, kal, kah, KV, KM, KH⟩ : TankD), (⟨nA, nn, nc, nB, nm, nd, nC, nl, ne⟩ : HoldM))]).length gc) g (k * 6) [.int .i64 kid, .int .i64 kal, .int .i64 kah, .slice nA nn nc, .slice nB nm nd, .slice nC nl ne] NB #[.int .i64 a0, .int .i64 a1, .int .i64 a2, .int .i64 a3, .int .i64 a4]) (by kernel_rfl) hS0 (fun hHeld => ?_)
   obtain ⟨yq, hW⟩ : ∃ W', wC.drew = W' := ⟨_, rfl⟩
   rw [hW] at hHeld HW ⊢
   clear hW hS0
   have hkb : (k : Int) < ((T ++ [((⟨kid, kal, kah, KV, KM, KH⟩ : TankD), (⟨nA, nn, nc, nB, nm, nd, nC, nl, ne⟩ : HoldM))]).length : Int) := by omega
   have hkb2 : k < (T ++ [((⟨kid, kal, kah, KV, KM, KH⟩ : TankD), (⟨nA, nn, nc, nB, nm, nd, nC, nl, ne⟩ : HoldM))]).length := by omega
   refine tK 74 (i := 0) (v := .pointer (some ⟨SB, 3, none⟩)) rfl rfl (by kernel_rfl) ?_ hHeld ?_
   ·intro w hSw; clear hSw; go_simp; try with_reducible rfl
   simp only [uZ, uS]
   refine tK 76 (i := 2) (v := .pointer (some ⟨SB, 2, none⟩)) rfl rfl (by kernel_rfl) ?_ hHeld ?_
   ·intro w hSw; clear hSw; go_simp; try with_reducible rfl
   simp only [uZ, uS]
   refine tK 77 (i := 3) (v := .slice (some ⟨g, 0, none⟩) (T ++ [((⟨kid, kal, kah, KV, KM, KH⟩ : TankD), (⟨nA, nn, nc, nB, nm, nd, nC, nl, ne⟩ : HoldM))]).length gc) rfl rfl (by kernel_rfl) ?_ hHeld ?_
   ·intro w hSw; obtain ⟨_, z, _, _⟩ := hSw; go_simp; try with_reducible rfl
   simp only [uZ, uS]
   refine tK 78 (i := 4) (v := .int .i64 k) rfl rfl (by kernel_rfl) ?_ hHeld ?_
   ·intro w hSw; clear hSw; go_simp; try with_reducible rfl
   simp only [uZ, uS]
   refine tK 79 (i := 5) (v := .pointer (some ⟨g, k * 6, none⟩)) rfl rfl (by kernel_rfl) ?_ hHeld ?_
   ·intro w hSw; clear hSw; go_simp; first | done | (intro hbad; exfalso; omega) | (rw [if_neg (by omega)]) | with_reducible rfl
   simp only [uZ, uS]
   refine tK 80 (i := 6) (v := .agg #[.int .i64 kid, .int .i64 kal, .int .i64 kah, .slice nA nn nc, .slice nB nm nd, .slice nC nl ne]) rfl rfl (by kernel_rfl) ?_ hHeld ?_
   ·intro w hSw; obtain ⟨_, _, _, hc⟩ := hSw; have z0 := hc 0 _ rfl; have z1 := hc 1 _ rfl; have z2 := hc 2 _ rfl; have z3 := hc 3 _ rfl; have z4 := hc 4 _ rfl; have z5 := hc 5 _ rfl; clear hc; simp only [Nat.add_zero] at z0; go_simp; try with_reducible rfl
   simp only [uZ, uS]
   refine tK 81 (i := 7) (v := .agg #[.int .i64 a0, .int .i64 a1, .int .i64 a2, .int .i64 a3, .int .i64 a4]) rfl rfl (by kernel_rfl) ?_ hHeld ?_
   ·intro w hSw; obtain ⟨_, _, hr, _⟩ := hSw; have z0 := hr.cell 0; have z1 := hr.cell 1; have z2 := hr.cell 2; have z3 := hr.cell 3; have z4 := hr.cell 4; simp at z0 z1 z2 z3 z4; clear hr; go_simp; try with_reducible rfl
   simp only [uZ, uS]
   have HSL : Hid (SB < wC.heap.size) := zH HBU.out.sb.lt
   refine wpAnyH_ready (rs := [1, 8]) (by kernel_rfl) (by simp) ?_
   refine AllReadyH.cons rfl (fun K hK => ?_) (AllReadyH.cons rfl (fun K hK => ?_) AllReadyH.nil)
   have c1 := (blkOn HBU.out.sb HW.out).cell 3
   simp at c1
   go_simp
   refine hK.out _ _ hHeld (fun θ => ?_)
   clear c1
   try simp only [Act.put, uA, uZ, uS]
   clear hK K hHeld
   have hHeld := θ
   clear θ
   refine rK 8 (by kernel_rfl) rfl (fun K hK => ?_)
   go_simp
   (with_reducible refine (CV.out _ _ (HTI.out _ HW.out)).mono ?_)
   rintro x y ⟨rfl, hq⟩
   have HW0 := HW
   have HW2 := zH (below_then HW.out hq)
   clear HW
   have HW := HW2
   clear HW2
   refine hK.out _ _ (hHeld.on (Nat.lt_of_lt_of_le hgl HW0.out.size) (Nat.lt_of_lt_of_le HSL.out HW0.out.size) hq) (fun θ => ?_)
   clear hq
   try simp only [Act.put, uA, uZ, uS]
   clear hK K hHeld
   have hHeld := θ
   clear θ
   clear HW0
   refine rK 9 (by kernel_rfl) rfl (fun K hK => ?_)
   rename World => yq
   go_simp
   have HNBK := zH (World.news_of_block (cs := #[.int .i64 l0, .bool l1, .int .i64 l2, .int .i64 l3, .int .i64 l4, .int .i64 l5]) (t := 49) (fr := (0, 0)) (heap_alloc_new yq (.cells #[.int .i64 l0, .bool l1, .int .i64 l2, .int .i64 l3, .int .i64 l4, .int .i64 l5] 49)))
   have HYZ := zH (World.size_alloc yq (.cells #[.int .i64 l0, .bool l1, .int .i64 l2, .int .i64 l3, .int .i64 l4, .int .i64 l5] 49))
   have HW2 := zH (below_then HW.out (below_alloc1 yq (.cells #[.int .i64 l0, .bool l1, .int .i64 l2, .int .i64 l3, .int .i64 l4, .int .i64 l5] 49)))
   refine hK.out _ _ (hHeld.on (Nat.lt_of_lt_of_le hgl HW.out.size) (Nat.lt_of_lt_of_le HSL.out HW.out.size) (below_alloc1 yq (.cells #[.int .i64 l0, .bool l1, .int .i64 l2, .int .i64 l3, .int .i64 l4, .int .i64 l5] 49))) (fun θ => ?_)
   clear HW
   have HW := HW2
   clear HW2
   try simp only [Act.put, uA, uZ, uS]
   clear hK K hHeld
   have hHeld := θ
   clear θ
   obtain ⟨ya, hW⟩ : ∃ W', yq.alloc (.cells #[.int .i64 l0, .bool l1, .int .i64 l2, .int .i64 l3, .int .i64 l4, .int .i64 l5] 49) = W' := ⟨_, rfl⟩
   rw [hW] at HW hHeld HNBK HYZ ⊢
   clear hW
   obtain ⟨Z, hZ⟩ : ∃ Z, yq.heap.size = Z := ⟨_, rfl⟩
   rw [hZ] at HNBK HYZ ⊢
   clear hZ
   rotate_left
   go_simp
   (with_reducible refine (CV.out _ _ (HTI.out _ HW.out)).mono ?_)
   rintro x y ⟨rfl, hq⟩
   have HW0 := HW
   have HW2 := zH (below_then HW.out hq)
   clear HW
   have HW := HW2
   clear HW2
   refine hK.out _ _ (hHeld.on (Nat.lt_of_lt_of_le hgl HW0.out.size) (Nat.lt_of_lt_of_le HSL.out HW0.out.size) hq) (fun θ => ?_)
   clear hq
   try simp only [Act.put, uA, uZ, uS]
   clear hK K hHeld
   have hHeld := θ
   clear θ
   clear HW0
   refine wpAnyH_ready (rs := [1, 9]) (by kernel_rfl) (by simp) ?_
   refine AllReadyH.cons rfl (fun K hK => ?_) (AllReadyH.cons rfl (fun K hK => ?_) AllReadyH.nil)
   have c1 := (blkOn HBU.out.sb HW.out).cell 3
   simp at c1
   go_simp
   refine hK.out _ _ hHeld (fun θ => ?_)
   clear c1
   try simp only [Act.put, uA, uZ, uS]
   clear hK K hHeld
   have hHeld := θ
   clear θ
   refine rK 9 (by kernel_rfl) rfl (fun K hK => ?_)
   rename World => yq
   go_simp
   have HNBK := zH (World.news_of_block (cs := #[.int .i64 l0, .bool l1, .int .i64 l2, .int .i64 l3, .int .i64 l4, .int .i64 l5]) (t := 49) (fr := (0, 0)) (heap_alloc_new yq (.cells #[.int .i64 l0, .bool l1, .int .i64 l2, .int .i64 l3, .int .i64 l4, .int .i64 l5] 49)))
   have HYZ := zH (World.size_alloc yq (.cells #[.int .i64 l0, .bool l1, .int .i64 l2, .int .i64 l3, .int .i64 l4, .int .i64 l5] 49))
   have HW2 := zH (below_then HW.out (below_alloc1 yq (.cells #[.int .i64 l0, .bool l1, .int .i64 l2, .int .i64 l3, .int .i64 l4, .int .i64 l5] 49)))
   refine hK.out _ _ (hHeld.on (Nat.lt_of_lt_of_le hgl HW.out.size) (Nat.lt_of_lt_of_le HSL.out HW.out.size) (below_alloc1 yq (.cells #[.int .i64 l0, .bool l1, .int .i64 l2, .int .i64 l3, .int .i64 l4, .int .i64 l5] 49))) (fun θ => ?_)
   clear HW
   have HW := HW2
   clear HW2
   try simp only [Act.put, uA, uZ, uS]
   clear hK K hHeld
   have hHeld := θ
   clear θ
   obtain ⟨ya, hW⟩ : ∃ W', yq.alloc (.cells #[.int .i64 l0, .bool l1, .int .i64 l2, .int .i64 l3, .int .i64 l4, .int .i64 l5] 49) = W' := ⟨_, rfl⟩
   rw [hW] at HW hHeld HNBK HYZ ⊢
   clear hW
   obtain ⟨Z, hZ⟩ : ∃ Z, yq.heap.size = Z := ⟨_, rfl⟩
   rw [hZ] at HNBK HYZ ⊢
   clear hZ
   rotate_left
   rename World => yq
   go_simp
   have HNBK := zH (World.news_of_block (cs := #[.int .i64 l0, .bool l1, .int .i64 l2, .int .i64 l3, .int .i64 l4, .int .i64 l5]) (t := 49) (fr := (0, 0)) (heap_alloc_new yq (.cells #[.int .i64 l0, .bool l1, .int .i64 l2, .int .i64 l3, .int .i64 l4, .int .i64 l5] 49)))
   have HYZ := zH (World.size_alloc yq (.cells #[.int .i64 l0, .bool l1, .int .i64 l2, .int .i64 l3, .int .i64 l4, .int .i64 l5] 49))
   have HW2 := zH (below_then HW.out (below_alloc1 yq (.cells #[.int .i64 l0, .bool l1, .int .i64 l2, .int .i64 l3, .int .i64 l4, .int .i64 l5] 49)))
   refine hK.out _ _ (hHeld.on (Nat.lt_of_lt_of_le hgl HW.out.size) (Nat.lt_of_lt_of_le HSL.out HW.out.size) (below_alloc1 yq (.cells #[.int .i64 l0, .bool l1, .int .i64 l2, .int .i64 l3, .int .i64 l4, .int .i64 l5] 49))) (fun θ => ?_)
   clear HW
   have HW := HW2
   clear HW2
   try simp only [Act.put, uA, uZ, uS]
   clear hK K hHeld
   have hHeld := θ
   clear θ
   obtain ⟨ya, hW⟩ : ∃ W', yq.alloc (.cells #[.int .i64 l0, .bool l1, .int .i64 l2, .int .i64 l3, .int .i64 l4, .int .i64 l5] 49) = W' := ⟨_, rfl⟩
   rw [hW] at HW hHeld HNBK HYZ ⊢
   clear hW
   obtain ⟨Z, hZ⟩ : ∃ Z, yq.heap.size = Z := ⟨_, rfl⟩
   rw [hZ] at HNBK HYZ ⊢
   clear hZ
   refine rK 1 (by kernel_rfl) rfl (fun K hK => ?_)
   have c1 := (blkOn HBU.out.sb HW.out).cell 3
   simp at c1
   go_simp
   refine hK.out _ _ hHeld (fun θ => ?_)
   clear c1
   try simp only [Act.put, uA, uZ, uS]
   clear hK K hHeld
   have hHeld := θ
   clear θ
   rotate_left
   all_goals
    refine rK 10 (by kernel_rfl) rfl (fun K hK => ?_)
    have HBA := zH (HBU.out.on HW.out)
    refine step_append_lies _ (by rfl) (.tmp 75) (.tmp 83) _ (by rfl) base 49 i0 _ 6 48 Tryz.underlying27 i1 i2 i3 i4 rfl (by omega) (.slice v30 ls.length v3c) ls.length (rowsC levelL ls) (by rfl) (by exact HBA.out.o4) ⟨Z, 0, none⟩ 1 1 [.int .i64 l0, .bool l1, .int .i64 l2, .int .i64 l3, .int .i64 l4, .int .i64 l5] (by rfl) (by rfl) (by exact HNBK.out) (by simp [Value.oneCell']) (by omega) (by have := HO.out.n1; have := HO.out.n2; have := HO.out.n3; have := HO.out.n4; simp [maxLen]; omega) (by have := HO.out.n1; have := HO.out.n2; have := HO.out.n3; have := HO.out.n4; omega) HBA.out.ba.2.2 (Z + 1) (by exact HYZ.out) ?_
    intro gg cap w5 hown1 hgrow _ _
    have HG := zH (Bun.grown HBA.out (show ya.ownsRow base 49 6 (.slice v30 ls.length v3c) ls.length (rowsC levelL ls) from HBA.out.o4) hgrow (by decide))
    have hf := HG.out.1.frozen 3; have hl := HG.out.1.lt; have hc := HG.out.1.cell 3
    simp at hc
    have HB9 := zH (Bun.push4 (r := (⟨l0, l1, l2, l3, l4, l5⟩ : LevelD)) HBA.out hown1 hgrow)
    refine hK.out _ _ (RowHeld.grown hHeld HG.out.2.2.2.2.1 HG.out.2.2.1 hgrow (Nat.lt_of_lt_of_le HSL.out HW.out.size) (Nat.lt_of_lt_of_le hgl HW.out.size) (blk_apart (show ya.ownsRow base 49 6 (.slice v30 ls.length v3c) ls.length (rowsC levelL ls) from HBA.out.o4) HBA.out.sb (by decide)) (own_far HBA.out.o3 HBA.out.o4 (by decide))) (fun θ => ?_)
    try simp only [Act.put, uA, uZ, uS]
    clear hK K hHeld
    have hHeld := θ
    clear θ
    refine tK 85 (i := 11) (v := .pointer (some ⟨SB, 3, none⟩)) rfl rfl (by kernel_rfl) ?_ hHeld ?_
    ·intro w hSw; clear hSw; go_simp; try with_reducible rfl
    simp only [uZ, uS]
    refine rK 12 (by kernel_rfl) rfl (fun K hK => ?_)
    go_simp
    refine hK.out _ _ (RowHeld.put hHeld HB9.out.bl HB9.out.nb (by decide) (ne_of_lt_own HBA.out.ba hgb)) (fun θ => ?_)
    try simp only [Act.put, uA, uZ, uS]
    clear hK K hHeld
    have hHeld := θ
    clear θ
    refine wpAnyH_done (by kernel_rfl) ?_ _
    clear hHeld hf hl hc hown1 hgrow HG HBA HW HNBK HYZ
   all_goals
    have HOK : Hid (SumsOk (L ++ [((⟨hid, hal, hah, LV, LM, LH, t0, t1, u0, u1, p0, p1, q0, q1⟩ : HoldD), (⟨mA, mn, mc, mB, mm, md, mC, ml, me⟩ : HoldM))]) (fs ++ [(⟨f0, f1, f2, f3, f4, f5⟩ : FillD)]) (T ++ [((⟨kid, kal, kah, KV, KM, KH⟩ : TankD), (⟨nA, nn, nc, nB, nm, nd, nC, nl, ne⟩ : HoldM))]) (ls ++ [(⟨l0, l1, l2, l3, l4, l5⟩ : LevelD)]) (k + 1)) := zH (by
     have q := HO.out.push (by omega) ⟨(k : Int), fi, st, vs⟩ rfl ⟨mA, mn, mc, mB, mm, md, mC, ml, me⟩ ⟨nA, nn, nc, nB, nm, nd, nC, nl, ne⟩ a0 a1 a2 a3 a4
     rw [HHD.out, HTD.out, HFF.out, HLL.out] at q
     exact q)
    have HZ := zH HB9.out.zero
    clear HBU HO HB9 CF CV HLH HLT HHD HTD HFF HLL
    go_wp2_with fail
    go_roundw
    case rel => exact ⟨k + 1, _, _, _, _, _, _, _, _, by omega, by omega, by go_num, HZ, HOK⟩
    case measure => simp [intOf]; omega
  ·have hstop : (¬ (k : Int) < n) ∨ ((k : Int) < n ∧ ¬ (k : Int) < 4) := by omega
   go_upto_region 3 with fail
   go_cut [28] (fun b wx => b = .bool false ∧ wx = wr)
   case first =>
    rcases hstop with hs1 | ⟨hs1, hs2⟩
    all_goals
     go_wp2_with fail
     go_meet
     exact ⟨rfl, rfl⟩
   obtain ⟨rfl, hw⟩ := hcut
   rename World => x0
   subst hw
   clear hstop hlt
   have hL9 : L.length ≤ 9 := by have := HO.out.n1; omega
   obtain ⟨A0, c0, rfl, hAc, _, _⟩ := HI.out.o1.form
   obtain ⟨A1, c1, rfl, hBc, _, _⟩ := HI.out.o2.form
   obtain ⟨A2, c2, rfl, hCc, _, _⟩ := HI.out.o3.form
   obtain ⟨A3, c3, rfl, _, _, _⟩ := HI.out.o4.form
   have HAC := zH hAc; have HCC := zH hCc; have HBC := zH hBc
   clear hAc hCc hBc
   obtain ⟨kk, hkk⟩ : ∃ j : Nat, cut % ((L.length : Int) + 1) = (j : Int) := ⟨(cut % ((L.length : Int) + 1)).toNat, by have := Int.emod_nonneg cut (show (L.length : Int) + 1 ≠ 0 by omega); omega⟩
   have hkl : kk ≤ L.length := by have := Int.emod_lt_of_pos cut (show (0 : Int) < (L.length : Int) + 1 by omega); omega
   have CM := zH (fun W => int_to (smod_to cut ((L.length : Int) + 1) W (by omega) (by omega)) hkk)
   have hw1 : IntKind.i64.wrap ((L.length : Int) + 1) = (L.length : Int) + 1 := IntWalk.i64_in _ ⟨by omega, by omega⟩
   have s0 := HI.out.sb.cell 0
   simp at s0
   clear hkk
   go_upto_region 14 with fail
   go_upto_region 15 with (go_at_call 8; refine (CM.out _).mono ?_; rintro e x1 ⟨rfl, hb⟩; have HI1 := zH (HI.out.on hb); clear hb)
   have hf9 : fs.length ≤ 9 := by have := HO.out.n2; have := HO.out.n1; omega
   have hT9 : T.length ≤ 9 := by have := HO.out.n3; have := HO.out.n1; omega
   have hl9 : ls.length ≤ 9 := by have := HO.out.n4; have := HO.out.n1; omega
   have iH := HI1.out.o1.isIn hL9; have iF := HI1.out.o2.isIn hf9; have iT := HI1.out.o3.isIn hT9; have iV := HI1.out.o4.isIn hl9
   have jH : ∀ r ∈ L, HoldIn x1 r.1 r.2 := fun r hr => (HI1.out.tb.1 r hr).isIn (HO.out.hl r hr)
   have jT : ∀ r ∈ T, TankIn x1 r.1 r.2 := fun r hr => (HI1.out.tb.2 r hr).isIn (HO.out.tl r hr)
   have hfL : fs.length = L.length := HO.out.n2.trans HO.out.n1.symm
   have hlT : ls.length = T.length := HO.out.n4.trans HO.out.n3.symm
   have HIN := zH (And.intro iH (And.intro iF (And.intro iT (And.intro iV (And.intro jH jT)))))
   have HFL := zH (And.intro hfL hlT)
   have CL1 := zH (hLoad_ok A0 A1 A2 A3 L.length c0 fs.length c1 T.length c2 ls.length c3 L fs T ls x1 iH iF iT iV HAC.out HCC.out jH jT (load_none hL9 hT9 hfL hlT HO.out.eH HO.out.eT))
   have CL2 := zH (fun (A' : Option Addr) (e1 e2 : Nat) (B' : Option Addr) (W : World) (hW : Below x1.heap.size x1 W) (h1 : HoldsIn W A' kk (L.take kk)) (h2 : FillsIn W B' kk (fs.take kk)) (hc : kk ≤ e1) => hLoad_ok A' B' none none kk e1 kk e2 0 0 0 0 (L.take kk) (fs.take kk) [] [] W h1 h2 ⟨rfl, by simp [maxLen], .inl rfl⟩ ⟨rfl, by simp [maxLen], .inl rfl⟩ hc (Nat.le_refl _) (fun r hr => (jH r (List.mem_of_mem_take hr)).below hW) (fun r hr => by cases hr) (load_none (by rw [List.length_take]; omega) (by simp) (by simp [List.length_take, HFL.out.1]) rfl (HO.out.eTake kk) eachTank_nil))
   have CL3 := zH (fun (A' : Option Addr) (e1 e2 : Nat) (B' : Option Addr) (W : World) (hW : Below x1.heap.size x1 W) (h1 : HoldsIn W A' (L.length - kk) (L.drop kk)) (h2 : FillsIn W B' (L.length - kk) (fs.drop kk)) (hc : L.length - kk ≤ e1) => hLoad_ok A' B' none none (L.length - kk) e1 (L.length - kk) e2 0 0 0 0 (L.drop kk) (fs.drop kk) [] [] W h1 h2 ⟨rfl, by simp [maxLen], .inl rfl⟩ ⟨rfl, by simp [maxLen], .inl rfl⟩ hc (Nat.le_refl _) (fun r hr => (jH r (List.mem_of_mem_drop hr)).below hW) (fun r hr => by cases hr) (load_none (by rw [List.length_drop]; omega) (by simp) (by simp [List.length_drop, HFL.out.1]) rfl (HO.out.eDrop kk) eachTank_nil))
   have CL4 := zH (fun (W : World) (hW : Below x1.heap.size x1 W) => hLoad_ok none none A2 A3 0 0 0 0 T.length c2 ls.length c3 [] [] T ls W ⟨rfl, by simp [maxLen], .inl rfl⟩ ⟨rfl, by simp [maxLen], .inl rfl⟩ (iT.below hW) (iV.below hW) (Nat.le_refl _) HCC.out (fun r hr => by cases hr) (fun r hr => (jT r hr).below hW) (load_none (by simp) hT9 rfl hlT eachHold_nil HO.out.eT))
   clear iH iF iT iV jH jT hfL hlT s0 CM
   have s0 := HI1.out.sb.cell 0
   have s1 := HI1.out.sb.cell 1
   have s2 := HI1.out.sb.cell 2
   have s3 := HI1.out.sb.cell 3
   simp at s0 s1 s2 s3
   have HB1 := zH HI1.out.bl
   go_wp2_with (go_at_call 9; refine CL1.out.mono ?_)
   rintro e x2 ⟨va, u0, u1, g0, g1, rfl, hu, hg, hwv, hb⟩
   obtain ⟨pa, na, ca, rfl⟩ := hwv.slice
   have HU1 := zH hu; have HG1 := zH hg; have HV1 := zH hwv; have HB2 := zH hb
   clear hb hu hg hwv CL1
   go_upto_region 16 with fail
   have b1 := Blk.new x2 54 #[.slice pa na ca, .int .i64 u0, .int .i64 u1, .int .i64 g0, .int .i64 g1]
   have e1 := below_then HB2.out (below_alloc1 x2 (.cells #[.slice pa na ca, .int .i64 u0, .int .i64 u1, .int .i64 g0, .int .i64 g1] 54))
   have v1 := HV1.out.on (below_alloc1 x2 (.cells #[.slice pa na ca, .int .i64 u0, .int .i64 u1, .int .i64 g0, .int .i64 g1] 54))
   generalize x2.alloc (.cells #[.slice pa na ca, .int .i64 u0, .int .i64 u1, .int .i64 g0, .int .i64 g1] 54) = y0 at b1 e1 v1 ⊢
   obtain ⟨P1, hP1⟩ : ∃ P, x2.heap.size = P := ⟨_, rfl⟩
   rw [hP1] at b1 ⊢
   have HP1 := zH b1; have HEy0 := zH e1; have HV1 := zH v1
   have HSB1 := zH (show SB < x1.heap.size from HI1.out.sb.lt)
   have S0 : Hid (y0.cell? ⟨SB, 0, none⟩ = some (.slice A0 L.length c0)) := zH ((e1.cell (p := ⟨SB, 0, none⟩) HSB1.out).trans s0)
   have S1 : Hid (y0.cell? ⟨SB, 1, none⟩ = some (.slice A1 fs.length c1)) := zH ((e1.cell (p := ⟨SB, 1, none⟩) HSB1.out).trans s1)
   have S2 : Hid (y0.cell? ⟨SB, 2, none⟩ = some (.slice A2 T.length c2)) := zH ((e1.cell (p := ⟨SB, 2, none⟩) HSB1.out).trans s2)
   have S3 : Hid (y0.cell? ⟨SB, 3, none⟩ = some (.slice A3 ls.length c3)) := zH ((e1.cell (p := ⟨SB, 3, none⟩) HSB1.out).trans s3)
   have HSY := zH (show SB < y0.heap.size from Nat.lt_of_lt_of_le HSB1.out e1.size)
   clear hP1 b1 e1 v1 s0 s1 s2 s3
   go_cut [14, 15] (fun sP sE wx => ∃ (P2 : Nat) (pvb : Option Addr) (nvb cvb : Nat) (ub0 ub1 gb0 gb1 : Int), sP = .pointer (some ⟨P2, 0, none⟩) ∧ sE = .int .i64 0 ∧ Blk wx P2 54 #[.slice pvb nvb cvb, .int .i64 ub0, .int .i64 ub1, .int .i64 gb0, .int .i64 gb1] ∧ NWs x1.heap.size wx (.slice pvb nvb cvb) ((upTo (L.take kk) (fs.take kk) kk).1 ++ (upToT [] [] 0).1) ∧ (upToT [] [] 0).2 = (ub0, ub1) ∧ (upTo (L.take kk) (fs.take kk) kk).2 = (gb0, gb1) ∧ Below y0.heap.size y0 wx)
   case first =>
    refine wp_region_held_drew (S := fun X => Below y0.heap.size y0 X) (by kernel_rfl) ((Below.refl _ y0).drew) (fun hHeld => ?_)
    obtain ⟨yq, hW⟩ : ∃ W', y0.drew = W' := ⟨_, rfl⟩
    rw [hW] at hHeld ⊢
    clear hW
    refine tK 105 (i := 0) (v := .pointer (some ⟨SB, 0, none⟩)) rfl rfl (by kernel_rfl) ?_ hHeld ?_
    ·intro w hSw; clear hSw; go_simp; try with_reducible rfl
    simp only [uZ, uS]
    refine tK 106 (i := 1) (v := .slice A0 L.length c0) rfl rfl (by kernel_rfl) ?_ hHeld ?_
    ·intro w hSw; have z := (hSw.cell (p := ⟨SB, 0, none⟩) HSY.out).trans S0.out; clear hSw; go_simp; try with_reducible rfl
    simp only [uZ, uS]
    refine tK 107 (i := 2) (v := .int .i64 kk) rfl rfl (by kernel_rfl) ?_ hHeld ?_
    ·intro w hSw; clear hSw; go_simp; try with_reducible rfl
    simp only [uZ, uS]
    refine tK 108 (i := 3) (v := .slice A0 kk c0) rfl rfl (by kernel_rfl) ?_ hHeld ?_
    ·intro w hSw; clear hSw; go_simp; first | done | (intro hbad; exfalso; have := HAC.out; have := HBC.out; have := HFL.out.1; omega)
    simp only [uZ, uS]
    refine tK 109 (i := 4) (v := .pointer (some ⟨SB, 1, none⟩)) rfl rfl (by kernel_rfl) ?_ hHeld ?_
    ·intro w hSw; clear hSw; go_simp; try with_reducible rfl
    simp only [uZ, uS]
    refine tK 110 (i := 5) (v := .slice A1 fs.length c1) rfl rfl (by kernel_rfl) ?_ hHeld ?_
    ·intro w hSw; have z := (hSw.cell (p := ⟨SB, 1, none⟩) HSY.out).trans S1.out; clear hSw; go_simp; try with_reducible rfl
    simp only [uZ, uS]
    refine tK 111 (i := 6) (v := .int .i64 kk) rfl rfl (by kernel_rfl) ?_ hHeld ?_
    ·intro w hSw; clear hSw; go_simp; try with_reducible rfl
    simp only [uZ, uS]
    refine tK 112 (i := 7) (v := .slice A1 kk c1) rfl rfl (by kernel_rfl) ?_ hHeld ?_
    ·intro w hSw; clear hSw; go_simp; first | done | (intro hbad; exfalso; have := HAC.out; have := HBC.out; have := HFL.out.1; omega)
    simp only [uZ, uS]
    refine wpAnyH_ready (rs := [8, 12]) (by kernel_rfl) (by simp) ?_
    refine AllReadyH.cons rfl (fun K hK => ?_) (AllReadyH.cons rfl (fun K hK => ?_) AllReadyH.nil)
    go_simp
    (with_reducible refine (CL2.out A0 c0 c1 A1 _ (below_then HEy0.out hHeld) ((HIN.out.1.take' hkl).below (below_then HEy0.out hHeld)) ((HIN.out.2.1.take' (by have := HFL.out.1; omega)).below (below_then HEy0.out hHeld)) (by have := HAC.out; omega)).mono ?_)
    rintro x9 y9 ⟨vb, ub0, ub1, gb0, gb1, rfl, hu, hg, hwv, hb⟩
    obtain ⟨pvb, nvb, cvb, rfl⟩ := hwv.slice
    have HUP2 := zH hu; have HGP2 := zH hg; have HVP2 := zH (hwv.mono (show x1.heap.size ≤ _ from Nat.le_trans HEy0.out.size hHeld.size))
    refine hK.out _ _ (below_then hHeld hb) (fun θ => ?_)
    clear hb hu hg hwv
    try simp only [Act.put, uA, uZ, uS]
    clear hK K hHeld
    have hHeld := θ
    clear θ
    refine tK 104 (i := 9) (v := .tuple #[.agg #[.slice pvb nvb cvb, .int .i64 ub0, .int .i64 ub1, .int .i64 gb0, .int .i64 gb1], .int .i64 0]) rfl rfl (by kernel_rfl) ?_ hHeld ?_
    ·intro w hSw; clear hSw; go_simp; try with_reducible rfl
    simp only [uZ, uS]
    refine tK 114 (i := 10) (v := .agg #[.slice pvb nvb cvb, .int .i64 ub0, .int .i64 ub1, .int .i64 gb0, .int .i64 gb1]) rfl rfl (by kernel_rfl) ?_ hHeld ?_
    ·intro w hSw; clear hSw; go_simp; try with_reducible rfl
    simp only [uZ, uS]
    refine tK 115 (i := 11) (v := .int .i64 0) rfl rfl (by kernel_rfl) ?_ hHeld ?_
    ·intro w hSw; clear hSw; go_simp; try with_reducible rfl
    simp only [uZ, uS]
    refine rK 12 (by kernel_rfl) rfl (fun K hK => ?_)
    rename World => yz
    go_simp
    have hbz := below_alloc1 yz (.cells #[.slice none 0 0, .int .i64 0, .int .i64 0, .int .i64 0, .int .i64 0] 54)
    have HPB := zH (Blk.new yz 54 #[.slice none 0 0, .int .i64 0, .int .i64 0, .int .i64 0, .int .i64 0])
    have HPY := zH (show y0.heap.size ≤ yz.heap.size from hHeld.size)
    have HVP22 := zH (HVP2.out.on hbz)
    refine hK.out _ _ (below_then hHeld hbz) (fun θ => ?_)
    clear hbz HVP2
    have HVP2 := HVP22
    clear HVP22
    try simp only [Act.put, uA, uZ, uS]
    clear hK K hHeld
    have hHeld := θ
    clear θ
    obtain ⟨ya, hW⟩ : ∃ W', yz.alloc (.cells #[.slice none 0 0, .int .i64 0, .int .i64 0, .int .i64 0, .int .i64 0] 54) = W' := ⟨_, rfl⟩
    obtain ⟨P2, hP⟩ : ∃ b, yz.heap.size = b := ⟨_, rfl⟩
    rw [hW, hP] at HPB
    rw [hP] at HPY
    rw [hW] at hHeld HVP2
    rw [hW, hP]
    clear hW hP
    obtain ⟨yy, hW⟩ : ∃ W', ya = W' := ⟨_, rfl⟩
    rw [hW] at HPB hHeld HVP2 ⊢
    clear hW
    rotate_left
    rename World => yz
    go_simp
    have hbz := below_alloc1 yz (.cells #[.slice none 0 0, .int .i64 0, .int .i64 0, .int .i64 0, .int .i64 0] 54)
    have HPB := zH (Blk.new yz 54 #[.slice none 0 0, .int .i64 0, .int .i64 0, .int .i64 0, .int .i64 0])
    have HPY := zH (show y0.heap.size ≤ yz.heap.size from hHeld.size)
    refine hK.out _ _ (below_then hHeld hbz) (fun θ => ?_)
    clear hbz
    try simp only [Act.put, uA, uZ, uS]
    clear hK K hHeld
    have hHeld := θ
    clear θ
    obtain ⟨ya, hW⟩ : ∃ W', yz.alloc (.cells #[.slice none 0 0, .int .i64 0, .int .i64 0, .int .i64 0, .int .i64 0] 54) = W' := ⟨_, rfl⟩
    obtain ⟨P2, hP⟩ : ∃ b, yz.heap.size = b := ⟨_, rfl⟩
    rw [hW, hP] at HPB
    rw [hP] at HPY
    rw [hW] at hHeld
    rw [hW, hP]
    clear hW hP
    refine rK 8 (by kernel_rfl) rfl (fun K hK => ?_)
    go_simp
    (with_reducible refine (CL2.out A0 c0 c1 A1 _ (below_then HEy0.out hHeld) ((HIN.out.1.take' hkl).below (below_then HEy0.out hHeld)) ((HIN.out.2.1.take' (by have := HFL.out.1; omega)).below (below_then HEy0.out hHeld)) (by have := HAC.out; omega)).mono ?_)
    rintro x9 y9 ⟨vb, ub0, ub1, gb0, gb1, rfl, hu, hg, hwv, hb⟩
    obtain ⟨pvb, nvb, cvb, rfl⟩ := hwv.slice
    have HUP2 := zH hu; have HGP2 := zH hg; have HVP2 := zH (hwv.mono (show x1.heap.size ≤ _ from Nat.le_trans HEy0.out.size hHeld.size))
    have HPB2 := zH (blkOn HPB.out hb)
    refine hK.out _ _ (below_then hHeld hb) (fun θ => ?_)
    clear hb hu hg hwv HPB
    have HPB := HPB2
    clear HPB2
    try simp only [Act.put, uA, uZ, uS]
    clear hK K hHeld
    have hHeld := θ
    clear θ
    refine tK 104 (i := 9) (v := .tuple #[.agg #[.slice pvb nvb cvb, .int .i64 ub0, .int .i64 ub1, .int .i64 gb0, .int .i64 gb1], .int .i64 0]) rfl rfl (by kernel_rfl) ?_ hHeld ?_
    ·intro w hSw; clear hSw; go_simp; try with_reducible rfl
    simp only [uZ, uS]
    refine tK 114 (i := 10) (v := .agg #[.slice pvb nvb cvb, .int .i64 ub0, .int .i64 ub1, .int .i64 gb0, .int .i64 gb1]) rfl rfl (by kernel_rfl) ?_ hHeld ?_
    ·intro w hSw; clear hSw; go_simp; try with_reducible rfl
    simp only [uZ, uS]
    refine tK 115 (i := 11) (v := .int .i64 0) rfl rfl (by kernel_rfl) ?_ hHeld ?_
    ·intro w hSw; clear hSw; go_simp; try with_reducible rfl
    simp only [uZ, uS]
    obtain ⟨yy, hW⟩ : ∃ W', y9 = W' := ⟨_, rfl⟩
    rw [hW] at HPB hHeld HVP2 ⊢
    clear hW
    rotate_left
    all_goals
     have i0 := HPB.out.cell 0; have i1 := HPB.out.cell 1; have i2 := HPB.out.cell 2; have i3 := HPB.out.cell 3; have i4 := HPB.out.cell 4
     simp at i0 i1 i2 i3 i4
     have j0 := HPB.out.frozen 0; have j1 := HPB.out.frozen 1; have j2 := HPB.out.frozen 2; have j3 := HPB.out.frozen 3; have j4 := HPB.out.frozen 4
     have k0 := HPB.out.set_ 0 (.slice pvb nvb cvb)
     have k1 := k0.set_ 1 (.int .i64 ub0)
     have k2 := k1.set_ 2 (.int .i64 ub1)
     have k3 := k2.set_ 3 (.int .i64 gb0)
     have k4 := k3.set_ 4 (.int .i64 gb1)
     have HK9 := zH (show Blk _ P2 54 #[.slice pvb nvb cvb, .int .i64 ub0, .int .i64 ub1, .int .i64 gb0, .int .i64 gb1] from by simpa using k4)
     have HV9 := zH (((((HVP2.out.aside HPB.out (by decide) (i := 0) (.slice pvb nvb cvb)).aside k0 (by decide) (i := 1) (.int .i64 ub0)).aside k1 (by decide) (i := 2) (.int .i64 ub1)).aside k2 (by decide) (i := 3) (.int .i64 gb0)).aside k3 (by decide) (i := 4) (.int .i64 gb1))
     have hB9 := ((((hHeld.setCell (p := ⟨P2, 0, none⟩) HPY.out (.slice pvb nvb cvb)).setCell (p := ⟨P2, 1, none⟩) HPY.out (.int .i64 ub0)).setCell (p := ⟨P2, 2, none⟩) HPY.out (.int .i64 ub1)).setCell (p := ⟨P2, 3, none⟩) HPY.out (.int .i64 gb0)).setCell (p := ⟨P2, 4, none⟩) HPY.out (.int .i64 gb1)
     refine rK 13 (by kernel_rfl) rfl (fun K hK => ?_)
     go_simp
     refine hK.out _ _ hB9 (fun θ => ?_)
     clear i0 i1 i2 i3 i4 j0 j1 j2 j3 j4 k0 k1 k2 k3 k4 HPB hB9
     try simp only [Act.put, uA, uZ, uS]
     clear hK K hHeld
     have hHeld := θ
     clear θ
     refine tK 15 (i := 14) (v := .int .i64 0) rfl rfl (by kernel_rfl) ?_ hHeld ?_
     ·intro w hSw; clear hSw; go_simp; try with_reducible rfl
     simp only [uZ, uS]
     refine wpAnyH_done (by kernel_rfl) ?_ _
     go_wp2_with fail
     go_meet
     exact ⟨P2, pvb, nvb, cvb, ub0, ub1, gb0, gb1, rfl, rfl, HK9.out, HV9.out, HUP2.out, HGP2.out, hHeld⟩
   obtain ⟨P2, pvb, nvb, cvb, ub0, ub1, gb0, gb1, rfl, rfl, hbk, hnw, hu, hg, hbl⟩ := hcut
   rename World => y1
   have HP2 := zH hbk; have HVP2 := zH hnw; have HUP2 := zH hu; have HGP2 := zH hg
   have HEy1 := zH (below_then HEy0.out hbl)
   have HSY2 := zH (Nat.lt_of_lt_of_le HSY.out hbl.size)
   have S0b := zH ((hbl.cell (p := ⟨SB, 0, none⟩) HSY.out).trans S0.out)
   have S1b := zH ((hbl.cell (p := ⟨SB, 1, none⟩) HSY.out).trans S1.out)
   have S2b := zH ((hbl.cell (p := ⟨SB, 2, none⟩) HSY.out).trans S2.out)
   have S3b := zH ((hbl.cell (p := ⟨SB, 3, none⟩) HSY.out).trans S3.out)
   have HP1b := zH (blkOn HP1.out hbl); have HV1b := zH (HV1.out.on hbl)
   clear HSY S0 S1 S2 S3 hbk hnw hu hg hbl HP1 HV1
   have HSY := HSY2; have S0 := S0b; have S1 := S1b; have S2 := S2b; have S3 := S3b
   have HP1 := HP1b; have HV1 := HV1b
   clear HSY2 S0b S1b S2b S3b HP1b HV1b
   go_upto_region 17 with fail
   obtain ⟨A0', hA0'⟩ : ∃ A', (if c0 = kk then A0 else Option.map (fun x => x.add (kk * 14)) A0) = A' := ⟨_, rfl⟩
   obtain ⟨A1', hA1'⟩ : ∃ A', (if c1 = kk then A1 else Option.map (fun x => x.add (kk * 6)) A1) = A' := ⟨_, rfl⟩
   have hHD := HoldsIn_drop HI1.out.o1 hkl hL9
   rw [hA0'] at hHD
   have hFD := FillsIn_drop HI1.out.o2 (show kk ≤ fs.length by have := HFL.out.1; omega) hf9
   rw [hA1', HFL.out.1] at hFD
   have HHD := zH hHD; have HFD := zH hFD
   clear hHD hFD
   go_cut [16, 17] (fun sP sE wx => ∃ (P3 : Nat) (pvc : Option Addr) (nvc cvc : Nat) (uc0 uc1 gc0 gc1 : Int), sP = .pointer (some ⟨P3, 0, none⟩) ∧ sE = .int .i64 0 ∧ Blk wx P3 54 #[.slice pvc nvc cvc, .int .i64 uc0, .int .i64 uc1, .int .i64 gc0, .int .i64 gc1] ∧ NWs x1.heap.size wx (.slice pvc nvc cvc) ((upTo (L.drop kk) (fs.drop kk) (L.length - kk)).1 ++ (upToT [] [] 0).1) ∧ (upToT [] [] 0).2 = (uc0, uc1) ∧ (upTo (L.drop kk) (fs.drop kk) (L.length - kk)).2 = (gc0, gc1) ∧ Below y1.heap.size y1 wx)
   case first =>
    refine wp_region_held_drew (S := fun X => Below y1.heap.size y1 X) (by kernel_rfl) ((Below.refl _ y1).drew) (fun hHeld => ?_)
    obtain ⟨yq, hW⟩ : ∃ W', y1.drew = W' := ⟨_, rfl⟩
    rw [hW] at hHeld ⊢
    clear hW
    refine tK 117 (i := 0) (v := .pointer (some ⟨SB, 0, none⟩)) rfl rfl (by kernel_rfl) ?_ hHeld ?_
    ·intro w hSw; clear hSw; go_simp; try with_reducible rfl
    simp only [uZ, uS]
    refine tK 118 (i := 1) (v := .slice A0 L.length c0) rfl rfl (by kernel_rfl) ?_ hHeld ?_
    ·intro w hSw; have z := (hSw.cell (p := ⟨SB, 0, none⟩) HSY.out).trans S0.out; clear hSw; go_simp; try with_reducible rfl
    simp only [uZ, uS]
    refine tK 119 (i := 2) (v := .int .i64 kk) rfl rfl (by kernel_rfl) ?_ hHeld ?_
    ·intro w hSw; clear hSw; go_simp; try with_reducible rfl
    simp only [uZ, uS]
    refine tK 120 (i := 3) (v := (.slice A0' (L.length - kk) (c0 - kk))) rfl rfl (by kernel_rfl) ?_ hHeld ?_
    ·intro w hSw; clear hSw; go_simp; first | done | (rw [if_pos (by omega)])
    simp only [uZ, uS]
    refine tK 121 (i := 4) (v := .pointer (some ⟨SB, 1, none⟩)) rfl rfl (by kernel_rfl) ?_ hHeld ?_
    ·intro w hSw; clear hSw; go_simp; try with_reducible rfl
    simp only [uZ, uS]
    refine tK 122 (i := 5) (v := .slice A1 fs.length c1) rfl rfl (by kernel_rfl) ?_ hHeld ?_
    ·intro w hSw; have z := (hSw.cell (p := ⟨SB, 1, none⟩) HSY.out).trans S1.out; clear hSw; go_simp; try with_reducible rfl
    simp only [uZ, uS]
    refine tK 123 (i := 6) (v := .int .i64 kk) rfl rfl (by kernel_rfl) ?_ hHeld ?_
    ·intro w hSw; clear hSw; go_simp; try with_reducible rfl
    simp only [uZ, uS]
    refine tK 124 (i := 7) (v := (.slice A1' (L.length - kk) (c1 - kk))) rfl rfl (by kernel_rfl) ?_ hHeld ?_
    ·intro w hSw; clear hSw; go_simp; first | done | (rw [if_pos (by have := HFL.out.1; omega), HFL.out.1]; done) | (rw [if_pos (by have := HFL.out.1; omega), HFL.out.1])
    simp only [uZ, uS]
    refine wpAnyH_ready (rs := [8, 12]) (by kernel_rfl) (by simp) ?_
    refine AllReadyH.cons rfl (fun K hK => ?_) (AllReadyH.cons rfl (fun K hK => ?_) AllReadyH.nil)
    go_simp
    (with_reducible refine (CL3.out A0' (c0 - kk) (c1 - kk) A1' _ (below_then HEy1.out hHeld) (HHD.out.below (below_then HEy1.out hHeld)) (HFD.out.below (below_then HEy1.out hHeld)) (by have := HAC.out; omega)).mono ?_)
    rintro x9 y9 ⟨vc, uc0, uc1, gc0, gc1, rfl, hu, hg, hwv, hb⟩
    obtain ⟨pvc, nvc, cvc, rfl⟩ := hwv.slice
    have HUP3 := zH hu; have HGP3 := zH hg; have HVP3 := zH (hwv.mono (show x1.heap.size ≤ _ from Nat.le_trans HEy1.out.size hHeld.size))
    refine hK.out _ _ (below_then hHeld hb) (fun θ => ?_)
    clear hb hu hg hwv
    try simp only [Act.put, uA, uZ, uS]
    clear hK K hHeld
    have hHeld := θ
    clear θ
    refine tK 116 (i := 9) (v := .tuple #[.agg #[.slice pvc nvc cvc, .int .i64 uc0, .int .i64 uc1, .int .i64 gc0, .int .i64 gc1], .int .i64 0]) rfl rfl (by kernel_rfl) ?_ hHeld ?_
    ·intro w hSw; clear hSw; go_simp; try with_reducible rfl
    simp only [uZ, uS]
    refine tK 126 (i := 10) (v := .agg #[.slice pvc nvc cvc, .int .i64 uc0, .int .i64 uc1, .int .i64 gc0, .int .i64 gc1]) rfl rfl (by kernel_rfl) ?_ hHeld ?_
    ·intro w hSw; clear hSw; go_simp; try with_reducible rfl
    simp only [uZ, uS]
    refine tK 127 (i := 11) (v := .int .i64 0) rfl rfl (by kernel_rfl) ?_ hHeld ?_
    ·intro w hSw; clear hSw; go_simp; try with_reducible rfl
    simp only [uZ, uS]
    refine rK 12 (by kernel_rfl) rfl (fun K hK => ?_)
    rename World => yz
    go_simp
    have hbz := below_alloc1 yz (.cells #[.slice none 0 0, .int .i64 0, .int .i64 0, .int .i64 0, .int .i64 0] 54)
    have HPB := zH (Blk.new yz 54 #[.slice none 0 0, .int .i64 0, .int .i64 0, .int .i64 0, .int .i64 0])
    have HPY := zH (show y1.heap.size ≤ yz.heap.size from hHeld.size)
    have HVP32 := zH (HVP3.out.on hbz)
    refine hK.out _ _ (below_then hHeld hbz) (fun θ => ?_)
    clear hbz HVP3
    have HVP3 := HVP32
    clear HVP32
    try simp only [Act.put, uA, uZ, uS]
    clear hK K hHeld
    have hHeld := θ
    clear θ
    obtain ⟨ya, hW⟩ : ∃ W', yz.alloc (.cells #[.slice none 0 0, .int .i64 0, .int .i64 0, .int .i64 0, .int .i64 0] 54) = W' := ⟨_, rfl⟩
    obtain ⟨P3, hP⟩ : ∃ b, yz.heap.size = b := ⟨_, rfl⟩
    rw [hW, hP] at HPB
    rw [hP] at HPY
    rw [hW] at hHeld HVP3
    rw [hW, hP]
    clear hW hP
    obtain ⟨yy, hW⟩ : ∃ W', ya = W' := ⟨_, rfl⟩
    rw [hW] at HPB hHeld HVP3 ⊢
    clear hW
    rotate_left
    rename World => yz
    go_simp
    have hbz := below_alloc1 yz (.cells #[.slice none 0 0, .int .i64 0, .int .i64 0, .int .i64 0, .int .i64 0] 54)
    have HPB := zH (Blk.new yz 54 #[.slice none 0 0, .int .i64 0, .int .i64 0, .int .i64 0, .int .i64 0])
    have HPY := zH (show y1.heap.size ≤ yz.heap.size from hHeld.size)
    refine hK.out _ _ (below_then hHeld hbz) (fun θ => ?_)
    clear hbz
    try simp only [Act.put, uA, uZ, uS]
    clear hK K hHeld
    have hHeld := θ
    clear θ
    obtain ⟨ya, hW⟩ : ∃ W', yz.alloc (.cells #[.slice none 0 0, .int .i64 0, .int .i64 0, .int .i64 0, .int .i64 0] 54) = W' := ⟨_, rfl⟩
    obtain ⟨P3, hP⟩ : ∃ b, yz.heap.size = b := ⟨_, rfl⟩
    rw [hW, hP] at HPB
    rw [hP] at HPY
    rw [hW] at hHeld
    rw [hW, hP]
    clear hW hP
    refine rK 8 (by kernel_rfl) rfl (fun K hK => ?_)
    go_simp
    (with_reducible refine (CL3.out A0' (c0 - kk) (c1 - kk) A1' _ (below_then HEy1.out hHeld) (HHD.out.below (below_then HEy1.out hHeld)) (HFD.out.below (below_then HEy1.out hHeld)) (by have := HAC.out; omega)).mono ?_)
    rintro x9 y9 ⟨vc, uc0, uc1, gc0, gc1, rfl, hu, hg, hwv, hb⟩
    obtain ⟨pvc, nvc, cvc, rfl⟩ := hwv.slice
    have HUP3 := zH hu; have HGP3 := zH hg; have HVP3 := zH (hwv.mono (show x1.heap.size ≤ _ from Nat.le_trans HEy1.out.size hHeld.size))
    have HPB2 := zH (blkOn HPB.out hb)
    refine hK.out _ _ (below_then hHeld hb) (fun θ => ?_)
    clear hb hu hg hwv HPB
    have HPB := HPB2
    clear HPB2
    try simp only [Act.put, uA, uZ, uS]
    clear hK K hHeld
    have hHeld := θ
    clear θ
    refine tK 116 (i := 9) (v := .tuple #[.agg #[.slice pvc nvc cvc, .int .i64 uc0, .int .i64 uc1, .int .i64 gc0, .int .i64 gc1], .int .i64 0]) rfl rfl (by kernel_rfl) ?_ hHeld ?_
    ·intro w hSw; clear hSw; go_simp; try with_reducible rfl
    simp only [uZ, uS]
    refine tK 126 (i := 10) (v := .agg #[.slice pvc nvc cvc, .int .i64 uc0, .int .i64 uc1, .int .i64 gc0, .int .i64 gc1]) rfl rfl (by kernel_rfl) ?_ hHeld ?_
    ·intro w hSw; clear hSw; go_simp; try with_reducible rfl
    simp only [uZ, uS]
    refine tK 127 (i := 11) (v := .int .i64 0) rfl rfl (by kernel_rfl) ?_ hHeld ?_
    ·intro w hSw; clear hSw; go_simp; try with_reducible rfl
    simp only [uZ, uS]
    obtain ⟨yy, hW⟩ : ∃ W', y9 = W' := ⟨_, rfl⟩
    rw [hW] at HPB hHeld HVP3 ⊢
    clear hW
    rotate_left
    all_goals
     have i0 := HPB.out.cell 0; have i1 := HPB.out.cell 1; have i2 := HPB.out.cell 2; have i3 := HPB.out.cell 3; have i4 := HPB.out.cell 4
     simp at i0 i1 i2 i3 i4
     have j0 := HPB.out.frozen 0; have j1 := HPB.out.frozen 1; have j2 := HPB.out.frozen 2; have j3 := HPB.out.frozen 3; have j4 := HPB.out.frozen 4
     have k0 := HPB.out.set_ 0 (.slice pvc nvc cvc)
     have k1 := k0.set_ 1 (.int .i64 uc0)
     have k2 := k1.set_ 2 (.int .i64 uc1)
     have k3 := k2.set_ 3 (.int .i64 gc0)
     have k4 := k3.set_ 4 (.int .i64 gc1)
     have HK9 := zH (show Blk _ P3 54 #[.slice pvc nvc cvc, .int .i64 uc0, .int .i64 uc1, .int .i64 gc0, .int .i64 gc1] from by simpa using k4)
     have HV9 := zH (((((HVP3.out.aside HPB.out (by decide) (i := 0) (.slice pvc nvc cvc)).aside k0 (by decide) (i := 1) (.int .i64 uc0)).aside k1 (by decide) (i := 2) (.int .i64 uc1)).aside k2 (by decide) (i := 3) (.int .i64 gc0)).aside k3 (by decide) (i := 4) (.int .i64 gc1))
     have hB9 := ((((hHeld.setCell (p := ⟨P3, 0, none⟩) HPY.out (.slice pvc nvc cvc)).setCell (p := ⟨P3, 1, none⟩) HPY.out (.int .i64 uc0)).setCell (p := ⟨P3, 2, none⟩) HPY.out (.int .i64 uc1)).setCell (p := ⟨P3, 3, none⟩) HPY.out (.int .i64 gc0)).setCell (p := ⟨P3, 4, none⟩) HPY.out (.int .i64 gc1)
     refine rK 13 (by kernel_rfl) rfl (fun K hK => ?_)
     go_simp
     refine hK.out _ _ hB9 (fun θ => ?_)
     clear i0 i1 i2 i3 i4 j0 j1 j2 j3 j4 k0 k1 k2 k3 k4 HPB hB9
     try simp only [Act.put, uA, uZ, uS]
     clear hK K hHeld
     have hHeld := θ
     clear θ
     refine tK 17 (i := 14) (v := .int .i64 0) rfl rfl (by kernel_rfl) ?_ hHeld ?_
     ·intro w hSw; clear hSw; go_simp; try with_reducible rfl
     simp only [uZ, uS]
     refine wpAnyH_done (by kernel_rfl) ?_ _
     go_wp2_with fail
     go_meet
     exact ⟨P3, pvc, nvc, cvc, uc0, uc1, gc0, gc1, rfl, rfl, HK9.out, HV9.out, HUP3.out, HGP3.out, hHeld⟩
   obtain ⟨P3, pvc, nvc, cvc, uc0, uc1, gc0, gc1, rfl, rfl, hbk, hnw, hu, hg, hbl⟩ := hcut
   rename World => y2
   have HP3 := zH hbk; have HVP3 := zH hnw; have HUP3 := zH hu; have HGP3 := zH hg
   have HEy2 := zH (below_then HEy1.out hbl)
   have HSY2 := zH (Nat.lt_of_lt_of_le HSY.out hbl.size)
   have S0b := zH ((hbl.cell (p := ⟨SB, 0, none⟩) HSY.out).trans S0.out)
   have S1b := zH ((hbl.cell (p := ⟨SB, 1, none⟩) HSY.out).trans S1.out)
   have S2b := zH ((hbl.cell (p := ⟨SB, 2, none⟩) HSY.out).trans S2.out)
   have S3b := zH ((hbl.cell (p := ⟨SB, 3, none⟩) HSY.out).trans S3.out)
   have HP1b := zH (blkOn HP1.out hbl); have HV1b := zH (HV1.out.on hbl)
   have HP2b := zH (blkOn HP2.out hbl); have HVP2b := zH (HVP2.out.on hbl)
   clear HSY S0 S1 S2 S3 hbk hnw hu hg hbl HP1 HV1 HP2 HVP2
   have HSY := HSY2; have S0 := S0b; have S1 := S1b; have S2 := S2b; have S3 := S3b
   have HP1 := HP1b; have HV1 := HV1b
   have HP2 := HP2b; have HVP2 := HVP2b
   clear HSY2 S0b S1b S2b S3b HP1b HV1b HP2b HVP2b
   have s2 := S2.out; have s3 := S3.out
   go_wp2_with (go_at_call 9; refine (CL4.out _ HEy2.out).mono ?_)
   rintro e x4 ⟨vd, ud0, ud1, gd0, gd1, rfl, hu, hg, hwv, hb⟩
   obtain ⟨pvd, nvd, cvd, rfl⟩ := hwv.slice
   have HUP4 := zH hu; have HGP4 := zH hg
   have HE4 := zH (below_then HEy2.out hb)
   have HV1b := zH (HV1.out.on hb); have HVP2b := zH (HVP2.out.on hb); have HVP3b := zH (HVP3.out.on hb)
   have HP1b := zH (blkOn HP1.out hb); have HP2b := zH (blkOn HP2.out hb); have HP3b := zH (blkOn HP3.out hb)
   have HVP4 := zH (hwv.mono HEy2.out.size)
   clear hb hu hg hwv s2 s3 S0 S1 S2 S3 HSY HV1 HVP2 HVP3 HP1 HP2 HP3 CL4 CL2 CL3 HHD HFD
   go_upto_region 22 with fail
   have b4 := Blk.new x4 54 #[.slice pvd nvd cvd, .int .i64 ud0, .int .i64 ud1, .int .i64 gd0, .int .i64 gd1]
   have z4 := below_alloc1 x4 (.cells #[.slice pvd nvd cvd, .int .i64 ud0, .int .i64 ud1, .int .i64 gd0, .int .i64 gd1] 54)
   have HV1 := zH (HV1b.out.on z4); have HVP2 := zH (HVP2b.out.on z4); have HVP3 := zH (HVP3b.out.on z4); have HVP4b := zH (HVP4.out.on z4)
   have HP1 := zH (blkOn HP1b.out z4); have HP2 := zH (blkOn HP2b.out z4); have HP3 := zH (blkOn HP3b.out z4)
   have e4 := below_then HE4.out z4
   clear HV1b HVP2b HVP3b HP1b HP2b HP3b z4 HVP4 HE4
   generalize x4.alloc (.cells #[.slice pvd nvd cvd, .int .i64 ud0, .int .i64 ud1, .int .i64 gd0, .int .i64 gd1] 54) = y4 at b4 e4 HV1 HVP2 HVP3 HVP4b HP1 HP2 HP3 ⊢
   obtain ⟨P4, hP4⟩ : ∃ P, x4.heap.size = P := ⟨_, rfl⟩
   rw [hP4] at b4 ⊢
   have HP4 := zH b4; have HEy4 := zH e4; have HVP4 := HVP4b
   clear hP4 b4 e4 HVP4b
   obtain ⟨rfl, rfl⟩ : ub0 = 0 ∧ ub1 = 0 := by have q := HUP2.out; simp [upToT] at q; exact ⟨q.1.symm, q.2.symm⟩
   obtain ⟨rfl, rfl⟩ : gd0 = 0 ∧ gd1 = 0 := by have q := HGP4.out; simp [upTo] at q; exact ⟨q.1.symm, q.2.symm⟩
   obtain ⟨rfl, rfl⟩ : ud0 = u0 ∧ ud1 = u1 := by have q := HUP4.out.symm.trans HU1.out; injection q with q1 q2; exact ⟨q1, q2⟩
   obtain ⟨hs0, hs1, hs2, hs3, hWW⟩ := HO.out.parts (T := T) (ls := ls) (by have := HO.out.n1; omega) hkl HG1.out HGP2.out HGP3.out
   have hsw0 : IntKind.i64.wrap (gb0 + gc0) = g0 := by rw [← hs0]; exact hs2
   have hsw1 : IntKind.i64.wrap (gb1 + gc1) = g1 := by rw [← hs1]; exact hs3
   have HWW := zH hWW
   have hn9 : ∀ j, (upTo (L.take kk) (fs.take kk) j).1.length ≤ j := upTo_len _ _
   have hm9 : ∀ j, (upTo (L.drop kk) (fs.drop kk) j).1.length ≤ j := upTo_len _ _
   have ha9 : (upTo L fs L.length).1.length ≤ L.length := upTo_len _ _ _
   have hb9 : (upToT T ls T.length).1.length ≤ T.length := upToT_len _ _ _
   have hA2 : ((upTo (L.take kk) (fs.take kk) kk).1 ++ (upToT [] [] 0).1).length ≤ 9 := by have := hn9 kk; simp [upToT]; omega
   have hA3 : ((upTo (L.drop kk) (fs.drop kk) (L.length - kk)).1 ++ (upToT [] [] 0).1).length ≤ 9 := by have := hm9 (L.length - kk); simp [upToT]; omega
   have hA4 : ((upTo [] [] 0).1 ++ (upToT T ls T.length).1).length ≤ 9 := by simp [upTo]; omega
   have hA1 : ((upTo L fs L.length).1 ++ (upToT T ls T.length).1).length ≤ 40 := by simp; omega
   have HNUM := zH (And.intro hA1 (And.intro hA2 (And.intro hA3 hA4)))
   clear hs0 hs1 hs2 hs3 hWW hn9 hm9 ha9 hb9 hA1 hA2 hA3 hA4 HUP2 HUP3 HUP4 HGP2 HGP3 HGP4 HU1 HG1
   generalize ((upTo (L.take kk) (fs.take kk) kk).1 ++ (upToT [] [] 0).1) = Wb at HNUM HWW HVP2
   generalize ((upTo (L.drop kk) (fs.drop kk) (L.length - kk)).1 ++ (upToT [] [] 0).1) = Wc at HNUM HWW HVP3
   generalize ((upTo [] [] 0).1 ++ (upToT T ls T.length).1) = Wd at HNUM HWW HVP4
   generalize ((upTo L fs L.length).1 ++ (upToT T ls T.length).1) = Wa at HNUM HWW HV1
   have p2 := HP2.out.cell 0
   simp at p2
   go_wp2_with (at_builtin; refine wpList_append_ws rfl (.tmp 150) (.tmp 152) rfl rfl y4.heap.size x1.heap.size _ _ [] Wb rfl (NWs.nil _ _) rfl HVP2.out (by have := HNUM.out.2.1; simp; omega) (Nat.le_refl _) ?_)
   intro v5 w5 hn5 hg5
   try rw [List.nil_append] at hn5
   obtain ⟨p5, n5, c5, rfl⟩ := hn5.slice
   have HN5 := zH hn5
   have HB5 := zH ((Below.refl y4.heap.size y4).grown hg5 (Nat.le_refl _) (fun q hq => by cases hq))
   have HVP3c := zH (HVP3.out.on HB5.out)
   have p3 : w5.cell? ⟨P3, 0, none⟩ = some (.slice pvc nvc cvc) := (blkOn HP3.out HB5.out).cell 0
   clear hn5 hg5 p2 HVP3 HVP2
   go_wp2_with (at_builtin; refine wpList_append_ws rfl (.tmp 154) (.tmp 156) rfl rfl y4.heap.size x1.heap.size _ _ Wb Wc rfl HN5.out rfl HVP3c.out (by have := HNUM.out.2.1; have := HNUM.out.2.2.1; omega) HB5.out.size ?_)
   intro v6 w6 hn6 hg6
   obtain ⟨p6, n6, c6, rfl⟩ := hn6.slice
   have HN6 := zH hn6
   have HB6 := zH (HB5.out.grown hg6 HB5.out.size (fun q hq => (HN5.out.1.lt q hq).1))
   have HVP4c := zH (HVP4.out.on HB6.out)
   have p4 : w6.cell? ⟨P4, 0, none⟩ = some (.slice pvd nvd cvd) := (blkOn HP4.out HB6.out).cell 0
   clear hn6 hg6 p3 HVP3c HVP4 HN5 HB5
   go_wp2_with (at_builtin; refine wpList_append_ws rfl (.tmp 158) (.tmp 160) rfl rfl y4.heap.size x1.heap.size _ _ (Wb ++ Wc) Wd rfl HN6.out rfl HVP4c.out (by have := HNUM.out.2.1; have := HNUM.out.2.2.1; have := HNUM.out.2.2.2; rw [List.length_append]; omega) HB6.out.size ?_)
   intro v7 w7 hn7 hg7
   obtain ⟨p7, n7, c7, rfl⟩ := hn7.slice
   rw [← List.append_assoc, ← HWW.out] at hn7
   have HB7 := zH (HB6.out.grown hg7 HB6.out.size (fun q hq => (HN6.out.1.lt q hq).1))
   have HV7 := HV1.out.on HB7.out
   have HSW := zH (sameWeights_any (.slice pa na ca) (.slice p7 n7 c7) Wa w7 HNUM.out.1 HV7.1.sl hn7.1.sl HV7.2 hn7.2)
   have r1 := blkOn HP1.out HB7.out; have r2 := blkOn HP2.out HB7.out; have r3 := blkOn HP3.out HB7.out; have r4 := blkOn HP4.out HB7.out
   have HRR := zH (And.intro r1 (And.intro r2 (And.intro r3 r4)))
   have k0 : w7.cell? ⟨P1, 0, none⟩ = some (.slice pa na ca) := r1.cell 0
   clear hn7 hg7 p4 HVP4c HN6 HB6 HV7 HP1 HP2 HP3 HP4 HWW HNUM HV1 r1 r2 r3 r4
   have HBW := zH (below_then HB1.out (below_then HEy4.out HB7.out))
   clear HB7 HEy4
   go_wp2_with (first
    | (go_at_call 10; refine HSW.out.mono ?_)
    | fail)
   rintro e w8 ⟨rfl, hb⟩
   have HB8 := zH (below_then HBW.out hb)
   obtain ⟨r1, r2, r3, r4⟩ := HRR.out
   replace r1 := blkOn r1 hb; replace r2 := blkOn r2 hb; replace r3 := blkOn r3 hb; replace r4 := blkOn r4 hb
   have m1 := r1.cell 1; have m2 := r1.cell 2; have m3 := r1.cell 3; have m4 := r1.cell 4
   have o1 := r2.cell 1; have o2 := r2.cell 2; have o3 := r2.cell 3; have o4 := r2.cell 4
   have q3 := r3.cell 3; have q4 := r3.cell 4
   have d1 := r4.cell 1; have d2 := r4.cell 2; have d3 := r4.cell 3; have d4 := r4.cell 4
   simp at m1 m2 m3 m4 o1 o2 o3 o4 q3 q4 d1 d2 d3 d4
   clear hb r1 r2 r3 r4 HRR HSW HBW k0
   go_wp2_with (go_at_call 11; refine (msane_any _).mono ?_; rintro e w9 ⟨rfl, hb⟩; have HB9 := zH (below_then HB8.out hb); clear hb)
   refine bodyPost_ret (v := .bool true) (by simp [results, Tryz.results3, go_sem]) rfl ⟨rfl, HB9.out⟩
end

section
open Go.ChangeShapes Go.WideShapes Go.ChangeAt Go.RowKit Go.Joins Go.Deep

theorem Tryz.cellsFiveN : Tryz.prog.cellsOf 33 = 5 := by kernel_rfl
theorem Tryz.cellsRawN : Tryz.prog.cellsOf 32 = 4 := by kernel_rfl
theorem light_slice {H : Type} {t e : TypeId} {elems spare : List (DataW H)} (hu : Tryz.prog.underlying t = some (.slice e)) (h : Light t (.slice elems spare)) {d : DataW H} (hd : d ∈ elems) : Light e d := fun n hn => by
  refine h n ?_
  simp only [DataW.weights, hu]
  exact List.mem_cons_of_mem _ (List.mem_append_left _ (weights_all hd n hn))
theorem pick_listN {α : Type} {Q : Nat → α → Prop} : ∀ n : Nat, (∀ i, i < n → ∃ x, Q i x) → ∃ l : List α, l.length = n ∧ ∀ i x, l[i]? = some x → Q i x
  | 0, _ => ⟨[], rfl, by intro i x h; simp at h⟩
  | n + 1, h => by
    obtain ⟨l, hl, hq⟩ := pick_listN n (fun i hi => h i (by omega))
    obtain ⟨x, hx⟩ := h n (by omega)
    refine ⟨l ++ [x], by simp [hl], fun i y hy => ?_⟩
    rcases Nat.lt_or_ge i n with c | c
    · rw [List.getElem?_append_left (by omega)] at hy
      exact hq i y hy
    · rw [List.getElem?_append_right (by omega)] at hy
      have : i - l.length = 0 := by
        have := (List.getElem?_eq_some_iff.1 hy).1
        simp at this
        omega
      rw [this] at hy
      simp at hy
      have e : i = n := by omega
      rw [e, ← hy]
      exact hx
theorem open_rawCells {H : Type} {enc : TypeId × Value → H} {W : World} {fuel : Nat} {x : DataW H × List MemPlace} {c0 c1 c2 c3 : Value} (hf : DataW.trod enc Tryz.prog W 0 (fun _ => true) true fuel 32 [c0, c1, c2, c3] = some x) (hw : Light 32 x.1) :
    ∃ z : RawD × RawM, (c0 = .int .i64 z.1.id ∧ c1 = .int .i64 z.1.fi ∧ c2 = .slice z.2.S z.2.sn z.2.sc ∧ c3 = .slice z.2.V z.2.vn z.2.vc) ∧ RawIn W z.1 z.2 := by
  obtain ⟨xs, n, _, hx, _, hlen, hg⟩ := DataW.trod_struct Tryz.underlying32 hf
  rw [hx] at hw
  obtain ⟨y0, hy0⟩ : ∃ y, xs[0]? = some y := ⟨_, List.getElem?_eq_getElem (by rw [hlen]; decide)⟩
  have g0 := hg 0 _ rfl
  rw [hy0] at g0
  have k0 : DataW.trod enc Tryz.prog W 0 (fun _ => true) true n 3 [c0] = some y0 := by simpa [Value.cells, Tryz.cellsInt, Tryz.cellsNums] using g0
  clear g0
  obtain ⟨y1, hy1⟩ : ∃ y, xs[1]? = some y := ⟨_, List.getElem?_eq_getElem (by rw [hlen]; decide)⟩
  have g1 := hg 1 _ rfl
  rw [hy1] at g1
  have k1 : DataW.trod enc Tryz.prog W 0 (fun _ => true) true n 3 [c1] = some y1 := by simpa [Value.cells, Tryz.cellsInt, Tryz.cellsNums] using g1
  clear g1
  obtain ⟨y2, hy2⟩ : ∃ y, xs[2]? = some y := ⟨_, List.getElem?_eq_getElem (by rw [hlen]; decide)⟩
  have g2 := hg 2 _ rfl
  rw [hy2] at g2
  have k2 : DataW.trod enc Tryz.prog W 0 (fun _ => true) true n 30 [c2] = some y2 := by simpa [Value.cells, Tryz.cellsInt, Tryz.cellsNums] using g2
  clear g2
  obtain ⟨y3, hy3⟩ : ∃ y, xs[3]? = some y := ⟨_, List.getElem?_eq_getElem (by rw [hlen]; decide)⟩
  have g3 := hg 3 _ rfl
  rw [hy3] at g3
  have k3 : DataW.trod enc Tryz.prog W 0 (fun _ => true) true n 30 [c3] = some y3 := by simpa [Value.cells, Tryz.cellsInt, Tryz.cellsNums] using g3
  clear g3
  obtain ⟨p0, e0, _, _⟩ := DataW.trod_int Tryz.underlying3 k0
  obtain ⟨p1, e1, _, _⟩ := DataW.trod_int Tryz.underlying3 k1
  obtain ⟨A, a1, a2, st, e2, a4, a5, a6⟩ := open_numsW k2 (light_part Tryz.underlying32 hw (j := 2) rfl (by simp [hy2]))
  obtain ⟨B, b1, b2, vs, e3, b4, b5, b6⟩ := open_numsW k3 (light_part Tryz.underlying32 hw (j := 3) rfl (by simp [hy3]))
  simp at e0 e1
  exact ⟨(⟨p0, p1, st, vs⟩, ⟨A, a1, a2, B, b1, b2⟩), ⟨e0, e1, e2, e3⟩, a4, a5, a6, b4, b5, b6⟩
theorem open_raws {H : Type} {enc : TypeId × Value → H} {W : World} {base : Nat} {v : Value} {d : DataW H} {pl : List MemPlace} (hv : Value.okWide Tryz.prog W .any base 22 v) (h : DataW.Trod enc Tryz.prog W 0 (fun _ => true) true 22 v d pl) (hw : Light 22 d) :
    ∃ (A : Option Addr) (n c : Nat) (L : List (RawD × RawM)), v = .slice A n c ∧ n = L.length ∧ n ≤ maxLen ∧ (L = [] ∨ ∃ b o, A = some ⟨b, o, none⟩ ∧ b < W.heap.size ∧ RawsMem W b o L) := by
  obtain ⟨a0, len0, cap0, rfl⟩ := okWide_slice Tryz.underlying22 hv
  obtain ⟨fuel, hf⟩ := h
  rcases open_slice Tryz.underlying22 hf with ⟨e, _⟩ | ⟨a, len, cap, m, k, D, Pl, e, _, hl, hm, hmm, hx, hi⟩
  · simp [Value.cells] at e
    obtain ⟨rfl, rfl, rfl⟩ := e
    exact ⟨none, 0, 0, [], rfl, rfl, by unfold maxLen; omega, .inl rfl⟩
  · simp [Value.cells] at e
    obtain ⟨rfl, rfl, rfl⟩ := e
    have hmc : m = cap0 := by simpa using hmm
    injection hx with hx _
    subst hx
    rw [Tryz.cellsRawN] at hi
    obtain ⟨ps, hps, hq⟩ := pick_listN (Q := fun i (z : RawD × RawM) => (W.cell? ((a.add (i * 4)).add 0) = some (.int .i64 z.1.id) ∧ W.cell? ((a.add (i * 4)).add 1) = some (.int .i64 z.1.fi) ∧ W.cell? ((a.add (i * 4)).add 2) = some (.slice z.2.S z.2.sn z.2.sc) ∧ W.cell? ((a.add (i * 4)).add 3) = some (.slice z.2.V z.2.vn z.2.vc)) ∧ RawIn W z.1 z.2) len0 (fun i hil => by
      obtain ⟨cs', h1, h2⟩ := hi i (by omega)
      obtain ⟨_, hlen, hat⟩ := World.cells?_some h1
      match cs', hlen with
      | [c0, c1, c2, c3], _ =>
        obtain ⟨z, ⟨e0, e1, e2, e3⟩, hin⟩ := open_rawCells h2 (light_slice Tryz.underlying22 hw (List.mem_map.2 ⟨i, List.mem_range.2 hil, rfl⟩))
        subst e0 e1 e2 e3
        exact ⟨z, ⟨hat 0 (by omega), hat 1 (by omega), hat 2 (by omega), hat 3 (by omega)⟩, hin⟩)
    refine ⟨some a, len0, cap0, ps, rfl, hps.symm, by omega, ?_⟩
    rcases Nat.lt_or_ge 0 len0 with c | c
    · have q0 := (hq 0 _ (List.getElem?_eq_getElem (show 0 < ps.length by omega))).1.1
      obtain ⟨ea, la⟩ := spot_none q0
      obtain ⟨b, o, s⟩ := a
      simp [Addr.add] at ea la
      subst ea
      exact .inr ⟨b, o, rfl, la, fun i p hp => by have h := hq i p hp; simp only [addr_add] at h; exact h⟩
    · exact .inl (List.eq_nil_of_length_eq_zero (by omega))
theorem open_fiveCells {H : Type} {enc : TypeId × Value → H} {W : World} {fuel : Nat} {x : DataW H × List MemPlace} {c0 c1 c2 c3 c4 : Value} (hf : DataW.trod enc Tryz.prog W 0 (fun _ => true) true fuel 33 [c0, c1, c2, c3, c4] = some x) :
    ∃ z : N5, c0 = .int .i64 z.1 ∧ c1 = .int .i64 z.2.1 ∧ c2 = .int .i64 z.2.2.1 ∧ c3 = .int .i64 z.2.2.2.1 ∧ c4 = .int .i64 z.2.2.2.2 := by
  obtain ⟨xs, m, _, _, _, hl, hi⟩ := DataW.trod_array Tryz.underlying33 hf
  have one : ∀ (i : Nat) (c : Value), i < 5 → ([c0, c1, c2, c3, c4].drop (i * 1)).take 1 = [c] → ∃ n : Int, c = .int .i64 n := by
    intro i c hi6 hc
    have h1 := hi i hi6
    simp only [Tryz.cellsInt] at h1
    rw [hc] at h1
    obtain ⟨y, hy⟩ : ∃ y, xs[i]? = some y := ⟨_, List.getElem?_eq_getElem (by omega)⟩
    rw [hy] at h1
    obtain ⟨n, e, _, _⟩ := DataW.trod_int Tryz.underlying3 h1
    simp at e
    exact ⟨n, e⟩
  obtain ⟨x0, rfl⟩ := one 0 c0 (by omega) rfl
  obtain ⟨x1, rfl⟩ := one 1 c1 (by omega) rfl
  obtain ⟨x2, rfl⟩ := one 2 c2 (by omega) rfl
  obtain ⟨x3, rfl⟩ := one 3 c3 (by omega) rfl
  obtain ⟨x4, rfl⟩ := one 4 c4 (by omega) rfl
  exact ⟨(x0, x1, x2, x3, x4), rfl, rfl, rfl, rfl, rfl⟩
theorem open_fives {H : Type} {enc : TypeId × Value → H} {W : World} {base : Nat} {v : Value} {d : DataW H} {pl : List MemPlace} (hv : Value.okWide Tryz.prog W .any base 23 v) (h : DataW.Trod enc Tryz.prog W 0 (fun _ => true) true 23 v d pl) :
    ∃ (A : Option Addr) (n c : Nat) (L : List N5), v = .slice A n c ∧ n = L.length ∧ n ≤ maxLen ∧ (L = [] ∨ ∃ b o, A = some ⟨b, o, none⟩ ∧ b < W.heap.size ∧ FivesMem W b o L) := by
  obtain ⟨a0, len0, cap0, rfl⟩ := okWide_slice Tryz.underlying23 hv
  obtain ⟨fuel, hf⟩ := h
  rcases open_slice Tryz.underlying23 hf with ⟨e, _⟩ | ⟨a, len, cap, m, k, D, Pl, e, _, hl, hm, hmm, _, hi⟩
  · simp [Value.cells] at e
    obtain ⟨rfl, rfl, rfl⟩ := e
    exact ⟨none, 0, 0, [], rfl, rfl, by unfold maxLen; omega, .inl rfl⟩
  · simp [Value.cells] at e
    obtain ⟨rfl, rfl, rfl⟩ := e
    have hmc : m = cap0 := by simpa using hmm
    rw [Tryz.cellsFiveN] at hi
    obtain ⟨ps, hps, hq⟩ := pick_listN (Q := fun i (z : N5) => W.cell? ((a.add (i * 5)).add 0) = some (.int .i64 z.1) ∧ W.cell? ((a.add (i * 5)).add 1) = some (.int .i64 z.2.1) ∧ W.cell? ((a.add (i * 5)).add 2) = some (.int .i64 z.2.2.1) ∧ W.cell? ((a.add (i * 5)).add 3) = some (.int .i64 z.2.2.2.1) ∧ W.cell? ((a.add (i * 5)).add 4) = some (.int .i64 z.2.2.2.2)) len0 (fun i hil => by
      obtain ⟨cs', h1, h2⟩ := hi i (by omega)
      obtain ⟨_, hlen, hat⟩ := World.cells?_some h1
      match cs', hlen with
      | [c0, c1, c2, c3, c4], _ =>
        obtain ⟨z, e0, e1, e2, e3, e4⟩ := open_fiveCells h2
        subst e0 e1 e2 e3 e4
        exact ⟨z, hat 0 (by omega), hat 1 (by omega), hat 2 (by omega), hat 3 (by omega), hat 4 (by omega)⟩)
    refine ⟨some a, len0, cap0, ps, rfl, hps.symm, by omega, ?_⟩
    rcases Nat.lt_or_ge 0 len0 with c | c
    · have q0 := (hq 0 _ (List.getElem?_eq_getElem (show 0 < ps.length by omega))).1
      obtain ⟨ea, la⟩ := spot_none q0
      obtain ⟨b, o, s⟩ := a
      simp [Addr.add] at ea la
      subst ea
      exact .inr ⟨b, o, rfl, la, fun i p hp => by have h := hq i p hp; simp only [addr_add] at h; exact h⟩
    · exact .inl (List.eq_nil_of_length_eq_zero (by omega))
theorem holdSums_lifted (os : Os) (started : os.Started) (H : Type) (enc : TypeId × Value → H) :
    ReturnsInHanded {} Tryz.checked os 3 .any (Rows.holdSumsSpec.pre6 enc Tryz.prog Tryz.f3 Rows.holdSumsRow.domain false) (Rows.holdSumsSpec.post enc Tryz.prog Tryz.f3 false true false false) := by
  refine returnsInHanded_of_change_sized (C := Tryz.checked) own started (by kernel_rfl) Tryz.func3
    (ChangeSpec.witness6 (enc := enc) (C := Tryz.checked) false ⟨#[], #[.slice none 0 0, .slice none 0 0, .int .i64 0], []⟩ 8 (by kernel_rfl) (by kernel_rfl) (by kernel_rfl) (by kernel_rfl)) ?_
  intro W base args ds gs before hval0 hW hcnd hsz _
  have hval : ∀ (j : Nat) t v, Tryz.f3.params[j]? = some t → args[j]? = some v → Value.okWide Tryz.prog W .any base t v := hval0
  have hW' := hW
  obtain ⟨p, q, hA0, hV, rfl, hfz, hnd⟩ := hW
  have hA : DataW.TrodAll enc Tryz.prog W 0 (fun _ => true) true Tryz.f3.params.toList args.toList ds p := hA0
  rw [Tryz.params3] at hA hval
  have hsz2 : (DataW.weightsEach Tryz.prog (Tryz.f3.params.toList ++ Rows.holdSumsSpec.plain.varTypes Tryz.prog) (ds ++ gs)).all (· ≤ reachBytes) = true := hsz
  rw [Tryz.params3] at hsz2
  obtain ⟨v0, v1, v2, d0, d1, d2, p0, p1, p2, hargs, rfl, rfl, h0, h1, h2⟩ := trodAll_three hA
  obtain rfl : args = #[v0, v1, v2] := by cases args; simp_all
  obtain ⟨rfl, rfl⟩ := trodVars_none hV
  have light : Light 22 d0 := fun n hn => by
    have q := List.all_eq_true.1 hsz2 n (DataW.weights_mem_each (j := 0) (t := 22) (d := d0) (by simp) (by simp) n hn)
    simpa using q
  obtain ⟨A, n, c, rs, rfl, hn, hn2, hL⟩ := open_raws (hval 0 22 v0 rfl rfl) h0 light
  obtain ⟨B, m, d, xs, rfl, hm, hm2, hX⟩ := open_fives (hval 1 23 v1 rfl rfl) h1
  obtain ⟨cut, rfl, _, _⟩ := open_int Tryz.underlying3 (hval 2 3 v2 rfl rfl) h2
  refine (holdSums_walk A B n c m d rs xs cut W hn hm hn2 hm2 hL hX).mono fun e W' ⟨he, hb⟩ => ?_
  subst he
  exact ⟨_, rfl, law_post rfl rfl (by intro t ht; rw [Tryz.params3] at ht
                                      have : t = 22 ∨ t = 23 ∨ t = 3 := by simpa using ht
                                      rcases this with rfl | rfl | rfl <;> exact ⟨by kernel_rfl, of_decide_eq_true (by kernel_rfl)⟩) hW' rfl rfl rfl hb⟩

theorem holdSums_holds : Rows.HoldSumsSaid :=
  OpenClaim.holds_of_wide 3 Tryz.f3 rfl rfl rfl rfl rfl rfl rfl ⟨rfl, rfl, rfl, rfl, rfl⟩ rfl rfl rfl rfl rfl (by kernel_rfl) Tryz.func3 (by kernel_rfl)
    (of_decide_eq_true (by kernel_rfl)) (by unfold Func.isWrapper; rw [if_neg (of_decide_eq_false (by kernel_rfl))]; exact ⟨rfl, rfl⟩)
    (fun os started H enc _ => holdSums_lifted os started H enc)
end

end Go.Proofs.YtpcmcicnciejpaaGreat
