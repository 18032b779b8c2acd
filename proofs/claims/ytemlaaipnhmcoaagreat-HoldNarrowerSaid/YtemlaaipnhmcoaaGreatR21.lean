/- The contract of Area (fix) on all places of a valid table's domain: twice the area, as the exact one's floors. Its condition: the table's points lie in memory. -/
import Derived.Test.YtemlaaipnhmcoaaGreatR10
import Derived.Test.YtemlaaipnhmcoaaGreatR07
import Derived.Test.YtemlaaipnhmcoaaGreatR16
import Derived.WalkSmall
import Derived.RegionTactic
import Derived.BigRegion
import Derived.Test.YtemlaaipnhmcoaaGreatR04
import Derived.Test.YtemlaaipnhmcoaaGreatR05
set_option linter.unusedVariables false
set_option linter.unusedSimpArgs false
set_option linter.constructorNameAsVariable false
namespace Go.Proofs.YtemlaaipnhmcoaaGreat

section
open Go.RowKit

abbrev inv1Fn (Bt Ba Bv : Nat) : Value := .func (.func 161) #[] #[.pointer (some ⟨Bt, 0, none⟩), .pointer (some ⟨Ba, 0, none⟩), .pointer (some ⟨Bv, 0, none⟩)]
def Ask1 (Bt Ba Bv : Nat) (f : Int → Bool) (lo hi : Int) (w : World) : Prop := ∀ (W : World) (x : Int) (t : Bool), Below w.heap.size w W → lo ≤ x → x ≤ hi → f x = t →
  Calls Tryz.prog 161 #[.int .i64 x, .pointer (some ⟨Bt, 0, none⟩), .pointer (some ⟨Ba, 0, none⟩), .pointer (some ⟨Bv, 0, none⟩)] W fun e w' => e = .returned (.bool t) ∧ Below W.heap.size W w'
theorem Ask1.below {Bt Ba Bv : Nat} {f : Int → Bool} {lo hi : Int} {w w' : World} (h : Ask1 Bt Ba Bv f lo hi w) (hb : Below w.heap.size w w') : Ask1 Bt Ba Bv f lo hi w' := fun W x t hW => h W x t (below_then hb hW)
def Turn1 (Bs Bl Bt Ba Bv : Nat) (f : Int → Bool) (lo hi : Int) (w : World) : Prop := Blk w Bs 72 #[inv1Fn Bt Ba Bv] ∧ Blk w Bl 3 #[.int .i64 lo] ∧ Ask1 Bt Ba Bv f lo hi w
theorem Turn1.below {Bs Bl Bt Ba Bv : Nat} {f : Int → Bool} {lo hi : Int} {w w' : World} (h : Turn1 Bs Bl Bt Ba Bv f lo hi w) (hb : Below w.heap.size w w') : Turn1 Bs Bl Bt Ba Bv f lo hi w' := ⟨blkOn h.1 hb, blkOn h.2.1 hb, h.2.2.below hb⟩
set_option maxRecDepth 100000 in
set_option maxHeartbeats 1000000 in
theorem turn1_to (Bs Bl Bt Ba Bv : Nat) (f : Int → Bool) (lo hi i : Int) (t : Bool) (w : World) (h : Turn1 Bs Bl Bt Ba Bv f lo hi w) (h0 : 0 ≤ lo) (h1 : hi ≤ 1000000) (hi1 : 0 ≤ i) (hi2 : lo + i ≤ hi) (ht : f (lo + i) = t) :
  Calls Tryz.prog 201 #[.int .i64 i, .pointer (some ⟨Bs, 0, none⟩), .pointer (some ⟨Bl, 0, none⟩)] w fun e w' => e = .returned (.bool t) ∧ Below w.heap.size w w' := by
 have a0 := h.1.cell 0
 have a1 := h.2.1.cell 0
 have l0 := h.1.lt
 have l1 := h.2.1.lt
 simp at a0 a1
 have w1 : IntKind.i64.wrap (lo + i) = lo + i := IntWalk.i64_in _ ⟨by omega, by omega⟩
 have HC : Hid (∀ W, Below w.heap.size w W → Calls Tryz.prog 161 #[.int .i64 (lo + i), .pointer (some ⟨Bt, 0, none⟩), .pointer (some ⟨Ba, 0, none⟩), .pointer (some ⟨Bv, 0, none⟩)] W fun e w' => e = .returned (.bool t) ∧ Below W.heap.size W w') := Lib.hid fun W hW => h.2.2 W (lo + i) t hW (by omega) hi2 ht
 clear h ht
 go_enter Tryz.func201, Tryz.ntmps201
 go_wp2_with fail
 refine (HC.out _ (Below.refl _ _)).mono ?_
 rintro e w1 ⟨rfl, hb⟩
 have HB := Lib.hid hb; clear hb HC
 go_wp2
 go_ret
 exact ⟨rfl, HB.out⟩
abbrev turn1Fn (Bs Bl : Nat) : Value := .func (.func 201) #[] #[.pointer (some ⟨Bs, 0, none⟩), .pointer (some ⟨Bl, 0, none⟩)]
set_option maxRecDepth 100000 in
set_option maxHeartbeats 2000000 in
theorem search1 (Bs Bl Bt Ba Bv : Nat) (f : Int → Bool) (lo hi : Int) (n : Nat) (w : World) (h : Turn1 Bs Bl Bt Ba Bv f lo hi w) (h0 : 0 ≤ lo) (h1 : hi ≤ 1000000) (hn : lo + n ≤ hi + 1) :
  Calls Tryz.prog 200 #[.int .i64 n, turn1Fn Bs Bl] w fun e w' => e = .returned (.int .i64 (bs (fun i => f (lo + i)) n 0 n)) ∧ Below w.heap.size w w' := by
 generalize hR : bs (fun i => f (lo + i)) n 0 n = R
 have HR := Lib.hid hR; clear hR
 have HT := Lib.hid h; clear h
 go_enter Tryz.func200, Tryz.ntmps200
 go_wp2_with fail
 go_loopw [5, 6] (fun vi vj wr => ∃ (i j k : Nat), i ≤ j ∧ j ≤ n ∧ j - i ≤ k ∧ vi = .int .i64 i ∧ vj = .int .i64 j ∧ Below w.heap.size w wr ∧ Hid (bs (fun i => f (lo + i)) k i j = R)) (fun vi vj _ => (intOf vj).toNat - (intOf vi).toNat)
 case atStart => exact ⟨0, n, n, by omega, by omega, by omega, rfl, rfl, Below.refl _ _, HR.out⟩
 case round =>
  obtain ⟨i, j, k, hij, hjn, hk, rfl, rfl, hB, HP⟩ := hrel
  by_cases hlt : i < j
  ·have hlt' : (i : Int) < (j : Int) := by omega
   obtain ⟨k', rfl⟩ : ∃ k', k = k' + 1 := ⟨k - 1, by omega⟩
   obtain ⟨m, hm⟩ : ∃ m : Nat, (i + j) / 2 = m := ⟨_, rfl⟩
   have hmi : ((i : Int) + (j : Int)) / 2 = (m : Int) := by omega
   have m1 : i ≤ m := by omega
   have m2 : m < j := by omega
   have HM := Lib.hid hmi; clear hmi hm
   cases ht : f (lo + m)
   ·have hnext : bs (fun i => f (lo + i)) k' ((m : Int) + 1) j = R := by
     rw [← HP.out, bs_no _ _ _ _ hlt' (by rw [HM.out]; exact ht), HM.out]
    have HNX := Lib.hid hnext; clear hnext HP HR
    have HTT := Lib.hid ht; clear ht
    go_wp2_with fail
    rw [HM.out]
    refine (turn1_to Bs Bl Bt Ba Bv f lo hi m _ wr (HT.out.below hB) h0 h1 (by omega) (by omega) HTT.out).mono ?_
    rintro e w1 ⟨rfl, hb1⟩
    have hB1 := below_then hB hb1
    go_wp2
    go_roundw
    case rel => exact ⟨m + 1, j, k', by omega, by omega, by omega, by rw [Int.natCast_add]; rfl, rfl, hB1, by rw [Int.natCast_add]; exact HNX.out⟩
    case measure => simp [intOf]; omega
   ·have hnext : bs (fun i => f (lo + i)) k' (i : Int) m = R := by
     rw [← HP.out, bs_yes _ _ _ _ hlt' (by rw [HM.out]; exact ht), HM.out]
    have HNX := Lib.hid hnext; clear hnext HP HR
    have HTT := Lib.hid ht; clear ht
    go_wp2_with fail
    rw [HM.out]
    refine (turn1_to Bs Bl Bt Ba Bv f lo hi m _ wr (HT.out.below hB) h0 h1 (by omega) (by omega) HTT.out).mono ?_
    rintro e w1 ⟨rfl, hb1⟩
    have hB1 := below_then hB hb1
    go_wp2
    go_roundw
    case rel => exact ⟨i, m, k', by omega, by omega, by omega, rfl, rfl, hB1, HNX.out⟩
    case measure => simp [intOf]; omega
  ·have hf : R = (i : Int) := by rw [← HP.out]; exact bs_done _ _ _ _ (by omega)
   subst hf
   clear HP HR
   go_wp2
   go_ret
   exact ⟨rfl, hB⟩

theorem first1_to (Bt Ba Bv : Nat) (f : Int → Bool) (lo hi R : Int) (w : World) (hA : Ask1 Bt Ba Bv f lo hi w) (h0 : 0 ≤ lo) (h01 : lo ≤ hi) (h1 : hi ≤ 1000000) (hR : lo + bs (fun i => f (lo + i)) (hi - lo + 1).toNat 0 (hi - lo + 1) = R) :
  Calls Tryz.prog 160 #[.int .i64 lo, .int .i64 hi, inv1Fn Bt Ba Bv] w fun e w' => e = .returned (.int .i64 R) ∧ Below w.heap.size w w' := by
 have hbr := bs_range (fun i => f (lo + i)) (hi - lo + 1).toNat 0 (hi - lo + 1) (by omega)
 obtain ⟨n, hn⟩ : ∃ n : Nat, hi - lo + 1 = n := ⟨(hi - lo + 1).toNat, by omega⟩
 have e1 : (hi - lo + 1).toNat = n := by omega
 rw [e1, hn] at hR hbr
 have w1 : IntKind.i64.wrap (hi - lo) = hi - lo := IntWalk.i64_in _ ⟨by omega, by omega⟩
 have w2 : IntKind.i64.wrap (hi - lo + 1) = (n : Int) := by rw [IntWalk.i64_in _ ⟨by omega, by omega⟩]; exact hn
 have w3 : IntKind.i64.wrap (lo + bs (fun i => f (lo + i)) n 0 n) = R := by rw [IntWalk.i64_in _ ⟨by omega, by omega⟩]; exact hR
 have CS : Hid (∀ W Bs Bl, Turn1 Bs Bl Bt Ba Bv f lo hi W → Calls Tryz.prog 200 #[.int .i64 n, turn1Fn Bs Bl] W fun e w' => e = .returned (.int .i64 (bs (fun i => f (lo + i)) n 0 n)) ∧ Below W.heap.size W w') := Lib.hid fun W Bs Bl hT => search1 Bs Bl Bt Ba Bv f lo hi n W hT h0 h1 (by omega)
 generalize bs (fun i => f (lo + i)) n 0 n = r at *
 have HA := Lib.hid hA
 clear hA hR e1 hn
 have HE := Lib.hid (show Below w.heap.size w ((w.alloc (.cells #[.int .i64 lo] 3)).alloc (.cells #[inv1Fn Bt Ba Bv] 72)) from below_a2 (Below.refl _ _))
 have HK := Lib.hid (boxes2' w 3 72 #[.int .i64 lo] #[inv1Fn Bt Ba Bv])
 go_enter Tryz.func160, Tryz.ntmps160
 go_wp2_with fail
 obtain ⟨W0, hW0⟩ : ∃ W0, ((w.alloc (.cells #[.int .i64 lo] 3)).alloc (.cells #[inv1Fn Bt Ba Bv] 72)) = W0 := ⟨_, rfl⟩
 rw [hW0] at HE HK ⊢
 clear hW0
 obtain ⟨G, hG⟩ : ∃ G, w.heap.size = G := ⟨_, rfl⟩
 rw [hG] at HK ⊢
 clear hG
 have HT := Lib.hid (show Turn1 (G + 1) G Bt Ba Bv f lo hi W0.drew from Turn1.below ⟨HK.out _ (.head _), HK.out _ (.tail _ (.head _)), HA.out.below HE.out⟩ (below_drew1 _))
 have q0 := HT.out.2.1.cell 0
 have hd : G < W0.drew.heap.size := HT.out.2.1.lt
 simp at q0
 have HE1 := Lib.hid HE.out.drew
 clear HA HE HK
 go_region_held3 (fun w' => w'.cell? ⟨G, 0, none⟩ = some (.int .i64 lo))
  (first | (go_keep; done) | exact ((bcell hb1).1 _ _ hd).trans ‹_›)
  (first | (go_at_call 200; refine (CS.out _ _ _ HT.out).mono ?_; rintro e w1 ⟨rfl, hb1⟩))
 have HE2 := Lib.hid (below_then HE1.out hb1)
 clear hb1 HT hd q0
 go_wp2
 go_ret
 exact ⟨rfl, HE2.out⟩

abbrev inv2Fn (Bt Ba Bv : Nat) : Value := .func (.func 163) #[] #[.pointer (some ⟨Bt, 0, none⟩), .pointer (some ⟨Ba, 0, none⟩), .pointer (some ⟨Bv, 0, none⟩)]
def Ask2 (Bt Ba Bv : Nat) (f : Int → Bool) (lo hi : Int) (w : World) : Prop := ∀ (W : World) (x : Int) (t : Bool), Below w.heap.size w W → lo ≤ x → x ≤ hi → f x = t →
  Calls Tryz.prog 163 #[.int .i64 x, .pointer (some ⟨Bt, 0, none⟩), .pointer (some ⟨Ba, 0, none⟩), .pointer (some ⟨Bv, 0, none⟩)] W fun e w' => e = .returned (.bool t) ∧ Below W.heap.size W w'
theorem Ask2.below {Bt Ba Bv : Nat} {f : Int → Bool} {lo hi : Int} {w w' : World} (h : Ask2 Bt Ba Bv f lo hi w) (hb : Below w.heap.size w w') : Ask2 Bt Ba Bv f lo hi w' := fun W x t hW => h W x t (below_then hb hW)
def Turn2 (Bs Bl Bt Ba Bv : Nat) (f : Int → Bool) (lo hi : Int) (w : World) : Prop := Blk w Bs 72 #[inv2Fn Bt Ba Bv] ∧ Blk w Bl 3 #[.int .i64 lo] ∧ Ask2 Bt Ba Bv f lo hi w
theorem Turn2.below {Bs Bl Bt Ba Bv : Nat} {f : Int → Bool} {lo hi : Int} {w w' : World} (h : Turn2 Bs Bl Bt Ba Bv f lo hi w) (hb : Below w.heap.size w w') : Turn2 Bs Bl Bt Ba Bv f lo hi w' := ⟨blkOn h.1 hb, blkOn h.2.1 hb, h.2.2.below hb⟩
set_option maxRecDepth 100000 in
set_option maxHeartbeats 1000000 in
theorem turn2_to (Bs Bl Bt Ba Bv : Nat) (f : Int → Bool) (lo hi i : Int) (t : Bool) (w : World) (h : Turn2 Bs Bl Bt Ba Bv f lo hi w) (h0 : 0 ≤ lo) (h1 : hi ≤ 1000000) (hi1 : 0 ≤ i) (hi2 : lo + i ≤ hi) (ht : f (lo + i) = t) :
  Calls Tryz.prog 201 #[.int .i64 i, .pointer (some ⟨Bs, 0, none⟩), .pointer (some ⟨Bl, 0, none⟩)] w fun e w' => e = .returned (.bool t) ∧ Below w.heap.size w w' := by
 have a0 := h.1.cell 0
 have a1 := h.2.1.cell 0
 have l0 := h.1.lt
 have l1 := h.2.1.lt
 simp at a0 a1
 have w1 : IntKind.i64.wrap (lo + i) = lo + i := IntWalk.i64_in _ ⟨by omega, by omega⟩
 have HC : Hid (∀ W, Below w.heap.size w W → Calls Tryz.prog 163 #[.int .i64 (lo + i), .pointer (some ⟨Bt, 0, none⟩), .pointer (some ⟨Ba, 0, none⟩), .pointer (some ⟨Bv, 0, none⟩)] W fun e w' => e = .returned (.bool t) ∧ Below W.heap.size W w') := Lib.hid fun W hW => h.2.2 W (lo + i) t hW (by omega) hi2 ht
 clear h ht
 go_enter Tryz.func201, Tryz.ntmps201
 go_wp2_with fail
 refine (HC.out _ (Below.refl _ _)).mono ?_
 rintro e w1 ⟨rfl, hb⟩
 have HB := Lib.hid hb; clear hb HC
 go_wp2
 go_ret
 exact ⟨rfl, HB.out⟩
abbrev turn2Fn (Bs Bl : Nat) : Value := .func (.func 201) #[] #[.pointer (some ⟨Bs, 0, none⟩), .pointer (some ⟨Bl, 0, none⟩)]
set_option maxRecDepth 100000 in
set_option maxHeartbeats 2000000 in
theorem search2 (Bs Bl Bt Ba Bv : Nat) (f : Int → Bool) (lo hi : Int) (n : Nat) (w : World) (h : Turn2 Bs Bl Bt Ba Bv f lo hi w) (h0 : 0 ≤ lo) (h1 : hi ≤ 1000000) (hn : lo + n ≤ hi + 1) :
  Calls Tryz.prog 200 #[.int .i64 n, turn2Fn Bs Bl] w fun e w' => e = .returned (.int .i64 (bs (fun i => f (lo + i)) n 0 n)) ∧ Below w.heap.size w w' := by
 generalize hR : bs (fun i => f (lo + i)) n 0 n = R
 have HR := Lib.hid hR; clear hR
 have HT := Lib.hid h; clear h
 go_enter Tryz.func200, Tryz.ntmps200
 go_wp2_with fail
 go_loopw [5, 6] (fun vi vj wr => ∃ (i j k : Nat), i ≤ j ∧ j ≤ n ∧ j - i ≤ k ∧ vi = .int .i64 i ∧ vj = .int .i64 j ∧ Below w.heap.size w wr ∧ Hid (bs (fun i => f (lo + i)) k i j = R)) (fun vi vj _ => (intOf vj).toNat - (intOf vi).toNat)
 case atStart => exact ⟨0, n, n, by omega, by omega, by omega, rfl, rfl, Below.refl _ _, HR.out⟩
 case round =>
  obtain ⟨i, j, k, hij, hjn, hk, rfl, rfl, hB, HP⟩ := hrel
  by_cases hlt : i < j
  ·have hlt' : (i : Int) < (j : Int) := by omega
   obtain ⟨k', rfl⟩ : ∃ k', k = k' + 1 := ⟨k - 1, by omega⟩
   obtain ⟨m, hm⟩ : ∃ m : Nat, (i + j) / 2 = m := ⟨_, rfl⟩
   have hmi : ((i : Int) + (j : Int)) / 2 = (m : Int) := by omega
   have m1 : i ≤ m := by omega
   have m2 : m < j := by omega
   have HM := Lib.hid hmi; clear hmi hm
   cases ht : f (lo + m)
   ·have hnext : bs (fun i => f (lo + i)) k' ((m : Int) + 1) j = R := by
     rw [← HP.out, bs_no _ _ _ _ hlt' (by rw [HM.out]; exact ht), HM.out]
    have HNX := Lib.hid hnext; clear hnext HP HR
    have HTT := Lib.hid ht; clear ht
    go_wp2_with fail
    rw [HM.out]
    refine (turn2_to Bs Bl Bt Ba Bv f lo hi m _ wr (HT.out.below hB) h0 h1 (by omega) (by omega) HTT.out).mono ?_
    rintro e w1 ⟨rfl, hb1⟩
    have hB1 := below_then hB hb1
    go_wp2
    go_roundw
    case rel => exact ⟨m + 1, j, k', by omega, by omega, by omega, by rw [Int.natCast_add]; rfl, rfl, hB1, by rw [Int.natCast_add]; exact HNX.out⟩
    case measure => simp [intOf]; omega
   ·have hnext : bs (fun i => f (lo + i)) k' (i : Int) m = R := by
     rw [← HP.out, bs_yes _ _ _ _ hlt' (by rw [HM.out]; exact ht), HM.out]
    have HNX := Lib.hid hnext; clear hnext HP HR
    have HTT := Lib.hid ht; clear ht
    go_wp2_with fail
    rw [HM.out]
    refine (turn2_to Bs Bl Bt Ba Bv f lo hi m _ wr (HT.out.below hB) h0 h1 (by omega) (by omega) HTT.out).mono ?_
    rintro e w1 ⟨rfl, hb1⟩
    have hB1 := below_then hB hb1
    go_wp2
    go_roundw
    case rel => exact ⟨i, m, k', by omega, by omega, by omega, rfl, rfl, hB1, HNX.out⟩
    case measure => simp [intOf]; omega
  ·have hf : R = (i : Int) := by rw [← HP.out]; exact bs_done _ _ _ _ (by omega)
   subst hf
   clear HP HR
   go_wp2
   go_ret
   exact ⟨rfl, hB⟩

theorem first2_to (Bt Ba Bv : Nat) (f : Int → Bool) (lo hi R : Int) (w : World) (hA : Ask2 Bt Ba Bv f lo hi w) (h0 : 0 ≤ lo) (h01 : lo ≤ hi) (h1 : hi ≤ 1000000) (hR : lo + bs (fun i => f (lo + i)) (hi - lo + 1).toNat 0 (hi - lo + 1) = R) :
  Calls Tryz.prog 160 #[.int .i64 lo, .int .i64 hi, inv2Fn Bt Ba Bv] w fun e w' => e = .returned (.int .i64 R) ∧ Below w.heap.size w w' := by
 have hbr := bs_range (fun i => f (lo + i)) (hi - lo + 1).toNat 0 (hi - lo + 1) (by omega)
 obtain ⟨n, hn⟩ : ∃ n : Nat, hi - lo + 1 = n := ⟨(hi - lo + 1).toNat, by omega⟩
 have e1 : (hi - lo + 1).toNat = n := by omega
 rw [e1, hn] at hR hbr
 have w1 : IntKind.i64.wrap (hi - lo) = hi - lo := IntWalk.i64_in _ ⟨by omega, by omega⟩
 have w2 : IntKind.i64.wrap (hi - lo + 1) = (n : Int) := by rw [IntWalk.i64_in _ ⟨by omega, by omega⟩]; exact hn
 have w3 : IntKind.i64.wrap (lo + bs (fun i => f (lo + i)) n 0 n) = R := by rw [IntWalk.i64_in _ ⟨by omega, by omega⟩]; exact hR
 have CS : Hid (∀ W Bs Bl, Turn2 Bs Bl Bt Ba Bv f lo hi W → Calls Tryz.prog 200 #[.int .i64 n, turn2Fn Bs Bl] W fun e w' => e = .returned (.int .i64 (bs (fun i => f (lo + i)) n 0 n)) ∧ Below W.heap.size W w') := Lib.hid fun W Bs Bl hT => search2 Bs Bl Bt Ba Bv f lo hi n W hT h0 h1 (by omega)
 generalize bs (fun i => f (lo + i)) n 0 n = r at *
 have HA := Lib.hid hA
 clear hA hR e1 hn
 have HE := Lib.hid (show Below w.heap.size w ((w.alloc (.cells #[.int .i64 lo] 3)).alloc (.cells #[inv2Fn Bt Ba Bv] 72)) from below_a2 (Below.refl _ _))
 have HK := Lib.hid (boxes2' w 3 72 #[.int .i64 lo] #[inv2Fn Bt Ba Bv])
 go_enter Tryz.func160, Tryz.ntmps160
 go_wp2_with fail
 obtain ⟨W0, hW0⟩ : ∃ W0, ((w.alloc (.cells #[.int .i64 lo] 3)).alloc (.cells #[inv2Fn Bt Ba Bv] 72)) = W0 := ⟨_, rfl⟩
 rw [hW0] at HE HK ⊢
 clear hW0
 obtain ⟨G, hG⟩ : ∃ G, w.heap.size = G := ⟨_, rfl⟩
 rw [hG] at HK ⊢
 clear hG
 have HT := Lib.hid (show Turn2 (G + 1) G Bt Ba Bv f lo hi W0.drew from Turn2.below ⟨HK.out _ (.head _), HK.out _ (.tail _ (.head _)), HA.out.below HE.out⟩ (below_drew1 _))
 have q0 := HT.out.2.1.cell 0
 have hd : G < W0.drew.heap.size := HT.out.2.1.lt
 simp at q0
 have HE1 := Lib.hid HE.out.drew
 clear HA HE HK
 go_region_held3 (fun w' => w'.cell? ⟨G, 0, none⟩ = some (.int .i64 lo))
  (first | (go_keep; done) | exact ((bcell hb1).1 _ _ hd).trans ‹_›)
  (first | (go_at_call 200; refine (CS.out _ _ _ HT.out).mono ?_; rintro e w1 ⟨rfl, hb1⟩))
 have HE2 := Lib.hid (below_then HE1.out hb1)
 clear hb1 HT hd q0
 go_wp2
 go_ret
 exact ⟨rfl, HE2.out⟩
end

section
open Go.RowKit

def AskedA (w : World) (Bp Br : Nat) (p q : P3) (lv : Int) : Prop := Blk w Bp 172 (pCells p q) ∧ Blk w Br 3 #[.int .i64 lv] ∧ Okp p ∧ Okp q
theorem AskedA.below {w w' : World} {Bp Br : Nat} {p q : P3} {lv : Int} (h : AskedA w Bp Br p q lv) (hB : Below w.heap.size w w') : AskedA w' Bp Br p q lv :=
  ⟨h.1.below hB h.1.lt, h.2.1.below hB h.2.1.lt, h.2.2⟩
theorem AskedA.drew {w : World} {Bp Br : Nat} {p q : P3} {lv : Int} (h : AskedA w Bp Br p q lv) : AskedA w.drew Bp Br p q lv := h
def SixOne (Bp Br : Nat) (p q : P3) (lv : Int) (w : World) : Prop :=
  w.cell? ⟨Bp, 0, none⟩ = some (.int .i64 p.1) ∧ w.cell? ⟨Bp, 1, none⟩ = some (.int .i64 p.2.1) ∧ w.cell? ⟨Bp, 2, none⟩ = some (.int .i64 p.2.2) ∧ w.cell? ⟨Bp, 3, none⟩ = some (.int .i64 q.1) ∧ w.cell? ⟨Bp, 4, none⟩ = some (.int .i64 q.2.1) ∧ w.cell? ⟨Bp, 5, none⟩ = some (.int .i64 q.2.2) ∧ w.cell? ⟨Br, 0, none⟩ = some (.int .i64 lv)
theorem SixOne.of {Bp Br : Nat} {p q : P3} {lv : Int} {w : World} (h : Blk w Bp 172 (pCells p q)) (h' : Blk w Br 3 #[.int .i64 lv]) : SixOne Bp Br p q lv w :=
  ⟨h.cell 0, h.cell 1, h.cell 2, h.cell 3, h.cell 4, h.cell 5, h'.cell 0⟩
theorem SixOne.below {Bp Br : Nat} {p q : P3} {lv : Int} {w w' : World} (h : SixOne Bp Br p q lv w) (hB : Below w.heap.size w w') (h1 : Bp < w.heap.size) (h2 : Br < w.heap.size) : SixOne Bp Br p q lv w' := by
  have k := (bcell hB).1
  obtain ⟨a0, a1, a2, a3, a4, a5, b0⟩ := h
  exact ⟨(k _ _ h1).trans a0, (k _ _ h1).trans a1, (k _ _ h1).trans a2, (k _ _ h1).trans a3, (k _ _ h1).trans a4, (k _ _ h1).trans a5, (k _ _ h2).trans b0⟩

section
open Go.Shelf
attribute [local go_sem] Oper.semAt_some
end
end

section
theorem floor_same {A d N D : Int} (hd : 1 ≤ d) (hD : 1 ≤ D) (h : A * D = N * d) : A / d = N / D := by
  rw [← Int.mul_ediv_mul_of_pos_left A d (show 0 < D by omega), h, Int.mul_comm d D, Int.mul_ediv_mul_of_pos_left _ _ (by omega)]

def Summed (s : Int × Int × Int) (N D : Int) : Prop := 1 ≤ D ∧ 1 ≤ s.2.2 ∧ s.2.2 ≤ 1000000000000 ∧ 0 ≤ s.2.1 ∧ s.2.1 ≤ 2000000000000 ∧ -3000000000000000 ≤ s.1 ∧ s.1 ≤ 3000000000000000 ∧ (s.1 * s.2.2 + s.2.1) * D = N * s.2.2
theorem Summed.floor {s : Int × Int × Int} {N D : Int} (h : Summed s N D) : s.1 + s.2.1 / s.2.2 = N / D ∧ 0 ≤ s.2.1 / s.2.2 ∧ s.2.1 / s.2.2 ≤ 2000000000000 := by
  obtain ⟨hD, hd, hdm, hn, hn2, w1, w2, e⟩ := h
  refine ⟨?_, Int.ediv_nonneg hn (by omega), ?_⟩
  · rw [← floor_same hd hD e, Int.add_comm (s.1 * s.2.2), Int.add_mul_ediv_right _ _ (by omega), Int.add_comm]
  · have := Int.ediv_le_self s.2.2 hn
    omega
end

section
open Go.RowKit

abbrev xsOf (ps : List P3) : List Int := ps.map (·.1)
end

end Go.Proofs.YtemlaaipnhmcoaaGreat
