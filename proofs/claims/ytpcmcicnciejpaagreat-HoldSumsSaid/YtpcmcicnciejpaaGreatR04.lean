/- The exact area between a line over points and 0, as a numerator over the product of the widths: pure numbers. -/
import Derived.Test.YtpcmcicnciejpaaGreatR03
import Derived.Test.YtpcmcicnciejpaaGreatR02
import Derived.Laws.EntriesVeiled
import Derived.Deep.Onto
set_option linter.unusedVariables false
set_option linter.unusedSimpArgs false
set_option linter.constructorNameAsVariable false
namespace Go.Proofs.YtpcmcicnciejpaaGreat

section
open Go.RowKit

theorem inB_cases {a b lo hi : Int} {t : Bool} (h : inB a b lo hi = t) : (¬ lo ≤ a ∧ t = false) ∨ (lo ≤ a ∧ ¬ a ≤ b ∧ t = false) ∨ (lo ≤ a ∧ a ≤ b ∧ ¬ b ≤ hi ∧ t = false) ∨ (lo ≤ a ∧ a ≤ b ∧ b ≤ hi ∧ t = true) := by
  subst h
  by_cases h1 : lo ≤ a
  · by_cases h2 : a ≤ b
    · by_cases h3 : b ≤ hi
      · exact .inr (.inr (.inr ⟨h1, h2, h3, inB_yes h2 h1 h3⟩))
      · exact .inr (.inr (.inl ⟨h1, h2, h3, inB_no (by omega)⟩))
    · exact .inr (.inl ⟨h1, h2, inB_no (by omega)⟩)
  · exact .inl ⟨h1, inB_no (by omega)⟩
set_option maxRecDepth 100000 in
set_option maxHeartbeats 2000000 in
theorem hwithin_to (a b lo hi : Int) (t : Bool) (w : World) (h : inB a b lo hi = t) :
  Calls Tryz.prog 75 #[rv a b, .int .i64 lo, .int .i64 hi] w fun e w' => e = .returned (.bool t) ∧ Below w.heap.size w w' := by
 rcases inB_cases h with ⟨h1, rfl⟩ | ⟨h1, h2, rfl⟩ | ⟨h1, h2, h3, rfl⟩ | ⟨h1, h2, h3, rfl⟩
 all_goals
  clear h
  go_enter Tryz.func75, Tryz.ntmps75
  go_wp2
  go_ret
  exact ⟨rfl, below_alloc1 _ _⟩
def densS (a b : Int) : Bool := inB a b 100 2000
theorem isDensity_to (a b : Int) (t : Bool) (w : World) (h : densS a b = t) :
  Calls Tryz.prog 68 #[rv a b] w fun e w' => e = .returned (.bool t) ∧ Below w.heap.size w w' := by
 have C : Hid (∀ W, Calls Tryz.prog 75 #[rv a b, .int .i64 100, .int .i64 2000] W fun e w' => e = .returned (.bool t) ∧ Below W.heap.size W w') := Lib.hid fun W => hwithin_to a b 100 2000 t W h
 clear h
 go_enter Tryz.func68, Tryz.ntmps68
 go_wp2_with fail
 refine (C.out _).mono ?_
 rintro e w1 ⟨rfl, hb⟩
 go_wp2
 go_ret
 exact ⟨rfl, below_a1 hb⟩
set_option maxRecDepth 100000 in
theorem hplaces_any (b o m c : Nat) (x xl : Int) (w : World) (hm : (m : Int) ≤ 1000000) (hb : b < w.heap.size) (h0 : w.cell? ⟨b, o, none⟩ = some (.int .i64 x)) (hl : w.cell? ⟨b, o + m * 3, none⟩ = some (.int .i64 xl)) :
  Calls Tryz.prog 55 #[tv (some ⟨b, o, none⟩) (m + 1) c] w fun e w' => e = .returned (rv x xl) ∧ Below w.heap.size w w' := by
 have k1 : (0 : Int) ≤ (m : Int) := by omega
 have k2 : (m : Int) < (m : Int) + 1 := by omega
 have k3 : IntKind.i64.wrap ((m : Int) + 1 - 1) = (m : Int) := by rw [IntWalk.i64_in _ ⟨by omega, by omega⟩]; omega
 go_enter Tryz.func55, Tryz.ntmps55
 go_wp2_with fail
 have z0 : ((w.alloc (.cells #[.slice (some ⟨b, o, none⟩) (m + 1) c] 38)).alloc (.cells #[.int .i64 0, .int .i64 0] 35)).cell? ⟨w.heap.size, 0, none⟩ = some (.slice (some ⟨b, o, none⟩) (m + 1) c) := by simp [go_sem]
 have z1 : ((w.alloc (.cells #[.slice (some ⟨b, o, none⟩) (m + 1) c] 38)).alloc (.cells #[.int .i64 0, .int .i64 0] 35)).cell? ⟨b, o, none⟩ = some (.int .i64 x) := by
  rw [World.cell?_alloc_lt _ _ _ (by simp; omega), World.cell?_alloc_lt _ _ _ hb]; exact h0
 have z2 : ((w.alloc (.cells #[.slice (some ⟨b, o, none⟩) (m + 1) c] 38)).alloc (.cells #[.int .i64 0, .int .i64 0] 35)).cell? ⟨b, o + m * 3, none⟩ = some (.int .i64 xl) := by
  rw [World.cell?_alloc_lt _ _ _ (by simp; omega), World.cell?_alloc_lt _ _ _ hb]; exact hl
 go_region
 go_wp2
 refine bodyPost_ret (v := rv x xl) (by simp [results, Tryz.results55, go_sem]) rfl ⟨rfl, ?_⟩
 exact (((Below.refl _ _).alloc (Nat.le_refl _) _).alloc (by simp) _).drew
theorem hplaces_tab (A : Option Addr) (n c : Nat) (ps : List P3) (w : World) (hp : TabIn w A n ps) (h : tabOk ps = true) :
    Calls Tryz.prog 55 #[tv A n c] w fun e w' => e = .returned (rv (firstX ps) (lastX ps)) ∧ Below w.heap.size w w' := by
  obtain ⟨h1, h2⟩ := tabOk_len h
  obtain ⟨hn, _, hp⟩ := hp
  obtain ⟨b, o, rfl, hb, hc⟩ := hp.block h1
  obtain ⟨m, rfl⟩ : ∃ m, n = m + 1 := ⟨n - 1, by omega⟩
  exact hplaces_any b o m c _ _ w (by omega) hb (first_at hc (by omega)) (last_at hc (by omega))
theorem inPlaces_to (A : Option Addr) (n c : Nat) (ps : List P3) (x y : Int) (t : Bool) (w : World) (hp : TabIn w A n ps) (h : tabOk ps = true) (ht : inB x y (firstX ps) (lastX ps) = t) :
  Calls Tryz.prog 69 #[rv x y, tv A n c] w fun e w' => e = .returned (.bool t) ∧ Below w.heap.size w w' := by
 have hE : Below w.heap.size w ((w.alloc (.cells #[.int .i64 x, .int .i64 y] 35)).alloc (.cells #[.slice A n c] 38)) := below_a2 (Below.refl _ _)
 have C1 : Hid (∀ W, Below w.heap.size w W → Calls Tryz.prog 55 #[tv A n c] W fun e w' => e = .returned (rv (firstX ps) (lastX ps)) ∧ Below W.heap.size W w') := Lib.hid fun W hW => hplaces_tab A n c ps W (hp.below hW) h
 have C2 : Hid (∀ W, Calls Tryz.prog 75 #[rv x y, .int .i64 (firstX ps), .int .i64 (lastX ps)] W fun e w' => e = .returned (.bool t) ∧ Below W.heap.size W w') := Lib.hid fun W => hwithin_to x y _ _ t W ht
 have HE := Lib.hid hE; have HK := Lib.hid (boxes2' w 35 38 #[.int .i64 x, .int .i64 y] #[.slice A n c])
 generalize firstX ps = f at *
 generalize lastX ps = l at *
 clear hE hp h ht
 go_enter Tryz.func69, Tryz.ntmps69
 go_wp2_with fail
 obtain ⟨W0, hW0⟩ : ∃ W0, ((w.alloc (.cells #[.int .i64 x, .int .i64 y] 35)).alloc (.cells #[.slice A n c] 38)) = W0 := ⟨_, rfl⟩
 rw [hW0] at HE HK ⊢
 clear hW0
 refine (C1.out _ HE.out).mono ?_
 rintro e w1 ⟨rfl, hb⟩
 have q0 := (HK.out.on hb _ (.tail _ (.head _))).cell 0
 have q1 := (HK.out.on hb _ (.tail _ (.head _))).cell 1
 have l0 := (HK.out.on hb _ (.tail _ (.head _))).lt
 simp at q0 q1 l0
 have HE1 := Lib.hid (below_then HE.out hb)
 clear hb
 go_wp2_with fail
 refine (C2.out _).mono ?_
 rintro e w2 ⟨rfl, hb⟩
 have HE2 := Lib.hid (below_then (below_then HE1.out (below_alloc1 w1 (.cells #[.int .i64 f, .int .i64 l] 35))) hb)
 clear hb
 go_wp2
 go_ret
 exact ⟨rfl, HE2.out⟩
end

section
open Go.RowKit

abbrev inv1Fn (Bt Ba Bv : Nat) : Value := .func (.func 116) #[] #[.pointer (some ⟨Bt, 0, none⟩), .pointer (some ⟨Ba, 0, none⟩), .pointer (some ⟨Bv, 0, none⟩)]
def Ask1 (Bt Ba Bv : Nat) (f : Int → Bool) (lo hi : Int) (w : World) : Prop := ∀ (W : World) (x : Int) (t : Bool), Below w.heap.size w W → lo ≤ x → x ≤ hi → f x = t →
  Calls Tryz.prog 116 #[.int .i64 x, .pointer (some ⟨Bt, 0, none⟩), .pointer (some ⟨Ba, 0, none⟩), .pointer (some ⟨Bv, 0, none⟩)] W fun e w' => e = .returned (.bool t) ∧ Below W.heap.size W w'
theorem Ask1.below {Bt Ba Bv : Nat} {f : Int → Bool} {lo hi : Int} {w w' : World} (h : Ask1 Bt Ba Bv f lo hi w) (hb : Below w.heap.size w w') : Ask1 Bt Ba Bv f lo hi w' := fun W x t hW => h W x t (below_then hb hW)
def Turn1 (Bs Bl Bt Ba Bv : Nat) (f : Int → Bool) (lo hi : Int) (w : World) : Prop := Blk w Bs 68 #[inv1Fn Bt Ba Bv] ∧ Blk w Bl 3 #[.int .i64 lo] ∧ Ask1 Bt Ba Bv f lo hi w
theorem Turn1.below {Bs Bl Bt Ba Bv : Nat} {f : Int → Bool} {lo hi : Int} {w w' : World} (h : Turn1 Bs Bl Bt Ba Bv f lo hi w) (hb : Below w.heap.size w w') : Turn1 Bs Bl Bt Ba Bv f lo hi w' := ⟨blkOn h.1 hb, blkOn h.2.1 hb, h.2.2.below hb⟩
set_option maxRecDepth 100000 in
set_option maxHeartbeats 1000000 in
theorem turn1_to (Bs Bl Bt Ba Bv : Nat) (f : Int → Bool) (lo hi i : Int) (t : Bool) (w : World) (h : Turn1 Bs Bl Bt Ba Bv f lo hi w) (h0 : 0 ≤ lo) (h1 : hi ≤ 1000000) (hi1 : 0 ≤ i) (hi2 : lo + i ≤ hi) (ht : f (lo + i) = t) :
  Calls Tryz.prog 143 #[.int .i64 i, .pointer (some ⟨Bs, 0, none⟩), .pointer (some ⟨Bl, 0, none⟩)] w fun e w' => e = .returned (.bool t) ∧ Below w.heap.size w w' := by
 have a0 := h.1.cell 0
 have a1 := h.2.1.cell 0
 have l0 := h.1.lt
 have l1 := h.2.1.lt
 simp at a0 a1
 have w1 : IntKind.i64.wrap (lo + i) = lo + i := IntWalk.i64_in _ ⟨by omega, by omega⟩
 have HC : Hid (∀ W, Below w.heap.size w W → Calls Tryz.prog 116 #[.int .i64 (lo + i), .pointer (some ⟨Bt, 0, none⟩), .pointer (some ⟨Ba, 0, none⟩), .pointer (some ⟨Bv, 0, none⟩)] W fun e w' => e = .returned (.bool t) ∧ Below W.heap.size W w') := Lib.hid fun W hW => h.2.2 W (lo + i) t hW (by omega) hi2 ht
 clear h ht
 go_enter Tryz.func143, Tryz.ntmps143
 go_wp2_with fail
 refine (HC.out _ (Below.refl _ _)).mono ?_
 rintro e w1 ⟨rfl, hb⟩
 have HB := Lib.hid hb; clear hb HC
 go_wp2
 go_ret
 exact ⟨rfl, HB.out⟩
abbrev turn1Fn (Bs Bl : Nat) : Value := .func (.func 143) #[] #[.pointer (some ⟨Bs, 0, none⟩), .pointer (some ⟨Bl, 0, none⟩)]
set_option maxRecDepth 100000 in
set_option maxHeartbeats 2000000 in
theorem search1 (Bs Bl Bt Ba Bv : Nat) (f : Int → Bool) (lo hi : Int) (n : Nat) (w : World) (h : Turn1 Bs Bl Bt Ba Bv f lo hi w) (h0 : 0 ≤ lo) (h1 : hi ≤ 1000000) (hn : lo + n ≤ hi + 1) :
  Calls Tryz.prog 124 #[.int .i64 n, turn1Fn Bs Bl] w fun e w' => e = .returned (.int .i64 (bs (fun i => f (lo + i)) n 0 n)) ∧ Below w.heap.size w w' := by
 generalize hR : bs (fun i => f (lo + i)) n 0 n = R
 have HR := Lib.hid hR; clear hR
 have HT := Lib.hid h; clear h
 go_enter Tryz.func124, Tryz.ntmps124
 go_wp2_with fail
 go_loopw [5, 6] (fun vi vj wr => ∃ (i j k : Nat), i ≤ j ∧ j ≤ n ∧ j - i ≤ k ∧ vi = .int .i64 i ∧ vj = .int .i64 j ∧ Below w.heap.size w wr ∧ Hid (bs (fun i => f (lo + i)) k i j = R)) (fun vi vj _ => (intOf vj).toNat - (intOf vi).toNat)
 case atStart => exact ⟨0, n, n, by omega, by omega, by omega, rfl, rfl, Below.refl _ _, HR.out⟩
 case round =>
  obtain ⟨i, j, k, hij, hjn, hk, rfl, rfl, hB, HP⟩ := hrel
  by_cases hlt : i < j
  ·have hlt' : (i : Int) < (j : Int) := by omega
   obtain ⟨k', rfl⟩ : ∃ k', k = k' + 1 := ⟨k - 1, by omega⟩
   obtain ⟨m, hm⟩ : ∃ m : Nat, (i + j) / 2 = m := ⟨_, rfl⟩
   have hmi : ((i : Int) + (j : Int)) / 2 = (m : Int) := by omega
   have m1 : i ≤ m := by omega
   have m2 : m < j := by omega
   have HM := Lib.hid hmi; clear hmi hm
   cases ht : f (lo + m)
   ·have hnext : bs (fun i => f (lo + i)) k' ((m : Int) + 1) j = R := by
     rw [← HP.out, bs_no _ _ _ _ hlt' (by rw [HM.out]; exact ht), HM.out]
    have HNX := Lib.hid hnext; clear hnext HP HR
    have HTT := Lib.hid ht; clear ht
    go_wp2_with fail
    rw [HM.out]
    refine (turn1_to Bs Bl Bt Ba Bv f lo hi m _ wr (HT.out.below hB) h0 h1 (by omega) (by omega) HTT.out).mono ?_
    rintro e w1 ⟨rfl, hb1⟩
    have hB1 := below_then hB hb1
    go_wp2
    go_roundw
    case rel => exact ⟨m + 1, j, k', by omega, by omega, by omega, by rw [Int.natCast_add]; rfl, rfl, hB1, by rw [Int.natCast_add]; exact HNX.out⟩
    case measure => simp [intOf]; omega
   ·have hnext : bs (fun i => f (lo + i)) k' (i : Int) m = R := by
     rw [← HP.out, bs_yes _ _ _ _ hlt' (by rw [HM.out]; exact ht), HM.out]
    have HNX := Lib.hid hnext; clear hnext HP HR
    have HTT := Lib.hid ht; clear ht
    go_wp2_with fail
    rw [HM.out]
    refine (turn1_to Bs Bl Bt Ba Bv f lo hi m _ wr (HT.out.below hB) h0 h1 (by omega) (by omega) HTT.out).mono ?_
    rintro e w1 ⟨rfl, hb1⟩
    have hB1 := below_then hB hb1
    go_wp2
    go_roundw
    case rel => exact ⟨i, m, k', by omega, by omega, by omega, rfl, rfl, hB1, HNX.out⟩
    case measure => simp [intOf]; omega
  ·have hf : R = (i : Int) := by rw [← HP.out]; exact bs_done _ _ _ _ (by omega)
   subst hf
   clear HP HR
   go_wp2
   go_ret
   exact ⟨rfl, hB⟩

theorem first1_to (Bt Ba Bv : Nat) (f : Int → Bool) (lo hi R : Int) (w : World) (hA : Ask1 Bt Ba Bv f lo hi w) (h0 : 0 ≤ lo) (h01 : lo ≤ hi) (h1 : hi ≤ 1000000) (hR : lo + bs (fun i => f (lo + i)) (hi - lo + 1).toNat 0 (hi - lo + 1) = R) :
  Calls Tryz.prog 115 #[.int .i64 lo, .int .i64 hi, inv1Fn Bt Ba Bv] w fun e w' => e = .returned (.int .i64 R) ∧ Below w.heap.size w w' := by
 have hbr := bs_range (fun i => f (lo + i)) (hi - lo + 1).toNat 0 (hi - lo + 1) (by omega)
 obtain ⟨n, hn⟩ : ∃ n : Nat, hi - lo + 1 = n := ⟨(hi - lo + 1).toNat, by omega⟩
 have e1 : (hi - lo + 1).toNat = n := by omega
 rw [e1, hn] at hR hbr
 have w1 : IntKind.i64.wrap (hi - lo) = hi - lo := IntWalk.i64_in _ ⟨by omega, by omega⟩
 have w2 : IntKind.i64.wrap (hi - lo + 1) = (n : Int) := by rw [IntWalk.i64_in _ ⟨by omega, by omega⟩]; exact hn
 have w3 : IntKind.i64.wrap (lo + bs (fun i => f (lo + i)) n 0 n) = R := by rw [IntWalk.i64_in _ ⟨by omega, by omega⟩]; exact hR
 have CS : Hid (∀ W Bs Bl, Turn1 Bs Bl Bt Ba Bv f lo hi W → Calls Tryz.prog 124 #[.int .i64 n, turn1Fn Bs Bl] W fun e w' => e = .returned (.int .i64 (bs (fun i => f (lo + i)) n 0 n)) ∧ Below W.heap.size W w') := Lib.hid fun W Bs Bl hT => search1 Bs Bl Bt Ba Bv f lo hi n W hT h0 h1 (by omega)
 generalize bs (fun i => f (lo + i)) n 0 n = r at *
 have HA := Lib.hid hA
 clear hA hR e1 hn
 have HE := Lib.hid (show Below w.heap.size w ((w.alloc (.cells #[.int .i64 lo] 3)).alloc (.cells #[inv1Fn Bt Ba Bv] 68)) from below_a2 (Below.refl _ _))
 have HK := Lib.hid (boxes2' w 3 68 #[.int .i64 lo] #[inv1Fn Bt Ba Bv])
 go_enter Tryz.func115, Tryz.ntmps115
 go_wp2_with fail
 obtain ⟨W0, hW0⟩ : ∃ W0, ((w.alloc (.cells #[.int .i64 lo] 3)).alloc (.cells #[inv1Fn Bt Ba Bv] 68)) = W0 := ⟨_, rfl⟩
 rw [hW0] at HE HK ⊢
 clear hW0
 obtain ⟨G, hG⟩ : ∃ G, w.heap.size = G := ⟨_, rfl⟩
 rw [hG] at HK ⊢
 clear hG
 have HT := Lib.hid (show Turn1 (G + 1) G Bt Ba Bv f lo hi W0.drew from Turn1.below ⟨HK.out _ (.head _), HK.out _ (.tail _ (.head _)), HA.out.below HE.out⟩ (below_drew1 _))
 have q0 := HT.out.2.1.cell 0
 have hd : G < W0.drew.heap.size := HT.out.2.1.lt
 simp at q0
 have HE1 := Lib.hid HE.out.drew
 clear HA HE HK
 go_region_held3 (fun w' => w'.cell? ⟨G, 0, none⟩ = some (.int .i64 lo))
  (first | (go_keep; done) | exact ((bcell hb1).1 _ _ hd).trans ‹_›)
  (first | (go_at_call 124; refine (CS.out _ _ _ HT.out).mono ?_; rintro e w1 ⟨rfl, hb1⟩))
 have HE2 := Lib.hid (below_then HE1.out hb1)
 clear hb1 HT hd q0
 go_wp2
 go_ret
 exact ⟨rfl, HE2.out⟩

abbrev inv2Fn (Bt Ba Bv : Nat) : Value := .func (.func 118) #[] #[.pointer (some ⟨Bt, 0, none⟩), .pointer (some ⟨Ba, 0, none⟩), .pointer (some ⟨Bv, 0, none⟩)]
def Ask2 (Bt Ba Bv : Nat) (f : Int → Bool) (lo hi : Int) (w : World) : Prop := ∀ (W : World) (x : Int) (t : Bool), Below w.heap.size w W → lo ≤ x → x ≤ hi → f x = t →
  Calls Tryz.prog 118 #[.int .i64 x, .pointer (some ⟨Bt, 0, none⟩), .pointer (some ⟨Ba, 0, none⟩), .pointer (some ⟨Bv, 0, none⟩)] W fun e w' => e = .returned (.bool t) ∧ Below W.heap.size W w'
theorem Ask2.below {Bt Ba Bv : Nat} {f : Int → Bool} {lo hi : Int} {w w' : World} (h : Ask2 Bt Ba Bv f lo hi w) (hb : Below w.heap.size w w') : Ask2 Bt Ba Bv f lo hi w' := fun W x t hW => h W x t (below_then hb hW)
def Turn2 (Bs Bl Bt Ba Bv : Nat) (f : Int → Bool) (lo hi : Int) (w : World) : Prop := Blk w Bs 68 #[inv2Fn Bt Ba Bv] ∧ Blk w Bl 3 #[.int .i64 lo] ∧ Ask2 Bt Ba Bv f lo hi w
theorem Turn2.below {Bs Bl Bt Ba Bv : Nat} {f : Int → Bool} {lo hi : Int} {w w' : World} (h : Turn2 Bs Bl Bt Ba Bv f lo hi w) (hb : Below w.heap.size w w') : Turn2 Bs Bl Bt Ba Bv f lo hi w' := ⟨blkOn h.1 hb, blkOn h.2.1 hb, h.2.2.below hb⟩
set_option maxRecDepth 100000 in
set_option maxHeartbeats 1000000 in
theorem turn2_to (Bs Bl Bt Ba Bv : Nat) (f : Int → Bool) (lo hi i : Int) (t : Bool) (w : World) (h : Turn2 Bs Bl Bt Ba Bv f lo hi w) (h0 : 0 ≤ lo) (h1 : hi ≤ 1000000) (hi1 : 0 ≤ i) (hi2 : lo + i ≤ hi) (ht : f (lo + i) = t) :
  Calls Tryz.prog 143 #[.int .i64 i, .pointer (some ⟨Bs, 0, none⟩), .pointer (some ⟨Bl, 0, none⟩)] w fun e w' => e = .returned (.bool t) ∧ Below w.heap.size w w' := by
 have a0 := h.1.cell 0
 have a1 := h.2.1.cell 0
 have l0 := h.1.lt
 have l1 := h.2.1.lt
 simp at a0 a1
 have w1 : IntKind.i64.wrap (lo + i) = lo + i := IntWalk.i64_in _ ⟨by omega, by omega⟩
 have HC : Hid (∀ W, Below w.heap.size w W → Calls Tryz.prog 118 #[.int .i64 (lo + i), .pointer (some ⟨Bt, 0, none⟩), .pointer (some ⟨Ba, 0, none⟩), .pointer (some ⟨Bv, 0, none⟩)] W fun e w' => e = .returned (.bool t) ∧ Below W.heap.size W w') := Lib.hid fun W hW => h.2.2 W (lo + i) t hW (by omega) hi2 ht
 clear h ht
 go_enter Tryz.func143, Tryz.ntmps143
 go_wp2_with fail
 refine (HC.out _ (Below.refl _ _)).mono ?_
 rintro e w1 ⟨rfl, hb⟩
 have HB := Lib.hid hb; clear hb HC
 go_wp2
 go_ret
 exact ⟨rfl, HB.out⟩
abbrev turn2Fn (Bs Bl : Nat) : Value := .func (.func 143) #[] #[.pointer (some ⟨Bs, 0, none⟩), .pointer (some ⟨Bl, 0, none⟩)]
set_option maxRecDepth 100000 in
set_option maxHeartbeats 2000000 in
theorem search2 (Bs Bl Bt Ba Bv : Nat) (f : Int → Bool) (lo hi : Int) (n : Nat) (w : World) (h : Turn2 Bs Bl Bt Ba Bv f lo hi w) (h0 : 0 ≤ lo) (h1 : hi ≤ 1000000) (hn : lo + n ≤ hi + 1) :
  Calls Tryz.prog 124 #[.int .i64 n, turn2Fn Bs Bl] w fun e w' => e = .returned (.int .i64 (bs (fun i => f (lo + i)) n 0 n)) ∧ Below w.heap.size w w' := by
 generalize hR : bs (fun i => f (lo + i)) n 0 n = R
 have HR := Lib.hid hR; clear hR
 have HT := Lib.hid h; clear h
 go_enter Tryz.func124, Tryz.ntmps124
 go_wp2_with fail
 go_loopw [5, 6] (fun vi vj wr => ∃ (i j k : Nat), i ≤ j ∧ j ≤ n ∧ j - i ≤ k ∧ vi = .int .i64 i ∧ vj = .int .i64 j ∧ Below w.heap.size w wr ∧ Hid (bs (fun i => f (lo + i)) k i j = R)) (fun vi vj _ => (intOf vj).toNat - (intOf vi).toNat)
 case atStart => exact ⟨0, n, n, by omega, by omega, by omega, rfl, rfl, Below.refl _ _, HR.out⟩
 case round =>
  obtain ⟨i, j, k, hij, hjn, hk, rfl, rfl, hB, HP⟩ := hrel
  by_cases hlt : i < j
  ·have hlt' : (i : Int) < (j : Int) := by omega
   obtain ⟨k', rfl⟩ : ∃ k', k = k' + 1 := ⟨k - 1, by omega⟩
   obtain ⟨m, hm⟩ : ∃ m : Nat, (i + j) / 2 = m := ⟨_, rfl⟩
   have hmi : ((i : Int) + (j : Int)) / 2 = (m : Int) := by omega
   have m1 : i ≤ m := by omega
   have m2 : m < j := by omega
   have HM := Lib.hid hmi; clear hmi hm
   cases ht : f (lo + m)
   ·have hnext : bs (fun i => f (lo + i)) k' ((m : Int) + 1) j = R := by
     rw [← HP.out, bs_no _ _ _ _ hlt' (by rw [HM.out]; exact ht), HM.out]
    have HNX := Lib.hid hnext; clear hnext HP HR
    have HTT := Lib.hid ht; clear ht
    go_wp2_with fail
    rw [HM.out]
    refine (turn2_to Bs Bl Bt Ba Bv f lo hi m _ wr (HT.out.below hB) h0 h1 (by omega) (by omega) HTT.out).mono ?_
    rintro e w1 ⟨rfl, hb1⟩
    have hB1 := below_then hB hb1
    go_wp2
    go_roundw
    case rel => exact ⟨m + 1, j, k', by omega, by omega, by omega, by rw [Int.natCast_add]; rfl, rfl, hB1, by rw [Int.natCast_add]; exact HNX.out⟩
    case measure => simp [intOf]; omega
   ·have hnext : bs (fun i => f (lo + i)) k' (i : Int) m = R := by
     rw [← HP.out, bs_yes _ _ _ _ hlt' (by rw [HM.out]; exact ht), HM.out]
    have HNX := Lib.hid hnext; clear hnext HP HR
    have HTT := Lib.hid ht; clear ht
    go_wp2_with fail
    rw [HM.out]
    refine (turn2_to Bs Bl Bt Ba Bv f lo hi m _ wr (HT.out.below hB) h0 h1 (by omega) (by omega) HTT.out).mono ?_
    rintro e w1 ⟨rfl, hb1⟩
    have hB1 := below_then hB hb1
    go_wp2
    go_roundw
    case rel => exact ⟨i, m, k', by omega, by omega, by omega, rfl, rfl, hB1, HNX.out⟩
    case measure => simp [intOf]; omega
  ·have hf : R = (i : Int) := by rw [← HP.out]; exact bs_done _ _ _ _ (by omega)
   subst hf
   clear HP HR
   go_wp2
   go_ret
   exact ⟨rfl, hB⟩

theorem first2_to (Bt Ba Bv : Nat) (f : Int → Bool) (lo hi R : Int) (w : World) (hA : Ask2 Bt Ba Bv f lo hi w) (h0 : 0 ≤ lo) (h01 : lo ≤ hi) (h1 : hi ≤ 1000000) (hR : lo + bs (fun i => f (lo + i)) (hi - lo + 1).toNat 0 (hi - lo + 1) = R) :
  Calls Tryz.prog 115 #[.int .i64 lo, .int .i64 hi, inv2Fn Bt Ba Bv] w fun e w' => e = .returned (.int .i64 R) ∧ Below w.heap.size w w' := by
 have hbr := bs_range (fun i => f (lo + i)) (hi - lo + 1).toNat 0 (hi - lo + 1) (by omega)
 obtain ⟨n, hn⟩ : ∃ n : Nat, hi - lo + 1 = n := ⟨(hi - lo + 1).toNat, by omega⟩
 have e1 : (hi - lo + 1).toNat = n := by omega
 rw [e1, hn] at hR hbr
 have w1 : IntKind.i64.wrap (hi - lo) = hi - lo := IntWalk.i64_in _ ⟨by omega, by omega⟩
 have w2 : IntKind.i64.wrap (hi - lo + 1) = (n : Int) := by rw [IntWalk.i64_in _ ⟨by omega, by omega⟩]; exact hn
 have w3 : IntKind.i64.wrap (lo + bs (fun i => f (lo + i)) n 0 n) = R := by rw [IntWalk.i64_in _ ⟨by omega, by omega⟩]; exact hR
 have CS : Hid (∀ W Bs Bl, Turn2 Bs Bl Bt Ba Bv f lo hi W → Calls Tryz.prog 124 #[.int .i64 n, turn2Fn Bs Bl] W fun e w' => e = .returned (.int .i64 (bs (fun i => f (lo + i)) n 0 n)) ∧ Below W.heap.size W w') := Lib.hid fun W Bs Bl hT => search2 Bs Bl Bt Ba Bv f lo hi n W hT h0 h1 (by omega)
 generalize bs (fun i => f (lo + i)) n 0 n = r at *
 have HA := Lib.hid hA
 clear hA hR e1 hn
 have HE := Lib.hid (show Below w.heap.size w ((w.alloc (.cells #[.int .i64 lo] 3)).alloc (.cells #[inv2Fn Bt Ba Bv] 68)) from below_a2 (Below.refl _ _))
 have HK := Lib.hid (boxes2' w 3 68 #[.int .i64 lo] #[inv2Fn Bt Ba Bv])
 go_enter Tryz.func115, Tryz.ntmps115
 go_wp2_with fail
 obtain ⟨W0, hW0⟩ : ∃ W0, ((w.alloc (.cells #[.int .i64 lo] 3)).alloc (.cells #[inv2Fn Bt Ba Bv] 68)) = W0 := ⟨_, rfl⟩
 rw [hW0] at HE HK ⊢
 clear hW0
 obtain ⟨G, hG⟩ : ∃ G, w.heap.size = G := ⟨_, rfl⟩
 rw [hG] at HK ⊢
 clear hG
 have HT := Lib.hid (show Turn2 (G + 1) G Bt Ba Bv f lo hi W0.drew from Turn2.below ⟨HK.out _ (.head _), HK.out _ (.tail _ (.head _)), HA.out.below HE.out⟩ (below_drew1 _))
 have q0 := HT.out.2.1.cell 0
 have hd : G < W0.drew.heap.size := HT.out.2.1.lt
 simp at q0
 have HE1 := Lib.hid HE.out.drew
 clear HA HE HK
 go_region_held3 (fun w' => w'.cell? ⟨G, 0, none⟩ = some (.int .i64 lo))
  (first | (go_keep; done) | exact ((bcell hb1).1 _ _ hd).trans ‹_›)
  (first | (go_at_call 124; refine (CS.out _ _ _ HT.out).mono ?_; rintro e w1 ⟨rfl, hb1⟩))
 have HE2 := Lib.hid (below_then HE1.out hb1)
 clear hb1 HT hd q0
 go_wp2
 go_ret
 exact ⟨rfl, HE2.out⟩
end

section
open Go.RowKit

theorem below_a4 {w w1 : World} {o0 o1 o2 o3 : Obj} (hb : Below ((((w.alloc o0).alloc o1).alloc o2).alloc o3).heap.size ((((w.alloc o0).alloc o1).alloc o2).alloc o3) w1) : Below w.heap.size w w1 := below_a1 (below_a3 hb)
theorem below_a5 {w w1 : World} {o0 o1 o2 o3 o4 : Obj} (hb : Below (((((w.alloc o0).alloc o1).alloc o2).alloc o3).alloc o4).heap.size (((((w.alloc o0).alloc o1).alloc o2).alloc o3).alloc o4) w1) : Below w.heap.size w w1 := below_a1 (below_a4 hb)
theorem boxes4' (w : World) (t1 t2 t3 t4 : TypeId) (c1 c2 c3 c4 : Array Value) : Boxes ((((w.alloc (.cells c1 t1)).alloc (.cells c2 t2)).alloc (.cells c3 t3)).alloc (.cells c4 t4)) [(w.heap.size + 1 + 1 + 1, t4, c4), (w.heap.size + 1 + 1, t3, c3), (w.heap.size + 1, t2, c2), (w.heap.size, t1, c1)] := by
  have h2 := (boxes3' w t1 t2 t3 c1 c2 c3).new t4 c4
  simp only [World.size_alloc] at h2
  exact h2
theorem boxes5' (w : World) (t1 t2 t3 t4 t5 : TypeId) (c1 c2 c3 c4 c5 : Array Value) : Boxes (((((w.alloc (.cells c1 t1)).alloc (.cells c2 t2)).alloc (.cells c3 t3)).alloc (.cells c4 t4)).alloc (.cells c5 t5)) [(w.heap.size + 1 + 1 + 1 + 1, t5, c5), (w.heap.size + 1 + 1 + 1, t4, c4), (w.heap.size + 1 + 1, t3, c3), (w.heap.size + 1, t2, c2), (w.heap.size, t1, c1)] := by
  have h2 := (boxes4' w t1 t2 t3 t4 c1 c2 c3 c4).new t5 c5
  simp only [World.size_alloc] at h2
  exact h2
end

section
open Go.RowKit

theorem wpList_act {P : Program} {ops : Array Oper} {Q : Exit → Act → World → Prop} {rest : List Oper} {a b : Act} {w : World} (h : a = b) (k : wpList P ops Q rest b w) : wpList P ops Q rest a w := h ▸ k
theorem below_setRow {n : Nat} {w w' : World} {g : Nat} (hb : Below n w w') (hg : n ≤ g) (cs : Array Value) : Below n w (w'.setRow g cs) :=
  ⟨hb.os, hb.tape, hb.output, by simpa [World.setRow] using hb.size, fun i hi => by
    rw [show (w'.setRow g cs).heap[i]? = w'.heap[i]? by
      simp only [World.setRow, Array.getElem?_modify]
      rw [if_neg (by omega)]]
    exact hb.block i hi⟩
abbrev fnV (n : Nat) : Value := .func (.func n) #[] #[]
abbrev emptyM : Array Value := #[fnV 127, fnV 128, fnV 128, fnV 128, fnV 129, .int .i64 0, .int .i64 22, .int .i64 22]
abbrev filledM (n : Nat) : Array Value := #[fnV 130, fnV 131, fnV n, fnV 132, fnV 133, .int .i64 24, .int .i64 0, .int .i64 22]
abbrev partlyM (n : Nat) : Array Value := #[fnV 134, fnV 135, fnV n, fnV 136, fnV 137, .int .i64 0, .int .i64 0, .int .i64 0]
abbrev heldM : Array Value := #[fnV 134, fnV 135, fnV 128, fnV 136, fnV 137, .int .i64 22, .int .i64 22, .int .i64 0]
abbrev allM : Array Value := #[fnV 127, fnV 128, fnV 128, fnV 128, fnV 129, .int .i64 0, .int .i64 22, .int .i64 22, fnV 130, fnV 131, fnV 98, fnV 132, fnV 133, .int .i64 24, .int .i64 0, .int .i64 22, fnV 130, fnV 131, fnV 99, fnV 132, fnV 133, .int .i64 24, .int .i64 0, .int .i64 22, fnV 134, fnV 135, fnV 101, fnV 136, fnV 137, .int .i64 0, .int .i64 0, .int .i64 0, fnV 134, fnV 135, fnV 128, fnV 136, fnV 137, .int .i64 22, .int .i64 22, .int .i64 0, fnV 134, fnV 135, fnV 128, fnV 136, fnV 137, .int .i64 22, .int .i64 22, .int .i64 0]

set_option maxRecDepth 100000 in
set_option maxHeartbeats 2000000 in
theorem hempty_any (w : World) : Calls Tryz.prog 96 #[] w fun e w' => e = .returned (.agg emptyM) ∧ Below w.heap.size w w' := by
 go_enter Tryz.func96, Tryz.ntmps96
 go_wp2
 refine bodyPost_ret (v := .agg emptyM) (by simp [results, Tryz.results96, go_sem]) rfl ⟨rfl, ?_⟩
 repeat (first | exact Below.refl _ _ | refine Below.alloc ?_ (by simp <;> omega) _ | refine Below.setCell ?_ (by simp <;> omega) _)

set_option maxRecDepth 100000 in
set_option maxHeartbeats 2000000 in
theorem filled_any (n : Nat) (w : World) : Calls Tryz.prog 97 #[fnV n] w fun e w' => e = .returned (.agg (filledM n)) ∧ Below w.heap.size w w' := by
 go_enter Tryz.func97, Tryz.ntmps97
 go_wp2
 refine bodyPost_ret (v := .agg (filledM n)) (by simp [results, Tryz.results97, go_sem]) rfl ⟨rfl, ?_⟩
 repeat (first | exact Below.refl _ _ | refine Below.alloc ?_ (by simp <;> omega) _ | refine Below.setCell ?_ (by simp <;> omega) _)

set_option maxRecDepth 100000 in
set_option maxHeartbeats 2000000 in
theorem partly_any (n : Nat) (w : World) : Calls Tryz.prog 100 #[fnV n] w fun e w' => e = .returned (.agg (partlyM n)) ∧ Below w.heap.size w w' := by
 go_enter Tryz.func100, Tryz.ntmps100
 go_wp2
 refine bodyPost_ret (v := .agg (partlyM n)) (by simp [results, Tryz.results100, go_sem]) rfl ⟨rfl, ?_⟩
 repeat (first | exact Below.refl _ _ | refine Below.alloc ?_ (by simp <;> omega) _ | refine Below.setCell ?_ (by simp <;> omega) _)

set_option maxRecDepth 100000 in
set_option maxHeartbeats 4000000 in
theorem held_any (w : World) : Calls Tryz.prog 102 #[] w fun e w' => e = .returned (.agg heldM) ∧ Below w.heap.size w w' := by
 have C : Hid (∀ W, Calls Tryz.prog 100 #[fnV 128] W fun e w' => e = .returned (.agg (partlyM 128)) ∧ Below W.heap.size W w') := Lib.hid fun W => partly_any _ W
 have HE := Lib.hid (below_alloc1 w (.cells #[.nilFunc, .nilFunc, .nilFunc, .nilFunc, .nilFunc, .int .i64 0, .int .i64 0, .int .i64 0] 99))
 have HK := Lib.hid (boxes1' w 99 #[.nilFunc, .nilFunc, .nilFunc, .nilFunc, .nilFunc, .int .i64 0, .int .i64 0, .int .i64 0])
 go_enter Tryz.func102, Tryz.ntmps102
 go_wp2_with fail
 obtain ⟨W0, hW0⟩ : ∃ W0, w.alloc (.cells #[.nilFunc, .nilFunc, .nilFunc, .nilFunc, .nilFunc, .int .i64 0, .int .i64 0, .int .i64 0] 99) = W0 := ⟨_, rfl⟩
 rw [hW0] at HE HK ⊢
 clear hW0
 obtain ⟨G, hG⟩ : ∃ G, w.heap.size = G := ⟨_, rfl⟩
 rw [hG] at HK ⊢
 have HG := Lib.hid hG; clear hG
 refine (C.out _).mono ?_
 rintro e w1 ⟨rfl, hb⟩
 have HE1 := Lib.hid (below_then (below_then HE.out hb) (below_alloc1 w1 (.cells heldM 99)))
 have HKN := Lib.hid ((HK.out.on hb).new 99 heldM)
 clear hb HE HK C
 go_upto_region 3 with fail
 obtain ⟨W2, hW2⟩ : ∃ W2, w1.alloc (.cells heldM 99) = W2 := ⟨_, rfl⟩
 rw [show w1.alloc (.cells #[.func (.func 134) #[] #[], .func (.func 135) #[] #[], .func (.func 128) #[] #[], .func (.func 136) #[] #[], .func (.func 137) #[] #[], .int .i64 22, .int .i64 22, .int .i64 0] 99) = W2 from hW2]
 rw [hW2] at HE1 HKN
 clear hW2
 obtain ⟨N, hN⟩ : ∃ N, w1.heap.size = N := ⟨_, rfl⟩
 rw [hN] at HKN ⊢
 clear hN
 refine wp_region_lit ?_
 refine wpList_load_row rfl 99 (.tmp 1) rfl N rfl 99 heldM (0, 0) _ (HKN.out _ (.head _)) Tryz.underlying99 rfl (by kernel_rfl) ?_
 refine wpList_act (b := { tmps := #[.pointer (some ⟨G, 0, none⟩), .pointer (some ⟨N, 0, none⟩), .agg (partlyM 128), .pointer (some ⟨N, 5, none⟩), .pointer (some ⟨N, 6, none⟩), .agg heldM], defers := [] }) (by kernel_rfl) ?_
 refine wpList_store_row rfl 99 (.tmp 0) (.tmp 5) rfl G heldM rfl rfl 99 _ (HKN.out _ (.tail _ (.head _))) (by kernel_rfl) rfl (by kernel_rfl) ?_
 have HKR : Hid (Blk (W2.setRow G heldM) G 99 heldM) := Lib.hid (setRow_heap W2 G _ _ 99 _ (HKN.out _ (.tail _ (.head _))))
 have HE6 := Lib.hid (below_setRow HE1.out (show w.heap.size ≤ G by have := HG.out; omega) heldM)
 obtain ⟨W6, hW6⟩ : ∃ W6, W2.setRow G heldM = W6 := ⟨_, rfl⟩
 rw [hW6] at HKR HE6 ⊢
 clear hW6 HKN HE1
 go_wp2
 exact bodyPost_ret (v := .agg heldM) (results_cell_row Tryz.results102 _ _ G 99 heldM (0, 0) _ rfl HKR.out Tryz.underlying99 rfl (by kernel_rfl)) rfl ⟨rfl, HE6.out⟩

set_option maxRecDepth 100000 in
set_option maxHeartbeats 8000000 in
theorem meanings_any (w : World) : Calls Tryz.prog 64 #[] w fun e w' => e = .returned (.agg allM) ∧ Below w.heap.size w w' := by
 have HE := Lib.hid (below_alloc1 w (.cells #[.nilFunc, .nilFunc, .nilFunc, .nilFunc, .nilFunc, .int .i64 0, .int .i64 0, .int .i64 0, .nilFunc, .nilFunc, .nilFunc, .nilFunc, .nilFunc, .int .i64 0, .int .i64 0, .int .i64 0, .nilFunc, .nilFunc, .nilFunc, .nilFunc, .nilFunc, .int .i64 0, .int .i64 0, .int .i64 0, .nilFunc, .nilFunc, .nilFunc, .nilFunc, .nilFunc, .int .i64 0, .int .i64 0, .int .i64 0, .nilFunc, .nilFunc, .nilFunc, .nilFunc, .nilFunc, .int .i64 0, .int .i64 0, .int .i64 0, .nilFunc, .nilFunc, .nilFunc, .nilFunc, .nilFunc, .int .i64 0, .int .i64 0, .int .i64 0] 120))
 have HK := Lib.hid (boxes1' w 120 #[.nilFunc, .nilFunc, .nilFunc, .nilFunc, .nilFunc, .int .i64 0, .int .i64 0, .int .i64 0, .nilFunc, .nilFunc, .nilFunc, .nilFunc, .nilFunc, .int .i64 0, .int .i64 0, .int .i64 0, .nilFunc, .nilFunc, .nilFunc, .nilFunc, .nilFunc, .int .i64 0, .int .i64 0, .int .i64 0, .nilFunc, .nilFunc, .nilFunc, .nilFunc, .nilFunc, .int .i64 0, .int .i64 0, .int .i64 0, .nilFunc, .nilFunc, .nilFunc, .nilFunc, .nilFunc, .int .i64 0, .int .i64 0, .int .i64 0, .nilFunc, .nilFunc, .nilFunc, .nilFunc, .nilFunc, .int .i64 0, .int .i64 0, .int .i64 0])
 go_enter Tryz.func64, Tryz.ntmps64
 go_wp2_with fail
 obtain ⟨W0, hW0⟩ : ∃ W0, w.alloc (.cells #[.nilFunc, .nilFunc, .nilFunc, .nilFunc, .nilFunc, .int .i64 0, .int .i64 0, .int .i64 0, .nilFunc, .nilFunc, .nilFunc, .nilFunc, .nilFunc, .int .i64 0, .int .i64 0, .int .i64 0, .nilFunc, .nilFunc, .nilFunc, .nilFunc, .nilFunc, .int .i64 0, .int .i64 0, .int .i64 0, .nilFunc, .nilFunc, .nilFunc, .nilFunc, .nilFunc, .int .i64 0, .int .i64 0, .int .i64 0, .nilFunc, .nilFunc, .nilFunc, .nilFunc, .nilFunc, .int .i64 0, .int .i64 0, .int .i64 0, .nilFunc, .nilFunc, .nilFunc, .nilFunc, .nilFunc, .int .i64 0, .int .i64 0, .int .i64 0] 120) = W0 := ⟨_, rfl⟩
 rw [hW0] at HE HK ⊢
 clear hW0
 obtain ⟨G, hG⟩ : ∃ G, w.heap.size = G := ⟨_, rfl⟩
 rw [hG] at HK ⊢
 have HG := Lib.hid hG; clear hG
 refine (hempty_any _).mono ?_
 rintro e y0 ⟨rfl, hb⟩
 have HE0 := Lib.hid (below_then HE.out hb); have HK0 := Lib.hid (HK.out.on hb)
 clear hb HE HK
 go_wp2_with fail
 refine (filled_any _ _).mono ?_
 rintro e y1 ⟨rfl, hb⟩
 have HE1 := Lib.hid (below_then HE0.out hb); have HK1 := Lib.hid (HK0.out.on hb)
 clear hb HE0 HK0
 go_wp2_with fail
 refine (filled_any _ _).mono ?_
 rintro e y2 ⟨rfl, hb⟩
 have HE2 := Lib.hid (below_then HE1.out hb); have HK2 := Lib.hid (HK1.out.on hb)
 clear hb HE1 HK1
 go_wp2_with fail
 refine (partly_any _ _).mono ?_
 rintro e y3 ⟨rfl, hb⟩
 have HE3 := Lib.hid (below_then HE2.out hb); have HK3 := Lib.hid (HK2.out.on hb)
 clear hb HE2 HK2
 go_wp2_with fail
 refine (held_any _).mono ?_
 rintro e y4 ⟨rfl, hb⟩
 have HE4 := Lib.hid (below_then HE3.out hb); have HK4 := Lib.hid (HK3.out.on hb)
 clear hb HE3 HK3
 go_wp2_with fail
 refine (held_any _).mono ?_
 rintro e y5 ⟨rfl, hb⟩
 have HE5 := Lib.hid (below_then HE4.out hb); have HK5 := Lib.hid (HK4.out.on hb)
 clear hb HE4 HK4
 rename_i hK
 refine hK _ _ ?_
 refine wpList_build rfl 120 _ rfl (by kernel_rfl) ?_
 have HROW := Lib.hid (show y5.heap[G]? = some (.cells _ 120 (0, 0)) from HK5.out _ (.head _))
 refine wpList_act (b := { tmps := #[.pointer (some ⟨G, 0, none⟩), .agg emptyM, .agg (filledM 98), .agg (filledM 99), .agg (partlyM 101), .agg heldM, .agg heldM, .agg allM], defers := [] }) (by kernel_rfl) ?_
 refine wpList_store_row rfl 120 (.tmp 0) (.tmp 7) rfl G allM rfl rfl 120 _ HROW.out (by kernel_rfl) rfl (by kernel_rfl) ?_
 have HKR : Hid (Blk (y5.setRow G allM) G 120 allM) := Lib.hid (setRow_heap y5 G _ _ 120 _ HROW.out)
 have HE6 := Lib.hid (below_setRow HE5.out (show w.heap.size ≤ G by have := HG.out; omega) allM)
 obtain ⟨W6, hW6⟩ : ∃ W6, y5.setRow G allM = W6 := ⟨_, rfl⟩
 rw [hW6] at HKR HE6 ⊢
 clear hW6 HROW HK5 HE5 hK
 go_wp2
 exact bodyPost_ret (v := .agg allM) (results_cell_row Tryz.results64 _ _ G 120 allM (0, 0) _ rfl HKR.out Tryz.underlying120 rfl (by kernel_rfl)) rfl ⟨rfl, HE6.out⟩
end

section
open Go.RowKit Go.Shelf
attribute [local go_sem] Oper.semAt_some
def runStep (f : P3 → P3 → Int × Int) (L : List (Int × Int)) (y : Pr) : List (Int × Int) := if (f y.1.1 y.1.2).1 ≤ (f y.1.1 y.1.2).2 then addRun L (f y.1.1 y.1.2) else L
def runsF (f : P3 → P3 → Int × Int) (pre : List Pr) : List (Int × Int) := pre.foldl (runStep f) []
theorem runsF_snoc (f : P3 → P3 → Int × Int) (pre : List Pr) (y : Pr) : runsF f (pre ++ [y]) = runStep f (runsF f pre) y := by simp [runsF]
theorem runStep_len (f : P3 → P3 → Int × Int) (L : List (Int × Int)) (y : Pr) : (runStep f L y).length ≤ L.length + 1 := by
  unfold runStep; split
  · exact addRun_len _ _
  · omega
theorem foldl_runStep_len (f : P3 → P3 → Int × Int) : ∀ (pre : List Pr) (L : List (Int × Int)), (pre.foldl (runStep f) L).length ≤ L.length + pre.length
  | [], L => by simp
  | y :: pre, L => by
    have h1 := foldl_runStep_len f pre (runStep f L y)
    have h2 := runStep_len f L y
    simp only [List.foldl_cons, List.length_cons]; omega
theorem runsF_len (f : P3 → P3 → Int × Int) (pre : List Pr) : (runsF f pre).length ≤ pre.length := by
  have := foldl_runStep_len f pre []; simpa [runsF] using this

theorem OwnRuns.grown {base : Nat} {X Y : World} {row : Option Nat} {v : Value} {L : List (Int × Int)} (ho : OwnRuns base X v L) (hg : X.grownBy Y row) (hr : ∀ r, row = some r → ∃ o : Obj, X.heap[r]? = some o ∧ o.isCells = false) : OwnRuns base Y v L := by
  have ho' : X.ownsRow base 35 2 v L.length (runCells L) := ho
  refine World.ownsRow.kept ho' hg ?_
  rcases ho'.2 with ⟨h1, _⟩ | ⟨g3, cap3, cur3, h1, _, h2, _⟩
  · left; rw [h1]; rfl
  · right
    rw [h1]
    intro e
    obtain ⟨o, ho2, hc⟩ := hr g3 (by rw [← e]; rfl)
    rw [h2] at ho2
    cases ho2; cases hc
theorem OwnRuns.mono {base base' : Nat} {X : World} {v : Value} {L : List (Int × Int)} (ho : OwnRuns base X v L) (hb : base' ≤ base) : OwnRuns base' X v L := World.ownsRow.mono ho hb
theorem RunsN.grown {g base : Nat} {X Y : World} {row : Option Nat} {L : List (Int × Int)} (h : RunsN g base X L) (hg : X.grownBy Y row) (hr : ∀ r, row = some r → ∃ o : Obj, X.heap[r]? = some o ∧ o.isCells = false) : RunsN g base Y L := by
  have hcell : ∀ (cs : Array Value), Blk X g 166 cs → Blk Y g 166 cs := fun cs hb =>
    hb.grown hg (fun e' => by obtain ⟨o, ho, hc⟩ := hr g e'.symm; rw [show X.heap[g]? = _ from hb] at ho; cases ho; cases hc)
  rcases h with ⟨rfl, h⟩ | ⟨hne, v, hb, ho⟩
  · exact .inl ⟨rfl, hcell _ h⟩
  · exact .inr ⟨hne, v, hcell _ hb, ho.grown hg hr⟩
theorem RunsN.alloc {g base : Nat} {X : World} {L : List (Int × Int)} (h : RunsN g base X L) (o : Obj) : RunsN g base (X.alloc o) L := h.grown (World.grownBy_alloc X o none) (fun _ e => by cases e)
theorem RunsN.below {g base : Nat} {X Y : World} {L : List (Int × Int)} (h : RunsN g base X L) (hb : Below X.heap.size X Y) : RunsN g base Y L := h.grown (below_grownNone hb) (fun _ e => by cases e)
theorem Most.below {base g n : Nat} {w w' : World} (h : Most base g w w') (h1 : n ≤ base) (h2 : n ≤ g) : Below n w w' := ⟨h.1, h.2.1, h.2.2.1, h.2.2.2.1, fun k hk => h.2.2.2.2 k (by omega) (by omega)⟩
theorem Blk.most {base g j : Nat} {w w' : World} {t : TypeId} {cs : Array Value} (hb : Blk w j t cs) (h : Most base g w w') (h1 : j < base) (h2 : j ≠ g) : Blk w' j t cs := by
  unfold Blk at hb ⊢
  rw [h.2.2.2.2 j h1 h2]; exact hb
theorem below_then' {n : Nat} {X Y Z : World} (h : Below n X Y) (hb : Below Y.heap.size Y Z) (a b : Int) (hn : n ≤ Y.heap.size) : Below n X (Z.alloc (.cells #[.int .i64 a, .int .i64 b] 35)) :=
  (h.trans (hb.mono hn)).alloc (Nat.le_trans hn hb.size) _
def GivesRuns (w : World) (L : List (Int × Int)) (e : Ending) (w' : World) : Prop := ∃ v, e = .returned v ∧ OwnRuns w.heap.size w' v L ∧ Below w.heap.size w w'
@[reducible] def whereFn (Br : Nat) : Value := .func (.func 89) #[] #[.pointer (some ⟨Br, 0, none⟩)]

set_option maxRecDepth 100000 in
set_option maxHeartbeats 4000000 in
theorem collect_where (b0 o n c Br : Nat) (ps : List P3) (xs : List Pr) (lo hi : Int) (w : World) (hn : n = ps.length) (h2 : 1 ≤ n) (hb : b0 < w.heap.size) (ht : tabOk ps = true) (hxs : xs.map (·.1) = pcs ps) (hc : PtsAt w b0 o ps)
    (hr : Blk w Br 35 #[.int .i64 lo, .int .i64 hi]) :
    Calls Tryz.prog 88 #[tv (some ⟨b0, o, none⟩) n c, whereFn Br] w fun e w' => GivesRuns w (runsF (whereS lo hi) xs) e w' := by
  have h40 := (tabOk_len ht).2
  have hml : n ≤ maxLen := by unfold maxLen; omega
  have hn40 : n ≤ 40 := by omega
  have hbr := hr.lt
  have HN := Lib.hid hn; clear hn
  have HT := Lib.hid ht; clear ht
  have HX := Lib.hid hxs; clear hxs
  refine (callsIn_wide (n := 6)).1 ?_
  refine callsIn_of_wp_marks Tryz.func88 rfl trivial ?_ rfl
  simp only [Tryz.ntmps88, List.size_toArray, List.length_cons, List.length_nil, Nat.reduceAdd, Nat.reduceSub, Array.replicate_succ, Array.replicate_zero, List.push_toArray, List.append_toArray, List.nil_append, List.cons_append]
  gi_wp2_with (refine ⟨trivial, ?_⟩; gi_at_call 122; refine (callsIn_wide.2 (pieces_any _ _ _ _)).mono ?_; rintro e w' ⟨rfl, rfl⟩)
  have bF := (((Blk.new (w.alloc (.cells #[.slice (some ⟨b0, o, none⟩) n c] 38)) 141 #[whereFn Br]).alloc (.cells #[.slice none 0 0] 166)).alloc (.cells #[.pointer (some ⟨w.heap.size + 1 + 1, 0, none⟩)] 164)).alloc (.cells #[.slice (some ⟨b0, o, none⟩) n c] 38)
  have bG := ((Blk.new ((w.alloc (.cells #[.slice (some ⟨b0, o, none⟩) n c] 38)).alloc (.cells #[whereFn Br] 141)) 166 #[.slice none 0 0]).alloc (.cells #[.pointer (some ⟨w.heap.size + 1 + 1, 0, none⟩)] 164)).alloc (.cells #[.slice (some ⟨b0, o, none⟩) n c] 38)
  have bL := (Blk.new (((w.alloc (.cells #[.slice (some ⟨b0, o, none⟩) n c] 38)).alloc (.cells #[whereFn Br] 141)).alloc (.cells #[.slice none 0 0] 166)) 164 #[.pointer (some ⟨w.heap.size + 1 + 1, 0, none⟩)]).alloc (.cells #[.slice (some ⟨b0, o, none⟩) n c] 38)
  have bT := Blk.new ((((w.alloc (.cells #[.slice (some ⟨b0, o, none⟩) n c] 38)).alloc (.cells #[whereFn Br] 141)).alloc (.cells #[.slice none 0 0] 166)).alloc (.cells #[.pointer (some ⟨w.heap.size + 1 + 1, 0, none⟩)] 164)) 38 #[.slice (some ⟨b0, o, none⟩) n c]
  simp only [World.size_alloc] at bF bG bL bT
  have hE : Below w.heap.size w (((((w.alloc (.cells #[.slice (some ⟨b0, o, none⟩) n c] 38)).alloc (.cells #[whereFn Br] 141)).alloc (.cells #[.slice none 0 0] 166)).alloc (.cells #[.pointer (some ⟨w.heap.size + 1 + 1, 0, none⟩)] 164)).alloc (.cells #[.slice (some ⟨b0, o, none⟩) n c] 38)) := below_a3 (below_a2 (Below.refl _ _))
  have hsz : (((((w.alloc (.cells #[.slice (some ⟨b0, o, none⟩) n c] 38)).alloc (.cells #[whereFn Br] 141)).alloc (.cells #[.slice none 0 0] 166)).alloc (.cells #[.pointer (some ⟨w.heap.size + 1 + 1, 0, none⟩)] 164)).alloc (.cells #[.slice (some ⟨b0, o, none⟩) n c] 38)).heap.size = w.heap.size + 5 := by simp
  obtain ⟨W0, hW0⟩ : ∃ W0, (((((w.alloc (.cells #[.slice (some ⟨b0, o, none⟩) n c] 38)).alloc (.cells #[whereFn Br] 141)).alloc (.cells #[.slice none 0 0] 166)).alloc (.cells #[.pointer (some ⟨w.heap.size + 1 + 1, 0, none⟩)] 164)).alloc (.cells #[.slice (some ⟨b0, o, none⟩) n c] 38)) = W0 := ⟨_, rfl⟩
  rw [hW0] at bF bG bL bT hE hsz ⊢
  clear hW0
  have hc0 := hc.below hE hb
  have hr0 := hr.below hE hbr
  have HE := Lib.hid hE
  clear hE hc hr
  refine wpIn_rangeFunc_ownH rfl (by omega) (gf := 144) (lb := #[.pointer (some ⟨w.heap.size + 1 + 1 + 1 + 1, 0, none⟩)]) rfl trivial (enters_of Tryz.func144 (by kernel_rfl) rfl)
    (rise_stops xs (6 - 1) (by omega) (w.heap.size + 1 + 1 + 1 + 1) w.heap.size b0 o n c ps HN.out h2 hn40 HX.out hb W0 (by omega) (by omega) (bT.cell 0) hc0) belowK_t (belowK_b (by omega)) (Below.refl _ _) (fun _ => rfl)
    (fun pre W => (Blk W (w.heap.size + 1) 141 #[whereFn Br] ∧ Blk W (w.heap.size + 1 + 1 + 1) 164 #[.pointer (some ⟨w.heap.size + 1 + 1, 0, none⟩)] ∧ Blk W Br 35 #[.int .i64 lo, .int .i64 hi] ∧ RunsN (w.heap.size + 1 + 1) W0.heap.size W (runsF (whereS lo hi) pre)) ∧ Below w.heap.size W0 W)
    (fun _ _ _ => False)
    (OwnFrom.and (Own.from (fun s X Y row hs hg hr => ⟨blk_own (β := Unit) _ _ (fun _ => _) () X Y row hs.1 hg hr, blk_own (β := Unit) _ _ (fun _ => _) () X Y row hs.2.1 hg hr, blk_own (β := Unit) _ _ (fun _ => _) () X Y row hs.2.2.1 hg hr, hs.2.2.2.grown hg hr⟩) _) (ownFrom_below (by omega) (by omega)))
    (fun _ _ _ _ _ hs _ _ => hs)
    ⟨⟨bF, bL, hr0, .inl ⟨rfl, bG⟩⟩, Below.refl _ _⟩
    (fun y a' W => ∃ Bx, w.heap.size + 1 + 1 + 1 < Bx ∧ Blk W Bx 138 #[.int .i64 y.1.1.1, .int .i64 y.1.1.2.1, .int .i64 y.1.1.2.2, .int .i64 y.1.2.1, .int .i64 y.1.2.2.1, .int .i64 y.1.2.2.2] ∧ a' = { tmps := #[tv (some ⟨b0, o, none⟩) n c, whereFn Br, .pointer (some ⟨w.heap.size, 0, none⟩), .pointer (some ⟨w.heap.size + 1, 0, none⟩), .slice none 0 0, .pointer (some ⟨w.heap.size + 1 + 1 + 1, 0, none⟩), .pointer (some ⟨Bx, 0, none⟩), undef, .agg #[.slice none 0 0], .pointer (some ⟨w.heap.size + 1 + 1, 0, none⟩), .agg #[.slice (some ⟨b0, o, none⟩) n c], .func (.func 144) #[] #[.pointer (some ⟨w.heap.size + 1 + 1 + 1 + 1, 0, none⟩)], pv y.1.1 y.1.2, undef, undef, undef, undef, undef, undef, undef, undef, undef, undef, undef, undef, undef, undef, undef], defers := [] })
    (fun y a' _ X Y row hs hg hr => by
      obtain ⟨Bx, h1, h2, h3⟩ := hs
      exact ⟨Bx, h1, blk_own (β := Unit) _ _ (fun _ => _) () X Y row h2 hg (fun r e => (hr r e).2), h3⟩)
    ?assign ?body ?done ?stop
  case assign =>
    rintro l pre y W K ⟨⟨i1, i2, i3, i4⟩, hB1⟩ hK
    gi_wp2
    have hBs := hB1.size
    exact hK _ _ ((KeepsOthers.alloc _ _).from _) ((Below.refl _ W).alloc (by omega) _) ⟨⟨i1.alloc _, i2.alloc _, i3.alloc _, i4.alloc _⟩, hB1.alloc (by omega) _⟩ ⟨W.heap.size, by omega, Blk.new W 138 _, rfl⟩
  case body =>
    rintro l pre y a' W hl ⟨r, hr⟩ ⟨⟨i1, i2, i3, i4⟩, hB1⟩ ⟨Bx, hBx, bP, rfl⟩ hlt
    have x1 := i1.cell 0
    have x2 := i2.cell 0
    have p0 := bP.cell 0
    have p1 := bP.cell 1
    have p2 := bP.cell 2
    have p3 := bP.cell 3
    have p4 := bP.cell 4
    have p5 := bP.cell 5
    simp at x1 x2 p0 p1 p2 p3 p4 p5
    have hBs := hB1.size
    have J1 := Lib.hid i1; have J2 := Lib.hid i2; have J3 := Lib.hid i3; have J4 := Lib.hid i4; have JB := Lib.hid hB1
    clear i1 i2 i3 i4 hB1 bP
    have hy3 := y.2.2.2
    gi_wp2_with fail
    refine ⟨trivial, ?_⟩
    refine (CallsIn.inRound l (callsIn_wide.2 (whereAsk Br y.1.1 y.1.2 lo hi W J3.out y.2.1 y.2.2.1 (by omega)))).mono ?_
    rintro e W2 ⟨rfl, hb2⟩
    have hs2 := hb2.size
    generalize hR : whereS lo hi y.1.1 y.1.2 = R
    obtain ⟨ra, rb⟩ := R
    dsimp only
    have HR := Lib.hid hR; clear hR
    have hOb : Below W.heap.size W (W2.alloc (.cells #[.int .i64 ra, .int .i64 rb] 35)) := below_then hb2 ((Below.refl _ _).alloc (Nat.le_refl _) _)
    have k1 := (J1.out.below hb2 J1.out.lt).alloc (.cells #[.int .i64 ra, .int .i64 rb] 35)
    have k2 := (J2.out.below hb2 J2.out.lt).alloc (.cells #[.int .i64 ra, .int .i64 rb] 35)
    have k3 := (J3.out.below hb2 J3.out.lt).alloc (.cells #[.int .i64 ra, .int .i64 rb] 35)
    have k4 := (J4.out.below hb2).alloc (.cells #[.int .i64 ra, .int .i64 rb] 35)
    have kR := Blk.new W2 35 #[.int .i64 ra, .int .i64 rb]
    have kB := below_then' JB.out hb2 ra rb (by omega)
    have kK := keeps_below W0.heap.size hOb
    have kN := hOb.mono (show w.heap.size ≤ W.heap.size by omega)
    have z1 := (J2.out.below hb2 J2.out.lt).cell 0
    simp at z1
    have L1 := Lib.hid k1; have L2 := Lib.hid k2; have L3 := Lib.hid k3; have L4 := Lib.hid k4; have LR := Lib.hid kR; have LB := Lib.hid kB; have LK := Lib.hid kK; have LN := Lib.hid kN
    clear x1 x2 p0 p1 p2 p3 p4 p5 k1 k2 k3 k4 kR kB kK kN hb2 hOb
    have hza : w.heap.size + 1 + 1 + 1 < W2.heap.size := by omega
    by_cases hle : ra ≤ rb
    · gi_wp2_with fail
      refine ⟨trivial, ?_⟩
      have hpl : pre.length ≤ 1000000 := by have h1 := HN.out; have h2' := congrArg List.length HX.out; have h3' := pcs_len ps; simp at h2'; omega
      refine (CallsIn.inRound l (callsIn_wide.2 (runsAdd_any (w.heap.size + 1 + 1) W0.heap.size (runsF (whereS lo hi) pre) ra rb (W2.alloc (.cells #[.int .i64 ra, .int .i64 rb] 35)) L4.out (by simp; omega) (Nat.le_trans (runsF_len _ _) hpl)))).mono ?_
      rintro e W3 ⟨rfl, hA3, hM3, hK3⟩
      have m1 := L1.out.most hM3 (by omega) (by omega)
      have m2 := L2.out.most hM3 (by omega) (by omega)
      have m3 := L3.out.most hM3 (by omega) (by omega)
      have mN := hM3.below (n := w.heap.size) (by omega) (by omega)
      have H3 := Lib.hid hA3; have HK3 := Lib.hid hK3; have M1 := Lib.hid m1; have M2 := Lib.hid m2; have M3 := Lib.hid m3; have MN := Lib.hid mN
      clear hA3 hM3 hK3 m1 m2 m3 mN
      gi_wp2
      have q1 : KeepsFrom W0.heap.size W W3 := LK.out.trans (HK3.out.from _)
      have q2 : Below w.heap.size W W3 := LN.out.trans MN.out
      have q3 : Below w.heap.size W0 W3 := LB.out.trans MN.out
      refine ⟨q1, q2, ⟨M1.out, M2.out, M3.out, ?_⟩, q3⟩
      rw [runsF_snoc]; unfold runStep; rw [HR.out, if_pos hle]; exact .inr ⟨addRun_ne _ _, H3.out⟩
    · gi_wp2
      rw [← hsz]
      refine ⟨LK.out, LN.out, ⟨L1.out, L2.out, L3.out, ?_⟩, LB.out⟩
      rw [runsF_snoc]; unfold runStep; rw [HR.out, if_neg (show ¬ ra ≤ rb by omega)]; exact L4.out
  case done =>
    rintro D ys W hD rfl ⟨⟨i1, i2, i3, i4⟩, hB1⟩ hK
    have x2 := i2.cell 0
    simp at x2
    have hBs := hB1.size
    obtain ⟨v, hbv, hov⟩ : ∃ v, Blk W (w.heap.size + 1 + 1) 166 #[v] ∧ OwnRuns W0.heap.size W v (runsF (whereS lo hi) ys) := by
      rcases i4 with ⟨h1, h2⟩ | ⟨_, v, h1, h2⟩
      · exact ⟨_, h2, by rw [h1]; exact World.ownsRow_nil _ _ _ _⟩
      · exact ⟨v, h1, h2⟩
    have x3 := hbv.cell 0
    simp at x3
    have JB := Lib.hid hB1; have JV := Lib.hid hov
    clear i1 i2 i3 i4 hB1 hov
    gi_wp2
    refine ⟨by simp, .inl ⟨_, _, rfl, run_takeDeferred hK, ?_⟩⟩
    refine ⟨v, ?_, v, rfl, (JV.out.grown (grownBy_putObj' W D (.deferred none)) (fun r e => by injection e with e; subst e; exact ⟨_, hK, rfl⟩)).mono (by omega), ?_⟩
    · simp [results, Tryz.f88, go_sem]
    · exact (HE.out.trans JB.out).trans (belowK_b (w := W0) (by omega) _ D _ _ (by omega) hK rfl rfl)
  case stop =>
    rintro D cd pre W _ _ h _
    exact h.elim
end

section
open Go.RowKit

def AskedA (w : World) (Bp Br : Nat) (p q : P3) (lv : Int) : Prop := Blk w Bp 138 (pCells p q) ∧ Blk w Br 3 #[.int .i64 lv] ∧ Okp p ∧ Okp q
theorem AskedA.below {w w' : World} {Bp Br : Nat} {p q : P3} {lv : Int} (h : AskedA w Bp Br p q lv) (hB : Below w.heap.size w w') : AskedA w' Bp Br p q lv :=
  ⟨h.1.below hB h.1.lt, h.2.1.below hB h.2.1.lt, h.2.2⟩
theorem AskedA.drew {w : World} {Bp Br : Nat} {p q : P3} {lv : Int} (h : AskedA w Bp Br p q lv) : AskedA w.drew Bp Br p q lv := h
def SixOne (Bp Br : Nat) (p q : P3) (lv : Int) (w : World) : Prop :=
  w.cell? ⟨Bp, 0, none⟩ = some (.int .i64 p.1) ∧ w.cell? ⟨Bp, 1, none⟩ = some (.int .i64 p.2.1) ∧ w.cell? ⟨Bp, 2, none⟩ = some (.int .i64 p.2.2) ∧ w.cell? ⟨Bp, 3, none⟩ = some (.int .i64 q.1) ∧ w.cell? ⟨Bp, 4, none⟩ = some (.int .i64 q.2.1) ∧ w.cell? ⟨Bp, 5, none⟩ = some (.int .i64 q.2.2) ∧ w.cell? ⟨Br, 0, none⟩ = some (.int .i64 lv)
theorem SixOne.of {Bp Br : Nat} {p q : P3} {lv : Int} {w : World} (h : Blk w Bp 138 (pCells p q)) (h' : Blk w Br 3 #[.int .i64 lv]) : SixOne Bp Br p q lv w :=
  ⟨h.cell 0, h.cell 1, h.cell 2, h.cell 3, h.cell 4, h.cell 5, h'.cell 0⟩
theorem SixOne.below {Bp Br : Nat} {p q : P3} {lv : Int} {w w' : World} (h : SixOne Bp Br p q lv w) (hB : Below w.heap.size w w') (h1 : Bp < w.heap.size) (h2 : Br < w.heap.size) : SixOne Bp Br p q lv w' := by
  have k := (bcell hB).1
  obtain ⟨a0, a1, a2, a3, a4, a5, b0⟩ := h
  exact ⟨(k _ _ h1).trans a0, (k _ _ h1).trans a1, (k _ _ h1).trans a2, (k _ _ h1).trans a3, (k _ _ h1).trans a4, (k _ _ h1).trans a5, (k _ _ h2).trans b0⟩

section
open Go.Shelf
attribute [local go_sem] Oper.semAt_some
end
end

section
open Go.RowKit Go.Shelf

def GivesRunsOk (w : World) (L : List (Int × Int)) (e : Ending) (w' : World) : Prop := ∃ v, e = .returned (.tuple #[v, .int .i64 0]) ∧ OwnRuns w.heap.size w' v L ∧ Below w.heap.size w w'

set_option maxRecDepth 100000 in
set_option maxHeartbeats 2000000 in
theorem where_good (b0 o n c : Nat) (ps : List P3) (xs : List Pr) (lo hi : Int) (w : World) (hn : n = ps.length) (h2 : 1 ≤ n) (hb : b0 < w.heap.size) (ht : tabOk ps = true) (hr : vR lo hi = true) (hxs : xs.map (·.1) = pcs ps) (hc : PtsAt w b0 o ps) :
  Calls Tryz.prog 59 #[tv (some ⟨b0, o, none⟩) n c, rv lo hi] w (GivesRunsOk w (runsF (whereS lo hi) xs)) := by
 have h40 := (tabOk_len ht).2
 have hml : n ≤ maxLen := by unfold maxLen; omega
 have HN := Lib.hid hn; clear hn
 have HT := Lib.hid ht; clear ht
 have HR := Lib.hid hr; clear hr
 have HX := Lib.hid hxs; clear hxs
 have hB0 : Below w.heap.size w ((w.alloc (.cells #[.slice (some ⟨b0, o, none⟩) n c] 38)).alloc (.cells #[.int .i64 lo, .int .i64 hi] 35)) := below_a2 (Below.refl _ _)
 have HC := Lib.hid (hc.below hB0 hb); clear hc
 have hb0 : b0 < ((w.alloc (.cells #[.slice (some ⟨b0, o, none⟩) n c] 38)).alloc (.cells #[.int .i64 lo, .int .i64 hi] 35)).heap.size := by simp; omega
 have bT := (Blk.new w 38 #[.slice (some ⟨b0, o, none⟩) n c]).alloc (.cells #[.int .i64 lo, .int .i64 hi] 35)
 have bR := Blk.new (w.alloc (.cells #[.slice (some ⟨b0, o, none⟩) n c] 38)) 35 #[.int .i64 lo, .int .i64 hi]
 simp only [World.size_alloc] at bR
 have HB := Lib.hid hb0; have HBT := Lib.hid bT; have HBR := Lib.hid bR; have HB0 := Lib.hid hB0
 clear hb0 bT bR hB0
 go_enter Tryz.func59, Tryz.ntmps59
 go_wp2_with fail
 refine (checkTable_to _ n c ps _ _ _ HN.out hml (HC.out.pts HB.out) HT.out rfl).mono ?_
 rintro e w1 ⟨rfl, hb1⟩
 have bT1 := HBT.out.below hb1 HBT.out.lt
 have bR1 := HBR.out.below hb1 HBR.out.lt
 have P1 := HC.out.below hb1 HB.out
 have hB1 := below_then HB0.out hb1
 have hz1 : w.heap.size + 1 < w1.heap.size := by have := hb1.size; simp at this; omega
 have r0 := bR1.cell 0
 have r1 := bR1.cell 1
 simp at r0 r1
 have HBT1 := Lib.hid bT1; have HBR1 := Lib.hid bR1; have HP1 := Lib.hid P1; have HB1 := Lib.hid hB1
 clear bT1 bR1 P1 hB1 hb1
 have hza : w.heap.size < w1.heap.size := by omega
 go_wp2_with fail
 refine (checkRange_ok lo hi _ HR.out).mono ?_
 rintro e w2 ⟨rfl, hb2⟩
 have bT2 := HBT1.out.below hb2 HBT1.out.lt
 have bR2 := HBR1.out.below hb2 HBR1.out.lt
 have P2 := HP1.out.below hb2 (by omega)
 have hB2 := below_then HB1.out hb2
 have hz2 : w.heap.size + 1 < w2.heap.size := by have := hb2.size; omega
 have t0 := bT2.cell 0
 simp at t0
 have hzc : w.heap.size < w2.heap.size := by omega
 have HBR2 := Lib.hid bR2; have HP2 := Lib.hid P2; have HB2 := Lib.hid hB2
 clear bT2 bR2 P2 hB2 hb2 r0 r1
 go_wp2_with fail
 refine (collect_where b0 o n c (w.heap.size + 1) ps xs lo hi w2 HN.out h2 (by omega) HT.out HX.out HP2.out HBR2.out).mono ?_
 rintro e w3 ⟨v, rfl, ho, hb3⟩
 have hB3 := below_then HB2.out hb3
 have HO := Lib.hid ho; have HB3 := Lib.hid hB3
 clear ho hB3 hb3
 go_wp2
 refine bodyPost_ret (v := .tuple #[v, .int .i64 0]) (by simp [results, Tryz.results59, go_sem]) rfl ⟨v, rfl, HO.out.mono (by omega), HB3.out⟩
end

section
theorem floor_same {A d N D : Int} (hd : 1 ≤ d) (hD : 1 ≤ D) (h : A * D = N * d) : A / d = N / D := by
  rw [← Int.mul_ediv_mul_of_pos_left A d (show 0 < D by omega), h, Int.mul_comm d D, Int.mul_ediv_mul_of_pos_left _ _ (by omega)]

def Summed (s : Int × Int × Int) (N D : Int) : Prop := 1 ≤ D ∧ 1 ≤ s.2.2 ∧ s.2.2 ≤ 1000000000000 ∧ 0 ≤ s.2.1 ∧ s.2.1 ≤ 2000000000000 ∧ -3000000000000000 ≤ s.1 ∧ s.1 ≤ 3000000000000000 ∧ (s.1 * s.2.2 + s.2.1) * D = N * s.2.2
theorem Summed.floor {s : Int × Int × Int} {N D : Int} (h : Summed s N D) : s.1 + s.2.1 / s.2.2 = N / D ∧ 0 ≤ s.2.1 / s.2.2 ∧ s.2.1 / s.2.2 ≤ 2000000000000 := by
  obtain ⟨hD, hd, hdm, hn, hn2, w1, w2, e⟩ := h
  refine ⟨?_, Int.ediv_nonneg hn (by omega), ?_⟩
  · rw [← floor_same hd hD e, Int.add_comm (s.1 * s.2.2), Int.add_mul_ediv_right _ _ (by omega), Int.add_comm]
  · have := Int.ediv_le_self s.2.2 hn
    omega
end

end Go.Proofs.YtpcmcicnciejpaaGreat
