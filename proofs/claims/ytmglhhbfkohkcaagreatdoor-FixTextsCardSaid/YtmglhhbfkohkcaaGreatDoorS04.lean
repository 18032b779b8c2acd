/- FixTexts: whatever table and text come in, the law returns true and leaves its arguments as they were. Its condition: the listed variables of the library hold what their text lays, which the card ties to the text. -/
import Derived.Test.YtmglhhbfkohkcaaGreatDoorS03
import Derived.Deep.RegionHeldLaw
import Derived.Test.YtmglhhbfkohkcaaGreatDoorCards
import Derived.Test.YtmglhhbfkohkcaaGreatDoorTie
import Derived.Handed
import Derived.HandedShaped
import Derived.Shelf.Vars
import Derived.Stop.LaidErr
import Derived.Lib.LaidTab
import Derived.ProofKit
import Derived.OpenShut
import Derived.LaidMore
import Derived.Lay
import Derived.SevenTiedAt
import Derived.Stop.Joined
import Derived.MakeChecks
import Derived.ChangeMaps5
import Derived.JoinedOf
import Derived.Test.YtmglhhbfkohkcaaGreatDoorQ98
set_option linter.unusedVariables false
set_option linter.unusedSimpArgs false
set_option linter.constructorNameAsVariable false
namespace Go.Proofs.YtmglhhbfkohkcaaGreatDoor

section
open Go.RowKit Go.Lib

theorem readS_count : ∀ (ls : List (List UInt8)) (i : Nat) (ps : List P3), readS i ls = .ok ps → ps.length ≤ ls.length
  | [], i, ps, h => by
    rw [readS] at h
    injection h with h
    subst h
    exact Nat.le_refl _
  | l :: r, i, ps, h => by
    rw [readS] at h
    split at h
    · cases h
    · have := readS_count r _ _ h
      simp only [List.length_cons]
      omega
    · cases hr : readS (i + 1) r with
      | error k => rw [hr] at h; cases h
      | ok q =>
        rw [hr] at h
        injection h with h
        subst h
        have := readS_count r _ _ hr
        simp only [List.length_cons]
        omega
theorem parse_takes (l : List UInt8) (h : ¬ 8000 < l.length) : parseS l = match takeS l with | .error k => ([], k, 12) | .ok ps => if tabOk ps = true then (ps, 0, 0) else ([], 0, 11) := by
  unfold parseS takeS
  rw [if_neg h]
  cases readS 0 (linesS l) with
  | error k => rfl
  | ok ps => cases ps <;> rfl
theorem take_count {l : List UInt8} {ps : List P3} (h : takeS l = .ok ps) : ps.length ≤ l.length + 1 := by
  have h1 := (linesGo_count l []).1
  cases hr : readS 0 (linesS l) with
  | error k => rw [take_error hr] at h; cases h
  | ok q =>
    have h2 := readS_count _ _ _ hr
    unfold linesS at h2
    cases q with
    | nil => rw [take_none hr] at h; cases h
    | cons a b =>
      rw [take_some hr (by simp)] at h
      injection h with h
      subst h
      omega
theorem parse_any (s : ByteArray) (w : World) (hL : LaidW w) : Calls Tryz.prog 6 #[.string s] w (ParseOut (parseS s.data.toList) w) := by
  by_cases h : 8000 < s.size
  · rw [show parseS s.data.toList = ([], 0, 2) by unfold parseS; rw [if_pos (by rw [← size_eq]; exact h)]]
    exact parse_long s w h
  · rw [parse_takes _ (by rw [← size_eq]; exact h)]
    cases ht : takeS s.data.toList with
    | error k => exact parse_wrong s k w (by omega) hL ht
    | ok ps =>
      have hc := take_count ht
      rw [← size_eq] at hc
      dsimp only
      cases hk : tabOk ps with
      | true => rw [if_pos rfl]; exact parse_good s ps w (by omega) (by omega) hL ht hk
      | false => rw [if_neg (by simp)]; exact parse_bad s ps w (by omega) (by omega) hL ht hk
set_option maxRecDepth 100000 in
set_option maxHeartbeats 4000000 in
theorem rParse_long (s : ByteArray) (w : World) (hs : 8000 < s.size) : Calls Tryz.prog 7 #[.string s] w (ParseOut ([], 0, 2) w) := by
 have hlong : (8000 : Int) < s.size := by omega
 go_enter Tryz.func7, Tryz.ntmps7
 go_wp2_with fail
 refine bodyPost_ret (v := .tuple #[.agg #[.slice none 0 0], .int .i64 0, .int .i64 2]) (by simp [results, Tryz.results7, go_sem]) rfl ⟨_, rfl, World.ownsRow_nil _ _ _ _, alloc_under _ _⟩
theorem rParse_all (s : ByteArray) (w : World) : Calls Tryz.prog 7 #[.string s] w (ParseOut (parseS s.data.toList) w) := by
  by_cases h : 8000 < s.size
  · rw [show parseS s.data.toList = ([], 0, 2) by unfold parseS; rw [if_pos (by rw [← size_eq]; exact h)]]
    exact rParse_long s w h
  · exact rParse_any s w (by omega)
end

section
open Go.RowKit Go.Lib

def PbHeld (w : World) (G : Nat) (x y z : Int) (W : World) : Prop := Below w.heap.size w W ∧ Blk W G 39 #[.int .i64 x, .int .i64 y, .int .i64 z]
theorem PbHeld.drew {w W : World} {G : Nat} {x y z : Int} (h : PbHeld w G x y z W) : PbHeld w G x y z W.drew := ⟨h.1.drew, h.2.drew⟩
theorem pb_cells {w W : World} {G : Nat} {x y z : Int} (h : PbHeld w G x y z W) : Below w.heap.size w W ∧ G < W.heap.size ∧ W.cell? ⟨G, 0, none⟩ = some (.int .i64 x) ∧ W.cell? ⟨G, 1, none⟩ = some (.int .i64 y) ∧ W.cell? ⟨G, 2, none⟩ = some (.int .i64 z) :=
  ⟨h.1, h.2.lt, h.2.cell 0, h.2.cell 1, h.2.cell 2⟩
theorem keepPb {w W W' : World} {G : Nat} {x y z : Int} (h : PbHeld w G x y z W) (hq : Below W.heap.size W W') : PbHeld w G x y z W' := ⟨then_under h.1 hq, h.2.below hq h.2.lt⟩
theorem keepWr {w W W' : World} {G B : Nat} {x y z : Int} (h : PbHeld w G x y z W) (hB : w.heap.size ≤ B) (hq : Below B W W') (hs : ∀ j cs t fr, W.heap[j]? = some (.cells cs t fr) → t ≠ 5 → j ≠ B → W'.heap[j]? = some (.cells cs t fr)) (hG : G ≠ B) : PbHeld w G x y z W' :=
  ⟨h.1.trans (hq.mono hB), hs _ _ _ _ h.2 (by decide) hG⟩
theorem builder_later {T e B b : Nat} {bs : List Value} {w w' : World} (h : IsBuilder T e B b bs w) (hb : Below w.heap.size w w') : IsBuilder T e B b bs w' := by
  have hat : ∀ p, BuilderAt T e B b p bs w → BuilderAt T e B b p bs w' := by
    rintro p ⟨hB, v, hbk, hown, hne⟩
    have hlt : b < w.heap.size := by
      rcases Nat.lt_or_ge b w.heap.size with h' | h'
      · exact h'
      · rw [Array.getElem?_eq_none h'] at hbk; cases hbk
    exact ⟨hB, v, (hb.block b hlt).trans hbk, World.ownsRow.kept hown (below_grownNone hb) ((Decidable.em (v.ownBlock = none)).imp id id), hne⟩
  rcases h with h | h
  · exact .inl (hat _ h)
  · exact .inr (hat _ h)
theorem builder_le {T e B b : Nat} {bs : List Value} {w : World} (h : IsBuilder T e B b bs w) : B ≤ w.heap.size := by
  have : ∀ p, BuilderAt T e B b p bs w → B ≤ w.heap.size := fun p hp => Nat.le_of_lt (Nat.lt_of_le_of_lt hp.1 hp.lt)
  rcases h with h | h
  · exact this _ h
  · exact this _ h
theorem byteCells_len (l : List UInt8) : (byteCells l).length = l.length := by simp [byteCells]
theorem strCells_is (a : ByteArray) : strCells a = byteCells a.data.toList := rfl
set_option maxRecDepth 100000 in
set_option maxHeartbeats 4000000 in
theorem print_any (A : Option Addr) (n c : Nat) (ps : List P3) (w : World) (hn : n = ps.length) (hm : n ≤ maxLen) (hp : Pts w A ps) (hL : LaidW w) :
  Calls Tryz.prog 4 #[tv A n c] w (PrintOut ps w) := by
 obtain ⟨t, ht⟩ : ∃ t, tabOk ps = t := ⟨_, rfl⟩
 obtain ⟨x0, hx0⟩ : ∃ x : Int, (if t = true then 0 else 11) = x := ⟨_, rfl⟩
 have HV : Hid (∀ W, Below w.heap.size w W → Calls Tryz.prog 10 #[tv A n c] W fun e w' => e = .returned (.int .i64 x0) ∧ Below W.heap.size W w') := Lib.hid fun W hW => checkTable_to A n c ps t x0 W hn hm (hp.below hW) ht hx0
 have HN := Lib.hid hn; have HP := Lib.hid hp; have HL := Lib.hid hL
 unfold maxLen at hm
 clear hn hp hL
 unfold PrintOut
 rw [ht]
 have HT := Lib.hid ht
 clear ht
 go_enter Tryz.func4, Tryz.ntmps4
 go_wp2_with fail
 refine (HV.out _ (alloc_under _ _)).mono ?_
 rintro e w1 ⟨rfl, hb⟩
 have HB1 := Lib.hid (then_under (alloc_under w (.cells #[.slice A n c] 24)) hb)
 have hsz0 : w.heap.size < w1.heap.size := by have := hb.size; simp at this; omega
 have c0 : w1.cell? ⟨w.heap.size, 0, none⟩ = some (.slice A n c) := by
  rw [hb.cell (p := ⟨w.heap.size, 0, none⟩) (by simp)]; simp
 clear hb
 cases t
 ·obtain rfl : x0 = 11 := hx0.symm
  go_wp2_with fail
  refine bodyPost_ret (v := .tuple #[.string ⟨#[]⟩, .int .i64 11]) (by simp [results, Tryz.results4, go_sem]) rfl ⟨rfl, HB1.out⟩
 ·obtain rfl : x0 = 0 := hx0.symm
  clear hx0
  have hok := HT.out
  simp only [tabOk, Bool.and_eq_true, decide_eq_true_eq] at hok
  obtain ⟨⟨hn1, hn40⟩, hok⟩ := hok
  rw [← HN.out] at hn1 hn40
  have HS := Lib.hid (pts_small ps (-1) hok (by omega))
  clear hok HT
  obtain ⟨b, o, rfl, hbw, hcells⟩ : ∃ b o, A = some ⟨b, o, none⟩ ∧ b < w.heap.size ∧ ∀ k p, ps[k]? = some p → w.cell? ⟨b, o + k * 3, none⟩ = some (.int .i64 p.1) ∧ w.cell? ⟨b, o + k * 3 + 1, none⟩ = some (.int .i64 p.2.1) ∧ w.cell? ⟨b, o + k * 3 + 2, none⟩ = some (.int .i64 p.2.2) := by
   rcases HP.out with h | h
   ·exfalso
    have := HN.out
    rw [h] at this
    simp at this
    omega
   ·exact h
  have HCL := Lib.hid hcells
  clear hcells HP HV
  go_upto_region 4 with fail
  have hbu0 := fresh_isBuilder 37 5 w1
  have hB2 := HB1.out.alloc HB1.out.size (.cells #[.pointer none, .slice none 0 0] 37)
  have c1 : (w1.alloc (.cells #[.pointer none, .slice none 0 0] 37)).cell? ⟨w.heap.size, 0, none⟩ = some (.slice (some ⟨b, o, none⟩) n c) := by
   rw [((Below.refl w1.heap.size w1).alloc (Nat.le_refl _) (.cells #[.pointer none, .slice none 0 0] 37)).cell (p := ⟨w.heap.size, 0, none⟩) hsz0]; exact c0
  generalize w1.alloc (.cells #[.pointer none, .slice none 0 0] 37) = W1 at hbu0 hB2 c1 ⊢
  obtain ⟨B, hB⟩ : ∃ B, w1.heap.size = B := ⟨_, rfl⟩
  rw [hB] at hbu0 hsz0 ⊢
  have HBw := Lib.hid (Nat.le_of_lt hsz0)
  have HBU0 := Lib.hid hbu0; have HB2 := Lib.hid hB2
  clear c0 hB hbu0 hB2 HB1 hsz0
  go_upto_region 5 with fail
  clear c1
  go_loopw [13] (fun i wr => ∃ (k : Nat), k ≤ n ∧ i = .int .i64 k ∧ Below w.heap.size w wr ∧ Hid (IsBuilder 37 5 B B (byteCells (printL (ps.take k))) wr)) (fun i _ => n - (intOf i).toNat)
  case atStart => exact ⟨0, by omega, rfl, HB2.out, HBU0⟩
  case round =>
   obtain ⟨k, hk, rfl, hB, HBU⟩ := hrel
   by_cases hlt : k < n
   ·have hpk : ∃ p, ps[k]? = some p := ⟨_, List.getElem?_eq_getElem (show k < ps.length by rw [← HN.out]; exact hlt)⟩
    obtain ⟨⟨x, y, z⟩, hpk⟩ := hpk
    obtain ⟨d0, d1, d2⟩ := HCL.out k _ hpk
    rw [← hB.cell (p := ⟨b, o + k * 3, none⟩) hbw] at d0
    rw [← hB.cell (p := ⟨b, o + k * 3 + 1, none⟩) hbw] at d1
    rw [← hB.cell (p := ⟨b, o + k * 3 + 2, none⟩) hbw] at d2
    dsimp only at d0 d1 d2
    have hsm := HS.out _ (List.mem_of_getElem? hpk)
    dsimp only at hsm
    have lx := itoa_len (n := x) (by omega) (by omega)
    have ly := itoa_len (n := y) (by omega) (by omega)
    have lz := itoa_len (n := z) (by omega) (by omega)
    have HX := Lib.hid (fun W (hW : LaidW W) => itoa_call x W (by omega) (by omega) hW)
    have HY := Lib.hid (fun W (hW : LaidW W) => itoa_call y W (by omega) (by omega) hW)
    have HZ := Lib.hid (fun W (hW : LaidW W) => itoa_call z W (by omega) (by omega) hW)
    have la : (printL (ps.take k)).length ≤ 2520 := by
     refine Nat.le_trans (printL_len _ (fun p hp => HS.out p (List.mem_of_mem_take hp))) ?_
     rw [List.length_take]
     omega
    have hfin : (⟨(printL (ps.take k)).toArray⟩ : ByteArray) ++ (((((⟨(itoa x).toArray⟩ : ByteArray) ++ ⟨#[32]⟩) ++ ⟨(itoa y).toArray⟩) ++ ⟨#[32]⟩ ++ ⟨(itoa z).toArray⟩) ++ ⟨#[10]⟩) = ⟨(printL (ps.take (k + 1))).toArray⟩ := by
     rw [take_next hpk, printL_snoc]
     exact line_cat _ (x, y, z)
    have tx : (⟨(itoa x).toArray⟩ : ByteArray).size ≤ 20 := lx
    have ty : (⟨(itoa y).toArray⟩ : ByteArray).size ≤ 20 := ly
    have tz : (⟨(itoa z).toArray⟩ : ByteArray).size ≤ 20 := lz
    generalize (⟨(itoa x).toArray⟩ : ByteArray) = X at HX hfin tx
    generalize (⟨(itoa y).toArray⟩ : ByteArray) = Y at HY hfin ty
    generalize (⟨(itoa z).toArray⟩ : ByteArray) = Z at HZ hfin tz
    obtain ⟨a1, hA1⟩ : ∃ a, X ++ ⟨#[32]⟩ = a := ⟨_, rfl⟩
    have s1 : a1.size ≤ 21 := by rw [← hA1, ByteArray.size_append]; show X.size + 1 ≤ 21; omega
    rw [hA1] at hfin
    obtain ⟨a2, hA2⟩ : ∃ a, a1 ++ Y = a := ⟨_, rfl⟩
    have s2 : a2.size ≤ 41 := by rw [← hA2, ByteArray.size_append]; omega
    rw [hA2] at hfin
    obtain ⟨a3, hA3⟩ : ∃ a, a2 ++ ⟨#[32]⟩ = a := ⟨_, rfl⟩
    have s3 : a3.size ≤ 42 := by rw [← hA3, ByteArray.size_append]; show a2.size + 1 ≤ 42; omega
    rw [hA3] at hfin
    obtain ⟨a4, hA4⟩ : ∃ a, a3 ++ Z = a := ⟨_, rfl⟩
    have s4 : a4.size ≤ 62 := by rw [← hA4, ByteArray.size_append]; omega
    rw [hA4] at hfin
    obtain ⟨a5, hA5⟩ : ∃ a, a4 ++ ⟨#[10]⟩ = a := ⟨_, rfl⟩
    have s5 : a5.size ≤ 63 := by rw [← hA5, ByteArray.size_append]; show a4.size + 1 ≤ 63; omega
    rw [hA5] at hfin
    have hcat : byteCells (printL (ps.take k)) ++ strCells a5 = byteCells (printL (ps.take (k + 1))) := by
     rw [strCells_is, ← byteCells_append]
     congr 1
     have h1 := congrArg (fun b : ByteArray => b.data.toList) hfin
     simpa using h1
    have HF := Lib.hid hcat
    have HA1 := Lib.hid hA1; have HA2 := Lib.hid hA2; have HA3 := Lib.hid hA3; have HA4 := Lib.hid hA4; have HA5 := Lib.hid hA5
    have HBr := Lib.hid hB
    have HLW := Lib.hid (HL.out.below hB)
    clear hA1 hA2 hA3 hA4 hA5 hfin hcat lx ly lz hpk hsm hB
    go_upto_region 7 with fail
    have hS0 : PbHeld w wr.heap.size x y z (wr.alloc (.cells #[.int .i64 x, .int .i64 y, .int .i64 z] 39)) := ⟨HBr.out.alloc HBr.out.size _, Blk.new _ _ _⟩
    have HLW2 := Lib.hid (HLW.out.below (alloc_under wr (.cells #[.int .i64 x, .int .i64 y, .int .i64 z] 39)))
    have HBU2 := Lib.hid (builder_later HBU.out (alloc_under wr (.cells #[.int .i64 x, .int .i64 y, .int .i64 z] 39)))
    have HGB : Hid (wr.heap.size ≠ B) := Lib.hid (by
     have : B < wr.heap.size := by
      rcases HBU.out with h | h
      ·exact h.lt
      ·exact h.lt
     omega)
    clear HLW HBU d0 d1 d2
    have HLW := HLW2
    have HBU := HBU2
    clear HLW2 HBU2
    obtain ⟨W2, hW2⟩ : ∃ W2, wr.alloc (.cells #[.int .i64 x, .int .i64 y, .int .i64 z] 39) = W2 := ⟨_, rfl⟩
    rw [hW2] at hS0 HLW HBU ⊢
    clear hW2
    obtain ⟨G, hG⟩ : ∃ G, wr.heap.size = G := ⟨_, rfl⟩
    rw [hG] at hS0 HGB ⊢
    clear hG HBr
    refine wp_region_held_drew (S := PbHeld w G x y z) (by kernel_rfl) hS0.drew (fun hHeld => ?_)
    obtain ⟨yq, hW⟩ : ∃ W', W2.drew = W' := ⟨_, rfl⟩
    have HLW2 := Lib.hid (HLW.out.below (Below.refl _ W2).drew)
    have HBU2 := Lib.hid (builder_later HBU.out (Below.refl _ W2).drew)
    clear HLW HBU
    rw [hW] at hHeld HLW2 HBU2 ⊢
    have HLW := HLW2
    have HBU := HBU2
    clear hW hS0 HLW2 HBU2
    refine tK 17 (i := 0) (v := .pointer (some ⟨G, 0, none⟩)) rfl rfl (by kernel_rfl) ?_ hHeld ?_
    ·intro w hSw; clear hSw; go_simp; try with_reducible rfl
    simp only [uZ, uS]
    refine tK 18 (i := 1) (v := .int .i64 x) rfl rfl (by kernel_rfl) ?_ hHeld ?_
    ·intro w hSw; obtain ⟨q0, q1, q2, q3, q4⟩ := pb_cells hSw; clear hSw q0 q1 q3 q4; go_simp; try with_reducible rfl
    simp only [uZ, uS]
    refine tK 21 (i := 4) (v := .pointer (some ⟨G, 1, none⟩)) rfl rfl (by kernel_rfl) ?_ hHeld ?_
    ·intro w hSw; clear hSw; go_simp; try with_reducible rfl
    simp only [uZ, uS]
    refine tK 22 (i := 5) (v := .int .i64 y) rfl rfl (by kernel_rfl) ?_ hHeld ?_
    ·intro w hSw; obtain ⟨q0, q1, q2, q3, q4⟩ := pb_cells hSw; clear hSw q0 q1 q2 q4; go_simp; try with_reducible rfl
    simp only [uZ, uS]
    refine tK 26 (i := 9) (v := .pointer (some ⟨G, 2, none⟩)) rfl rfl (by kernel_rfl) ?_ hHeld ?_
    ·intro w hSw; clear hSw; go_simp; try with_reducible rfl
    simp only [uZ, uS]
    refine tK 27 (i := 10) (v := .int .i64 z) rfl rfl (by kernel_rfl) ?_ hHeld ?_
    ·intro w hSw; obtain ⟨q0, q1, q2, q3, q4⟩ := pb_cells hSw; clear hSw q0 q1 q2 q3; go_simp; try with_reducible rfl
    simp only [uZ, uS]
    refine wpAnyH_ready (rs := [2]) (by kernel_rfl) (by simp) ?_
    refine AllReadyH.cons rfl (fun K hK => ?_) AllReadyH.nil
    go_simp
    (with_reducible refine (HX.out _ HLW.out).mono ?_)
    rintro x9 y9 ⟨rfl, hq⟩
    have HLW2 := Lib.hid (HLW.out.below hq)
    have HBU2 := Lib.hid (builder_later HBU.out hq)
    refine hK.out _ _ (keepPb hHeld hq) (fun hHeld2 => ?_)
    clear hq HLW HBU
    have HLW := HLW2
    have HBU := HBU2
    clear HLW2 HBU2
    try simp only [Act.put, uA, uZ, uS]
    clear hK K hHeld
    have hHeld := hHeld2
    clear hHeld2
    refine tK 20 (i := 3) (v := .string a1) rfl rfl (by kernel_rfl) ?_ hHeld ?_
    ·intro w hSw; clear hSw; go_simp; rw [if_neg (by omega), HA1.out]
    simp only [uZ, uS]
    refine wpAnyH_ready (rs := [6]) (by kernel_rfl) (by simp) ?_
    refine AllReadyH.cons rfl (fun K hK => ?_) AllReadyH.nil
    go_simp
    (with_reducible refine (HY.out _ HLW.out).mono ?_)
    rintro x9 y9 ⟨rfl, hq⟩
    have HLW2 := Lib.hid (HLW.out.below hq)
    have HBU2 := Lib.hid (builder_later HBU.out hq)
    refine hK.out _ _ (keepPb hHeld hq) (fun hHeld2 => ?_)
    clear hq HLW HBU
    have HLW := HLW2
    have HBU := HBU2
    clear HLW2 HBU2
    try simp only [Act.put, uA, uZ, uS]
    clear hK K hHeld
    have hHeld := hHeld2
    clear hHeld2
    refine tK 24 (i := 7) (v := .string a2) rfl rfl (by kernel_rfl) ?_ hHeld ?_
    ·intro w hSw; clear hSw; go_simp; rw [if_neg (by omega), HA2.out]
    simp only [uZ, uS]
    refine tK 25 (i := 8) (v := .string a3) rfl rfl (by kernel_rfl) ?_ hHeld ?_
    ·intro w hSw; clear hSw; go_simp; rw [if_neg (by omega), HA3.out]
    simp only [uZ, uS]
    refine wpAnyH_ready (rs := [11]) (by kernel_rfl) (by simp) ?_
    refine AllReadyH.cons rfl (fun K hK => ?_) AllReadyH.nil
    go_simp
    (with_reducible refine (HZ.out _ HLW.out).mono ?_)
    rintro x9 y9 ⟨rfl, hq⟩
    have HLW2 := Lib.hid (HLW.out.below hq)
    have HBU2 := Lib.hid (builder_later HBU.out hq)
    refine hK.out _ _ (keepPb hHeld hq) (fun hHeld2 => ?_)
    clear hq HLW HBU
    have HLW := HLW2
    have HBU := HBU2
    clear HLW2 HBU2
    try simp only [Act.put, uA, uZ, uS]
    clear hK K hHeld
    have hHeld := hHeld2
    clear hHeld2
    refine tK 29 (i := 12) (v := .string a4) rfl rfl (by kernel_rfl) ?_ hHeld ?_
    ·intro w hSw; clear hSw; go_simp; rw [if_neg (by omega), HA4.out]
    simp only [uZ, uS]
    refine tK 30 (i := 13) (v := .string a5) rfl rfl (by kernel_rfl) ?_ hHeld ?_
    ·intro w hSw; clear hSw; go_simp; rw [if_neg (by omega), HA5.out]
    simp only [uZ, uS]
    refine wpAnyH_ready (rs := [14]) (by kernel_rfl) (by simp) ?_
    refine AllReadyH.cons rfl (fun K hK => ?_) AllReadyH.nil
    go_simp
    (with_reducible refine (write_any B B _ a5 _ HBU.out (by rw [byteCells_len]; omega) (builder_le HBU.out)).mono ?_)
    rintro x9 y9 ⟨rfl, hbu, hq, hsame⟩
    have HBU2 := Lib.hid hbu
    refine hK.out _ _ (keepWr hHeld HBw.out hq hsame HGB.out) (fun hHeld2 => ?_)
    clear hq hsame hbu HLW HBU
    try simp only [Act.put, uA, uZ, uS]
    clear hK K hHeld
    have hHeld := hHeld2
    clear hHeld2
    refine wpAnyH_done (by kernel_rfl) ?_ _
    go_wp2_with fail
    go_roundw
    case rel => exact ⟨k + 1, by omega, by go_num, hHeld.1, Lib.hid (by rw [← HF.out]; exact .inr HBU2.out)⟩
    case measure => simp [intOf]; omega
   ·have hkn : ps.take k = ps := List.take_of_length_le (by have := HN.out; omega)
    have hBU := HBU.out
    rw [hkn] at hBU
    have HST := Lib.hid (Tryz.Builder_String_any B B _ wr hBU (builder_le hBU))
    have HB := Lib.hid hB
    have HBle := Lib.hid HBw.out
    clear hBU HBU hkn hB
    go_wp2_with (go_at_call 13; refine HST.out.mono ?_)
    rintro e w9 ⟨rfl, hb⟩
    have HR := Lib.hid (HB.out.trans (hb.mono HBw.out))
    clear hb
    go_wp2_with fail
    refine bodyPost_ret (v := .tuple #[.string ⟨(printL ps).toArray⟩, .int .i64 0]) (by simp [results, Tryz.results4, go_sem]) rfl ⟨?_, HR.out⟩
    rfl
end

section
open Go.RowKit Go.Lib

theorem same_out (A A' : Option Addr) (n n' c c' : Nat) (L : List P3) (w : World) (hn : n = L.length) (hn' : n' = L.length) (hm : n ≤ maxLen) (hp : Pts w A L) (hp' : Pts w A' L) :
    Calls Tryz.prog 8 #[.agg #[.slice A n c], .agg #[.slice A' n' c']] w fun e w' => e = .returned (.bool true) ∧ Below w.heap.size w w' := same_all A A' n n' c c' L w hn hn' hm hp hp'
theorem parse_len {l : List UInt8} : (parseS l).1.length ≤ 40 := by
  by_cases h : 8000 < l.length
  · rw [show parseS l = ([], 0, 2) by unfold parseS; rw [if_pos h]]
    simp
  · rw [parse_takes l h]
    cases ht : takeS l with
    | error k => simp
    | ok ps =>
      dsimp only
      cases hk : tabOk ps with
      | false => rw [if_neg (by simp)]; simp
      | true =>
        rw [if_pos rfl]
        simp only [tabOk, Bool.and_eq_true, decide_eq_true_eq] at hk
        exact hk.1.2
set_option maxRecDepth 100000 in
set_option maxHeartbeats 4000000 in
theorem fixTexts_walk (A : Option Addr) (n c : Nat) (ps : List P3) (s : ByteArray) (w : World) (hn : n = ps.length) (hm : n ≤ maxLen) (hp : Pts w A ps) (hL : LaidW w) :
  Calls Tryz.prog 3 #[tv A n c, .string s] w fun e w' => e = .returned (.bool true) ∧ Below w.heap.size w w' := by
 obtain ⟨t, ht⟩ : ∃ t, tabOk ps = t := ⟨_, rfl⟩
 obtain ⟨S, hS⟩ : ∃ S, (if tabOk ps = true then (⟨(printL ps).toArray⟩ : ByteArray) else ⟨#[]⟩) = S := ⟨_, rfl⟩
 obtain ⟨x, hx⟩ : ∃ x : Int, (if tabOk ps = true then 0 else 11) = x := ⟨_, rfl⟩
 obtain ⟨⟨qs, ln, er⟩, hR⟩ : ∃ R, parseS s.data.toList = R := ⟨_, rfl⟩
 have hql : qs.length ≤ 40 := by have := parse_len (l := s.data.toList); rw [hR] at this; exact this
 have HP1 := Lib.hid (fun W (h : Pts W A ps) (hl : LaidW W) => print_any A n c ps W hn hm h hl)
 have HP2 := Lib.hid (fun W (h : Pts W A ps) => rPrint_any A n c ps W hn hm h)
 have HP3 := Lib.hid (fun W (hl : LaidW W) => parse_any s W hl)
 have HP4 := Lib.hid (fun W => rParse_all s W)
 unfold PrintOut at HP1 HP2
 unfold ParseOut at HP3 HP4
 rw [hS, hx] at HP1 HP2
 rw [hR] at HP3 HP4
 dsimp only at HP3 HP4
 have HN := Lib.hid hn; have HM := Lib.hid hm; have HS := Lib.hid hS; have HX := Lib.hid hx; have HT := Lib.hid ht
 have HP := Lib.hid hp; have HL := Lib.hid hL
 clear hn hm hS hx ht hp hL hR
 go_enter Tryz.func3, Tryz.ntmps3
 go_upto_region 1 with fail
 have HB0 := Lib.hid (alloc_under w (.cells #[.slice A n c] 24))
 have b0 := Blk.new w 24 #[.slice A n c]
 generalize w.alloc (.cells #[.slice A n c] 24) = W0 at HB0 b0 ⊢
 obtain ⟨G, hG⟩ : ∃ G, w.heap.size = G := ⟨_, rfl⟩
 rw [hG] at b0 ⊢
 have HG := Lib.hid b0
 have HGG := Lib.hid hG
 have c0 : W0.cell? ⟨G, 0, none⟩ = some (.slice A n c) := b0.cell 0
 clear hG b0
 go_upto_region 2 with (go_at_call 4; refine (HP1.out _ (HP.out.below HB0.out) (HL.out.below HB0.out)).mono ?_; rintro e w1 ⟨rfl, hb⟩; have HB1 := Lib.hid (then_under HB0.out hb); have HG1 := Lib.hid (HG.out.below hb HG.out.lt); clear hb)
 clear c0
 have c0 : w1.cell? ⟨G, 0, none⟩ = some (.slice A n c) := HG1.out.cell 0
 go_upto_region 3 with (go_at_call 5; refine (HP2.out _ (HP.out.below HB1.out)).mono ?_; rintro e w2 ⟨rfl, hb⟩; have HB2 := Lib.hid (then_under HB1.out hb); have HG2 := Lib.hid (HG1.out.below hb HG1.out.lt); clear hb)
 clear c0 HP2 HP1
 go_wp2_with (go_at_call 6; refine (HP3.out _ (HL.out.below HB2.out)).mono ?_)
 rintro e w3 ⟨v1, rfl, hown, hb⟩
 obtain ⟨A1, c1, rfl, hp1⟩ := pts_form hown
 have HB3 := Lib.hid (then_under HB2.out hb)
 have HG3 := Lib.hid (HG2.out.below hb HG2.out.lt)
 have HQ1 := Lib.hid hp1
 clear hb hown hp1 HG1 HG2
 go_upto_region 4 with fail
 have b1 := Blk.new w3 24 #[.slice A1 qs.length c1]
 have g1 := HG3.out.alloc (.cells #[.slice A1 qs.length c1] 24)
 have q1 := HQ1.out.below (alloc_under w3 (.cells #[.slice A1 qs.length c1] 24))
 have e1 := then_under HB3.out (alloc_under w3 (.cells #[.slice A1 qs.length c1] 24))
 generalize w3.alloc (.cells #[.slice A1 qs.length c1] 24) = W3 at b1 g1 q1 e1 ⊢
 obtain ⟨K1, hK1⟩ : ∃ K, w3.heap.size = K := ⟨_, rfl⟩
 rw [hK1] at b1 ⊢
 have HA1 := Lib.hid b1; have HG4 := Lib.hid g1; have HQ4 := Lib.hid q1; have HB4 := Lib.hid e1
 clear hK1 b1 g1 q1 e1 HG3 HQ1 HB3 HP3
 go_wp2_with (go_at_call 7; refine (HP4.out _).mono ?_)
 rintro e w5 ⟨v2, rfl, hown, hb⟩
 obtain ⟨A2, c2, rfl, hp2⟩ := pts_form hown
 have HB5 := Lib.hid (then_under HB4.out hb)
 have HG5 := Lib.hid (HG4.out.below hb HG4.out.lt)
 have HA5 := Lib.hid (HA1.out.below hb HA1.out.lt)
 have HQ5 := Lib.hid (HQ4.out.below hb)
 have HR5 := Lib.hid hp2
 clear hb hown hp2 HG4 HA1 HQ4 HB4 HP4
 go_upto_region 5 with fail
 have b1 := Blk.new w5 24 #[.slice A2 qs.length c2]
 have g1 := HG5.out.alloc (.cells #[.slice A2 qs.length c2] 24)
 have a1 := HA5.out.alloc (.cells #[.slice A2 qs.length c2] 24)
 have q1 := HQ5.out.below (alloc_under w5 (.cells #[.slice A2 qs.length c2] 24))
 have r1 := HR5.out.below (alloc_under w5 (.cells #[.slice A2 qs.length c2] 24))
 have e1 := then_under HB5.out (alloc_under w5 (.cells #[.slice A2 qs.length c2] 24))
 generalize w5.alloc (.cells #[.slice A2 qs.length c2] 24) = W5 at b1 g1 a1 q1 r1 e1 ⊢
 obtain ⟨K2, hK2⟩ : ∃ K, w5.heap.size = K := ⟨_, rfl⟩
 rw [hK2] at b1 ⊢
 have k1 : W5.cell? ⟨K1, 0, none⟩ = some (.slice A1 qs.length c1) := a1.cell 0
 have k2 : W5.cell? ⟨K2, 0, none⟩ = some (.slice A2 qs.length c2) := b1.cell 0
 have HSM := Lib.hid (same_out A1 A2 qs.length qs.length c1 c2 qs W5 rfl rfl (by unfold maxLen; omega) q1 r1)
 have HG6 := Lib.hid g1; have HB6 := Lib.hid e1
 clear hK2 b1 g1 a1 q1 r1 e1 HG5 HA5 HQ5 HR5 HB5
 go_upto_region 7 with (go_at_call 8; refine HSM.out.mono ?_; rintro e w7 ⟨rfl, hb⟩; have HB7 := Lib.hid (then_under HB6.out hb); have HG7 := Lib.hid (HG6.out.below hb HG6.out.lt); clear hb)
 clear k1 k2 HSM HG6 HB6
 have hLW := HL.out.below HB7.out
 cases t
 ·obtain rfl : x = 11 := by rw [← HX.out, HT.out]; rfl
  clear HX HS
  go_wp2_with (go_at_call 9; refine (sane_any _).mono ?_; rintro e w8 ⟨rfl, hb⟩; have HB8 := Lib.hid (then_under HB7.out hb); clear hb)
  refine bodyPost_ret (v := .bool true) (by simp [results, Tryz.results3, go_sem]) rfl ⟨rfl, HB8.out⟩
 ·obtain rfl : x = 0 := by rw [← HX.out, HT.out]; rfl
  have hback : parseS S.data.toList = (ps, 0, 0) := by
   rw [← HS.out, if_pos HT.out]
   exact parse_print HT.out
  have HP5 := Lib.hid (parse_any S w7 hLW)
  rw [hback] at HP5
  unfold ParseOut at HP5
  dsimp only at HP5
  clear hback hLW HX
  go_wp2_with (go_at_call 6; refine HP5.out.mono ?_)
  rintro e w8 ⟨v3, rfl, hown, hb⟩
  obtain ⟨A3, c3, rfl, hp3⟩ := pts_form hown
  have HB8 := Lib.hid (then_under HB7.out hb)
  have HG8 := Lib.hid (HG7.out.below hb HG7.out.lt)
  have HQ8 := Lib.hid hp3
  clear hb hown hp3 HG7 HP5
  go_upto_region 10 with fail
  have b1 := Blk.new w8 24 #[.slice A3 ps.length c3]
  have g1 := HG8.out.alloc (.cells #[.slice A3 ps.length c3] 24)
  have q1 := HQ8.out.below (alloc_under w8 (.cells #[.slice A3 ps.length c3] 24))
  have e1 := then_under HB8.out (alloc_under w8 (.cells #[.slice A3 ps.length c3] 24))
  generalize w8.alloc (.cells #[.slice A3 ps.length c3] 24) = W8 at b1 g1 q1 e1 ⊢
  obtain ⟨K3, hK3⟩ : ∃ K, w8.heap.size = K := ⟨_, rfl⟩
  rw [hK3] at b1 ⊢
  have k1 : W8.cell? ⟨K3, 0, none⟩ = some (.slice A3 ps.length c3) := b1.cell 0
  have k2 : W8.cell? ⟨G, 0, none⟩ = some (.slice A n c) := g1.cell 0
  have HSM := Lib.hid (same_out A3 A ps.length n c3 c ps W8 rfl HN.out (by rw [← HN.out]; exact HM.out) q1 (HP.out.below e1))
  have HB9 := Lib.hid e1
  clear hK3 b1 g1 q1 e1 HQ8 HB8 HG8 HL
  go_wp2_with (first
   | (go_at_call 8; refine HSM.out.mono ?_; rintro e w9 ⟨rfl, hb⟩; have HB10 := Lib.hid (then_under HB9.out hb); clear hb)
   | (go_at_call 9; refine (sane_any _).mono ?_; rintro e w10 ⟨rfl, hb⟩; have HB11 := Lib.hid (then_under HB10.out hb); clear hb))
  refine bodyPost_ret (v := .bool true) (by simp [results, Tryz.results3, go_sem]) rfl ⟨rfl, HB11.out⟩
end

section
open Go.ChangeShapes Go.WideShapes Go.ChangeAt Go.RowKit Go.Lib
open Go.ChangeMaps (open_string)

theorem returns_both {H : Type} {enc : TypeId × Value → H} {a : Assume} {C : Checked} {os : Os} {f : FuncId} {fn : Func} {s : ChangeSpec} {conds : List PathCond} {apart fresh handsOn again : Bool} {X : World → Array Value → Prop}
    (hX : ∀ (w w' : World) (args : Array Value), w.heap = w'.heap → X w args → X w' args)
    (own : ownKnob C.prog.godebug = none) (started : os.Started) (noInit : C.prog.inits.idxOf? f = none) (hfn : C.prog.funcs[f]? = some fn)
    (witness : ∃ (w : World) (tape : Tape) (i : Input), w.os = os ∧ (w.forCall tape i).Shaped C.prog ∧ i.vars = [] ∧ Input.okWide C.prog (w.forCall tape i) .any w.heap.size f i ∧
      ((s.pre enc C.prog fn conds apart (w.forCall tape i).memory i.args ∧ X (w.forCall tape i).memory i.args) ∧ sizedMet enc C.prog fn (OpenSpec.ofChange s) apart (w.forCall tape i).memory i.args) ∧ a.holds C.prog (lone (Frame.enter C.prog f i.args .normal) [] (w.forCall tape i)))
    (contract : ∀ (W : World) (base : Nat) (args : Array Value) (ds gs : List (DataW H)) (before : List MemPlace),
      (∀ (j : Nat) t v, fn.params[j]? = some t → args[j]? = some v → Value.okWide C.prog W .any base t v) →
      DataW.Whole enc C.prog fn.params.toList s.vars apart W args.toList ds gs before → X W args → W.ShapedOpen C.prog →
      Calls C.prog f args W fun e W' => ∃ v, e = .returned v ∧ s.post enc C.prog fn apart fresh handsOn again W args v W') :
    ReturnsInHanded a C os f .any (fun w args => (s.pre enc C.prog fn conds apart w args ∧ X w args) ∧ sizedMet enc C.prog fn (OpenSpec.ofChange s) apart w args) (s.post enc C.prog fn apart fresh handsOn again) := by
  refine returnsInHanded_of_calls own started noInit witness ?_
  intro w tape i _ hsh _ hok hpre _
  obtain ⟨_, _, _, fn', hfn', _, _, _, _, hval⟩ := hok
  have e : fn' = fn := Option.some.inj (hfn'.symm.trans hfn)
  subst e
  obtain ⟨⟨⟨ds, gs, before, hw, _⟩, hx⟩, _⟩ := hpre
  have hw' := DataW.Whole.of_heap (w' := w.forCall tape i) (by rfl) hw
  refine (contract (w.forCall tape i) w.heap.size i.args ds gs before hval hw' (hX _ _ _ (by rfl) hx) hsh).mono fun e W' ⟨v, he, hp⟩ => ?_
  subst he
  exact ChangeSpec.post_blind hp

theorem gTab : Tryz.prog.globalNamed "internal/strconv.uint64pow10" = some 0 := by kernel_rfl
theorem gTabType : (Tryz.prog.globals[0]?).map (·.type) = some 143 := by kernel_rfl
theorem gSyn : Tryz.prog.globalNamed "strconv.ErrSyntax" = some 4 := by kernel_rfl
theorem gSynType : (Tryz.prog.globals[4]?).map (·.type) = some 41 := by kernel_rfl
theorem gRan : Tryz.prog.globalNamed "strconv.ErrRange" = some 5 := by kernel_rfl
theorem gRanType : (Tryz.prog.globals[5]?).map (·.type) = some 41 := by kernel_rfl
theorem cellsErr : Tryz.prog.cellsOf 186 = 1 := by kernel_rfl
theorem cellsStr : Tryz.prog.cellsOf 9 = 1 := by kernel_rfl
theorem starErr : "*" ++ "errors.errorString" = "*errors.errorString" := by decide
theorem rowErr (u : TypeId) (h : Tryz.prog.typeName? 3 u = some "*errors.errorString") : u = 184 :=
  typeName_ptr_named (nm := "errors.errorString") (by rw [starErr]; kernel_rfl) (by kernel_rfl) (by decide) u (by rw [starErr]; exact h)

theorem laid_of {W : World} (h : laidMetH Tryz.prog Rows.fixTextsRow.laid W) (hsh : W.ShapedOpen Tryz.prog) : LaidW W := by
  have hL : laidMet Tryz.prog Rows.fixTextsRow.laid W := by
    rw [← MakeChecks.laidMetH_plain _ _ _ (by kernel_rfl)]
    exact h
  obtain ⟨_, _, hv0, -, -, -⟩ := laid_sentinel hL.tail.tail.tail gRan gRanType Tryz.underlying41 rowErr Tryz.underlying184 Tryz.underlying186 rfl rfl Tryz.underlying9 cellsErr cellsStr
  obtain ⟨_, _, hv1, -, -, -⟩ := laid_sentinel hL.tail.tail.tail.tail gSyn gSynType Tryz.underlying41 rowErr Tryz.underlying184 Tryz.underlying186 rfl rfl Tryz.underlying9 cellsErr cellsStr
  refine ⟨tabIs_of_head (rest := _) gTab gTabType Tryz.underlying143 Tryz.underlying132 (by kernel_rfl) (by kernel_rfl) hL.tail.tail, ⟨_, _, hv1⟩, ⟨_, _, hv0⟩, ?_⟩
  exact cell_of_shapedOpen_int (P := Tryz.prog) (g := 1) (t := 3) (zero := #[.int .i64 0]) hsh (of_decide_eq_true (by kernel_rfl)) (by kernel_rfl) rfl (by kernel_rfl) (by kernel_rfl) Tryz.underlying3

set_option maxRecDepth 100000 in
theorem fixTexts_lifted (os : Os) (started : os.Started) (H : Type) (enc : TypeId × Value → H) :
    ReturnsInHanded {} Tryz.checked os 3 .any (fun w args => (Rows.fixTextsSpec.pre enc Tryz.prog Tryz.f3 Rows.fixTextsRow.domain false w args ∧ laidMetH Tryz.prog Rows.fixTextsRow.laid w) ∧ sizedMet enc Tryz.prog Tryz.f3 (OpenSpec.ofChange Rows.fixTextsSpec) false w args) (Rows.fixTextsSpec.post enc Tryz.prog Tryz.f3 false true false false) := by
  refine returns_both (C := Tryz.checked) (X := fun w _ => laidMetH Tryz.prog Rows.fixTextsRow.laid w) (fun _ _ _ hh h => h.of_heap hh) Go.Proofs.YtmglhhbfkohkcaaGreatDoor.own started (by kernel_rfl) Tryz.func3
    (ChangeSpec.witness_shaped (enc := enc) (C := Tryz.checked) (os := os) (X := fun w _ => laidMetH Tryz.prog Rows.fixTextsRow.laid w) false (World.laidAll Tryz.prog os Rows.fixTextsRow.laid) #[.agg #[.slice none 0 0], .string ⟨#[]⟩] 8 (World.laidAll_os _ _ _)
      (World.shaped_of_ZipB (by kernel_rfl) (by kernel_rfl)) (by kernel_rfl) (by kernel_rfl) (by kernel_rfl)
      (by rw [MakeChecks.laidMetH_plain _ _ _ (by kernel_rfl)]; exact laidMet_laidAll _ (by kernel_rfl) (by kernel_rfl))) ?_
  intro W base args ds gs before hval0 hW hL0 hsh
  have hL := laid_of hL0 hsh
  have hval : ∀ (j : Nat) t v, Tryz.f3.params[j]? = some t → args[j]? = some v → Value.okWide Tryz.prog W .any base t v := hval0
  have hW' := hW
  obtain ⟨p, q, hA0, hV, rfl, hfz, hnd⟩ := hW
  have hA : DataW.TrodAll enc Tryz.prog W 0 (fun _ => true) true Tryz.f3.params.toList args.toList ds p := hA0
  rw [Tryz.params3] at hA hval
  obtain ⟨v0, v1, d0, d1, p0, p1, hargs, rfl, rfl, h0, h1⟩ := trodAll_two hA
  obtain rfl : args = #[v0, v1] := by cases args; simp_all
  obtain ⟨rfl, rfl⟩ := trodVars_none hV
  obtain ⟨A, n, c, ps, rfl, hn, hm, hp⟩ := open_table (hval 0 24 v0 rfl rfl) h0
  obtain ⟨s, rfl, _, _, _⟩ := open_string Tryz.underlying9 (hval 1 9 v1 rfl rfl) h1
  refine (fixTexts_walk A n c ps s W hn hm hp hL).mono fun e W' ⟨he, hb⟩ => ?_
  subst he
  exact ⟨_, rfl, law_post rfl rfl (by intro t ht; rw [Tryz.params3] at ht
                                      have : t = 24 ∨ t = 9 := by simpa using ht
                                      rcases this with rfl | rfl <;> exact ⟨by kernel_rfl, of_decide_eq_true (by kernel_rfl)⟩) hW' rfl rfl rfl hb⟩

theorem fixTexts_row : Rows.FixTextsSaid :=
  OpenClaim.holds_of_wide 3 Tryz.f3 rfl rfl rfl rfl rfl rfl rfl ⟨rfl, rfl, rfl, rfl, rfl⟩ rfl rfl rfl rfl rfl (by kernel_rfl) Tryz.func3 (by kernel_rfl)
    (of_decide_eq_true (by kernel_rfl)) (by unfold Func.isWrapper; rw [if_neg (of_decide_eq_false (by kernel_rfl))]; exact ⟨rfl, rfl⟩)
    (fun os started H enc _ => fixTexts_lifted os started H enc)
theorem fixTexts_holds : Rows.FixTextsCardSaid :=
  Claim7.holds_tied_plain_at .later [] [.data, .data, .data, .sentinel, .sentinel] true Rows.fixTextsCard.stood.harness true fixTexts_row (fun _ h => by cases h) (by kernel_rfl) (fun _ h => by cases h) fixTexts_row_tie rfl ⟨rfl, rfl⟩ (by kernel_rfl) rfl
    (fun f fn hf hfn => by
      obtain rfl : f = 3 := Option.some.inj ((show Tryz.prog.funcNamed "ullage/ullagelaw01.FixTexts" = some 3 by kernel_rfl).symm.trans hf) |>.symm
      obtain rfl : fn = Tryz.f3 := (Option.some.inj (Tryz.func3.symm.trans hfn)).symm
      exact ⟨by kernel_rfl, fun j t ht => by
        rw [Tryz.params3] at ht
        have hm : t ∈ [24, 9] := by simpa using Array.mem_of_getElem? ht
        have hall : ([24, 9].all fun u => !Tryz.prog.wantsStandIn u) = true := by kernel_rfl
        exact (show Tryz.prog.wantsStandIn t = false by simpa using List.all_eq_true.1 hall t hm)⟩)
    (by kernel_rfl)
end

end Go.Proofs.YtmglhhbfkohkcaaGreatDoor
